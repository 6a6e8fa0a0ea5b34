/- Slices of integers that a call makes: append, and what the deck deals. -/
import Derived.Test.YtaolnlnjgoakdaaD
import Derived.OwnWalk
namespace Go.Proofs.Ytaolnlnjgoakdaa
open Go.RowKit
set_option linter.unusedVariables false

theorem info_int : (Try.prog.info? 3).map (fun i => (i.zero, i.size, i.bytes)) = some (some (.int .i64 0), 1, 8) := by kernel_rfl

/-- v is a slice of the call's own (from block base on) that reads as xs. -/
def OwnI (w : World) (base : Nat) (v : Value) (xs : List Int) : Prop := w.ownsRow base 3 1 v xs.length (xs.map (Value.int .i64))

theorem OwnI.ints {w : World} {base : Nat} {v : Value} {xs : List Int} (h : OwnI w base v xs) (hb : ∀ x ∈ xs, -9223372036854775808 ≤ x ∧ x ≤ 9223372036854775807) : Ints w v xs := by
  rcases h.2 with ⟨rfl, h0⟩ | ⟨g, cap, cur, rfl, hg, hh, hn, hm, hs, ht⟩
  · have : xs = [] := List.eq_nil_of_length_eq_zero h0
    subst this
    exact ⟨none, 0, rfl, Nat.zero_le _, hb, .inl rfl⟩
  · refine ⟨_, cap, rfl, Nat.le_trans hn hm, hb, .inr ⟨g, 0, rfl, fun i hi => ?_⟩⟩
    have := World.ownsRow.cellAt h i (by omega)
    rw [Nat.zero_add, this]
    simp [hi]

theorem OwnI.fresh {w : World} {base : Nat} {v : Value} {xs : List Int} (h : OwnI w base v xs) : ∀ g, v.ownBlock = some g → base ≤ g ∧ g < w.heap.size := World.ownsRow.lt h

theorem OwnI.nil (w : World) (base : Nat) : OwnI w base (.slice none 0 0) [] := World.ownsRow_nil w base _ _

theorem OwnI.kept {w w' : World} {base : Nat} {v : Value} {xs : List Int} {row : Option Nat} (h : OwnI w base v xs) (g : w.grownBy w' row) (hr : ∀ k, row = some k → k < base) : OwnI w' base v xs := by
  refine World.ownsRow.kept h g ?_
  cases hv : v.ownBlock with
  | none => exact .inl rfl
  | some k =>
    refine .inr ?_
    intro e
    have := hr k e.symm
    have := (h.fresh k hv).1
    omega

theorem grown_then {a b c : World} {row row' : Option Nat} (h : a.grownBy b row) (k : b.grownBy c row') (hr : ∀ j, row' = some j → a.heap.size ≤ j ∨ row = some j) : a.grownBy c row :=
  ⟨k.os.trans h.os, k.tape.trans h.tape, k.output.trans h.output, Nat.le_trans h.size k.size,
    fun i hi hne => (k.block i (Nat.lt_of_lt_of_le hi h.size) (by
      intro e
      rcases hr i e.symm with h1 | h1
      · omega
      · exact hne h1.symm)).trans (h.block i hi hne)⟩

theorem app_int {ops : Array Oper} {rest : List Oper} {o : Oper} {a : Act} {w : World} {Q : Exit → Act → World → Prop} (hgd : o.guard = none) (s x : Operand)
    (ho : o.op = .call { callee := .builtin .append, args := #[s, x], argTypes := #[22, 22] }) (base : Nat) (v : Value) (xs : List Int) (hs : a.eval s = v)
    (hown : OwnI w base v xs) (b : Nat) (y : Int) (hx : a.eval x = .slice (some ⟨b, 0, none⟩) 1 1) (hnew : w.cell? ⟨b, 0, none⟩ = some (.int .i64 y))
    (hlen : xs.length ≤ 1000000000000) (hbase : base ≤ w.heap.size)
    (h : ∀ v' w', OwnI w' base v' (xs ++ [y]) → w.grownBy w' v.ownBlock → wpList Try.prog ops Q rest (a.put o.dst v') w') : wpList Try.prog ops Q (o :: rest) a w := by
  obtain ⟨i, hi, hz0, hz1, hz2⟩ := info_parts info_int
  refine wpList_append_own (w := w) hgd s x 22 ho base 3 i (.int .i64 0) 1 8 Try.underlying22 hi hz0 hz1 hz2 rfl (by decide) v xs.length (xs.map (Value.int .i64)) hs hown ⟨b, 0, none⟩ 1 1 [.int .i64 y] hx rfl ?_ ?_ ?_ ?_ hbase ?_
  · intro j u hu
    cases j with
    | zero => simp at hu; subst hu; simpa [Addr.add] using hnew
    | succ j => simp at hu
  · intro u hu; simp at hu; subst hu; rfl
  · unfold maxLen; omega
  · omega
  · intro v' w' h1 h2 _
    refine h v' w' ?_ h2
    unfold OwnI
    simpa using h1

theorem make_int {ops : Array Oper} {rest : List Oper} {o : Oper} {a : Act} {w : World} {Q : Exit → Act → World → Prop} (hgd : o.guard = none) (l c : Operand)
    (hop : o.op = Op.makeSlice 22 l c) (n : Nat) (hl : a.eval l = .int .i64 (n : Int)) (hc : a.eval c = .int .i64 (n : Int)) (hn : n ≤ 1000000000000)
    (h : ∀ w', OwnI w' w.heap.size (.slice (some ⟨w.heap.size, 0, none⟩) n n) (List.replicate n 0) → w.grownBy w' none → wpList Try.prog ops Q rest (a.put o.dst (.slice (some ⟨w.heap.size, 0, none⟩) n n)) w') :
    wpList Try.prog ops Q (o :: rest) a w := by
  obtain ⟨i, hi, hz0, hz1, hz2⟩ := info_parts info_int
  refine wpList_make_full w hgd l c 22 hop w.heap.size 3 i (.int .i64 0) 1 Try.underlying22 hi hz0 hz1 .i64 .i64 n n n hl hc rfl rfl (by rw [hz2]; omega) (by unfold maxLen; omega) (Nat.le_refl _) ?_
  intro w' h1 h2
  refine h w' ?_ h2
  unfold OwnI
  rw [List.length_replicate, List.map_replicate]
  rw [Nat.mul_one] at h1
  simpa [Value.cells, toList_madeCells_one] using h1

theorem OwnI.stored {w : World} {base g n cap : Nat} {xs : List Int} (h : OwnI w base (.slice (some ⟨g, 0, none⟩) n cap) xs) (k : Nat) (z : Int) :
    OwnI (w.setCell ⟨g, k, none⟩ (.int .i64 z)) base (.slice (some ⟨g, 0, none⟩) n cap) (xs.set k z) := by
  have hn : xs.length = n := by
    rcases h.2 with ⟨h', _⟩ | ⟨g', cap', cur, h', _⟩
    · simp at h'
    · simp only [Value.slice.injEq] at h'
      exact h'.2.1.symm
  subst hn
  have := (World.ownsRow.stored h k (.int .i64 z)).1
  unfold OwnI
  rw [List.length_set, List.map_set]
  exact this

theorem OwnI.cell {w : World} {base g n cap : Nat} {xs : List Int} (h : OwnI w base (.slice (some ⟨g, 0, none⟩) n cap) xs) (k : Nat) (hk : k < xs.length) :
    w.cell? ⟨g, k, none⟩ = some (.int .i64 (xs[k]?.getD 0)) ∧ w.frozen? ⟨g, k, none⟩ = false := by
  have hn : xs.length = n := by
    rcases h.2 with ⟨h', _⟩ | ⟨g', cap', cur, h', _⟩
    · simp at h'
    · simp only [Value.slice.injEq] at h'
      exact h'.2.1.symm
  subst hn
  refine ⟨?_, World.ownsRow.frozenAt h k⟩
  rw [World.ownsRow.cellAt h k (by omega)]
  simp [hk]

theorem mem_snoc {P : Int → Prop} {xs : List Int} {y : Int} (h : ∀ x ∈ xs, P x) (hy : P y) : ∀ x ∈ xs ++ [y], P x := by
  intro x hx
  rcases List.mem_append.1 hx with hx | hx
  · exact h x hx
  · rw [List.mem_singleton.1 hx]; exact hy

/-- What a vector that the deck deals is: n integers with P, in memory of the call's own. -/
def Dealt (P : Int → Prop) (p : Value) (d n : Nat) (w : World) (e : Ending) (w' : World) : Prop :=
  ∃ v xs, e = .returned v ∧ xs.length = n ∧ (∀ x ∈ xs, P x) ∧ OwnI w' w.heap.size v xs ∧ Deck w' p d ∧ w.grownBy w' (some d)

theorem small_any (p : Value) (d : Nat) (n most : Int) (w : World) (h : Deck w p d) (h0 : n ≤ 1000) (h1 : 0 ≤ most) (h2 : most ≤ 1000000) :
    Calls Try.prog 30 #[p, .int .i64 n, .int .i64 most] w (Dealt (fun x => 0 ≤ x ∧ x ≤ most) p d n.toNat w) := by
  have hd : d < w.heap.size := h.lt
  have H := Lib.hid h
  clear h
  go_enter Try.func30, Try.ntmps30
  go_wp2
  go_loopw [7, 8] (fun v i wr => ∃ (k : Nat) (xs : List Int), i = .int .i64 k ∧ k ≤ n.toNat ∧ xs.length = k ∧ Hid (∀ x ∈ xs, 0 ≤ x ∧ x ≤ most) ∧ Hid (OwnI wr w.heap.size v xs) ∧ Hid (Deck wr p d) ∧ Hid (w.grownBy wr (some d))) (fun _ i _ => (n - intOf i).toNat)
  case atStart => exact ⟨0, [], rfl, Nat.zero_le _, rfl, Lib.hid (by simp), Lib.hid (OwnI.nil _ _), H, Lib.hid (grown_refl _ _)⟩
  case round =>
    obtain ⟨k, xs, rfl, hk, hl, hx, ho, hD, hG⟩ := hrel
    by_cases hlt : (k : Int) < n
    · go_wp2_with fail
      refine (next_any _ _ _ _ hD.out (by omega) (by omega)).mono ?_
      rintro e w1 ⟨y, rfl, hy0, hy1, hD1, hG1⟩
      have HD1 := Lib.hid hD1
      have HO1 := Lib.hid (ho.out.kept hG1 (by rintro j ⟨⟩; exact hd))
      have HG1 := Lib.hid (grown_trans hG.out hG1)
      have hs1 := HG1.out.size
      clear hD1 hG1 hD ho hG
      go_wp2_with (at_builtin; refine app_int rfl _ _ rfl w.heap.size _ xs rfl (HO1.out.kept (World.grownBy_alloc _ _ none) (by simp)) w1.heap.size y rfl (by simp) (by omega) (by simp; omega) ?_)
      intro v' w2 ho2 hg2
      have HO2 := Lib.hid ho2
      have HG2 := Lib.hid (grown_then (grown_trans HG1.out (World.grownBy_alloc _ _ _)) hg2 (fun j hj => .inl (HO1.out.fresh j hj).1))
      have HD2 := Lib.hid ((HD1.out.kept (World.grownBy_alloc _ _ none) (by simp)).kept hg2 (fun j hj => by have := (HO1.out.fresh j hj).1; omega))
      clear ho2 hg2
      go_wp2_with fail
      go_roundw
      case rel => exact ⟨k + 1, xs ++ [y], by go_num, by omega, by simp [hl], Lib.hid (mem_snoc hx.out ⟨hy0, by omega⟩), HO2, HD2, HG2⟩
      case measure => simp [intOf]; omega
    · go_wp2
      go_ret
      exact ⟨_, xs, rfl, by omega, hx.out, ho.out, hD.out, hG.out⟩

/-- An element that the deck deals to a vector. -/
def Elem (x : Int) : Prop := 0 ≤ x ∧ (x ≤ 4 ∨ x = 1048576 ∨ x = 1099511627776)
def ElemF (x : Int) : Prop := 0 ≤ x ∧ (x ≤ 4 ∨ x = 1048576)

theorem vector_true (p : Value) (d : Nat) (n : Int) (w : World) (h : Deck w p d) (h0 : n ≤ 1000) :
    Calls Try.prog 12 #[p, .int .i64 n, .bool true] w (Dealt Elem p d n.toNat w) := by
  have hd : d < w.heap.size := h.lt
  have H := Lib.hid h
  clear h
  go_enter Try.func12, Try.ntmps12
  go_wp2
  go_loopw [7, 8] (fun v i wr => ∃ (k : Nat) (xs : List Int), i = .int .i64 k ∧ k ≤ n.toNat ∧ xs.length = k ∧ Hid (∀ x ∈ xs, Elem x) ∧ Hid (OwnI wr w.heap.size v xs) ∧ Hid (Deck wr p d) ∧ Hid (w.grownBy wr (some d))) (fun _ i _ => (n - intOf i).toNat)
  case atStart => exact ⟨0, [], rfl, Nat.zero_le _, rfl, Lib.hid (by simp), Lib.hid (OwnI.nil _ _), H, Lib.hid (grown_refl _ _)⟩
  case round =>
    obtain ⟨k, xs, rfl, hk, hl, hx, ho, hD, hG⟩ := hrel
    by_cases hlt : (k : Int) < n
    · go_wp2_with fail
      refine (next_any _ _ _ _ hD.out (by omega) (by omega)).mono ?_
      rintro e w1 ⟨y, rfl, hy0, hy1, hD1, hG1⟩
      have HD1 := Lib.hid hD1
      have HO1 := Lib.hid (ho.out.kept hG1 (by rintro j ⟨⟩; exact hd))
      have HG1 := Lib.hid (grown_trans hG.out hG1)
      clear hD1 hG1 hD ho hG
      go_wp2_with fail
      refine (one_any _ _ _ _ HD1.out (by omega) (by omega)).mono ?_
      rintro e w2 ⟨q, rfl, hD1, hG1⟩
      have HD2 := Lib.hid hD1
      have HO2 := Lib.hid (HO1.out.kept hG1 (by rintro j ⟨⟩; exact hd))
      have HG2 := Lib.hid (grown_trans HG1.out hG1)
      clear hD1 hG1 HD1 HO1 HG1
      cases q
      · go_wp2_with fail
        refine (one_any _ _ _ _ HD2.out (by omega) (by omega)).mono ?_
        rintro e w3 ⟨q2, rfl, hD1, hG1⟩
        have HD3 := Lib.hid hD1
        have HO3 := Lib.hid (HO2.out.kept hG1 (by rintro j ⟨⟩; exact hd))
        have HG3 := Lib.hid (grown_trans HG2.out hG1)
        clear hD1 hG1 HD2 HO2 HG2
        cases q2
        · have hs1 := HG3.out.size
          go_wp2_with (at_builtin; refine app_int rfl _ _ rfl w.heap.size _ xs rfl (HO3.out.kept (World.grownBy_alloc _ _ none) (by simp)) w3.heap.size y rfl (by simp) (by omega) (by simp; omega) ?_)
          intro v' w9 ho2 hg2
          have HO9 := Lib.hid ho2
          have HG9 := Lib.hid (grown_then (grown_trans HG3.out (World.grownBy_alloc _ _ _)) hg2 (fun j hj => .inl (HO3.out.fresh j hj).1))
          have HD9 := Lib.hid ((HD3.out.kept (World.grownBy_alloc _ _ none) (by simp)).kept hg2 (fun j hj => by have := (HO3.out.fresh j hj).1; omega))
          clear ho2 hg2
          go_wp2_with fail
          go_roundw
          case rel => exact ⟨k + 1, xs ++ [_], by go_num, by omega, by simp [hl], Lib.hid (mem_snoc hx.out (by unfold Elem; omega)), HO9, HD9, HG9⟩
          case measure => simp [intOf]; omega
        · have hs1 := HG3.out.size
          go_wp2_with (at_builtin; refine app_int rfl _ _ rfl w.heap.size _ xs rfl (HO3.out.kept (World.grownBy_alloc _ _ none) (by simp)) w3.heap.size 1048576 rfl (by simp) (by omega) (by simp; omega) ?_)
          intro v' w9 ho2 hg2
          have HO9 := Lib.hid ho2
          have HG9 := Lib.hid (grown_then (grown_trans HG3.out (World.grownBy_alloc _ _ _)) hg2 (fun j hj => .inl (HO3.out.fresh j hj).1))
          have HD9 := Lib.hid ((HD3.out.kept (World.grownBy_alloc _ _ none) (by simp)).kept hg2 (fun j hj => by have := (HO3.out.fresh j hj).1; omega))
          clear ho2 hg2
          go_wp2_with fail
          go_roundw
          case rel => exact ⟨k + 1, xs ++ [_], by go_num, by omega, by simp [hl], Lib.hid (mem_snoc hx.out (by unfold Elem; omega)), HO9, HD9, HG9⟩
          case measure => simp [intOf]; omega
      · go_wp2_with fail
        refine (one_any _ _ _ _ HD2.out (by omega) (by omega)).mono ?_
        rintro e w3 ⟨q2, rfl, hD1, hG1⟩
        have HD3 := Lib.hid hD1
        have HO3 := Lib.hid (HO2.out.kept hG1 (by rintro j ⟨⟩; exact hd))
        have HG3 := Lib.hid (grown_trans HG2.out hG1)
        clear hD1 hG1 HD2 HO2 HG2
        cases q2
        · have hs1 := HG3.out.size
          go_wp2_with (at_builtin; refine app_int rfl _ _ rfl w.heap.size _ xs rfl (HO3.out.kept (World.grownBy_alloc _ _ none) (by simp)) w3.heap.size 1099511627776 rfl (by simp) (by omega) (by simp; omega) ?_)
          intro v' w9 ho2 hg2
          have HO9 := Lib.hid ho2
          have HG9 := Lib.hid (grown_then (grown_trans HG3.out (World.grownBy_alloc _ _ _)) hg2 (fun j hj => .inl (HO3.out.fresh j hj).1))
          have HD9 := Lib.hid ((HD3.out.kept (World.grownBy_alloc _ _ none) (by simp)).kept hg2 (fun j hj => by have := (HO3.out.fresh j hj).1; omega))
          clear ho2 hg2
          go_wp2_with fail
          go_roundw
          case rel => exact ⟨k + 1, xs ++ [_], by go_num, by omega, by simp [hl], Lib.hid (mem_snoc hx.out (by unfold Elem; omega)), HO9, HD9, HG9⟩
          case measure => simp [intOf]; omega
        · have hs1 := HG3.out.size
          go_wp2_with (at_builtin; refine app_int rfl _ _ rfl w.heap.size _ xs rfl (HO3.out.kept (World.grownBy_alloc _ _ none) (by simp)) w3.heap.size 1048576 rfl (by simp) (by omega) (by simp; omega) ?_)
          intro v' w9 ho2 hg2
          have HO9 := Lib.hid ho2
          have HG9 := Lib.hid (grown_then (grown_trans HG3.out (World.grownBy_alloc _ _ _)) hg2 (fun j hj => .inl (HO3.out.fresh j hj).1))
          have HD9 := Lib.hid ((HD3.out.kept (World.grownBy_alloc _ _ none) (by simp)).kept hg2 (fun j hj => by have := (HO3.out.fresh j hj).1; omega))
          clear ho2 hg2
          go_wp2_with fail
          go_roundw
          case rel => exact ⟨k + 1, xs ++ [_], by go_num, by omega, by simp [hl], Lib.hid (mem_snoc hx.out (by unfold Elem; omega)), HO9, HD9, HG9⟩
          case measure => simp [intOf]; omega
    · go_wp2
      go_ret
      exact ⟨_, xs, rfl, by omega, hx.out, ho.out, hD.out, hG.out⟩

theorem vector_false (p : Value) (d : Nat) (n : Int) (w : World) (h : Deck w p d) (h0 : n ≤ 1000) :
    Calls Try.prog 12 #[p, .int .i64 n, .bool false] w (Dealt ElemF p d n.toNat w) := by
  have hd : d < w.heap.size := h.lt
  have H := Lib.hid h
  clear h
  go_enter Try.func12, Try.ntmps12
  go_wp2
  go_loopw [7, 8] (fun v i wr => ∃ (k : Nat) (xs : List Int), i = .int .i64 k ∧ k ≤ n.toNat ∧ xs.length = k ∧ Hid (∀ x ∈ xs, ElemF x) ∧ Hid (OwnI wr w.heap.size v xs) ∧ Hid (Deck wr p d) ∧ Hid (w.grownBy wr (some d))) (fun _ i _ => (n - intOf i).toNat)
  case atStart => exact ⟨0, [], rfl, Nat.zero_le _, rfl, Lib.hid (by simp), Lib.hid (OwnI.nil _ _), H, Lib.hid (grown_refl _ _)⟩
  case round =>
    obtain ⟨k, xs, rfl, hk, hl, hx, ho, hD, hG⟩ := hrel
    by_cases hlt : (k : Int) < n
    · go_wp2_with fail
      refine (next_any _ _ _ _ hD.out (by omega) (by omega)).mono ?_
      rintro e w1 ⟨y, rfl, hy0, hy1, hD1, hG1⟩
      have HD1 := Lib.hid hD1
      have HO1 := Lib.hid (ho.out.kept hG1 (by rintro j ⟨⟩; exact hd))
      have HG1 := Lib.hid (grown_trans hG.out hG1)
      clear hD1 hG1 hD ho hG
      go_wp2_with fail
      refine (one_any _ _ _ _ HD1.out (by omega) (by omega)).mono ?_
      rintro e w2 ⟨q2, rfl, hD1, hG1⟩
      have HD2 := Lib.hid hD1
      have HO2 := Lib.hid (HO1.out.kept hG1 (by rintro j ⟨⟩; exact hd))
      have HG2 := Lib.hid (grown_trans HG1.out hG1)
      clear hD1 hG1 HD1 HO1 HG1
      cases q2
      · have hs1 := HG2.out.size
        go_wp2_with (at_builtin; refine app_int rfl _ _ rfl w.heap.size _ xs rfl (HO2.out.kept (World.grownBy_alloc _ _ none) (by simp)) w2.heap.size y rfl (by simp) (by omega) (by simp; omega) ?_)
        intro v' w9 ho2 hg2
        have HO9 := Lib.hid ho2
        have HG9 := Lib.hid (grown_then (grown_trans HG2.out (World.grownBy_alloc _ _ _)) hg2 (fun j hj => .inl (HO2.out.fresh j hj).1))
        have HD9 := Lib.hid ((HD2.out.kept (World.grownBy_alloc _ _ none) (by simp)).kept hg2 (fun j hj => by have := (HO2.out.fresh j hj).1; omega))
        clear ho2 hg2
        go_wp2_with fail
        go_roundw
        case rel => exact ⟨k + 1, xs ++ [_], by go_num, by omega, by simp [hl], Lib.hid (mem_snoc hx.out (by unfold ElemF; omega)), HO9, HD9, HG9⟩
        case measure => simp [intOf]; omega
      · have hs1 := HG2.out.size
        go_wp2_with (at_builtin; refine app_int rfl _ _ rfl w.heap.size _ xs rfl (HO2.out.kept (World.grownBy_alloc _ _ none) (by simp)) w2.heap.size 1048576 rfl (by simp) (by omega) (by simp; omega) ?_)
        intro v' w9 ho2 hg2
        have HO9 := Lib.hid ho2
        have HG9 := Lib.hid (grown_then (grown_trans HG2.out (World.grownBy_alloc _ _ _)) hg2 (fun j hj => .inl (HO2.out.fresh j hj).1))
        have HD9 := Lib.hid ((HD2.out.kept (World.grownBy_alloc _ _ none) (by simp)).kept hg2 (fun j hj => by have := (HO2.out.fresh j hj).1; omega))
        clear ho2 hg2
        go_wp2_with fail
        go_roundw
        case rel => exact ⟨k + 1, xs ++ [_], by go_num, by omega, by simp [hl], Lib.hid (mem_snoc hx.out (by unfold ElemF; omega)), HO9, HD9, HG9⟩
        case measure => simp [intOf]; omega
    · go_wp2
      go_ret
      exact ⟨_, xs, rfl, by omega, hx.out, ho.out, hD.out, hG.out⟩
end Go.Proofs.Ytaolnlnjgoakdaa
