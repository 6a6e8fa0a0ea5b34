/- Trees that the deck deals. -/
import Derived.Test.YtnppmemcdcgjhaaKc
import Derived.Test.YtnppmemcdcgjhaaGt
import Derived.Test.YtnppmemcdcgjhaaHe
import Derived.Laws.ResultCell
import Derived.Laws.AppendOwn
import Derived.Deep.DeepAppendRoom
namespace Go.Proofs.Ytnppmemcdcgjhaa
open Go.RowKit Tr
set_option linter.unusedVariables false

theorem mem_preL : ∀ {ks : List Tr} {u : Tr}, u ∈ preL ks ↔ ∃ k ∈ ks, u ∈ pre k
  | [], u => by simp [preL]
  | k :: ks, u => by rw [preL, List.mem_append, mem_preL]; simp
def Lab (L : Int) (t : Tr) : Prop := ∀ u ∈ pre t, 0 ≤ u.label ∧ u.label < L
theorem lab_node {L l : Int} {us : List (Value × Tr)} (h : 0 ≤ l ∧ l < L) (hu : ∀ u ∈ us, Lab L u.2) : Lab L (.node l (us.map Prod.snd)) := fun u hm => by
  rw [pre] at hm
  rcases List.mem_cons.1 hm with rfl | hm
  · exact h
  · obtain ⟨k, hk, hk2⟩ := mem_preL.1 hm
    obtain ⟨q, hq, rfl⟩ := List.mem_map.1 hk
    exact hu q hq u hk2
theorem cells_of {w : World} {g : Nat} {x y : Value} {e : TypeId} {f : Nat × Nat} (h : w.heap[g]? = some (.cells #[x, y] e f)) : w.cell? ⟨g, 0, none⟩ = some x ∧ w.cell? ⟨g, 1, none⟩ = some y :=
  ⟨by unfold World.cell?; dsimp only; rw [h]; rfl, by unfold World.cell?; dsimp only; rw [h]; rfl⟩
/-- A struct of two cells is put into an older block. -/
theorem put_set {w : World} {g : Nat} {a b x y : Value} {e : TypeId} (h : w.heap[g]? = some (.cells #[a, b] e (0, 0))) :
    ((w.setCell ⟨g, 0, none⟩ x).setCell ⟨g, 1, none⟩ y).heap[g]? = some (.cells #[x, y] e (0, 0)) ∧ w.cell? ⟨g, 0, none⟩ = some a ∧ w.frozen? ⟨g, 0, none⟩ = false ∧ (w.setCell ⟨g, 0, none⟩ x).cell? ⟨g, 1, none⟩ = some b ∧ (w.setCell ⟨g, 0, none⟩ x).frozen? ⟨g, 1, none⟩ = false := by
  have h1 := heap_set (o := 0) h x
  refine ⟨heap_set (o := 1) h1 y, ?_, ?_, ?_, ?_⟩
  · unfold World.cell?; dsimp only; rw [h]; rfl
  · unfold World.frozen?; dsimp only; rw [h]; rfl
  · unfold World.cell?; dsimp only; rw [h1]; rfl
  · unfold World.frozen?; dsimp only; rw [h1]; rfl
theorem cells_free {w : World} {g : Nat} {x y : Value} {e : TypeId} (h : w.heap[g]? = some (.cells #[x, y] e (0, 0))) : w.frozen? ⟨g, 1, none⟩ = false := by
  unfold World.frozen?; dsimp only; rw [h]; rfl
theorem grown_deal {w w1 w2 : World} {d : Nat} (h : w.grownBy w1 (some d)) (h' : w1.grownBy w2 (some d)) : w.grownBy w2 (some d) := grown_then h h' (fun g e => .inr e)

/-! ### Rows of trees -/
theorem info_tree : (Try.prog.info? 45).map (fun i => (i.zero, i.size, i.bytes)) = some (some (.agg #[.int .i64 0, .slice none 0 0]), 2, 32) := by kernel_rfl
def cellsT (us : List (Value × Tr)) : List Value := us.flatMap (fun u => [.int .i64 u.2.label, u.1])
theorem cellsT_len : ∀ us : List (Value × Tr), (cellsT us).length = us.length * 2
  | [] => rfl
  | u :: us => by
    have := cellsT_len us
    unfold cellsT at this ⊢
    rw [List.flatMap_cons, List.length_append, this, List.length_cons]; simp; omega
theorem cellsT_app (us vs : List (Value × Tr)) : cellsT (us ++ vs) = cellsT us ++ cellsT vs := by unfold cellsT; rw [List.flatMap_append]
theorem cellsT_at : ∀ (us : List (Value × Tr)) (i : Nat) (h : i < us.length), (cellsT us)[i * 2]? = some (.int .i64 (us[i]).2.label) ∧ (cellsT us)[i * 2 + 1]? = some (us[i]).1
  | u :: us, 0, _ => ⟨rfl, rfl⟩
  | u :: us, i + 1, h => by
    have := cellsT_at us i (by simpa using h)
    unfold cellsT at this ⊢
    rw [List.flatMap_cons]
    simp only [List.cons_append, List.nil_append, List.getElem_cons_succ]
    rw [show (i + 1) * 2 = i * 2 + 1 + 1 by omega]
    simpa using this
def OwnTs (w : World) (base : Nat) (v : Value) (us : List (Value × Tr)) : Prop := w.ownsRow base 45 2 v us.length (cellsT us)
theorem OwnTs.fresh {w : World} {base : Nat} {v : Value} {us : List (Value × Tr)} (h : OwnTs w base v us) : ∀ g, v.ownBlock = some g → base ≤ g ∧ g < w.heap.size := World.ownsRow.lt h
theorem OwnTs.slice {w : World} {base : Nat} {v : Value} {us : List (Value × Tr)} (h : OwnTs w base v us) : ∃ a n c, v = .slice a n c := by
  rcases h.2 with ⟨rfl, -⟩ | ⟨g, cap, cur, rfl, -⟩
  · exact ⟨_, _, _, rfl⟩
  · exact ⟨_, _, _, rfl⟩
theorem run_app_tree (w : World) (base : Nat) (ty : TypeId) (v : Value) (us : List (Value × Tr)) (hown : OwnTs w base v us) (b : Nat) (u : Value × Tr) (hu : u.1.oneCell' = true)
    (hn0 : w.cell? ⟨b, 0, none⟩ = some (.int .i64 u.2.label)) (hn1 : w.cell? ⟨b, 1, none⟩ = some u.1) (hlen : us.length ≤ 1000000000) (hbase : base ≤ w.heap.size) :
    ∃ v' w', (Builtin.append_ #[43, 43] ty #[v, .slice (some ⟨b, 0, none⟩) 1 1]).run Try.prog w = .ok v' w' ∧ OwnTs w' base v' (us ++ [u]) ∧ w.grownBy w' v.ownBlock ∧ ∀ g, v'.ownBlock = some g → v.ownBlock = some g ∨ w.heap.size ≤ g := by
  obtain ⟨i, hi, hz0, hz1, hz2⟩ := info_parts info_tree
  have hn : ∀ (j : Nat) z, [Value.int .i64 u.2.label, u.1][j]? = some z → w.cell? ((⟨b, 0, none⟩ : Addr).add j) = some z := by
    intro j z hz
    match j, hz with
    | 0, hz => simp at hz; subst hz; simpa [Addr.add] using hn0
    | 1, hz => simp at hz; subst hz; simpa [Addr.add] using hn1
    | j + 2, hz => simp at hz
  have h1 : ∀ z ∈ [Value.int .i64 u.2.label, u.1], z.oneCell' = true := by
    intro z hz
    simp at hz
    rcases hz with rfl | rfl
    · rfl
    · exact hu
  have hcl := cellsT_len us
  obtain ⟨v', w', hr, h2, h3, -⟩ := run_append_own (P := Try.prog) w base 43 ty 45 i (.agg #[.int .i64 0, .slice none 0 0]) 2 32 Try.underlying43 hi hz0 hz1 hz2 rfl (by decide) v us.length (cellsT us) hown ⟨b, 0, none⟩ 1 1 [.int .i64 u.2.label, u.1] rfl hn h1 (by unfold maxLen; omega) (by omega) hbase
  refine ⟨v', w', hr, by unfold OwnTs; rw [cellsT_app, List.length_append]; exact h2, h3, ?_⟩
  rcases hown.2 with ⟨rfl, h0⟩ | ⟨g, cap, cur, rfl, hbg, hg, hnc, hcm, hcs, htake⟩
  · obtain ⟨v2, w2, hr2, h22, -⟩ := run_append_own (P := Try.prog) w w.heap.size 43 ty 45 i (.agg #[.int .i64 0, .slice none 0 0]) 2 32 Try.underlying43 hi hz0 hz1 hz2 rfl (by decide) (.slice none 0 0) us.length (cellsT us) ⟨hown.1, .inl ⟨rfl, h0⟩⟩ ⟨b, 0, none⟩ 1 1 [.int .i64 u.2.label, u.1] rfl hn h1 (by unfold maxLen; omega) (by omega) (Nat.le_refl _)
    rw [hr] at hr2
    cases hr2
    exact fun g hg => .inr (World.ownsRow.lt h22 g hg).1
  · by_cases hroom : us.length + 1 ≤ cap
    · obtain ⟨w2, hr2, -, -⟩ := run_append_own_spare (P := Try.prog) w base 43 ty 45 i 2 Try.underlying43 hi hz1 g us.length cap (cellsT us) hown ⟨b, 0, none⟩ 1 1 [.int .i64 u.2.label, u.1] rfl hn h1 hroom
      rw [hr] at hr2
      cases hr2
      exact fun k hk => .inl hk
    · have holds : ∀ (j : Nat) z, (cellsT us)[j]? = some z → w.cell? ((⟨g, 0, none⟩ : Addr).add j) = some z := hown.cells (g := g) rfl
      have hr2 := run_append_grow (P := Try.prog) w 43 ty 45 i (.agg #[.int .i64 0, .slice none 0 0]) Try.underlying43 hi hz0 ⟨g, 0, none⟩ us.length cap (cellsT us) (by rw [hz1]; exact hcl) holds ⟨b, 0, none⟩ 1 1 [.int .i64 u.2.label, u.1] (by rw [hz1]; rfl) hn (by omega) (by omega) (growslice_fits (by omega) (by rw [hz2]; omega))
      rw [hr] at hr2
      cases hr2
      intro k hk
      simp only [Value.ownBlock, Option.some.injEq] at hk
      exact .inr (by omega)
/-- The step, inside a region that draws its order. -/
theorem step_app_tree {ops : Array Oper} {o : Oper} {a : Act} {w : World} {K : Act → World → Prop} {Q : Exit → Act → World → Prop} {E : Prop} (hgd : o.guard = none) (s x : Operand)
    (ho : o.op = .call { callee := .builtin .append, args := #[s, x], argTypes := #[43, 43] }) (base : Nat) (v : Value) (us : List (Value × Tr)) (hs : a.eval s = v)
    (hown : OwnTs w base v us) (b : Nat) (u : Value × Tr) (hu : u.1.oneCell' = true) (hx : a.eval x = .slice (some ⟨b, 0, none⟩) 1 1) (hn0 : w.cell? ⟨b, 0, none⟩ = some (.int .i64 u.2.label)) (hn1 : w.cell? ⟨b, 1, none⟩ = some u.1)
    (hlen : us.length ≤ 1000000000) (hbase : base ≤ w.heap.size)
    (h : ∀ v' w', OwnTs w' base v' (us ++ [u]) → w.grownBy w' v.ownBlock → (∀ g, v'.ownBlock = some g → v.ownBlock = some g ∨ w.heap.size ≤ g) → K (a.put o.dst v') w') : if Region.wanted o (yielded ops a.tmps) = true then Oper.wp Try.prog o a w K Q else E := by
  have hw : Region.wanted o (yielded ops a.tmps) = true := by simp [Region.wanted, hgd]
  rw [if_pos hw]
  obtain ⟨v', w', hr, h2, h3, h4⟩ := run_app_tree w base o.type v us hown b u hu hn0 hn1 hlen hbase
  unfold Oper.wp execOp
  simp only [ho, resolve, invoke, builtin, Sem.run_bind, Sem.run_pure, Result.andThen_ok, List.map_toArray, List.map_cons, List.map_nil, hs, hx, hr]
  exact h v' w' h2 h3 h4

/-- An own row of trees: the trees' blocks are others than the row's. -/
def KidsO (w : World) (base : Nat) (v : Value) (us : List (Value × Tr)) : Prop := OwnTs w base v us ∧ ∀ u ∈ us, TrK (fun b => base ≤ b ∧ v.ownBlock ≠ some b) w u.1 u.2
theorem KidsO.nil (w : World) (base : Nat) : KidsO w base (.slice none 0 0) [] := ⟨World.ownsRow_nil _ _ _ _, by simp⟩
theorem KidsO.kept {w w' : World} {base : Nat} {v : Value} {us : List (Value × Tr)} {row : Option Nat} (h : KidsO w base v us) (g : w.grownBy w' row) (hr : ∀ k, row = some k → k < base) : KidsO w' base v us :=
  ⟨World.ownsRow.kept h.1 g (by
    cases hv : v.ownBlock with
    | none => exact .inl rfl
    | some b => exact .inr (fun e => by have := hr b e.symm; have := (h.1.fresh b hv).1; omega)),
   fun u hu => (h.2 u hu).kept g (fun k hk hp => by have := hr k hk; omega)⟩
theorem KidsO.push {w1 w2 : World} {base : Nat} {v v' : Value} {us : List (Value × Tr)} {u : Value × Tr} (h : KidsO w1 base v us) (hu : TrK (fun b => base ≤ b ∧ v.ownBlock ≠ some b) w1 u.1 u.2) (ho : OwnTs w2 base v' (us ++ [u])) (hg : w1.grownBy w2 v.ownBlock)
    (hb : ∀ g, v'.ownBlock = some g → v.ownBlock = some g ∨ w1.heap.size ≤ g) : KidsO w2 base v' (us ++ [u]) := by
  have key : ∀ q : Value × Tr, TrK (fun b => base ≤ b ∧ v.ownBlock ≠ some b) w1 q.1 q.2 → TrK (fun b => base ≤ b ∧ v'.ownBlock ≠ some b) w2 q.1 q.2 := fun q hq =>
    (hq.bound.kept hg (fun k hk hp => hp.1.2 hk)).weak (fun b hp => ⟨hp.1.1, fun e => by
      rcases hb b e with h1 | h1
      · exact hp.1.2 h1
      · have := hp.2; omega⟩)
  refine ⟨ho, fun q hq => ?_⟩
  rcases List.mem_append.1 hq with hq | hq
  · exact key q (h.2 q hq)
  · rw [List.mem_singleton.1 hq]; exact key u hu
theorem add_zero_off (g j : Nat) : (⟨g, 0, none⟩ : Addr).add j = ⟨g, 0 + j, none⟩ := by unfold Addr.add; split <;> simp_all
theorem KidsO.tree {w : World} {base : Nat} {v : Value} {us : List (Value × Tr)} (h : KidsO w base v us) {l : Int} (hl : -9223372036854775808 ≤ l ∧ l ≤ 9223372036854775807) : TrK (fun b => base ≤ b) w v (.node l (us.map Prod.snd)) := by
  have hm : (us.map Prod.snd).length = us.length := List.length_map _
  rcases h.1.2 with ⟨rfl, h0⟩ | ⟨g, cap, cur, rfl, hbg, hg, hnc, hcm, hcs, htake⟩
  · have : us = [] := List.eq_nil_of_length_eq_zero h0
    subst this
    exact .mk l [] none 0 (fun _ => .slice none 0 0) hl (Nat.le_refl _) (Nat.zero_le _) (fun _ => rfl) (fun i hi => by simp at hi) (fun i hi => by simp at hi)
  · have hc := World.ownsRow.cells h.1 (g := g) rfl
    have := TrK.mk (P := fun b => base ≤ b) (w := w) l (us.map Prod.snd) (some ⟨g, 0, none⟩) cap (fun i => (us[i]?.getD (.slice none 0 0, .node 0 [])).1) hl (by rw [hm]; exact hnc) hcm (fun e => by cases e) (fun i hi => by
      rw [hm] at hi
      obtain ⟨c0, c1⟩ := cellsT_at us i hi
      refine ⟨g, 0, rfl, hbg, ?_, ?_⟩
      · have := hc _ _ c0
        rw [add_zero_off] at this
        simpa using this
      · have := hc _ _ c1
        rw [add_zero_off] at this
        simpa [List.getElem?_eq_getElem hi, Nat.add_assoc] using this) (fun i hi => by
      rw [hm] at hi
      have := h.2 _ (List.getElem_mem hi)
      simp only [List.getElem?_eq_getElem hi, Option.getD_some, List.getElem_map]
      exact this.weak (fun b hb => hb.1))
    rwa [hm] at this

def TreeDeal (L : Int) (most : Nat) (w0 w : World) (p : Value) (d : Nat) (e : Ending) (w' : World) : Prop := ∃ y t, e = .returned (.agg #[.int .i64 t.label, y]) ∧ TrK (fun b => w.heap.size ≤ b) w' y t ∧ size t ≤ most ∧ Lab L t ∧ St w0 w' p d ∧ w.grownBy w' (some d)

set_option maxRecDepth 100000 in
set_option maxHeartbeats 3000000 in
theorem tree_st (L : Int) (hL1 : 1 ≤ L) (hL2 : L ≤ 1000) (most : Nat) : ∀ {w0 w : World} {p : Value} {d : Nat}, 1 ≤ most → most ≤ 1000 → St w0 w p d →
    Calls Try.prog 32 #[p, .int .i64 L, .int .i64 (most : Int)] w (TreeDeal L most w0 w p d) := by
  induction most using Nat.strongRecOn with
  | ind most ih =>
  intro w0 w p d hm1 hm2 h
  have HS := Lib.hid h; have IH := Lib.hid ih
  have HDW : Hid (d < w.heap.size) := Lib.hid h.lt
  clear h ih
  go_enter Try.func32, Try.ntmps32
  go_wp2_with fail
  have hh1 := heap_new (w := w) (g := w.heap.size) (.cells #[.int .i64 0, .slice none 0 0] 45) rfl
  have HS1 := Lib.hid (HS.out.step (World.grownBy_alloc w (.cells #[.int .i64 0, .slice none 0 0] 45) none))
  have hg1 := World.grownBy_alloc w (.cells #[.int .i64 0, .slice none 0 0] 45) (some d)
  have hsz1 : (w.alloc (.cells #[.int .i64 0, .slice none 0 0] 45)).heap.size = w.heap.size + 1 := by show (w.heap.push _).size = _; simp
  generalize w.alloc (.cells #[.int .i64 0, .slice none 0 0] 45) = w1 at *
  refine (next_st HS1.out L (by omega) (by omega)).mono ?_
  rintro e w2 ⟨l, rfl, hl0, hl1, hs, hg⟩
  have hh2 := (hg.block _ (show w.heap.size < w1.heap.size by omega) (by simp; have := HDW.out; omega)).trans hh1
  have hsz2 := hg.size
  have HS2 := Lib.hid hs
  have HG2 := Lib.hid (grown_deal hg1 hg)
  clear hs hg hg1 hh1 HS1
  go_wp2_with fail
  have hh3 := heap_new (w := w2) (g := w2.heap.size) (.cells #[.int .i64 l, .slice none 0 0] 45) rfl
  have hh3' := heap_old (.cells #[.int .i64 l, .slice none 0 0] 45) hh2
  have HS3 := Lib.hid (HS2.out.step (World.grownBy_alloc w2 (.cells #[.int .i64 l, .slice none 0 0] 45) none))
  have HG3 := Lib.hid (grown_deal HG2.out (World.grownBy_alloc w2 (.cells #[.int .i64 l, .slice none 0 0] 45) (some d)))
  have H5 := Lib.hid hh3; have H4 := Lib.hid hh3'
  have HWS : Hid (w.heap.size < w2.heap.size) := Lib.hid (by omega)
  clear hh2 hh3 hh3' hsz1 hsz2 HG2 HS2
  generalize w2.alloc (.cells #[.int .i64 l, .slice none 0 0] 45) = w3 at *
  obtain ⟨s, hsv⟩ : ∃ s, s = w2.heap.size := ⟨_, rfl⟩
  rw [← hsv] at H5 HWS ⊢
  clear hsv
  go_wp2_with fail
  go_loopw [8] (fun i wr => ∃ (left : Int) (v : Value) (us : List (Value × Tr)), i = .int .i64 left ∧ 0 ≤ left ∧ left ≤ 1000 ∧ Hid ((sizeL (us.map Prod.snd) : Int) + left ≤ (most : Int) - 1) ∧ Hid (wr.heap[s]? = some (.cells #[.int .i64 l, v] 45 (0, 0))) ∧ Hid (wr.heap[w.heap.size]? = some (.cells #[.int .i64 0, .slice none 0 0] 45 (0, 0))) ∧ Hid (KidsO wr (s + 1) v us) ∧ Hid (∀ u ∈ us, Lab L u.2) ∧ Hid (St w0 wr p d) ∧ Hid (w.grownBy wr (some d))) (fun i _ => (intOf i).toNat)
  case atStart => exact ⟨(most : Int) - 1, _, [], rfl, by omega, by omega, Lib.hid (by simp [sizeL]), H5, H4, Lib.hid (KidsO.nil _ _), Lib.hid (by simp), HS3, HG3⟩
  case round =>
    clear H5 H4 HS3 HG3
    obtain ⟨left, v, us, rfl, hlf0, hlf1, hZ, h5, h4, hK, hLb, hS, hG⟩ := hrel
    rename World => wk
    obtain ⟨av, nv, cv, rfl⟩ := hK.out.1.slice
    by_cases hlt : 0 < left
    · go_wp2_with fail
      refine (one_any p d 3 _ hS.out.1 (by omega) (by omega)).mono ?_
      rintro e w5 ⟨y, rfl, hd, hg⟩
      have hks : s < wk.heap.size := (Array.getElem?_eq_some_iff.1 h5.out).1
      have H55 := Lib.hid ((hg.block _ hks (by simp; have := HDW.out; have := HWS.out; omega)).trans h5.out)
      have H45 := Lib.hid ((hg.block _ (show w.heap.size < wk.heap.size by have := HWS.out; omega) (by simp; have := HDW.out; omega)).trans h4.out)
      have HK5 := Lib.hid (hK.out.kept hg (by rintro j ⟨⟩; have := HDW.out; have := HWS.out; omega))
      have HS5 := Lib.hid (hS.out.deal hd hg); have HG5 := Lib.hid (grown_deal hG.out hg)
      clear hd hg h5 h4 hK hS hG
      cases y with
      | true =>
        obtain ⟨p1, p2, p3, p4, p5⟩ := put_set (x := .int .i64 l) (y := .slice av nv cv) H45.out
        have c0 := (cells_of H55.out).1; have c1 := (cells_of H55.out).2
        have P1 := Lib.hid p1
        clear p1
        go_wp2_with fail
        clear p2 p3 p4 p5 c0 c1
        have GW : Hid (w5.grownBy ((w5.setCell ⟨w.heap.size, 0, none⟩ (.int .i64 l)).setCell ⟨w.heap.size, 1, none⟩ (.slice av nv cv)) (some w.heap.size)) := Lib.hid (grown_trans (grown_set _ _ _) (grown_set _ _ _))
        generalize ((w5.setCell ⟨w.heap.size, 0, none⟩ (.int .i64 l)).setCell ⟨w.heap.size, 1, none⟩ (.slice av nv cv)) = W at *
        refine bodyPost_ret (results_cell_row rfl _ _ w.heap.size _ _ _ _ rfl P1.out Try.underlying45 rfl (by kernel_rfl)) rfl ?_
        have hws := HWS.out
        have hk := HK5.out.kept GW.out (by rintro j ⟨⟩; omega)
        refine ⟨_, .node l (us.map Prod.snd), rfl, (hk.tree (by omega)).weak (fun b hb => by omega), by rw [size]; have := hZ.out; omega, lab_node ⟨hl0, hl1⟩ hLb.out, HS5.out.out GW.out (by rintro j ⟨⟩; exact HDW.out), grown_then HG5.out GW.out (fun j hj => .inl (by cases hj; exact Nat.le_refl _))⟩

      | false =>
        go_wp2_with fail
        refine (next_st HS5.out left (by omega) (by omega)).mono ?_
        rintro e w6 ⟨y, rfl, hy0, hy1, hs, hg⟩
        obtain ⟨k, hk⟩ : ∃ k : Nat, 1 + y = (k : Int) := ⟨(1 + y).toNat, by omega⟩
        have ik : IntKind.i64.wrap (1 + y) = (k : Int) := by rw [IntWalk.i64_in _ (by omega)]; exact hk
        have hk1 : 1 ≤ k := by omega
        have hk2 : (k : Int) ≤ left := by omega
        have hks : s < w5.heap.size := (Array.getElem?_eq_some_iff.1 H55.out).1
        have H56 := Lib.hid ((hg.block _ hks (by simp; have := HDW.out; have := HWS.out; omega)).trans H55.out)
        have H46 := Lib.hid ((hg.block _ (show w.heap.size < w5.heap.size by have := HWS.out; omega) (by simp; have := HDW.out; omega)).trans H45.out)
        have HK6 := Lib.hid (HK5.out.kept hg (by rintro j ⟨⟩; have := HDW.out; have := HWS.out; omega))
        have HS6 := Lib.hid hs; have HG6 := Lib.hid (grown_deal HG5.out hg)
        clear hs hg hk hy0 hy1 H55 H45 HK5 HS5 HG5
        have HKM : Hid (k < most ∧ k ≤ 1000) := Lib.hid (by have := hZ.out; omega)
        have HKL : Hid ((k : Int) ≤ left) := Lib.hid hk2
        have hcd : w6.drew.cell? ⟨s, 1, none⟩ = some (.slice av nv cv) := (cells_of H56.out).2
        have il : IntKind.i64.wrap (left - (k : Int)) = left - (k : Int) := IntWalk.i64_in _ (by omega)
        go_wp2_with fail
        go_region_law (go_loud (first
          | (refine step_call 32 32 _ _ _ _ _ Try.f32 _ Try.func32 (by kernel_rfl) rfl [p, .int .i64 L, .int .i64 (k : Int)] (by kernel_rfl) _ (IH.out k HKM.out.1 hk1 HKM.out.2 (HS6.out.step (grown_drew w6 none))) ?_; rintro e w32 ⟨yv, t, rfl, htk, hsz, hlab, hs, hg⟩; obtain ⟨ay, cy, rfl⟩ := htk.slice; have HTK := Lib.hid htk; have HSZ := Lib.hid hsz; have HLA := Lib.hid hlab; have HS7 := Lib.hid hs; have GD := Lib.hid (grown_trans (grown_drew w6 (some d)) hg); have hks6 := (Array.getElem?_eq_some_iff.1 H56.out).1; have H57 := Lib.hid ((GD.out.block _ hks6 (by simp; have := HDW.out; have := HWS.out; omega)).trans H56.out); have H47 := Lib.hid ((GD.out.block _ (show w.heap.size < w6.heap.size by have := HWS.out; omega) (by simp; have := HDW.out; omega)).trans H46.out); have HK7 := Lib.hid (HK6.out.kept GD.out (by rintro j ⟨⟩; have := HDW.out; have := HWS.out; omega)); have HKS7 := Lib.hid hks6; have hc32 := (cells_of H57.out).2; have H58 := Lib.hid (heap_old (.cells #[.int .i64 t.label, .slice ay t.kids.length cy] 45) H57.out); have H48 := Lib.hid (heap_old (.cells #[.int .i64 t.label, .slice ay t.kids.length cy] 45) H47.out); have hc33 := (cells_of H58.out).2; clear htk hsz hlab hs hg hks6; refine ⟨_, rfl, ?_⟩)
          | (refine step_app_tree rfl (.tmp 28) (.tmp 33) rfl (s + 1) (.slice av nv cv) us ?_ ?_ (w32.heap.size) (.slice ay t.kids.length cy, t) rfl ?_ ?_ ?_ ?_ ?_ ?_; (exact rfl); (exact (HK7.out.kept (World.grownBy_alloc w32 (.cells #[.int .i64 t.label, .slice ay t.kids.length cy] 45) none) (by simp)).1); (exact rfl); (exact (cells_of (heap_new _ rfl)).1); (exact (cells_of (heap_new _ rfl)).2); (have hz := hZ.out; have hl := sizeL_len (us.map Prod.snd); rw [List.length_map] at hl; omega); (exact (Array.getElem?_eq_some_iff.1 H58.out).1); intro v34 w34 ho hg hb; have HO := Lib.hid ho; have HG34 := Lib.hid hg; have HB34 := Lib.hid hb; obtain ⟨a34, n34, c34, rfl⟩ := ho.slice; have H59 := Lib.hid ((hg.block _ (Array.getElem?_eq_some_iff.1 H58.out).1 (fun e => by have := (HK7.out.1.fresh s e.symm).1; omega)).trans H58.out); have hst1 := (cells_of H59.out).2; have hst2 := cells_free H59.out; clear ho hg hb)))
        all_goals
          have GA := Lib.hid (World.grownBy_alloc w32 (.cells #[.int .i64 t.label, .slice ay t.kids.length cy] 45) none)
          have GS := Lib.hid (grown_set w34 ⟨s, 1, none⟩ (.slice a34 n34 c34))
          have hds : d < s := by have := HDW.out; have := HWS.out; omega
          have hfr : ∀ g, (Value.slice av nv cv).ownBlock = some g → s + 1 ≤ g := fun g hg => (HK7.out.1.fresh g hg).1
          have KP := Lib.hid ((KidsO.push (u := (.slice ay t.kids.length cy, t)) (HK7.out.kept GA.out (by simp)) ((HTK.out.same GA.out).weak (fun b hb => ⟨Nat.le_trans HKS7.out hb, fun e => Nat.lt_irrefl b (Nat.lt_of_lt_of_le (HK6.out.1.fresh b e).2 hb)⟩)) HO.out HG34.out HB34.out).kept GS.out (by rintro j ⟨⟩; exact Nat.lt_succ_self s))
          have H5W : Hid ((w34.setCell ⟨s, 1, none⟩ (.slice a34 n34 c34)).heap[s]? = some (.cells #[.int .i64 l, .slice a34 n34 c34] 45 (0, 0))) := Lib.hid (heap_set (o := 1) H59.out _)
          have H4W : Hid ((w34.setCell ⟨s, 1, none⟩ (.slice a34 n34 c34)).heap[w.heap.size]? = some (.cells #[.int .i64 0, .slice none 0 0] 45 (0, 0))) := Lib.hid (by
            have h1 := HWS.out
            have h2 := (Array.getElem?_eq_some_iff.1 H48.out).1
            rw [GS.out.block _ (Nat.lt_of_lt_of_le h2 HG34.out.size) (fun e => by cases e; exact Nat.lt_irrefl _ h1), HG34.out.block _ h2 (fun e => by have := hfr _ e.symm; omega)]
            exact H48.out)
          have SW := Lib.hid (((HS7.out.step GA.out).out HG34.out (fun j hj => by have := hfr j hj; omega)).out GS.out (by rintro j ⟨⟩; exact hds))
          have GW := Lib.hid (grown_then (grown_then (grown_trans (grown_deal HG6.out GD.out) (World.grownBy_alloc _ _ _)) HG34.out (fun j hj => .inl (by have := hfr j hj; have := HWS.out; omega))) GS.out (by rintro j ⟨⟩; exact .inl (Nat.le_of_lt HWS.out)))
          have ZW : Hid ((sizeL ((us ++ [((.slice ay t.kids.length cy : Value), t)]).map Prod.snd) : Int) + (left - (k : Int)) ≤ (most : Int) - 1) := Lib.hid (by
            rw [List.map_append, List.map_singleton, sizeL_snoc]
            dsimp only
            have := hZ.out; have := HSZ.out
            omega)
          have LW : Hid (∀ u ∈ us ++ [((.slice ay t.kids.length cy : Value), t)], Lab L u.2) := Lib.hid (fun u hu => by
            rcases List.mem_append.1 hu with hu | hu
            · exact hLb.out u hu
            · rw [List.mem_singleton.1 hu]; exact HLA.out)
          clear hst1 hst2 hc32 hc33 hfr
          go_wp2_with fail
          go_roundw
          case rel => exact ⟨left - (k : Int), _, _, rfl, by have := HKL.out; omega, by omega, ZW, H5W, H4W, KP, LW, SW, GW⟩
          case measure => simp [intOf]; have := HKL.out; omega
    · have hU0 : True := trivial
      obtain ⟨p1, p2, p3, p4, p5⟩ := put_set (x := .int .i64 l) (y := .slice av nv cv) h4.out
      have c0 := (cells_of h5.out).1; have c1 := (cells_of h5.out).2
      have P1 := Lib.hid p1
      clear p1
      go_wp2_with fail
      clear p2 p3 p4 p5 c0 c1
      have GW : Hid (wk.grownBy ((wk.setCell ⟨w.heap.size, 0, none⟩ (.int .i64 l)).setCell ⟨w.heap.size, 1, none⟩ (.slice av nv cv)) (some w.heap.size)) := Lib.hid (grown_trans (grown_set _ _ _) (grown_set _ _ _))
      generalize ((wk.setCell ⟨w.heap.size, 0, none⟩ (.int .i64 l)).setCell ⟨w.heap.size, 1, none⟩ (.slice av nv cv)) = W at *
      refine bodyPost_ret (results_cell_row rfl _ _ w.heap.size _ _ _ _ rfl P1.out Try.underlying45 rfl (by kernel_rfl)) rfl ?_
      have hws := HWS.out
      have hk := hK.out.kept GW.out (by rintro j ⟨⟩; omega)
      refine ⟨_, .node l (us.map Prod.snd), rfl, (hk.tree (by omega)).weak (fun b hb => by omega), by rw [size]; have := hZ.out; omega, lab_node ⟨hl0, hl1⟩ hLb.out, hS.out.out GW.out (by rintro j ⟨⟩; exact HDW.out), grown_then hG.out GW.out (fun j hj => .inl (by cases hj; exact Nat.le_refl _))⟩


end Go.Proofs.Ytnppmemcdcgjhaa
