/- Texts Gd, Gs, Gt, Na in one. -/
import Derived.Test.YtpnghgihepnepaaDoorRows
import Derived.Test.YtpnghgihepnepaaDoorU1
import Derived.ChangeOld
import Derived.ShutString
namespace Go.Proofs.YtpnghgihepnepaaDoor
open Go.RowKit
set_option linter.unusedVariables false

theorem few_any (a : Option Addr) (len cap : Nat) (w : World) :
    Calls Tryd.prog 9 #[.slice a len cap] w fun e w' => e = .returned (.bool (decide ((len : Int) ≤ 400))) ∧ w' = w := by
  go_enter Tryd.func9, Tryd.ntmps9
  go_wp2
  go_ret
  exact ⟨rfl, rfl⟩

/-- p is a pointer to a deck in block d. -/
def Deck (w : World) (p : Value) (d : Nat) : Prop :=
  ∃ a xs cap at_ st, p = .pointer (some ⟨d, 0, none⟩) ∧ w.heap[d]? = some (.cells #[.slice a (List.length xs) cap, .int .i64 (at_ : Nat), .int .u64 st] 49 (0, 0)) ∧
    Ints w (.slice a xs.length cap) xs ∧ (xs = [] ∨ ∀ b, a = some b → b.block < d) ∧ 0 ≤ st ∧ st ≤ 18446744073709551615

theorem Deck.lt {w : World} {p : Value} {d : Nat} (h : Deck w p d) : d < w.heap.size := by
  obtain ⟨a, xs, cap, k, st, -, hh, -⟩ := h
  exact (Array.getElem?_eq_some_iff.1 hh).1

theorem deck_list {w w' : World} {a : Option Addr} {xs : List Int} {cap d : Nat} {row : Option Nat} (hi : Ints w (.slice a xs.length cap) xs)
    (hn : xs = [] ∨ ∀ b, a = some b → b.block < d) (g : w.grownBy w' row) (hr : ∀ k, row = some k → d ≤ k) : Ints w' (.slice a xs.length cap) xs := by
  rcases hn with rfl | hn
  · obtain ⟨a', cap', hv, hl, hb, -⟩ := hi
    exact ⟨a', cap', hv, hl, hb, .inl rfl⟩
  · refine hi.kept g fun k hk e => ?_
    have := hr k hk
    cases a with
    | none => simp [Value.ownBlock] at e
    | some b => simp only [Value.ownBlock, Option.some.injEq] at e; have := hn b rfl; omega

theorem Deck.kept {w w' : World} {p : Value} {d : Nat} {row : Option Nat} (h : Deck w p d) (g : w.grownBy w' row) (hr : ∀ k, row = some k → d < k) : Deck w' p d := by
  have hd := h.lt
  obtain ⟨a, xs, cap, k, st, rfl, hh, hi, hn, h0, h1⟩ := h
  exact ⟨a, xs, cap, k, st, rfl, by rw [g.block d hd (by intro e; have := hr d e.symm; omega)]; exact hh, deck_list hi hn g (fun k hk => Nat.le_of_lt (hr k hk)), hn, h0, h1⟩

theorem new_any (a : Option Addr) (cap : Nat) (xs : List Int) (w : World) (h : Ints w (.slice a xs.length cap) xs) :
    Calls Tryd.prog 11 #[.slice a xs.length cap] w fun e w' => e = .returned (.pointer (some ⟨w.heap.size, 0, none⟩)) ∧ w' = w.alloc (.cells #[.slice a xs.length cap, .int .i64 0, .int .u64 11400714819323198485] 49) := by
  have H := Lib.hid h
  clear h
  go_enter Tryd.func11, Tryd.ntmps11
  go_wp2
  go_ret
  exact ⟨rfl, rfl⟩

theorem deck_one {w : World} {d : Nat} {a : Option Addr} {xs : List Int} {cap k : Nat} {st : Int}
    (hh : w.heap[d]? = some (.cells #[.slice a xs.length cap, .int .i64 (k : Nat), .int .u64 st] 49 (0, 0)))
    (hi : Ints w (.slice a xs.length cap) xs) (hn : xs = [] ∨ ∀ b, a = some b → b.block < d) (n m : Nat) (z : Int) (h0 : 0 ≤ z) (h1 : z ≤ 18446744073709551615) :
    Deck (((w.drewN n).setCell ⟨d, 2, none⟩ (.int .u64 z)).drewN m) (.pointer (some ⟨d, 0, none⟩)) d ∧ w.grownBy (((w.drewN n).setCell ⟨d, 2, none⟩ (.int .u64 z)).drewN m) (some d) := by
  have g : w.grownBy (((w.drewN n).setCell ⟨d, 2, none⟩ (.int .u64 z)).drewN m) (some d) :=
    grown_trans (grown_drewN w n _) (grown_trans (grown_set (w.drewN n) ⟨d, 2, none⟩ _) (grown_drewN _ m _))
  refine ⟨⟨a, xs, cap, k, z, rfl, ?_, deck_list hi hn g (by rintro j ⟨⟩; exact Nat.le_refl _), hn, h0, h1⟩, g⟩
  · rw [World.heap_drewN, heap_set (w := w.drewN n) hh _]
    rfl

theorem deck_two {w : World} {d : Nat} {a : Option Addr} {xs : List Int} {cap k : Nat} {st : Int}
    (hh : w.heap[d]? = some (.cells #[.slice a xs.length cap, .int .i64 (k : Nat), .int .u64 st] 49 (0, 0)))
    (hi : Ints w (.slice a xs.length cap) xs) (hn : xs = [] ∨ ∀ b, a = some b → b.block < d) (n m : Nat) (z : Int) (h0 : 0 ≤ z) (h1 : z ≤ 18446744073709551615) :
    Deck ((((w.drewN n).setCell ⟨d, 1, none⟩ (.int .i64 ((k : Int) + 1))).setCell ⟨d, 2, none⟩ (.int .u64 z)).drewN m) (.pointer (some ⟨d, 0, none⟩)) d ∧
      w.grownBy ((((w.drewN n).setCell ⟨d, 1, none⟩ (.int .i64 ((k : Int) + 1))).setCell ⟨d, 2, none⟩ (.int .u64 z)).drewN m) (some d) := by
  have g : w.grownBy ((((w.drewN n).setCell ⟨d, 1, none⟩ (.int .i64 ((k : Int) + 1))).setCell ⟨d, 2, none⟩ (.int .u64 z)).drewN m) (some d) :=
    grown_trans (grown_drewN w n _) (grown_trans (grown_set (w.drewN n) ⟨d, 1, none⟩ _) (grown_trans (grown_set _ ⟨d, 2, none⟩ _) (grown_drewN _ m _)))
  refine ⟨⟨a, xs, cap, k + 1, z, rfl, ?_, deck_list hi hn g (by rintro j ⟨⟩; exact Nat.le_refl _), hn, h0, h1⟩, g⟩
  · rw [World.heap_drewN, heap_set (heap_set (w := w.drewN n) hh _) _]
    rfl

set_option maxHeartbeats 1000000 in
theorem long_any (p : Value) (d : Nat) (w : World) (h : Deck w p d) :
    Calls Tryd.prog 28 #[p] w fun e w' => ∃ y : Int, e = .returned (.int .u64 y) ∧ 0 ≤ y ∧ y ≤ 18446744073709551615 ∧ Deck w' p d ∧ w.grownBy w' (some d) := by
  obtain ⟨a, xs, cap, k, st, rfl, hh, hI, hne, hs0, hs1⟩ := h
  have c0 : w.cell? ⟨d, 0, none⟩ = some (.slice a xs.length cap) := by simp [World.cell?, hh]
  have c1 : w.cell? ⟨d, 1, none⟩ = some (.int .i64 (k : Nat)) := by simp [World.cell?, hh]
  have c2 : w.cell? ⟨d, 2, none⟩ = some (.int .u64 st) := by simp [World.cell?, hh]
  have f1 : w.frozen? ⟨d, 1, none⟩ = false := by simp [World.frozen?, hh]
  have f2 : w.frozen? ⟨d, 2, none⟩ = false := by simp [World.frozen?, hh]
  have HH := Lib.hid hh
  have HI := Lib.hid hI
  have HN := Lib.hid hne
  obtain ⟨a', cap', hv, hl, hb, hc⟩ := hI
  simp only [Value.slice.injEq] at hv
  obtain ⟨rfl, -, rfl⟩ := hv
  unfold maxLen at hl
  clear hh hne
  by_cases hlt : k < xs.length
  · obtain ⟨b, off, rfl, hx⟩ := Ints.at hc hlt
    have hbd := Ints.bd hb hlt
    have h1 : (k : Int) < (xs.length : Int) := by omega
    clear hb hc
    generalize xs[k]?.getD 0 = x at *
    go_enter Tryd.func28, Tryd.ntmps28
    go_wp2
    go_quiet (fail)
    go_wp2
    go_quiet (fail)
    go_wp2
    go_quiet (fail)
    go_wp2
    go_ret
    have hw1 := wf_u64 (wf_wrap .u64 (IntKind.u64.wrap (IntKind.u64.wrap (st + IntKind.u64.wrap x) * 6364136223846793005) + 1442695040888963407))
    exact ⟨_, rfl, (wf_u64 (wf_bits _ _ _ _)).1, (wf_u64 (wf_bits _ _ _ _)).2, deck_two HH.out HI.out HN.out _ _ _ hw1.1 hw1.2⟩
  · have h1 : ¬ (k : Int) < (xs.length : Int) := by omega
    clear hb hc
    go_enter Tryd.func28, Tryd.ntmps28
    go_wp2
    go_quiet (fail)
    go_wp2
    go_quiet (fail)
    go_wp2
    go_ret
    have hw1 := wf_u64 (wf_wrap .u64 (IntKind.u64.wrap (st * 6364136223846793005) + 1442695040888963407))
    exact ⟨_, rfl, (wf_u64 (wf_bits _ _ _ _)).1, (wf_u64 (wf_bits _ _ _ _)).2, deck_one HH.out HI.out HN.out _ _ _ hw1.1 hw1.2⟩

theorem next_any (p : Value) (d : Nat) (n : Int) (w : World) (h : Deck w p d) (h1 : 1 ≤ n) (h2 : n ≤ 4611686018427387904) :
    Calls Tryd.prog 12 #[p, .int .i64 n] w fun e w' => ∃ y : Int, e = .returned (.int .i64 y) ∧ 0 ≤ y ∧ y < n ∧ Deck w' p d ∧ w.grownBy w' (some d) := by
  have H := Lib.hid h
  clear h
  go_enter Tryd.func12, Tryd.ntmps12
  go_wp2_with fail
  refine (long_any _ _ _ H.out).mono ?_
  rintro e w' ⟨y, rfl, hy0, hy1, hd, hg⟩
  have HD := Lib.hid hd; have HG := Lib.hid hg
  clear hd hg H
  go_wp2_with fail
  go_ret
  exact ⟨_, rfl, Int.emod_nonneg _ (by omega), Int.emod_lt_of_pos _ (by omega), HD.out, HG.out⟩

theorem one_any (p : Value) (d : Nat) (n : Int) (w : World) (h : Deck w p d) (h1 : 1 ≤ n) (h2 : n ≤ 4611686018427387904) :
    Calls Tryd.prog 29 #[p, .int .i64 n] w fun e w' => ∃ y : Bool, e = .returned (.bool y) ∧ Deck w' p d ∧ w.grownBy w' (some d) := by
  have H := Lib.hid h
  clear h
  go_enter Tryd.func29, Tryd.ntmps29
  go_wp2_with fail
  refine (next_any _ _ _ _ H.out h1 h2).mono ?_
  rintro e w' ⟨y, rfl, hy0, hy1, hd, hg⟩
  have HD := Lib.hid hd; have HG := Lib.hid hg
  clear hd hg H
  go_wp2_with fail
  go_ret
  exact ⟨_, rfl, HD.out, HG.out⟩
end Go.Proofs.YtpnghgihepnepaaDoor

namespace Go.Proofs.YtpnghgihepnepaaDoor
open Go.RowKit
set_option linter.unusedVariables false

/-- What a vector that the deck deals is: n integers with P, in memory of the call's own. -/
def Dealt (P : Int → Prop) (p : Value) (d n : Nat) (w : World) (e : Ending) (w' : World) : Prop :=
  ∃ v xs, e = .returned v ∧ xs.length = n ∧ (∀ x ∈ xs, P x) ∧ OwnI w' w.heap.size v xs ∧ Deck w' p d ∧ w.grownBy w' (some d)

theorem small_any (p : Value) (d : Nat) (n most : Int) (w : World) (h : Deck w p d) (h0 : n ≤ 1000) (h1 : 0 ≤ most) (h2 : most ≤ 1000000) :
    Calls Tryd.prog 19 #[p, .int .i64 n, .int .i64 most] w (Dealt (fun x => 0 ≤ x ∧ x ≤ most) p d n.toNat w) := by
  have hd : d < w.heap.size := h.lt
  have H := Lib.hid h
  clear h
  go_enter Tryd.func19, Tryd.ntmps19
  go_wp2
  go_loopw [7, 8] (fun v i wr => ∃ (k : Nat) (xs : List Int), i = .int .i64 k ∧ k ≤ n.toNat ∧ xs.length = k ∧ Hid (∀ x ∈ xs, 0 ≤ x ∧ x ≤ most) ∧ Hid (OwnI wr w.heap.size v xs) ∧ Hid (Deck wr p d) ∧ Hid (w.grownBy wr (some d))) (fun _ i _ => (n - intOf i).toNat)
  case atStart => exact ⟨0, [], rfl, Nat.zero_le _, rfl, Lib.hid (by simp), Lib.hid (OwnI.nil _ _), H, Lib.hid (grown_refl _ _)⟩
  case round =>
    obtain ⟨k, xs, rfl, hk, hl, hx, ho, hD, hG⟩ := hrel
    by_cases hlt : (k : Int) < n
    · go_wp2_with fail
      refine (next_any _ _ _ _ hD.out (by omega) (by omega)).mono ?_
      rintro e w1 ⟨y, rfl, hy0, hy1, hD1, hG1⟩
      have HD1 := Lib.hid hD1
      have HO1 := Lib.hid (ho.out.kept hG1 (by rintro j ⟨⟩; exact hd))
      have HG1 := Lib.hid (grown_trans hG.out hG1)
      have hs1 := HG1.out.size
      clear hD1 hG1 hD ho hG
      go_wp2_with (at_builtin; refine app_int rfl _ _ rfl w.heap.size _ xs rfl (HO1.out.kept (World.grownBy_alloc _ _ none) (by simp)) w1.heap.size y rfl (by simp) (by omega) (by simp; omega) ?_)
      intro v' w2 ho2 hg2
      have HO2 := Lib.hid ho2
      have HG2 := Lib.hid (grown_then (grown_trans HG1.out (World.grownBy_alloc _ _ _)) hg2 (fun j hj => .inl (HO1.out.fresh j hj).1))
      have HD2 := Lib.hid ((HD1.out.kept (World.grownBy_alloc _ _ none) (by simp)).kept hg2 (fun j hj => by have := (HO1.out.fresh j hj).1; omega))
      clear ho2 hg2
      go_wp2_with fail
      go_roundw
      case rel => exact ⟨k + 1, xs ++ [y], by go_num, by omega, by simp [hl], Lib.hid (mem_snoc hx.out ⟨hy0, by omega⟩), HO2, HD2, HG2⟩
      case measure => simp [intOf]; omega
    · go_wp2
      go_ret
      exact ⟨_, xs, rfl, by omega, hx.out, ho.out, hD.out, hG.out⟩

end Go.Proofs.YtpnghgihepnepaaDoor

namespace Go.Proofs.YtpnghgihepnepaaDoor
open Go.RowKit
set_option linter.unusedVariables false

theorem own : ownKnob Tryd.prog.godebug = none := by kernel_rfl
theorem laidOut : laidOutB Tryd.prog = true := by kernel_rfl

def Vec (w : World) (d : Nat) (v : Value) (xs : List Int) : Prop := Ints w v xs ∧ ∀ g, v.ownBlock = some g → d < g
theorem Vec.slice {w : World} {d : Nat} {v : Value} {xs : List Int} (h : Vec w d v xs) : ∃ a cap, v = .slice a xs.length cap ∧ xs.length ≤ maxLen := by
  obtain ⟨⟨a, cap, hv, hl, -⟩, -⟩ := h
  exact ⟨a, cap, hv, hl⟩
theorem Vec.step {w w' : World} {d : Nat} {v : Value} {xs : List Int} (h : Vec w d v xs) (g : w.grownBy w' none) : Vec w' d v xs := ⟨h.1.same g, h.2⟩
theorem Vec.deal {w w' : World} {d : Nat} {v : Value} {xs : List Int} (h : Vec w d v xs) (g : w.grownBy w' (some d)) : Vec w' d v xs :=
  ⟨h.1.kept g (by rintro k ⟨⟩ e; exact Nat.lt_irrefl _ (h.2 _ e)), h.2⟩
theorem OwnI.vec {w : World} {base d : Nat} {v : Value} {xs : List Int} (h : OwnI w base v xs) (hb : ∀ x ∈ xs, -9223372036854775808 ≤ x ∧ x ≤ 9223372036854775807) (hd : d < base) : Vec w d v xs :=
  ⟨h.ints hb, fun g hg => Nat.lt_of_lt_of_le hd (h.fresh g hg).1⟩

/-- The state of a law: it began in w0, and has a deck in block d. -/
def St (w0 w : World) (p : Value) (d : Nat) : Prop := Deck w p d ∧ w0.grownBy w none ∧ w0.heap.size ≤ d
theorem St.step {w0 w w' : World} {p : Value} {d : Nat} (h : St w0 w p d) (g : w.grownBy w' none) : St w0 w' p d := ⟨h.1.kept g (by simp), grown_trans h.2.1 g, h.2.2⟩
theorem St.deal {w0 w w' : World} {p : Value} {d : Nat} (h : St w0 w p d) (hd : Deck w' p d) (g : w.grownBy w' (some d)) : St w0 w' p d :=
  ⟨hd, grown_then h.2.1 g (by rintro j ⟨⟩; exact .inl h.2.2), h.2.2⟩
theorem St.lt {w0 w : World} {p : Value} {d : Nat} (h : St w0 w p d) : d < w.heap.size := h.1.lt
theorem below_of {w w' : World} (g : w.grownBy w' none) : Below w.heap.size w w' := ⟨g.os, g.tape, g.output, g.size, fun k hk => g.block k hk (by simp)⟩
theorem St.below {w0 w : World} {p : Value} {d : Nat} (h : St w0 w p d) : Below w0.heap.size w0 w := below_of h.2.1
theorem St.drew {w0 w : World} {p : Value} {d : Nat} (h : St w0 w p d) {w' : World} (g : Drew w w') : St w0 w' p d := h.step (g.grown none)
theorem Vec.drew {w w' : World} {d : Nat} {v : Value} {xs : List Int} (h : Vec w d v xs) (g : Drew w w') : Vec w' d v xs := h.step (g.grown none)

theorem Ints.lt {w : World} {a : Option Addr} {n cap : Nat} {xs : List Int} (h : Ints w (.slice a n cap) xs) : xs = [] ∨ ∀ b, a = some b → b.block < w.heap.size := by
  obtain ⟨a', cap', hv, hl, hb, hc⟩ := h
  simp only [Value.slice.injEq] at hv
  obtain ⟨rfl, -, -⟩ := hv
  rcases hc with hc | ⟨b, off, rfl, hc⟩
  · exact .inl hc
  · cases xs with
    | nil => exact .inl rfl
    | cons x xs =>
      refine .inr ?_
      rintro b' ⟨⟩
      exact World.block_lt_of_cell? w _ (hc 0 (by simp))

theorem st_new {w0 w : World} {a : Option Addr} {cap : Nat} {xs : List Int} (h : Ints w (.slice a xs.length cap) xs) (g : w0.grownBy w none) :
    St w0 (w.alloc (.cells #[.slice a xs.length cap, .int .i64 0, .int .u64 11400714819323198485] 49)) (.pointer (some ⟨w.heap.size, 0, none⟩)) w.heap.size :=
  ⟨⟨a, xs, cap, 0, _, rfl, heap_new _ rfl, h.same (World.grownBy_alloc _ _ none), h.lt, by decide, by decide⟩, grown_trans g (World.grownBy_alloc _ _ none), g.size⟩

/-- What is told of a slice of integers that came in. -/
def IsRow (k : IntKind) (w : World) (a : Option Addr) (len cap : Nat) (zs : List Int) : Prop :=
  (a = none ∧ len = 0 ∧ cap = 0 ∧ zs = []) ∨
  ∃ x, a = some x ∧ len ≤ cap ∧ cap ≤ maxLen ∧ zs.length = cap ∧ (∀ i, i < zs.length → w.cell? (x.add i) = some (.int k (zs.getD i 0))) ∧ ∀ n ∈ zs, (Lit.int k n).wf = true

theorem IsRow.ints {w : World} {a : Option Addr} {len cap : Nat} {zs : List Int} (h : IsRow .i64 w a len cap zs) : Ints w (.slice a len cap) (zs.take len) ∧ (zs.take len).length = len := by
  rcases h with ⟨rfl, rfl, rfl, rfl⟩ | ⟨x, rfl, hl, hm, hz, hc, hw⟩
  · exact ⟨⟨none, 0, rfl, Nat.zero_le _, by simp, .inl rfl⟩, rfl⟩
  · have hlen : (zs.take len).length = len := by rw [List.length_take]; omega
    refine ⟨⟨some x, cap, by rw [hlen], by omega, fun y hy => ?_, ?_⟩, hlen⟩
    · have := hw y (List.mem_of_mem_take hy)
      simpa [Lit.wf, IntKind.min, IntKind.max, IntKind.signed, IntKind.bits] using this
    · cases hq : zs.take len with
      | nil => exact .inl rfl
      | cons y ys =>
        have h0 : 0 < len := by
          rw [hq] at hlen
          simp at hlen
          omega
        obtain ⟨b, off, spot⟩ := x
        have hspot : spot = none := by simpa [Addr.add] using World.cell?_spot (hc 0 (by omega))
        subst hspot
        refine .inr ⟨b, off, rfl, fun i hi => ?_⟩
        rw [← hq, hlen] at hi
        have := hc i (by omega)
        rw [← hq, List.getElem?_take, if_pos hi]
        have ha : (Addr.mk b off none).add i = ⟨b, off + i, none⟩ := by unfold Addr.add; split <;> simp_all
        rw [ha] at this
        simpa using this

def Began (w0 : World) (e : Ending) (w' : World) : Prop := ∃ p d, e = .returned p ∧ St w0 w' p d
theorem new_st {w0 w : World} {a : Option Addr} {cap : Nat} {xs : List Int} (h : Ints w (.slice a xs.length cap) xs) (g : w0.grownBy w none) :
    Calls Tryd.prog 11 #[.slice a xs.length cap] w (Began w0) :=
  (new_any a cap xs w h).mono fun e w' ⟨he, hw⟩ => ⟨_, _, he, hw ▸ st_new h g⟩

def Nexts (n : Int) (w0 w : World) (p : Value) (d : Nat) (e : Ending) (w' : World) : Prop := ∃ y : Int, e = .returned (.int .i64 y) ∧ 0 ≤ y ∧ y < n ∧ St w0 w' p d ∧ w.grownBy w' (some d)
theorem next_st {w0 w : World} {p : Value} {d : Nat} (h : St w0 w p d) (n : Int) (h1 : 1 ≤ n) (h2 : n ≤ 4611686018427387904) :
    Calls Tryd.prog 12 #[p, .int .i64 n] w (Nexts n w0 w p d) :=
  (next_any p d n w h.1 h1 h2).mono fun e w' ⟨y, he, h0, h1, hd, hg⟩ => ⟨y, he, h0, h1, h.deal hd hg, hg⟩

def Deals (P : Int → Prop) (n : Nat) (w0 w : World) (p : Value) (d : Nat) (e : Ending) (w' : World) : Prop :=
  ∃ v xs, e = .returned v ∧ xs.length = n ∧ (∀ x ∈ xs, P x) ∧ Vec w' d v xs ∧ St w0 w' p d ∧ w.grownBy w' (some d)
theorem small_st {w0 w : World} {p : Value} {d : Nat} (h : St w0 w p d) (n most : Int) (h1 : n ≤ 1000) (h2 : 0 ≤ most) (h3 : most ≤ 1000000) :
    Calls Tryd.prog 19 #[p, .int .i64 n, .int .i64 most] w (Deals (fun x => 0 ≤ x ∧ x ≤ most) n.toNat w0 w p d) :=
  (small_any p d n most w h.1 h1 h2 h3).mono fun e w' ⟨v, xs, he, hl, hp, ho, hd, hg⟩ => ⟨v, xs, he, hl, hp, ho.vec (by intro x hx; have := hp x hx; omega) h.lt, h.deal hd hg, hg⟩
end Go.Proofs.YtpnghgihepnepaaDoor

namespace Go.Proofs.YtpnghgihepnepaaDoor
open Go.RowKit
set_option linter.unusedVariables false

theorem OwnI.keptB {w w' : World} {base : Nat} {v : Value} {xs : List Int} {row : Option Nat} (h : OwnI w base v xs) (g : w.grownBy w' row) (hr : ∀ k, row = some k → v.ownBlock ≠ some k) : OwnI w' base v xs :=
  World.ownsRow.kept h g (by
    cases hv : v.ownBlock with
    | none => exact .inl rfl
    | some k => refine .inr (fun e => ?_); exact hr k e.symm hv)
/-- make of slices of integers: all of them nil. -/
theorem make_rows {ops : Array Oper} {rest : List Oper} {o : Oper} {a : Act} {w : World} {Q : Exit → Act → World → Prop} (hgd : o.guard = none) (l c : Operand)
    (hop : o.op = Op.makeSlice 23 l c) (n : Nat) (hl : a.eval l = .int .i64 (n : Int)) (hc : a.eval c = .int .i64 (n : Int)) (hn : n ≤ 1000000000000)
    (h : ∀ w', OwnP w' w.heap.size (.slice (some ⟨w.heap.size, 0, none⟩) n n) (List.replicate n (.slice none 0 0, [])) → w.grownBy w' none → wpList Tryd.prog ops Q rest (a.put o.dst (.slice (some ⟨w.heap.size, 0, none⟩) n n)) w') :
    wpList Tryd.prog ops Q (o :: rest) a w := by
  obtain ⟨i, hi, hz0, hz1, hz2⟩ := info_parts info_row
  refine wpList_make_full w hgd l c 23 hop w.heap.size 22 i (.slice none 0 0) 1 Tryd.underlying23 hi hz0 hz1 .i64 .i64 n n n hl hc rfl rfl (by rw [hz2]; omega) (by unfold maxLen; omega) (Nat.le_refl _) ?_
  intro w' h1 h2
  refine h w' ⟨?_, ?_⟩ h2
  · rw [List.length_replicate, List.map_replicate]
    rw [Nat.mul_one] at h1
    simpa [Value.cells, toList_madeCells_one] using h1
  · intro p hp
    rw [List.eq_of_mem_replicate hp]
    exact ⟨⟨⟨none, 0, rfl, Nat.zero_le _, by simp, .inl rfl⟩, Good.nil, by intro g hg; simp [Value.ownBlock] at hg⟩, by intro g hg; simp [Value.ownBlock] at hg⟩
theorem OwnP.stored {w : World} {base g n cap : Nat} {ps : List Row} (h : OwnP w base (.slice (some ⟨g, 0, none⟩) n cap) ps) (k : Nat) (p : Row) (hp : RowOk w p) (hd : ∀ j, p.1.ownBlock = some j → j ≠ g) :
    OwnP (w.setCell ⟨g, k, none⟩ p.1) base (.slice (some ⟨g, 0, none⟩) n cap) (ps.set k p) := by
  have hn : ps.length = n := by
    rcases h.1.2 with ⟨h', _⟩ | ⟨g', cap', cur, h', _⟩
    · simp at h'
    · simp only [Value.slice.injEq] at h'
      exact h'.2.1.symm
  subst hn
  have h1 := (World.ownsRow.stored h.1 k p.1).1
  refine ⟨by rw [List.length_set, List.map_set]; exact h1, fun q hq => ?_⟩
  have hgr : w.grownBy (w.setCell ⟨g, k, none⟩ p.1) (some g) := grown_set w _ _
  rcases List.mem_or_eq_of_mem_set hq with hq | rfl
  · obtain ⟨h2, h3⟩ := h.2 q hq
    exact ⟨h2.kept hgr (by rintro j ⟨⟩ e; exact h3 _ e rfl), h3⟩
  · exact ⟨hp.kept hgr (by rintro j ⟨⟩ e; exact hd _ e rfl), fun j hj e => by simp only [Value.ownBlock, Option.some.injEq] at e; exact hd j hj e.symm⟩
theorem OwnP.cell {w : World} {base g n cap : Nat} {ps : List Row} (h : OwnP w base (.slice (some ⟨g, 0, none⟩) n cap) ps) (k : Nat) (hk : k < ps.length) :
    w.cell? ⟨g, k, none⟩ = some (ps[k]).1 ∧ w.frozen? ⟨g, k, none⟩ = false := by
  have hn : ps.length = n := by
    rcases h.1.2 with ⟨h', _⟩ | ⟨g', cap', cur, h', _⟩
    · simp at h'
    · simp only [Value.slice.injEq] at h'
      exact h'.2.1.symm
  subst hn
  refine ⟨?_, World.ownsRow.frozenAt h.1 k⟩
  rw [World.ownsRow.cellAt h.1 k (by omega)]
  simp [hk]
/-- A matrix of the call's own: each row in a block of its own. -/
structure MatO (w : World) (base : Nat) (v : Value) (ps : List Row) : Prop where
  own : OwnP w base v ps
  rows : ∀ q ∈ ps, OwnI w base q.1 q.2
  apart : ∀ i j (hi : i < ps.length) (hj : j < ps.length), i ≠ j → ∀ g, ps[i].1.ownBlock = some g → ps[j].1.ownBlock ≠ some g
theorem MatO.nil (w : World) (base : Nat) : MatO w base (.slice none 0 0) [] := ⟨OwnP.nil _ _, by simp, by intro i j hi; simp at hi⟩
theorem MatO.mono {w : World} {base base' : Nat} {v : Value} {ps : List Row} (h : MatO w base v ps) (hb : base' ≤ base) : MatO w base' v ps := ⟨h.own.mono hb, fun q hq => (h.rows q hq).mono hb, h.apart⟩
theorem MatO.kept {w w' : World} {base : Nat} {v : Value} {ps : List Row} {row : Option Nat} (h : MatO w base v ps) (g : w.grownBy w' row) (hr : ∀ k, row = some k → k < base) : MatO w' base v ps := by
  refine ⟨⟨World.ownsRow.kept h.own.1 g ?_, fun q hq => ⟨(h.own.2 q hq).1.kept g (fun k hk e => ?_), (h.own.2 q hq).2⟩⟩, fun q hq => (h.rows q hq).kept g hr, h.apart⟩
  · cases hv : v.ownBlock with
    | none => exact .inl rfl
    | some k => refine .inr (fun e => ?_); have := hr k e.symm; have := (h.own.fresh k hv).1; omega
  · have := hr k hk; have := ((h.rows q hq).fresh k e).1; omega
theorem MatO.same {w w' : World} {base : Nat} {v : Value} {ps : List Row} (h : MatO w base v ps) (g : w.grownBy w' none) : MatO w' base v ps := h.kept g (by simp)
theorem MatO.slice {w : World} {base : Nat} {v : Value} {ps : List Row} (h : MatO w base v ps) : ∃ a cap, v = .slice a ps.length cap := h.own.slice
theorem MatO.rowsP {w : World} {base : Nat} {v : Value} {ps : List Row} (h : MatO w base v ps) : RowsP w v ps := h.own.rows
theorem MatO.head {w : World} {base : Nat} {v : Value} {ps : List Row} (h : MatO w base v ps) (h1 : 1 ≤ ps.length) : ∃ g c, v = .slice (some ⟨g, 0, none⟩) ps.length c ∧ base ≤ g := by
  rcases h.own.1.2 with ⟨rfl, h0⟩ | ⟨g, cap, cur, rfl, hb, _⟩
  · omega
  · exact ⟨g, cap, rfl, hb⟩
/-- A row of at least one element. -/
theorem MatO.row {w : World} {base : Nat} {v : Value} {ps : List Row} (h : MatO w base v ps) {i : Nat} (hi : i < ps.length) (h1 : 1 ≤ ps[i].2.length) : ∃ b c, ps[i].1 = .slice (some ⟨b, 0, none⟩) ps[i].2.length c ∧ base ≤ b := by
  rcases (h.rows _ (List.getElem_mem hi)).2 with ⟨_, h0⟩ | ⟨g, cap, cur, hv, hb, _⟩
  · omega
  · exact ⟨g, cap, hv, hb⟩
/-- A number is put into a row. -/
theorem MatO.set {w : World} {base : Nat} {v : Value} {ps : List Row} (h : MatO w base v ps) {i : Nat} (hi : i < ps.length) {b c n : Nat} (hv : ps[i].1 = .slice (some ⟨b, 0, none⟩) n c) (k : Nat) (z : Int) (hz : -9223372036854775808 ≤ z ∧ z ≤ 9223372036854775807) :
    MatO (w.setCell ⟨b, k, none⟩ (.int .i64 z)) base v (ps.set i (ps[i].1, ps[i].2.set k z)) := by
  have hgr : w.grownBy (w.setCell ⟨b, k, none⟩ (.int .i64 z)) (some b) := grown_set w _ _
  have hob : ps[i].1.ownBlock = some b := by rw [hv]; rfl
  have hri := h.rows _ (List.getElem_mem hi)
  have hnew : OwnI (w.setCell ⟨b, k, none⟩ (.int .i64 z)) base ps[i].1 (ps[i].2.set k z) := by rw [hv]; rw [hv] at hri; exact hri.stored k z
  have hok := (h.own.2 _ (List.getElem_mem hi))
  have hvb : v.ownBlock ≠ some b := hok.2 b hob
  have hbd : ∀ x ∈ ps[i].2.set k z, -9223372036854775808 ≤ x ∧ x ≤ 9223372036854775807 := fun x hx => by
    rcases List.mem_or_eq_of_mem_set hx with hx | rfl
    · obtain ⟨_, _, _, _, hb, _⟩ := hok.1.1
      exact hb x hx
    · exact hz
  have hmap : (ps.set i (ps[i].1, ps[i].2.set k z)).map Prod.fst = ps.map Prod.fst := by
    rw [List.map_set]
    apply List.ext_getElem (by simp)
    intro j h1 h2
    rw [List.getElem_set]
    split
    · rename_i e; subst e; simp
    · rfl
  have key : ∀ j (hj : j < (ps.set i (ps[i].1, ps[i].2.set k z)).length), (ps.set i (ps[i].1, ps[i].2.set k z))[j].1 = (ps[j]'(by simpa using hj)).1 := fun j hj => by
    rw [List.getElem_set]
    split
    · rename_i e; subst e; rfl
    · rfl
  have other : ∀ j (hj : j < ps.length), j ≠ i → ps[j].1.ownBlock ≠ some b := fun j hj hji e => h.apart j i hj hi hji b e hob
  have rowj : ∀ q ∈ ps.set i (ps[i].1, ps[i].2.set k z), OwnI (w.setCell ⟨b, k, none⟩ (.int .i64 z)) base q.1 q.2 ∧ RowOk (w.setCell ⟨b, k, none⟩ (.int .i64 z)) q ∧ ∀ g, q.1.ownBlock = some g → v.ownBlock ≠ some g := by
    intro q hq
    obtain ⟨j, hj, rfl⟩ := List.getElem_of_mem hq
    have hj' : j < ps.length := by simpa using hj
    by_cases e : j = i
    · subst e
      rw [List.getElem_set_self]
      exact ⟨hnew, hnew.row hbd, hok.2⟩
    · have e2 : (ps.set i (ps[i].1, ps[i].2.set k z))[j] = ps[j] := List.getElem_set_ne (fun h => e h.symm) _
      rw [e2]
      have hq2 := h.own.2 _ (List.getElem_mem hj')
      exact ⟨(h.rows _ (List.getElem_mem hj')).keptB hgr (by rintro k ⟨⟩ e3; exact other j hj' e e3), hq2.1.kept hgr (by rintro k ⟨⟩ e3; exact other j hj' e e3), hq2.2⟩
  refine ⟨⟨?_, fun q hq => (rowj q hq).2⟩, fun q hq => (rowj q hq).1, fun i' j' hi' hj' hij g e => ?_⟩
  · rw [List.length_set, hmap]
    refine World.ownsRow.kept h.own.1 hgr ?_
    cases hv2 : v.ownBlock with
    | none => exact .inl rfl
    | some k => refine .inr (fun e => ?_); rw [hv2] at hvb; exact hvb e
  · rw [key] at e ⊢
    exact h.apart i' j' (by simpa using hi') (by simpa using hj') hij g e
/-- The cells of a row. -/
theorem MatO.cell {w : World} {base : Nat} {v : Value} {ps : List Row} (h : MatO w base v ps) {i : Nat} (hi : i < ps.length) {b c n : Nat} (hv : ps[i].1 = .slice (some ⟨b, 0, none⟩) n c) {k : Nat} (hk : k < ps[i].2.length) :
    w.cell? ⟨b, k, none⟩ = some (.int .i64 (ps[i].2[k]?.getD 0)) ∧ w.frozen? ⟨b, k, none⟩ = false := by
  have hri := h.rows _ (List.getElem_mem hi)
  rw [hv] at hri
  exact hri.cell k hk
/-- A new row in the place of one that is empty. -/
theorem MatO.fill {w : World} {base g n cap : Nat} {ps : List Row} (h : MatO w base (.slice (some ⟨g, 0, none⟩) n cap) ps) {k : Nat} (hk : k < ps.length) (q : Row) (hq : OwnI w base q.1 q.2) (hb : ∀ x ∈ q.2, -9223372036854775808 ≤ x ∧ x ≤ 9223372036854775807)
    (hd : ∀ j, q.1.ownBlock = some j → j ≠ g ∧ ∀ i (hi : i < ps.length), i ≠ k → ps[i].1.ownBlock ≠ some j) : MatO (w.setCell ⟨g, k, none⟩ q.1) base (.slice (some ⟨g, 0, none⟩) n cap) (ps.set k q) := by
  have hgr : w.grownBy (w.setCell ⟨g, k, none⟩ q.1) (some g) := grown_set w _ _
  refine ⟨h.own.stored k q (hq.row hb) (fun j hj => (hd j hj).1), fun p hp => ?_, fun i' j' hi' hj' hij j e => ?_⟩
  · rcases List.mem_or_eq_of_mem_set hp with hp | rfl
    · exact (h.rows p hp).keptB hgr (by rintro j ⟨⟩ e; exact (h.own.2 p hp).2 _ e rfl)
    · exact hq.keptB hgr (by rintro j ⟨⟩ e; exact (hd _ e).1 rfl)
  · rw [List.getElem_set] at e ⊢
    have hi2 : i' < ps.length := by simpa using hi'
    have hj2 : j' < ps.length := by simpa using hj'
    split at e
    · rename_i e1
      rw [if_neg (fun e2 => hij (e1.symm.trans e2))]
      exact (hd j e).2 j' hj2 (fun e2 => hij (e1.symm.trans e2.symm))
    · rename_i e1
      split
      · rename_i e2
        intro e3
        exact (hd j e3).2 i' hi2 (fun e4 => e1 e4.symm) e
      · exact h.apart i' j' hi2 hj2 hij j e
/-- One more row. -/
theorem MatO.push {w w1 : World} {base : Nat} {v v' : Value} {ps : List Row} {q : Row} (h : MatO w base v ps) (hq : OwnI w base q.1 q.2) (hd : ∀ g, q.1.ownBlock = some g → v.ownBlock ≠ some g ∧ ∀ p ∈ ps, p.1.ownBlock ≠ some g)
    (ho : OwnP w1 base v' (ps ++ [q])) (hg : w.grownBy w1 v.ownBlock) : MatO w1 base v' (ps ++ [q]) := by
  refine ⟨ho, fun p hp => ?_, fun i j hi hj hij g e => ?_⟩
  · rcases List.mem_append.1 hp with hp | hp
    · exact (h.rows p hp).keptB hg (fun k hk e => (h.own.2 p hp).2 k e hk)
    · rw [List.mem_singleton.1 hp]; exact hq.keptB hg (fun k hk e => (hd k e).1 hk)
  · rw [List.getElem_append] at e ⊢
    rw [List.length_append, List.length_singleton] at hi hj
    by_cases h1 : i < ps.length
    · rw [dif_pos h1] at e
      by_cases h2 : j < ps.length
      · rw [dif_pos h2]; exact h.apart i j h1 h2 hij g e
      · rw [dif_neg h2]
        intro e3
        have e4 : ([q][j - ps.length]'(by simp; omega)) = q := by simp
        rw [e4] at e3
        exact (hd g e3).2 _ (List.getElem_mem h1) e
    · rw [dif_neg h1] at e
      have e4 : ([q][i - ps.length]'(by simp; omega)) = q := by simp
      rw [e4] at e
      have h2 : j < ps.length := by omega
      rw [dif_pos h2]
      exact (hd g e).2 _ (List.getElem_mem h2)

end Go.Proofs.YtpnghgihepnepaaDoor
