/- The dice of the later laws (coverabilityplay): New and Pick. -/
import Derived.Test.YtelpkcndbcfaiaaGp
import Derived.Test.YtelpkcndbcfaiaaRows
import Derived.Lib.Walk
import Derived.Lib.Slices
import Derived.Deep.RegionHeld3
import Derived.ChangeOld
import Derived.ShutString
namespace Go.Proofs.Ytelpkcndbcfaiaa
open Go.RowKit
set_option linter.unusedVariables false
/-- v reads as a list of bytes. -/
def U8s (w : World) (v : Value) (xs : List Int) : Prop := ∃ a cap, v = .slice a xs.length cap ∧ xs.length ≤ maxLen ∧ (∀ x ∈ xs, 0 ≤ x ∧ x ≤ 255) ∧
  (xs = [] ∨ ∃ b off, a = some ⟨b, off, none⟩ ∧ ∀ i, i < xs.length → w.cell? ⟨b, off + i, none⟩ = some (.int .u8 (xs[i]?.getD 0)))
theorem U8s.kept {w w' : World} {v : Value} {xs : List Int} {row : Option Nat} (h : U8s w v xs) (g : w.grownBy w' row) (hr : ∀ k, row = some k → v.ownBlock ≠ some k) : U8s w' v xs := by
  obtain ⟨a, cap, rfl, hl, hb, hc⟩ := h
  refine ⟨a, cap, rfl, hl, hb, ?_⟩
  rcases hc with hc | ⟨b, off, rfl, hc⟩
  · exact .inl hc
  · exact .inr ⟨b, off, rfl, fun i hi => g.cell (hc i hi) (by intro e; exact hr b e.symm rfl)⟩
theorem U8s.same {w w' : World} {v : Value} {xs : List Int} (h : U8s w v xs) (g : w.grownBy w' none) : U8s w' v xs := h.kept g (by simp)
theorem U8s.lt {w : World} {a : Option Addr} {n cap : Nat} {xs : List Int} (h : U8s w (.slice a n cap) xs) : xs = [] ∨ ∀ b, a = some b → b.block < w.heap.size := by
  obtain ⟨a', cap', hv, hl, hb, hc⟩ := h
  simp only [Value.slice.injEq] at hv
  obtain ⟨rfl, -, -⟩ := hv
  rcases hc with hc | ⟨b, off, rfl, hc⟩
  · exact .inl hc
  · cases xs with
    | nil => exact .inl rfl
    | cons x xs =>
      refine .inr ?_
      rintro b' ⟨⟩
      exact World.block_lt_of_cell? w _ (hc 0 (by simp))
theorem U8s.take {w : World} {a : Option Addr} {n cap : Nat} {xs : List Int} (h : U8s w (.slice a n cap) xs) (m : Nat) (hm : m ≤ xs.length) : U8s w (.slice a m cap) (xs.take m) := by
  obtain ⟨a', cap', hv, hl, hb, hc⟩ := h
  simp only [Value.slice.injEq] at hv
  obtain ⟨rfl, -, rfl⟩ := hv
  have e : (xs.take m).length = m := by rw [List.length_take]; omega
  refine ⟨a, cap, by rw [e], by omega, fun x hx => hb x (List.mem_of_mem_take hx), ?_⟩
  rcases hc with hc | ⟨b, off, rfl, hc⟩
  · exact .inl (by rw [hc]; simp)
  · refine .inr ⟨b, off, rfl, fun i hi => ?_⟩
    rw [e] at hi
    rw [hc i (by omega), List.getElem?_take, if_pos hi]
/-- p is a pointer to dice in block d. -/
def Dice (w : World) (p : Value) (d : Nat) : Prop :=
  ∃ a xs cap at_, p = .pointer (some ⟨d, 0, none⟩) ∧ w.heap[d]? = some (.cells #[.slice a (List.length xs) cap, .int .i64 (at_ : Nat)] 63 (0, 0)) ∧
    U8s w (.slice a xs.length cap) xs ∧ (xs = [] ∨ ∀ b, a = some b → b.block < d) ∧ xs.length ≤ 200
theorem Dice.lt {w : World} {p : Value} {d : Nat} (h : Dice w p d) : d < w.heap.size := by
  obtain ⟨a, xs, cap, k, -, hh, -⟩ := h
  exact (Array.getElem?_eq_some_iff.1 hh).1
theorem dice_list {w w' : World} {a : Option Addr} {xs : List Int} {cap d : Nat} {row : Option Nat} (hi : U8s w (.slice a xs.length cap) xs)
    (hn : xs = [] ∨ ∀ b, a = some b → b.block < d) (g : w.grownBy w' row) (hr : ∀ k, row = some k → d ≤ k) : U8s w' (.slice a xs.length cap) xs := by
  rcases hn with rfl | hn
  · obtain ⟨a', cap', hv, hl, hb, -⟩ := hi
    exact ⟨a', cap', hv, hl, hb, .inl rfl⟩
  · refine hi.kept g fun k hk e => ?_
    have := hr k hk
    cases a with
    | none => simp [Value.ownBlock] at e
    | some b => simp only [Value.ownBlock, Option.some.injEq] at e; have := hn b rfl; omega
theorem Dice.kept {w w' : World} {p : Value} {d : Nat} {row : Option Nat} (h : Dice w p d) (g : w.grownBy w' row) (hr : ∀ k, row = some k → d < k) : Dice w' p d := by
  have hd := h.lt
  obtain ⟨a, xs, cap, k, rfl, hh, hi, hn, h0⟩ := h
  exact ⟨a, xs, cap, k, rfl, by rw [g.block d hd (by intro e; have := hr d e.symm; omega)]; exact hh, dice_list hi hn g (fun k hk => Nat.le_of_lt (hr k hk)), hn, h0⟩
/-- The state of a law: it began in w0, and has dice in block d. -/
def Sd (w0 w : World) (p : Value) (d : Nat) : Prop := Dice w p d ∧ w0.grownBy w none ∧ w0.heap.size ≤ d
theorem Sd.step {w0 w w' : World} {p : Value} {d : Nat} (h : Sd w0 w p d) (g : w.grownBy w' none) : Sd w0 w' p d := ⟨h.1.kept g (by simp), grown_trans h.2.1 g, h.2.2⟩
theorem Sd.deal {w0 w w' : World} {p : Value} {d : Nat} (h : Sd w0 w p d) (hd : Dice w' p d) (g : w.grownBy w' (some d)) : Sd w0 w' p d :=
  ⟨hd, grown_then h.2.1 g (by rintro j ⟨⟩; exact .inl h.2.2), h.2.2⟩
theorem Sd.lt {w0 w : World} {p : Value} {d : Nat} (h : Sd w0 w p d) : d < w.heap.size := h.1.lt
def BeganD (w0 : World) (e : Ending) (w' : World) : Prop := ∃ d, e = .returned (.pointer (some ⟨d, 0, none⟩)) ∧ Sd w0 w' (.pointer (some ⟨d, 0, none⟩)) d
theorem sd_new {w0 w : World} {a : Option Addr} {cap : Nat} {xs : List Int} (h : U8s w (.slice a xs.length cap) xs) (h2 : xs.length ≤ 200) (g : w0.grownBy w none) :
    Sd w0 (w.alloc (.cells #[.slice a xs.length cap, .int .i64 0] 63)) (.pointer (some ⟨w.heap.size, 0, none⟩)) w.heap.size :=
  ⟨⟨a, xs, cap, 0, rfl, heap_new _ rfl, h.same (World.grownBy_alloc _ _ none), h.lt, h2⟩, grown_trans g (World.grownBy_alloc _ _ none), g.size⟩
set_option maxRecDepth 100000 in
theorem dice_new {w0 w : World} {a : Option Addr} {cap : Nat} {xs : List Int} (h : U8s w (.slice a xs.length cap) xs) (hcap : xs.length ≤ cap) (g : w0.grownBy w none) :
    Calls Try.prog 10 #[.slice a xs.length cap] w (BeganD w0) := by
  have H := Lib.hid h; have G := Lib.hid g
  have hl : xs.length ≤ 9223372036854775807 := by obtain ⟨_, _, _, h, _⟩ := h; unfold maxLen at h; omega
  clear h g
  go_enter Try.func10, Try.ntmps10
  by_cases h2 : (200 : Int) < (xs.length : Int)
  · have h3 : 200 ≤ cap := by omega
    have h4 : (200 : Int) ≤ (cap : Int) := by omega
    have HT := Lib.hid (H.out.take 200 (by omega))
    have e : (xs.take 200).length = 200 := by rw [List.length_take]; omega
    go_wp2_with fail
    go_ret
    have HH : Sd w0 (w.alloc (.cells #[.slice a (xs.take 200).length cap, .int .i64 0] 63)) (.pointer (some ⟨w.heap.size, 0, none⟩)) w.heap.size := sd_new (by rw [e]; exact HT.out) (by omega) G.out
    rw [e] at HH
    exact ⟨_, rfl, HH⟩
  · go_wp2_with fail
    go_ret
    exact ⟨_, rfl, sd_new H.out (by omega) G.out⟩
theorem dice_set {w : World} {d : Nat} {a : Option Addr} {xs : List Int} {cap k : Nat}
    (hh : w.heap[d]? = some (.cells #[.slice a xs.length cap, .int .i64 (k : Nat)] 63 (0, 0)))
    (hi : U8s w (.slice a xs.length cap) xs) (hn : xs = [] ∨ ∀ b, a = some b → b.block < d) (hl : xs.length ≤ 200) (n m : Nat) :
    Dice (((w.drewN n).setCell ⟨d, 1, none⟩ (.int .i64 ((k : Int) + 1))).drewN m) (.pointer (some ⟨d, 0, none⟩)) d ∧ w.grownBy (((w.drewN n).setCell ⟨d, 1, none⟩ (.int .i64 ((k : Int) + 1))).drewN m) (some d) := by
  have g : w.grownBy (((w.drewN n).setCell ⟨d, 1, none⟩ (.int .i64 ((k : Int) + 1))).drewN m) (some d) :=
    grown_trans (grown_drewN w n _) (grown_trans (grown_set (w.drewN n) ⟨d, 1, none⟩ _) (grown_drewN _ m _))
  refine ⟨⟨a, xs, cap, k + 1, rfl, ?_, dice_list hi hn g (by rintro j ⟨⟩; exact Nat.le_refl _), hn, hl⟩, g⟩
  rw [World.heap_drewN, heap_set (w := w.drewN n) hh _]
  rfl
def PickR (n : Int) (w0 w : World) (p : Value) (d : Nat) (e : Ending) (w' : World) : Prop := ∃ y : Int, e = .returned (.int .i64 y) ∧ 0 ≤ y ∧ y < n ∧ Sd w0 w' p d ∧ w.grownBy w' (some d)
set_option maxRecDepth 100000 in
set_option maxHeartbeats 1000000 in
theorem dice_pick {w0 w : World} {p : Value} {d : Nat} (h : Sd w0 w p d) (n : Int) (h1 : 1 ≤ n) (h2 : n ≤ 4611686018427387904) :
    Calls Try.prog 19 #[p, .int .i64 n] w (PickR n w0 w p d) := by
  have HS := Lib.hid h
  obtain ⟨a, xs, cap, k, rfl, hh, hI, hne, h200⟩ := h.1
  clear h
  have c0 : w.cell? ⟨d, 0, none⟩ = some (.slice a xs.length cap) := by simp [World.cell?, hh]
  have c1 : w.cell? ⟨d, 1, none⟩ = some (.int .i64 (k : Nat)) := by simp [World.cell?, hh]
  have f1 : w.frozen? ⟨d, 1, none⟩ = false := by simp [World.frozen?, hh]
  have HH := Lib.hid hh
  have HI := Lib.hid hI
  have HN := Lib.hid hne
  obtain ⟨a', cap', hv, hl, hb, hc⟩ := hI
  simp only [Value.slice.injEq] at hv
  obtain ⟨rfl, -, rfl⟩ := hv
  unfold maxLen at hl
  clear hh hne
  by_cases hlt : k < xs.length
  · have hcx : ∃ b off, a = some ⟨b, off, none⟩ ∧ w.cell? ⟨b, off + k, none⟩ = some (.int .u8 (xs[k]?.getD 0)) := by
      rcases hc with rfl | ⟨b, off, rfl, hc⟩
      · simp at hlt
      · exact ⟨b, off, rfl, hc k hlt⟩
    obtain ⟨b, off, rfl, hx⟩ := hcx
    have hbd : 0 ≤ xs[k]?.getD 0 ∧ xs[k]?.getD 0 ≤ 255 := by
      rw [List.getElem?_eq_getElem hlt]
      exact hb _ (List.getElem_mem hlt)
    have hki : ¬ (xs.length : Int) ≤ (k : Int) := by omega
    have hkl : (k : Int) < (xs.length : Int) := by omega
    have i7 : (k : Int) + 1 - 1 = (k : Int) := by omega
    have i8 : IntKind.i64.wrap ((k : Int) + 1 - 1) = (k : Int) := by rw [i7]; exact IntWalk.i64_in _ (by omega)
    have hn0 : (n == 0) = false := by simp; omega
    have hn1 : ¬ n = 0 := by omega
    have HX2 : Hid (∀ q, ((w.drewN q).setCell ⟨d, 1, none⟩ (.int .i64 ((k : Int) + 1))).cell? ⟨b, off + k, none⟩ = some (.int .u8 (xs[k]?.getD 0))) := Lib.hid (fun q => (grown_trans (grown_drewN w q _) (grown_set (w.drewN q) ⟨d, 1, none⟩ (.int .i64 ((k : Int) + 1)))).cell hx (by
      rcases HN.out with h | h
      · rw [h] at hlt; simp at hlt
      · have := h _ rfl; dsimp only at this; intro e; cases e; omega))
    have HX0 : Hid (∀ q, ((w.drewN q).setCell ⟨d, 1, none⟩ (.int .i64 ((k : Int) + 1))).cell? ⟨d, 0, none⟩ = some (.slice (some ⟨b, off, none⟩) xs.length cap) ∧ ((w.drewN q).setCell ⟨d, 1, none⟩ (.int .i64 ((k : Int) + 1))).cell? ⟨d, 1, none⟩ = some (.int .i64 ((k : Int) + 1))) := Lib.hid (fun q => by
      have h := heap_set (w := w.drewN q) (o := 1) HH.out (.int .i64 ((k : Int) + 1))
      constructor
      · rw [World.cell?, h]; rfl
      · rw [World.cell?, h]; rfl)
    clear hb hc
    generalize xs[k]?.getD 0 = x at *
    have HY : Hid (0 ≤ x % n ∧ x % n < n) := Lib.hid ⟨Int.emod_nonneg _ (by omega), Int.emod_lt_of_pos _ (by omega)⟩
    have ht : Int.tmod x n = x % n := Int.tmod_eq_emod_of_nonneg hbd.1
    go_enter Try.func19, Try.ntmps19
    go_wp2_with fail
    go_quiet (fail)
    go_wp2_with fail
    have y2 := HX2.out nq; have y0 := (HX0.out nq).1; have y1 := (HX0.out nq).2
    go_quiet (fail)
    go_wp2_with fail
    go_ret
    refine ⟨_, rfl, HY.out.1, HY.out.2, ?_⟩
    obtain ⟨h3, h4⟩ := dice_set HH.out HI.out HN.out h200 _ _
    exact ⟨HS.out.deal h3 h4, h4⟩
  · have hki : (xs.length : Int) ≤ (k : Int) := by omega
    clear hb hc
    go_enter Try.func19, Try.ntmps19
    go_wp2_with fail
    go_quiet (fail)
    go_wp2_with fail
    go_ret
    exact ⟨0, rfl, by omega, by omega, HS.out.step (grown_drewN _ _ _), (grown_drewN _ _ _)⟩
end Go.Proofs.Ytelpkcndbcfaiaa
