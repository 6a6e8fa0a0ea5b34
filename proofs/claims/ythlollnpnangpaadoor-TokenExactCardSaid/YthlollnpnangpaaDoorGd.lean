/- Contracts of the deck. -/
import Derived.Test.YthlollnpnangpaaDoorRows
import Derived.Test.YthlollnpnangpaaDoorGp
namespace Go.Proofs.YthlollnpnangpaaDoor
open Go.RowKit
set_option linter.unusedVariables false

theorem few_any (a : Option Addr) (len cap : Nat) (w : World) :
    Calls Tryd.prog 9 #[.slice a len cap] w fun e w' => e = .returned (.bool (decide ((len : Int) ≤ 400))) ∧ w' = w := by
  go_enter Tryd.func9, Tryd.ntmps9
  go_wp2
  go_ret
  exact ⟨rfl, rfl⟩

/-- p is a pointer to a deck in block d. -/
def Deck (w : World) (p : Value) (d : Nat) : Prop :=
  ∃ a xs cap at_ st, p = .pointer (some ⟨d, 0, none⟩) ∧ w.heap[d]? = some (.cells #[.slice a (List.length xs) cap, .int .i64 (at_ : Nat), .int .u64 st] 48 (0, 0)) ∧
    Ints w (.slice a xs.length cap) xs ∧ (xs = [] ∨ ∀ b, a = some b → b.block < d) ∧ 0 ≤ st ∧ st ≤ 18446744073709551615

theorem Deck.lt {w : World} {p : Value} {d : Nat} (h : Deck w p d) : d < w.heap.size := by
  obtain ⟨a, xs, cap, k, st, -, hh, -⟩ := h
  exact (Array.getElem?_eq_some_iff.1 hh).1

theorem deck_list {w w' : World} {a : Option Addr} {xs : List Int} {cap d : Nat} {row : Option Nat} (hi : Ints w (.slice a xs.length cap) xs)
    (hn : xs = [] ∨ ∀ b, a = some b → b.block < d) (g : w.grownBy w' row) (hr : ∀ k, row = some k → d ≤ k) : Ints w' (.slice a xs.length cap) xs := by
  rcases hn with rfl | hn
  · obtain ⟨a', cap', hv, hl, hb, -⟩ := hi
    exact ⟨a', cap', hv, hl, hb, .inl rfl⟩
  · refine hi.kept g fun k hk e => ?_
    have := hr k hk
    cases a with
    | none => simp [Value.ownBlock] at e
    | some b => simp only [Value.ownBlock, Option.some.injEq] at e; have := hn b rfl; omega

theorem Deck.kept {w w' : World} {p : Value} {d : Nat} {row : Option Nat} (h : Deck w p d) (g : w.grownBy w' row) (hr : ∀ k, row = some k → d < k) : Deck w' p d := by
  have hd := h.lt
  obtain ⟨a, xs, cap, k, st, rfl, hh, hi, hn, h0, h1⟩ := h
  exact ⟨a, xs, cap, k, st, rfl, by rw [g.block d hd (by intro e; have := hr d e.symm; omega)]; exact hh, deck_list hi hn g (fun k hk => Nat.le_of_lt (hr k hk)), hn, h0, h1⟩

theorem new_any (a : Option Addr) (cap : Nat) (xs : List Int) (w : World) (h : Ints w (.slice a xs.length cap) xs) :
    Calls Tryd.prog 10 #[.slice a xs.length cap] w fun e w' => e = .returned (.pointer (some ⟨w.heap.size, 0, none⟩)) ∧ w' = w.alloc (.cells #[.slice a xs.length cap, .int .i64 0, .int .u64 11400714819323198485] 48) := by
  have H := Lib.hid h
  clear h
  go_enter Tryd.func10, Tryd.ntmps10
  go_wp2
  go_ret
  exact ⟨rfl, rfl⟩

theorem deck_one {w : World} {d : Nat} {a : Option Addr} {xs : List Int} {cap k : Nat} {st : Int}
    (hh : w.heap[d]? = some (.cells #[.slice a xs.length cap, .int .i64 (k : Nat), .int .u64 st] 48 (0, 0)))
    (hi : Ints w (.slice a xs.length cap) xs) (hn : xs = [] ∨ ∀ b, a = some b → b.block < d) (n m : Nat) (z : Int) (h0 : 0 ≤ z) (h1 : z ≤ 18446744073709551615) :
    Deck (((w.drewN n).setCell ⟨d, 2, none⟩ (.int .u64 z)).drewN m) (.pointer (some ⟨d, 0, none⟩)) d ∧ w.grownBy (((w.drewN n).setCell ⟨d, 2, none⟩ (.int .u64 z)).drewN m) (some d) := by
  have g : w.grownBy (((w.drewN n).setCell ⟨d, 2, none⟩ (.int .u64 z)).drewN m) (some d) :=
    grown_trans (grown_drewN w n _) (grown_trans (grown_set (w.drewN n) ⟨d, 2, none⟩ _) (grown_drewN _ m _))
  refine ⟨⟨a, xs, cap, k, z, rfl, ?_, deck_list hi hn g (by rintro j ⟨⟩; exact Nat.le_refl _), hn, h0, h1⟩, g⟩
  · rw [World.heap_drewN, heap_set (w := w.drewN n) hh _]
    rfl

theorem deck_two {w : World} {d : Nat} {a : Option Addr} {xs : List Int} {cap k : Nat} {st : Int}
    (hh : w.heap[d]? = some (.cells #[.slice a xs.length cap, .int .i64 (k : Nat), .int .u64 st] 48 (0, 0)))
    (hi : Ints w (.slice a xs.length cap) xs) (hn : xs = [] ∨ ∀ b, a = some b → b.block < d) (n m : Nat) (z : Int) (h0 : 0 ≤ z) (h1 : z ≤ 18446744073709551615) :
    Deck ((((w.drewN n).setCell ⟨d, 1, none⟩ (.int .i64 ((k : Int) + 1))).setCell ⟨d, 2, none⟩ (.int .u64 z)).drewN m) (.pointer (some ⟨d, 0, none⟩)) d ∧
      w.grownBy ((((w.drewN n).setCell ⟨d, 1, none⟩ (.int .i64 ((k : Int) + 1))).setCell ⟨d, 2, none⟩ (.int .u64 z)).drewN m) (some d) := by
  have g : w.grownBy ((((w.drewN n).setCell ⟨d, 1, none⟩ (.int .i64 ((k : Int) + 1))).setCell ⟨d, 2, none⟩ (.int .u64 z)).drewN m) (some d) :=
    grown_trans (grown_drewN w n _) (grown_trans (grown_set (w.drewN n) ⟨d, 1, none⟩ _) (grown_trans (grown_set _ ⟨d, 2, none⟩ _) (grown_drewN _ m _)))
  refine ⟨⟨a, xs, cap, k + 1, z, rfl, ?_, deck_list hi hn g (by rintro j ⟨⟩; exact Nat.le_refl _), hn, h0, h1⟩, g⟩
  · rw [World.heap_drewN, heap_set (heap_set (w := w.drewN n) hh _) _]
    rfl

set_option maxHeartbeats 1000000 in
theorem long_any (p : Value) (d : Nat) (w : World) (h : Deck w p d) :
    Calls Tryd.prog 36 #[p] w fun e w' => ∃ y : Int, e = .returned (.int .u64 y) ∧ 0 ≤ y ∧ y ≤ 18446744073709551615 ∧ Deck w' p d ∧ w.grownBy w' (some d) := by
  obtain ⟨a, xs, cap, k, st, rfl, hh, hI, hne, hs0, hs1⟩ := h
  have c0 : w.cell? ⟨d, 0, none⟩ = some (.slice a xs.length cap) := by simp [World.cell?, hh]
  have c1 : w.cell? ⟨d, 1, none⟩ = some (.int .i64 (k : Nat)) := by simp [World.cell?, hh]
  have c2 : w.cell? ⟨d, 2, none⟩ = some (.int .u64 st) := by simp [World.cell?, hh]
  have f1 : w.frozen? ⟨d, 1, none⟩ = false := by simp [World.frozen?, hh]
  have f2 : w.frozen? ⟨d, 2, none⟩ = false := by simp [World.frozen?, hh]
  have HH := Lib.hid hh
  have HI := Lib.hid hI
  have HN := Lib.hid hne
  obtain ⟨a', cap', hv, hl, hb, hc⟩ := hI
  simp only [Value.slice.injEq] at hv
  obtain ⟨rfl, -, rfl⟩ := hv
  unfold maxLen at hl
  clear hh hne
  by_cases hlt : k < xs.length
  · obtain ⟨b, off, rfl, hx⟩ := Ints.at hc hlt
    have hbd := Ints.bd hb hlt
    have h1 : (k : Int) < (xs.length : Int) := by omega
    clear hb hc
    generalize xs[k]?.getD 0 = x at *
    go_enter Tryd.func36, Tryd.ntmps36
    go_wp2
    go_quiet (fail)
    go_wp2
    go_quiet (fail)
    go_wp2
    go_quiet (fail)
    go_wp2
    go_ret
    have hw1 := wf_u64 (wf_wrap .u64 (IntKind.u64.wrap (IntKind.u64.wrap (st + IntKind.u64.wrap x) * 6364136223846793005) + 1442695040888963407))
    exact ⟨_, rfl, (wf_u64 (wf_bits _ _ _ _)).1, (wf_u64 (wf_bits _ _ _ _)).2, deck_two HH.out HI.out HN.out _ _ _ hw1.1 hw1.2⟩
  · have h1 : ¬ (k : Int) < (xs.length : Int) := by omega
    clear hb hc
    go_enter Tryd.func36, Tryd.ntmps36
    go_wp2
    go_quiet (fail)
    go_wp2
    go_quiet (fail)
    go_wp2
    go_ret
    have hw1 := wf_u64 (wf_wrap .u64 (IntKind.u64.wrap (st * 6364136223846793005) + 1442695040888963407))
    exact ⟨_, rfl, (wf_u64 (wf_bits _ _ _ _)).1, (wf_u64 (wf_bits _ _ _ _)).2, deck_one HH.out HI.out HN.out _ _ _ hw1.1 hw1.2⟩

theorem next_any (p : Value) (d : Nat) (n : Int) (w : World) (h : Deck w p d) (h1 : 1 ≤ n) (h2 : n ≤ 4611686018427387904) :
    Calls Tryd.prog 20 #[p, .int .i64 n] w fun e w' => ∃ y : Int, e = .returned (.int .i64 y) ∧ 0 ≤ y ∧ y < n ∧ Deck w' p d ∧ w.grownBy w' (some d) := by
  have H := Lib.hid h
  clear h
  go_enter Tryd.func20, Tryd.ntmps20
  go_wp2_with fail
  refine (long_any _ _ _ H.out).mono ?_
  rintro e w' ⟨y, rfl, hy0, hy1, hd, hg⟩
  have HD := Lib.hid hd; have HG := Lib.hid hg
  clear hd hg H
  go_wp2_with fail
  go_ret
  exact ⟨_, rfl, Int.emod_nonneg _ (by omega), Int.emod_lt_of_pos _ (by omega), HD.out, HG.out⟩

end Go.Proofs.YthlollnpnangpaaDoor
