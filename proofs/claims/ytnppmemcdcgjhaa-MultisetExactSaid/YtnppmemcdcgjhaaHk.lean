/- The sanity check of the laws of layer 3. -/
import Derived.Test.YtnppmemcdcgjhaaHj
namespace Go.Proofs.Ytnppmemcdcgjhaa
open Go.RowKit
set_option linter.unusedVariables false

def T03 : List (List Bool) := [[true, true], [true, false]]
theorem T03_pm : PM T03 [1, 0] := ⟨rfl, fun i hi => by
  match i, hi with
  | 0, _ => rfl
  | 1, _ => rfl, by decide⟩
theorem T03_only {m : List Nat} (h : PM T03 m) : m = [1, 0] := by
  have hl := h.len
  match m, hl with
  | [a, b], _ =>
    have h0 := h.edge 0 (by simp)
    have h1 := h.edge 1 (by simp)
    have hn := h.nd
    simp only [cl, List.getElem?_cons_zero, List.getElem?_cons_succ, Option.getD_some] at h0 h1
    have hb : b = 0 := by
      match b, h1 with
      | 0, _ => rfl
      | 1, h1 => simp [tb, T03] at h1
      | b + 2, h1 => simp [tb, T03] at h1
    subst hb
    have ha : a = 1 := by
      match a, h0 with
      | 0, _ => simp at hn
      | 1, _ => rfl
      | a + 2, h0 => simp [tb, T03] at h0
    subst ha
    rfl

theorem bok_two {w : World} {g : Nat} {x y : Bool} {e : TypeId} (h : w.heap[g]? = some (.cells #[.bool x, .bool y] e (0, 0))) : BOk w (.slice (some ⟨g, 0, none⟩) 2 2, [x, y]) := by
  refine ⟨⟨_, 2, rfl, show 2 ≤ maxLen by decide, .inr ⟨g, 0, rfl, fun i hi => ?_⟩⟩, Good.some _ (Nat.le_refl _), fun g' hg' => ?_⟩
  · match i, hi with
    | 0, _ => unfold World.cell?; dsimp only; rw [h]; rfl
    | 1, _ => unfold World.cell?; dsimp only; rw [h]; rfl
  · simp only [Value.ownBlock, Option.some.injEq] at hg'
    subst hg'
    exact (Array.getElem?_eq_some_iff.1 h).1
def W03 (w : World) : World := (((w.alloc (.cells #[.bool true, .bool true] 4)).alloc (.cells #[.bool true, .bool false] 4)).alloc (.cells #[.slice (some ⟨w.heap.size, 0, none⟩) 2 2, .slice (some ⟨w.heap.size + 1, 0, none⟩) 2 2] 26))
def P03 (w : World) : List BRow := [(.slice (some ⟨w.heap.size, 0, none⟩) 2 2, [true, true]), (.slice (some ⟨w.heap.size + 1, 0, none⟩) 2 2, [true, false])]
theorem tab03 (w : World) : BRowsP (W03 w) (.slice (some ⟨w.heap.size + 1 + 1, 0, none⟩) 2 2) (P03 w) ∧ w.grownBy (W03 w) none := by
  refine ⟨brows_blk (P03 w) 2 2 (show (W03 w).heap[w.heap.size + 1 + 1]? = some (.cells #[.slice (some ⟨w.heap.size, 0, none⟩) 2 2, .slice (some ⟨w.heap.size + 1, 0, none⟩) 2 2] 26 (0, 0)) from heap_new _ (by show _ = ((w.heap.push _).push _).size; simp)) rfl (by decide) rfl (fun p hp => ?_), grown_trans (grown_trans (World.grownBy_alloc _ _ none) (World.grownBy_alloc _ _ none)) (World.grownBy_alloc _ _ none)⟩
  simp only [P03, List.mem_cons, List.not_mem_nil, or_false] at hp
  rcases hp with rfl | rfl
  · exact bok_two (heap_old _ (heap_old _ (heap_new _ rfl)))
  · exact bok_two (heap_old _ (heap_new _ (by show _ = (w.heap.push _).size; simp)))
theorem ownI_own' {w : World} {base : Nat} {v : Value} {xs : List Int} (h : OwnI w base v xs) (h1 : 1 ≤ xs.length) : ∃ g c, v = .slice (some ⟨g, 0, none⟩) xs.length c ∧ base ≤ g ∧ xs.length ≤ c := by
  rcases h.2 with ⟨_, h0⟩ | ⟨g, cap, cur, hv, hb, _, hn, _⟩
  · omega
  · exact ⟨g, cap, hv, hb, hn⟩

set_option maxRecDepth 100000 in
set_option maxHeartbeats 1000000 in
theorem awake03_any (w : World) : Calls Try.prog 13 #[] w fun e w' => e = .returned (.bool true) ∧ w.grownBy w' none := by
  obtain ⟨ht, hg⟩ := tab03 w
  have HT := Lib.hid ht; have HG := Lib.hid hg
  have HS : Hid ((P03 w).map Prod.snd = T03) := Lib.hid rfl
  clear ht hg
  go_enter Try.func13, Try.ntmps13
  go_wp2_with fail
  change Calls _ _ _ (W03 w) _
  refine (Match_any _ (P03 w) _ HT.out (by rw [HS.out]; rfl) (fun p hp => by
    simp only [P03, List.mem_cons, List.not_mem_nil, or_false] at hp
    rcases hp with rfl | rfl <;> simp)).mono ?_
  rintro e w4 ⟨n, hn, hg, hr⟩
  rw [HS.out] at hn hr
  have hn2 : n = T03.length := T03_pm.nu hn
  rcases hr with ⟨hr, -⟩ | ⟨-, v, m, rfl, ho, hm, -⟩
  · omega
  obtain rfl := T03_only hm
  obtain ⟨g, c, rfl, hb, -⟩ := ownI_own' ho (by simp)
  have HO := Lib.hid ho; have G4 := Lib.hid hg; have HN := Lib.hid hn
  clear hn hg ho hm hn2 hb
  have HP : Hid (Ints w4 (.slice (some ⟨g, 0, none⟩) 2 c) [1, 0]) := Lib.hid (HO.out.ints (fun x hx => by simp at hx; omega))
  simp only [List.map_cons, List.map_nil, List.length_cons, List.length_nil, Nat.zero_add, Nat.reduceAdd] at HO ⊢
  go_wp2_with fail
  refine (Most_any _ (P03 w) _ (HT.out.same G4.out) (by rw [HS.out]; rfl)).mono ?_
  rintro e w5 ⟨n5, rfl, hn5, hg5⟩
  rw [HS.out] at hn5
  obtain rfl : n5 = 2 := T03_pm.nu hn5
  have G5 := Lib.hid hg5
  have hc0 := (World.grownBy.cell hg5 (HO.out.cell 0 (by simp)).1 (by simp))
  have hc1 := (World.grownBy.cell hg5 (HO.out.cell 1 (by simp)).1 (by simp))
  simp at hc0 hc1
  clear hn5 hg5
  go_wp2_with fail
  refine (Valid_any _ (P03 w) _ ((HT.out.same G4.out).same G5.out)).mono ?_
  rintro e w6 ⟨rfl, hw6⟩
  rw [hw6, HS.out, show validT T03 = true from rfl]
  clear hw6 w6
  go_wp2_with fail
  refine (ProvesM_any _ _ (P03 w) [1, 0] _ ((HT.out.same G4.out).same G5.out) (HP.out.same G5.out)).mono ?_
  rintro e w7 ⟨Bo, rfl, hB, hg7⟩
  rw [HS.out] at hB
  obtain rfl : Bo = true := hB.2 ⟨rfl, [1, 0], rfl, T03_pm⟩
  have G7 := Lib.hid hg7
  clear hB hg7
  go_wp2_with fail
  go_ret
  exact ⟨rfl, grown_trans (grown_trans HG.out G4.out) (grown_trans G5.out G7.out)⟩

end Go.Proofs.Ytnppmemcdcgjhaa
