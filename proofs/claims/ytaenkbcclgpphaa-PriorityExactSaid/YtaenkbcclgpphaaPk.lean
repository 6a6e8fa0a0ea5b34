/- The sanity check of law 05; ranks that the deck deals. -/
import Derived.Test.YtaenkbcclgpphaaPj
import Derived.Test.YtaenkbcclgpphaaWs
namespace Go.Proofs.Ytaenkbcclgpphaa
open Go.RowKit
set_option linter.unusedVariables false

theorem ranks_st {w0 w : World} {p : Value} {d : Nat} (h : St w0 w p d) (letters : Int) (h1 : 1 ≤ letters) (h2 : letters ≤ 6) :
    Calls Try.prog 35 #[p, .int .i64 letters] w fun e w' => ∃ v xs, e = .returned v ∧ (xs.length : Int) = letters ∧ (∀ x ∈ xs, 0 ≤ x ∧ x ≤ 2) ∧ RVec w' d v xs ∧ St w0 w' p d ∧ w.grownBy w' (some d) := by
  have HS := Lib.hid h
  clear h
  go_enter Try.func35, Try.ntmps35
  go_wp2_with fail
  refine (small_any p d letters 2 _ HS.out.1 (by omega) (by omega) (by omega)).mono ?_
  rintro e w2 ⟨v, xs, rfl, hl, hp, ho, hd, hg⟩
  have HL := Lib.hid hl; have HP := Lib.hid hp; have HO := Lib.hid ho; have HD := Lib.hid hd; have HG := Lib.hid hg
  clear hl hp ho hd hg
  go_wp2_with fail
  go_ret
  exact ⟨v, xs, rfl, by rw [HL.out]; omega, HP.out, HO.out.rvec (fun x hx => by have := HP.out x hx; omega) HS.out.lt, HS.out.deal HD.out HG.out, HG.out⟩
theorem ranks_ok {xs : List Int} {n : Int} (hl : (xs.length : Int) = n) (h1 : 1 ≤ n) (h2 : n ≤ 6) (hp : ∀ x ∈ xs, 0 ≤ x ∧ x ≤ 2) : ranksB xs = true := by
  unfold ranksB
  simp only [Bool.and_eq_true, decide_eq_true_eq, List.all_eq_true]
  refine ⟨⟨by omega, by omega⟩, fun x hx => ?_⟩
  have := hp x hx
  unfold rankB
  rw [decide_eq_true (by omega), decide_eq_true (by omega)]; rfl
theorem word_ok {rs xs : List Int} {letters most : Int} (hr : ranksB rs = true) (hl : (xs.length : Int) ≤ most) (hp : ∀ x ∈ xs, 0 ≤ x ∧ x < letters) (h1 : most ≤ 12) (h2 : letters ≤ rs.length) : validP rs xs = true := by
  unfold validP
  simp only [Bool.and_eq_true, decide_eq_true_eq, List.all_eq_true]
  refine ⟨⟨hr, by omega⟩, fun x hx => ?_⟩
  have := hp x hx
  exact letB_in this.1 (by omega)

theorem fall01 : fallA [0, 1] 6 1 = [[0], [1], [1, 0]] := by decide
theorem emb01 : embedP [0, 1] [1] [0, 1] = some [1] := by decide
theorem leq01 : leqP [0, 1] [0] [0, 1] = false := by decide
theorem drp01 : dropsP [0, 1] [0, 1] = [[1]] := by decide
theorem prv01 : provesP [0, 1] [1] [0, 1] [1] = true := by decide
theorem len_eq {qs : List Row} {rs : List (List Int)} {n : Nat} (h : qs.map Prod.snd = rs) (hn : rs.length = n) : qs.length = n := by rw [← hn, ← h, List.length_map]

set_option maxRecDepth 100000 in
set_option maxHeartbeats 4000000 in
theorem awake05_any (w : World) :
    Calls Try.prog 34 #[] w fun e w' => e = .returned (.bool true) ∧ w.grownBy w' none := by
  go_enter Try.func34, Try.ntmps34
  have G0 : Hid (w.grownBy (w.alloc (.cells #[.int .i64 0, .int .i64 1] 3)) none) := Lib.hid (World.grownBy_alloc _ _ none)
  have R0 : Hid (RowOk (w.alloc (.cells #[.int .i64 0, .int .i64 1] 3)) (.slice (some ⟨w.heap.size, 0, none⟩) 2 2, [0, 1])) := Lib.hid (row_lit [0, 1] 2 2 (cs := #[.int .i64 0, .int .i64 1]) (e := 3) (f := (0, 0)) (heap_new _ rfl) rfl (by decide) (by decide) rfl (Nat.le_refl _))
  go_wp2_with fail
  refine (pfalling_any 6 _ [0, 1] 1 _ R0.out.1 (by decide) (by decide) (by decide)).mono ?_
  rintro e w1 ⟨v, qs, rfl, ho, hq, hg, -⟩
  rw [fall01] at hq
  obtain ⟨av, cv, rfl⟩ := ho.slice
  have hl3 := len_eq (n := 3) hq rfl
  rw [hl3]
  replace G0 : Hid (w.grownBy w1 none) := Lib.hid (grown_trans G0.out hg); replace R0 := Lib.hid (R0.out.same hg)
  clear ho hq hg hl3
  go_wp2_with fail
  refine (embedP_any _ _ _ [0, 1] [1] [0, 1] _ (R0.out.same (grown_after (grown_after (grown_refl _ _)))).1 (row_lit [1] 1 1 (cs := #[.int .i64 1]) (e := 3) (f := (0, 0)) (heap_two _) rfl (by decide) (by decide) rfl (Nat.le_refl _)) (row_lit [0, 1] 2 2 (cs := #[.int .i64 0, .int .i64 1]) (e := 3) (f := (0, 0)) (heap_two' _) rfl (by decide) (by decide) rfl (Nat.le_refl _))).mono ?_
  rintro e w2 ⟨v2, rfl, ho, hg⟩
  rw [emb01] at ho ⊢
  dsimp only [Option.getD_some, Option.isSome_some] at ho ⊢
  have HI := Lib.hid (ho.row (by decide))
  have hg' := grown_trans (a := w1) (grown_after (grown_after (grown_refl _ _))) hg
  replace G0 : Hid (w.grownBy w2 none) := Lib.hid (grown_trans G0.out hg'); replace R0 := Lib.hid (R0.out.same hg')
  obtain ⟨⟨a3, cap3, hv3, -, -, hc⟩, -, -⟩ := HI.out
  simp only at hv3
  subst hv3
  rcases hc with hc | ⟨b3, off3, rfl, hc⟩
  · simp at hc
  have c1 := hc 0 (by simp)
  simp at c1
  clear hc ho hg hg'
  go_wp2_with fail
  refine (leqP_any _ _ _ [0, 1] [0] [0, 1] _ (R0.out.same (grown_after (grown_after (grown_refl _ _)))).1 (row_lit [0] 1 1 (cs := #[.int .i64 0]) (e := 3) (f := (0, 0)) (heap_two _) rfl (by decide) (by decide) rfl (Nat.le_refl _)) (row_lit [0, 1] 2 2 (cs := #[.int .i64 0, .int .i64 1]) (e := 3) (f := (0, 0)) (heap_two' _) rfl (by decide) (by decide) rfl (Nat.le_refl _))).mono ?_
  rintro e w3 ⟨rfl, hg⟩
  rw [leq01]
  have hg' := grown_trans (a := w2) (grown_after (grown_after (grown_refl _ _))) hg
  replace G0 : Hid (w.grownBy w3 none) := Lib.hid (grown_trans G0.out hg'); replace R0 := Lib.hid (R0.out.same hg'); replace HI := Lib.hid (HI.out.same hg')
  clear hg hg' c1
  go_wp2_with fail
  refine (dropsP_any _ _ [0, 1] [0, 1] _ (R0.out.same (World.grownBy_alloc _ _ none)).1 (row_lit [0, 1] 2 2 (cs := #[.int .i64 0, .int .i64 1]) (e := 3) (f := (0, 0)) (heap_new _ rfl) rfl (by decide) (by decide) rfl (Nat.le_refl _))).mono ?_
  rintro e w4 ⟨v4, q4, rfl, ho, hq, hg⟩
  rw [drp01] at hq
  obtain ⟨a4, c4, rfl⟩ := ho.slice
  have hl1 := len_eq (n := 1) hq rfl
  rw [hl1]
  have hg' := grown_trans (a := w3) (World.grownBy_alloc _ _ none) hg
  replace G0 : Hid (w.grownBy w4 none) := Lib.hid (grown_trans G0.out hg'); replace R0 := Lib.hid (R0.out.same hg'); replace HI := Lib.hid (HI.out.same hg')
  clear ho hq hg hg' hl1
  go_wp2_with fail
  refine (validP_any _ _ [0, 1] [1, 0] _ (R0.out.same (World.grownBy_alloc _ _ none)).1 (row_lit [1, 0] 2 2 (cs := #[.int .i64 1, .int .i64 0]) (e := 3) (f := (0, 0)) (heap_new _ rfl) rfl (by decide) (by decide) rfl (Nat.le_refl _)).1).mono ?_
  rintro e w5 ⟨rfl, rfl⟩
  rw [show validP [0, 1] [1, 0] = true by decide]
  have hg' := World.grownBy_alloc w4 (.cells #[.int .i64 1, .int .i64 0] 3) none
  replace G0 := Lib.hid (grown_trans G0.out hg'); replace R0 := Lib.hid (R0.out.same hg'); replace HI := Lib.hid (HI.out.same hg')
  clear hg'
  generalize w4.alloc (.cells #[.int .i64 1, .int .i64 0] 3) = w6 at *
  go_wp2_with fail
  refine (provesP_any _ _ _ _ [0, 1] [1] [0, 1] [1] _ (R0.out.same (grown_after (grown_after (grown_refl _ _)))).1 (row_lit [1] 1 1 (cs := #[.int .i64 1]) (e := 3) (f := (0, 0)) (heap_two _) rfl (by decide) (by decide) rfl (Nat.le_refl _)) (row_lit [0, 1] 2 2 (cs := #[.int .i64 0, .int .i64 1]) (e := 3) (f := (0, 0)) (heap_two' _) rfl (by decide) (by decide) rfl (Nat.le_refl _)) (HI.out.same (grown_after (grown_after (grown_refl _ _)))).1).mono ?_
  rintro e w7 ⟨rfl, hd⟩
  rw [prv01]
  have hg' := grown_trans (a := w6) (grown_after (grown_after (grown_refl _ _))) (hd.grown none)
  replace G0 : Hid (w.grownBy w7 none) := Lib.hid (grown_trans G0.out hg')
  clear hd hg'
  go_wp2_with fail
  go_ret
  exact ⟨rfl, G0.out⟩

end Go.Proofs.Ytaenkbcclgpphaa
