/- The law's text, with a bound on its ends of lines. -/
import Derived.Test.YthlollnpnangpaaDoorYk
import Derived.Test.YthlollnpnangpaaDoorYq
namespace Go.Proofs.YthlollnpnangpaaDoor
open Go.RowKit
set_option linter.unusedVariables false
theorem wide_len : ∀ s : Bs, (wideL s).length = s.length + 13 * s.count 10
  | [] => rfl
  | c :: s => by
    rw [wideL_cons, List.count_cons, List.length_cons]
    by_cases h : c = 10
    · rw [if_pos h, List.length_append, List.length_cons, wide_len s, h]
      simp [moreB]; omega
    · rw [if_neg h, List.length_cons, wide_len s]
      have : (c == 10) = false := by simpa using h
      rw [this]
      simp; omega
def TextT2 (n m : Nat) (w0 w : World) (p : Value) (d : Nat) (e : Ending) (w' : World) : Prop := ∃ s : Bs, e = .returned (strV s) ∧ (s.length ≤ n ∧ s.length + 13 * s.count 10 ≤ m) ∧ St w0 w' p d ∧ w.grownBy w' (some d)
set_option maxRecDepth 100000 in
set_option maxHeartbeats 1000000 in
theorem pick2_st {w0 w : World} {p : Value} {d b k m m2 : Nat} (h : St w0 w p d) (hk : 1 ≤ k) (hk2 : k ≤ 1000) (hb : b ≠ d) (hc : ∀ i, i < k → ∃ s : Bs, w.cell? ⟨b, i, none⟩ = some (strV s) ∧ s.length ≤ m ∧ s.length + 13 * s.count 10 ≤ m2) :
    Calls Tryd.prog 23 #[p, .slice (some ⟨b, 0, none⟩) k k] w (TextT2 m m2 w0 w p d) := by
  have H := Lib.hid h; have HC := Lib.hid hc
  clear h hc
  go_enter Tryd.func23, Tryd.ntmps23
  go_wp2_with fail
  refine (next_st H.out (k : Int) (by omega) (by omega)).mono ?_
  rintro e w1 ⟨y, rfl, y0, y1, hs, hg⟩
  obtain ⟨j, rfl⟩ : ∃ j : Nat, y = (j : Int) := ⟨y.toNat, by omega⟩
  obtain ⟨s, hs1, hs2⟩ := HC.out j (by omega)
  have c1 : w1.cell? ⟨b, 0 + j, none⟩ = some (strV s) := by rw [Nat.zero_add]; exact hg.cell hs1 (by simpa using hb)
  have c2 := c1
  rw [Nat.zero_add] at c2
  have HS := Lib.hid hs; have HG := Lib.hid hg; have HL := Lib.hid hs2
  clear hs hg hs2 hs1
  go_wp2_with fail
  go_ret
  exact ⟨s, rfl, HL.out, HS.out, HG.out⟩
theorem lit2_words (L : List Bs) (m m2 : Nat) (hm : ∀ s ∈ L, s.length ≤ m ∧ s.length + 13 * s.count 10 ≤ m2) (w : World) : ∀ i, i < L.length → ∃ s : Bs, (w.alloc (.cells (L.map strV).toArray 9)).cell? ⟨w.heap.size, i, none⟩ = some (strV s) ∧ s.length ≤ m ∧ s.length + 13 * s.count 10 ≤ m2 := fun i hi => by
  refine ⟨L[i], ?_, hm _ (List.getElem_mem hi)⟩
  unfold World.cell?
  dsimp only
  rw [heap_new _ rfl]
  simp [hi]
set_option maxRecDepth 100000 in
set_option maxHeartbeats 2000000 in
theorem text2_st {w0 w : World} {p : Value} {d : Nat} (h : St w0 w p d) : Calls Tryd.prog 11 #[p] w (TextT2 195 364 w0 w p d) := by
  have H := Lib.hid h
  clear h
  go_enter Tryd.func11, Tryd.ntmps11
  go_wp2_with fail
  refine (next_st H.out 14 (by omega) (by omega)).mono ?_
  rintro e w1 ⟨y, rfl, y0, y1, hs, hg⟩
  obtain ⟨n, rfl⟩ : ∃ n : Nat, y = (n : Int) := ⟨y.toNat, by omega⟩
  have hn : n ≤ 13 := by omega
  have HS := Lib.hid hs; have HG := Lib.hid hg
  clear hs hg y0 y1
  go_wp2_with fail
  go_loopw [4, 3] (fun i j wr => ∃ (k : Nat) (s : Bs), i = .int .i64 k ∧ j = strV s ∧ k ≤ n ∧ Hid (s.length + 15 * k ≤ 195 ∧ s.length + 13 * s.count 10 + 28 * k ≤ 364) ∧ Hid (St w0 wr p d ∧ w.grownBy wr (some d))) (fun i _ _ => (intOf i).toNat)
  case atStart => exact ⟨n, [], rfl, rfl, Nat.le_refl _, Lib.hid ⟨by simp; omega, by simp; omega⟩, Lib.hid ⟨HS.out, HG.out⟩⟩
  case round =>
    clear HS HG
    obtain ⟨k, s, rfl, rfl, hk, hl, hw⟩ := hrel
    cases k with
    | zero =>
      go_wp2_with fail
      go_ret
      exact ⟨s, rfl, ⟨by have := hl.out.1; omega, by have := hl.out.2; omega⟩, hw.out.1, hw.out.2⟩
    | succ k =>
      have h1 : (0 : Int) < (k : Int) + 1 := by omega
      have hdn := hw.out.1.lt
      have hnd : wr.heap.size ≠ d := by omega
      go_wp2_with fail
      have ga := World.grownBy_alloc wr (.cells (words13.map strV).toArray 9) none
      refine (pick2_st (m := 13) (m2 := 14) (hw.out.1.step ga) (by decide) (by decide) hnd (lit2_words words13 13 14 (by decide) wr)).mono ?_
      rintro e w2 ⟨s2, rfl, hl2, hs2, hg2⟩
      have hdn2 := hs2.lt
      have hnd2 : w2.heap.size ≠ d := by omega
      have G2 := Lib.hid (grown_trans (grown_trans hw.out.2 (grown_weak2 ga (some d))) hg2); have S2 := Lib.hid hs2; have HL2 := Lib.hid hl2
      have e1 : s.length + s2.length ≤ 9223372036854775807 := by have := hl.out.1; have := HL2.out.1; omega
      clear hs2 hg2 ga hl2 hdn hdn2
      go_wp2_with fail
      clear e1
      rw [str_app]
      have ga := World.grownBy_alloc w2 (.cells (words6.map strV).toArray 9) none
      refine (pick2_st (m := 2) (m2 := 14) (S2.out.step ga) (by decide) (by decide) hnd2 (lit2_words words6 2 14 (by decide) w2)).mono ?_
      rintro e w3 ⟨s3, rfl, hl3, hs3, hg3⟩
      have G3 := Lib.hid (grown_trans (grown_trans G2.out (grown_weak2 ga (some d))) hg3); have S3 := Lib.hid hs3; have HL3 := Lib.hid hl3
      have e1 : (s ++ s2).length + s3.length ≤ 9223372036854775807 := by have := hl.out.1; have := HL2.out.1; have := HL3.out.1; rw [List.length_append]; omega
      rw [List.length_append] at e1
      have h6 : ((k : Int) + 1 - 1) = (k : Int) := by omega
      clear hs3 hg3 ga hl3
      go_wp2_with fail
      rw [str_app]
      clear e1
      go_roundw
      case rel => exact ⟨k, s ++ s2 ++ s3, by first | rfl | go_num | (congr 1; omega), rfl, by omega, Lib.hid (by have h1 := hl.out; have h2 := HL2.out; have h3 := HL3.out; simp only [List.length_append, List.count_append]; omega), Lib.hid ⟨S3.out, G3.out⟩⟩
      case measure => simp [intOf] <;> omega
theorem mem_sum (f : Bs → Nat) : ∀ (a : List Bs) (l : Bs), l ∈ a → f l ≤ (a.map f).sum
  | [], l, h => by cases h
  | x :: a, l, h => by
    rw [List.map_cons, List.sum_cons]
    rcases List.mem_cons.1 h with rfl | h
    · omega
    · have := mem_sum f a l h; omega
theorem scan_kinds : ∀ (n : Int) (a : List Bs) (M : Nat) (ts : List Tk), (∀ l ∈ a, l.length ≤ M) → scanL n a = .ok ts → ∀ t ∈ ts, 1 ≤ t.1 ∧ t.1 ≤ 4 ∧ t.2.1.length ≤ M
  | n, [], M, ts, _, h => by simp [scanL] at h; subst h; simp
  | n, l :: a, M, ts, hM, h => by
    simp only [scanL] at h
    cases ht : toks (conL l) with
    | none => rw [ht] at h; cases h
    | some t0 =>
      rw [ht] at h
      dsimp only at h
      cases hs : scanL (n + 1) a with
      | error e => rw [hs] at h; cases h
      | ok q =>
        rw [hs] at h
        cases h
        intro t hm
        rcases List.mem_append.1 hm with hm | hm
        · unfold tagL at hm
          split at hm
          · cases hm
          · simp only [List.mem_append, List.mem_map, List.mem_singleton] at hm
            rcases hm with ⟨p, hp, rfl⟩ | rfl
            · have h1 := (toks_le _ _ _ (Nat.le_refl _) ht).2 p hp
              have h2 := conL_le l
              have h3 := Lib.trimSuffix_le l [10]
              have h4 := hM l (by simp)
              dsimp only
              omega
            · dsimp only
              simp
        · exact scan_kinds (n + 1) a M q (fun x hx => hM x (by simp [hx])) hs t hm
theorem line_le {s l : Bs} (h : l ∈ linesL s) : l.length ≤ s.length + 1 := by
  have h1 := mem_sum bulk _ l h
  have h2 := lines_bulk _ s (Nat.le_refl _)
  have h3 := bulk_ge l
  omega
theorem join_le : ∀ (ts : List Tk) (m : Nat) (g : Bool), (∀ t ∈ ts, t.2.1.length ≤ m) → (joinF g ts).length ≤ ts.length * (m + 1)
  | [], m, g, _ => by simp [joinF]
  | t :: ts, m, g, h => by
    have h1 := h t (by simp)
    have i1 := join_le ts m true (fun x hx => h x (by simp [hx]))
    have i2 := join_le ts m false (fun x hx => h x (by simp [hx]))
    rw [List.length_cons, Nat.succ_mul]
    unfold joinF
    split
    · rw [List.length_cons]; omega
    · rw [List.length_append, List.length_append]
      cases g <;> simp <;> omega
/-- What Join asks. -/
theorem join_ask {s : Bs} {ts : List Tk} (hs : s.length ≤ 195) (h : scanL 0 (linesL s) = .ok ts) : (joinL ts).length ≤ 38612 ∧ (∀ t ∈ ts, -9223372036854775808 ≤ t.1 ∧ t.1 ≤ 9223372036854775807) ∧ (∀ t ∈ ts, 1 ≤ t.1 ∧ t.1 ≤ 4 ∧ t.2.1.length ≤ 196) ∧ ts.length ≤ 196 := by
  have h1 := scan_kinds 0 _ 196 ts (fun l hl => by have := line_le hl; omega) h
  have h2 := scan_few (b := []) (List.append_nil _).symm h
  have h3 := join_le ts 196 true (fun t ht => (h1 t ht).2.2)
  have h4 : ts.length * 197 ≤ 196 * 197 := Nat.mul_le_mul_right _ (by omega)
  exact ⟨by unfold joinL; omega, fun t ht => by have := h1 t ht; omega, h1, by omega⟩
end Go.Proofs.YthlollnpnangpaaDoor
