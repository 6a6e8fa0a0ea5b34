/- The deck's texts. -/
import Derived.Test.YthlollnpnangpaaDoorYd
namespace Go.Proofs.YthlollnpnangpaaDoor
open Go.RowKit
set_option linter.unusedVariables false
theorem grown_weak2 {a b : World} (g : a.grownBy b none) (row : Option Nat) : a.grownBy b row := ⟨g.os, g.tape, g.output, g.size, fun i hi _ => g.block i hi (by simp)⟩
theorem str_app (a b : Bs) : (⟨a.toArray⟩ ++ ⟨b.toArray⟩ : ByteArray) = ⟨(a ++ b).toArray⟩ := by
  ext1
  simp
def TextTo (n : Nat) (w0 w : World) (p : Value) (d : Nat) (e : Ending) (w' : World) : Prop := ∃ s : Bs, e = .returned (strV s) ∧ s.length ≤ n ∧ St w0 w' p d ∧ w.grownBy w' (some d)
set_option maxRecDepth 100000 in
set_option maxHeartbeats 1000000 in
theorem pick_st {w0 w : World} {p : Value} {d b k m : Nat} (h : St w0 w p d) (hk : 1 ≤ k) (hk2 : k ≤ 1000) (hb : b ≠ d) (hc : ∀ i, i < k → ∃ s : Bs, w.cell? ⟨b, i, none⟩ = some (strV s) ∧ s.length ≤ m) :
    Calls Tryd.prog 23 #[p, .slice (some ⟨b, 0, none⟩) k k] w (TextTo m w0 w p d) := by
  have H := Lib.hid h; have HC := Lib.hid hc
  clear h hc
  go_enter Tryd.func23, Tryd.ntmps23
  go_wp2_with fail
  refine (next_st H.out (k : Int) (by omega) (by omega)).mono ?_
  rintro e w1 ⟨y, rfl, y0, y1, hs, hg⟩
  obtain ⟨j, rfl⟩ : ∃ j : Nat, y = (j : Int) := ⟨y.toNat, by omega⟩
  obtain ⟨s, hs1, hs2⟩ := HC.out j (by omega)
  have c1 : w1.cell? ⟨b, 0 + j, none⟩ = some (strV s) := by rw [Nat.zero_add]; exact hg.cell hs1 (by simpa using hb)
  have c2 := c1
  rw [Nat.zero_add] at c2
  have HS := Lib.hid hs; have HG := Lib.hid hg; have HL := Lib.hid hs2
  clear hs hg hs2 hs1
  go_wp2_with fail
  go_ret
  exact ⟨s, rfl, HL.out, HS.out, HG.out⟩
def words13 : List Bs := [[97, 98, 99], [120, 95, 49], [48], [49, 50], [45, 62], [43], [58], [40], [41], [35, 99, 32, 100], [10], [10], [108, 111, 110, 103, 101, 114, 95, 110, 97, 109, 101, 49, 50]]
def words6 : List Bs := [[32], [32], [32, 32], [9], [10], []]
theorem lit_words (L : List Bs) (m : Nat) (hm : ∀ s ∈ L, s.length ≤ m) (w : World) : ∀ i, i < L.length → ∃ s : Bs, (w.alloc (.cells (L.map strV).toArray 9)).cell? ⟨w.heap.size, i, none⟩ = some (strV s) ∧ s.length ≤ m := fun i hi => by
  refine ⟨L[i], ?_, hm _ (List.getElem_mem hi)⟩
  unfold World.cell?
  dsimp only
  rw [heap_new _ rfl]
  simp [hi]
set_option maxRecDepth 100000 in
set_option maxHeartbeats 2000000 in
theorem text_st {w0 w : World} {p : Value} {d : Nat} (h : St w0 w p d) : Calls Tryd.prog 11 #[p] w (TextTo 195 w0 w p d) := by
  have H := Lib.hid h
  clear h
  go_enter Tryd.func11, Tryd.ntmps11
  go_wp2_with fail
  refine (next_st H.out 14 (by omega) (by omega)).mono ?_
  rintro e w1 ⟨y, rfl, y0, y1, hs, hg⟩
  obtain ⟨n, rfl⟩ : ∃ n : Nat, y = (n : Int) := ⟨y.toNat, by omega⟩
  have hn : n ≤ 13 := by omega
  have HS := Lib.hid hs; have HG := Lib.hid hg
  clear hs hg y0 y1
  go_wp2_with fail
  go_loopw [4, 3] (fun i j wr => ∃ (k : Nat) (s : Bs), i = .int .i64 k ∧ j = strV s ∧ k ≤ n ∧ Hid (s.length + 15 * k ≤ 195) ∧ Hid (St w0 wr p d ∧ w.grownBy wr (some d))) (fun i _ _ => (intOf i).toNat)
  case atStart => exact ⟨n, [], rfl, rfl, Nat.le_refl _, Lib.hid (by simp; omega), Lib.hid ⟨HS.out, HG.out⟩⟩
  case round =>
    clear HS HG
    obtain ⟨k, s, rfl, rfl, hk, hl, hw⟩ := hrel
    cases k with
    | zero =>
      go_wp2_with fail
      go_ret
      exact ⟨s, rfl, by have := hl.out; omega, hw.out.1, hw.out.2⟩
    | succ k =>
      have h1 : (0 : Int) < (k : Int) + 1 := by omega
      have hdn := hw.out.1.lt
      have hnd : wr.heap.size ≠ d := by omega
      go_wp2_with fail
      have ga := World.grownBy_alloc wr (.cells (words13.map strV).toArray 9) none
      refine (pick_st (m := 13) (hw.out.1.step ga) (by decide) (by decide) hnd (lit_words words13 13 (by decide) wr)).mono ?_
      rintro e w2 ⟨s2, rfl, hl2, hs2, hg2⟩
      have hdn2 := hs2.lt
      have hnd2 : w2.heap.size ≠ d := by omega
      have G2 := Lib.hid (grown_trans (grown_trans hw.out.2 (grown_weak2 ga (some d))) hg2); have S2 := Lib.hid hs2; have HL2 := Lib.hid hl2
      have e1 : s.length + s2.length ≤ 9223372036854775807 := by have := hl.out; omega
      clear hs2 hg2 ga hl2 hdn hdn2
      go_wp2_with fail
      clear e1
      rw [str_app]
      have ga := World.grownBy_alloc w2 (.cells (words6.map strV).toArray 9) none
      refine (pick_st (m := 2) (S2.out.step ga) (by decide) (by decide) hnd2 (lit_words words6 2 (by decide) w2)).mono ?_
      rintro e w3 ⟨s3, rfl, hl3, hs3, hg3⟩
      have G3 := Lib.hid (grown_trans (grown_trans G2.out (grown_weak2 ga (some d))) hg3); have S3 := Lib.hid hs3; have HL3 := Lib.hid hl3
      have e1 : (s ++ s2).length + s3.length ≤ 9223372036854775807 := by have := hl.out; have := HL2.out; rw [List.length_append]; omega
      rw [List.length_append] at e1
      have h6 : ((k : Int) + 1 - 1) = (k : Int) := by omega
      clear hs3 hg3 ga hl3
      go_wp2_with fail
      rw [str_app]
      clear e1
      go_roundw
      case rel => exact ⟨k, s ++ s2 ++ s3, by first | rfl | go_num | (congr 1; omega), rfl, by omega, Lib.hid (by have := hl.out; have := HL2.out; have := HL3.out; simp only [List.length_append]; omega), Lib.hid ⟨S3.out, G3.out⟩⟩
      case measure => simp [intOf] <;> omega
end Go.Proofs.YthlollnpnangpaaDoor
