/- Has at valid sets. -/
import Derived.Test.YtgdnlibklopdiaaTc
namespace Go.Proofs.Ytgdnlibklopdiaa
open Go.RowKit
set_option linter.unusedVariables false

def SolE (ps : List (List Int)) (x : List Int) : Prop := ∃ ks, Sol ps ks x
theorem Least.iff {ps : List (List Int)} {x : List Int} {r : Option (List Int)} (h : Least ps x r) : r.isSome = true ↔ SolE ps x := by
  cases r with
  | none => exact ⟨fun h => by simp at h, fun ⟨ks, hk⟩ => absurd hk (h ks)⟩
  | some ks => exact ⟨fun _ => ⟨ks, h.1⟩, fun _ => rfl⟩
/-- A Bool that a call returns, and what it says. -/
def SaysP (p : Prop) (w : World) (e : Ending) (w' : World) : Prop := ∃ B : Bool, e = .returned (.bool B) ∧ (B = true ↔ p) ∧ w.grownBy w' none

/-- A set with its value. -/
abbrev SetE := (Value × Value) × (List Int × List (List Int))
def SetOk (w : World) (n : Nat) (u : SetE) : Prop := LinV w (.agg #[u.1.1, u.1.2]) u.2.1 u.2.2 ∧ ValidS n u.2.1 u.2.2
theorem SetOk.same {w w' : World} {n : Nat} {u : SetE} (h : SetOk w n u) (g : w.grownBy w' none) : SetOk w' n u := ⟨h.1.same g, h.2⟩

set_option maxRecDepth 100000 in
set_option maxHeartbeats 1000000 in
theorem has1_any (n c : Nat) (u : SetE) (vv : Value) (v : List Int) (w : World) (h : SetOk w n u) (hc : w.cell? ⟨c, 0, none⟩ = some vv) (hr : RowOk w (vv, v)) (hvl : v.length = n) (hv64 : withB 64 v = true) :
    Calls Try.prog 75 #[.agg #[u.1.1, u.1.2], .pointer (some ⟨c, 0, none⟩)] w (SaysP (SolE u.2.2 (lessL v u.2.1)) w) := by
  obtain ⟨⟨x, y⟩, b, ps⟩ := u
  dsimp only at h ⊢
  have H := Lib.hid h; have HR := Lib.hid hr
  obtain ⟨⟨vb, vp, qs, he, ⟨⟨ab, cb, hvb, -, -, -⟩, -, -⟩, ⟨ap, cp, hvp, -, -, -⟩, -, -⟩, -⟩ := h
  simp only [Value.agg.injEq, Array.mk.injEq, List.cons.injEq, and_true] at he
  obtain ⟨rfl, rfl⟩ := he
  dsimp only at hvb
  subst hvb hvp
  obtain ⟨⟨av, cv, hvv, -, -, -⟩, -, -⟩ := hr
  dsimp only at hvv
  subst hvv
  have HL := Lib.hid hvl; have H64 := Lib.hid hv64
  clear hvl hv64
  go_enter Try.func75, Try.ntmps75
  have hc1 := (World.grownBy_alloc w (.cells #[.slice ab b.length cb, .slice ap qs.length cp] 49) none).cell hc (by simp)
  go_wp2_with fail
  have hg1 := World.grownBy_alloc w (.cells #[.slice ab b.length cb, .slice ap qs.length cp] 49) none
  refine (Times_any n _ _ b v ps _ ((H.out.same hg1).1) H.out.2 (HR.out.same hg1) HL.out H64.out).mono ?_
  rintro e w3 ⟨r, hlr, v3, rfl, -, hg3⟩
  have HI := Lib.hid hlr.iff
  have G3 := Lib.hid (grown_trans hg1 hg3)
  clear hlr hg1 hg3 hc1 hc
  generalize r.isSome = B at *
  go_wp2_with fail
  go_ret
  exact ⟨B, rfl, HI.out, G3.out⟩

def IdxE (p : Prop) (w : World) (e : Ending) (w' : World) : Prop := ∃ k : Int, e = .returned (.int .i64 k) ∧ (0 ≤ k ↔ p) ∧ w.grownBy w' none
def AnyS (us : List SetE) (v : List Int) : Prop := ∃ u ∈ us, SolE u.2.2 (lessL v u.2.1)

set_option maxRecDepth 100000 in
set_option maxHeartbeats 1000000 in
theorem indexL_any (n c b off cap : Nat) (us : List SetE) (vv : Value) (v : List Int) (w : World) (hcs : CellsS w b off (us.map Prod.fst)) (h : ∀ u ∈ us, SetOk w n u) (hus : us.length ≤ 8) (hc : w.cell? ⟨c, 0, none⟩ = some vv) (hr : RowOk w (vv, v)) (hvl : v.length = n) (hv64 : withB 64 v = true) :
    Calls Try.prog 96 #[.slice (some ⟨b, off, none⟩) us.length cap, .func (.func 75) #[] #[.pointer (some ⟨c, 0, none⟩)]] w (IdxE (AnyS us v) w) := by
  have H := Lib.hid h; have HR := Lib.hid hr; have HC := Lib.hid hc; have HL := Lib.hid hvl; have H64 := Lib.hid hv64; have HCS := Lib.hid hcs
  clear h hr hc hvl hv64 hcs
  go_enter Try.func96, Try.ntmps96
  go_wp2_with fail
  go_loopw [8] (fun i wr => ∃ k : Nat, i = .int .i64 k ∧ k ≤ us.length ∧ Hid (∀ j, (hj : j < us.length) → j < k → ¬ SolE us[j].2.2 (lessL v us[j].2.1)) ∧ Hid (w.grownBy wr none)) (fun i _ => us.length - (intOf i).toNat)
  case atStart => exact ⟨0, rfl, Nat.zero_le _, Lib.hid (by omega), Lib.hid (grown_refl _ _)⟩
  case round =>
    obtain ⟨k, rfl, hk, hn, hg⟩ := hrel
    rename World => wk
    by_cases hlt : k < us.length
    · have h1 : (k : Int) < (us.length : Int) := by omega
      obtain ⟨c1, c2⟩ := HCS.out.same hg.out k (by simpa using hlt)
      simp only [List.getElem_map] at c1 c2
      have HU := Lib.hid ((H.out _ (List.getElem_mem hlt)).same hg.out)
      have HUM : Hid (us[k] ∈ us) := Lib.hid (List.getElem_mem hlt)
      have HN : Hid (¬ SolE us[k].2.2 (lessL v us[k].2.1) → ∀ j, (hj : j < us.length) → j < k + 1 → ¬ SolE us[j].2.2 (lessL v us[j].2.1)) := Lib.hid (by
        intro hno j hj hjk
        by_cases he : j = k
        · subst he; exact hno
        · exact hn.out j hj (by omega))
      clear hn
      generalize us[k] = u at *
      obtain ⟨⟨x, y⟩, sb, sp⟩ := u
      dsimp only at c1 c2 HU HN
      obtain ⟨⟨vb, vp, qs, he, ⟨⟨ab, cb, hvb, -, -, -⟩, -, -⟩, ⟨ap, cp, hvp, -, -, -⟩, -, -⟩, -⟩ := HU.out
      simp only [Value.agg.injEq, Array.mk.injEq, List.cons.injEq, and_true] at he
      obtain ⟨rfl, rfl⟩ := he
      dsimp only at hvb
      subst hvb hvp
      go_wp2_with fail
      refine (has1_any n c ((.slice ab sb.length cb, .slice ap qs.length cp), (sb, sp)) vv v _ HU.out (hg.out.cell HC.out (by simp)) (HR.out.same hg.out) HL.out H64.out).mono ?_
      rintro e w3 ⟨B, rfl, hB, hg3⟩
      have HB := Lib.hid hB; have G3 := Lib.hid (grown_trans hg.out hg3)
      clear hB hg3 c1 c2
      cases B with
      | false =>
        go_wp2_with fail
        go_roundw
        case rel => exact ⟨k + 1, by go_num, by omega, Lib.hid (HN.out (fun h => by have := HB.out.2 h; simp at this)), G3⟩
        case measure => simp [intOf]; omega
      | true =>
        go_wp2_with fail
        go_ret
        exact ⟨k, rfl, ⟨fun _ => ⟨_, HUM.out, HB.out.1 (by simp)⟩, fun _ => by omega⟩, G3.out⟩
    · have h1 : ¬ (k : Int) < (us.length : Int) := by omega
      go_wp2_with fail
      go_ret
      exact ⟨-1, rfl, ⟨fun h => absurd h (by omega), fun ⟨u, hu, hs⟩ => by
        obtain ⟨j, hj, rfl⟩ := List.getElem_of_mem hu
        exact absurd hs (hn.out j hj (by omega))⟩, hg.out⟩

theorem containsL_any (n c b off cap : Nat) (us : List SetE) (vv : Value) (v : List Int) (w : World) (hcs : CellsS w b off (us.map Prod.fst)) (h : ∀ u ∈ us, SetOk w n u) (hus : us.length ≤ 8) (hc : w.cell? ⟨c, 0, none⟩ = some vv) (hr : RowOk w (vv, v)) (hvl : v.length = n) (hv64 : withB 64 v = true) :
    Calls Try.prog 74 #[.slice (some ⟨b, off, none⟩) us.length cap, .func (.func 75) #[] #[.pointer (some ⟨c, 0, none⟩)]] w (SaysP (AnyS us v) w) := by
  have H := Lib.hid (indexL_any n c b off cap us vv v w hcs h hus hc hr hvl hv64)
  clear h hr hc hvl hv64 hcs
  go_enter Try.func74, Try.ntmps74
  go_wp2_with fail
  refine H.out.mono ?_
  rintro e w3 ⟨k, rfl, hk, hg⟩
  have HK := Lib.hid hk; have HG := Lib.hid hg
  clear hk hg H
  go_wp2_with fail
  go_ret
  exact ⟨decide (0 ≤ k), rfl, by simpa using HK.out, HG.out⟩

set_option maxRecDepth 100000 in
set_option maxHeartbeats 1000000 in
theorem has_any (n b off cap : Nat) (us : List SetE) (vv : Value) (v : List Int) (w : World) (hn1 : 1 ≤ n) (hn4 : n ≤ 4) (hcs : CellsS w b off (us.map Prod.fst)) (h : ∀ u ∈ us, SetOk w n u) (hus : us.length ≤ 8) (hr : RowOk w (vv, v)) (hvl : v.length = n) (hv64 : withB 64 v = true) :
    Calls Try.prog 44 #[.int .i64 (n : Int), .slice (some ⟨b, off, none⟩) us.length cap, vv] w (SaysP (AnyS us v) w) := by
  have H := Lib.hid h; have HR := Lib.hid hr; have HL := Lib.hid hvl; have H64 := Lib.hid hv64; have HCS := Lib.hid hcs
  obtain ⟨⟨av, cv, hvv, -, -, -⟩, -, -⟩ := hr
  dsimp only at hvv
  subst hvv
  clear h hvl hv64 hcs
  go_enter Try.func44, Try.ntmps44
  have hbx : (w.alloc (.cells #[.slice av v.length cv] 22)).cell? ⟨w.heap.size, 0, none⟩ = some (.slice av v.length cv) := by simp
  have HG1 := Lib.hid (World.grownBy_alloc w (.cells #[.slice av v.length cv] 22) none)
  have HBX := Lib.hid hbx
  clear hbx
  go_wp2_with fail
  have hck := check_any n hn1 hn4 (us.map Prod.fst) b off cap _ (HCS.out.same HG1.out) (by intro u hu; obtain ⟨e, he, rfl⟩ := List.mem_map.1 hu; exact ⟨_, _, ((H.out e he).same HG1.out).1, (H.out e he).2⟩) (by simpa using hus)
  rw [List.length_map] at hck
  refine hck.mono ?_
  rintro e w2 ⟨rfl, hg2⟩
  have G2 := Lib.hid (grown_trans HG1.out hg2)
  have C2 := Lib.hid (hg2.cell HBX.out (by simp))
  clear hg2 hck
  go_wp2_with fail
  refine (containsL_any n w.heap.size b off cap us _ v _ (HCS.out.same G2.out) (fun u hu => (H.out u hu).same G2.out) hus C2.out (HR.out.same G2.out) HL.out H64.out).mono ?_
  rintro e w3 ⟨B, rfl, hB, hg3⟩
  have HB := Lib.hid hB; have G3 := Lib.hid (grown_trans G2.out hg3)
  clear hB hg3
  go_wp2_with fail
  go_ret
  exact ⟨B, rfl, HB.out, G3.out⟩

end Go.Proofs.Ytgdnlibklopdiaa
