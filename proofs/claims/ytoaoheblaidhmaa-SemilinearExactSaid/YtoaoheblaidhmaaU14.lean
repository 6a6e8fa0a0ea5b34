/- Texts Td, Vj in one. -/
import Derived.Test.YtoaoheblaidhmaaU12
import Derived.Test.YtoaoheblaidhmaaU13
namespace Go.Proofs.Ytoaoheblaidhmaa
open Go.RowKit
set_option linter.unusedVariables false

def SolE (ps : List (List Int)) (x : List Int) : Prop := ∃ ks, Sol ps ks x
theorem Least.iff {ps : List (List Int)} {x : List Int} {r : Option (List Int)} (h : Least ps x r) : r.isSome = true ↔ SolE ps x := by
  cases r with
  | none => exact ⟨fun h => by simp at h, fun ⟨ks, hk⟩ => absurd hk (h ks)⟩
  | some ks => exact ⟨fun _ => ⟨ks, h.1⟩, fun _ => rfl⟩
/-- A Bool that a call returns, and what it says. -/
def SaysP (p : Prop) (w : World) (e : Ending) (w' : World) : Prop := ∃ B : Bool, e = .returned (.bool B) ∧ (B = true ↔ p) ∧ w.grownBy w' none

/-- A set with its value. -/
abbrev SetE := (Value × Value) × (List Int × List (List Int))
def SetOk (w : World) (n : Nat) (u : SetE) : Prop := LinV w (.agg #[u.1.1, u.1.2]) u.2.1 u.2.2 ∧ ValidS n u.2.1 u.2.2
theorem SetOk.same {w w' : World} {n : Nat} {u : SetE} (h : SetOk w n u) (g : w.grownBy w' none) : SetOk w' n u := ⟨h.1.same g, h.2⟩

set_option maxRecDepth 100000 in
set_option maxHeartbeats 1000000 in
theorem has1_any (n c : Nat) (u : SetE) (vv : Value) (v : List Int) (w : World) (h : SetOk w n u) (hc : w.cell? ⟨c, 0, none⟩ = some vv) (hr : RowOk w (vv, v)) (hvl : v.length = n) (hv64 : withB 64 v = true) :
    Calls Try.prog 46 #[.agg #[u.1.1, u.1.2], .pointer (some ⟨c, 0, none⟩)] w (SaysP (SolE u.2.2 (lessL v u.2.1)) w) := by
  obtain ⟨⟨x, y⟩, b, ps⟩ := u
  dsimp only at h ⊢
  have H := Lib.hid h; have HR := Lib.hid hr
  obtain ⟨⟨vb, vp, qs, he, ⟨⟨ab, cb, hvb, -, -, -⟩, -, -⟩, ⟨ap, cp, hvp, -, -, -⟩, -, -⟩, -⟩ := h
  simp only [Value.agg.injEq, Array.mk.injEq, List.cons.injEq, and_true] at he
  obtain ⟨rfl, rfl⟩ := he
  dsimp only at hvb
  subst hvb hvp
  obtain ⟨⟨av, cv, hvv, -, -, -⟩, -, -⟩ := hr
  dsimp only at hvv
  subst hvv
  have HL := Lib.hid hvl; have H64 := Lib.hid hv64
  clear hvl hv64
  go_enter Try.func46, Try.ntmps46
  have hc1 := (World.grownBy_alloc w (.cells #[.slice ab b.length cb, .slice ap qs.length cp] 26) none).cell hc (by simp)
  go_wp2_with fail
  have hg1 := World.grownBy_alloc w (.cells #[.slice ab b.length cb, .slice ap qs.length cp] 26) none
  refine (Times_any n _ _ b v ps _ ((H.out.same hg1).1) H.out.2 (HR.out.same hg1) HL.out H64.out).mono ?_
  rintro e w3 ⟨r, hlr, v3, rfl, -, hg3⟩
  have HI := Lib.hid hlr.iff
  have G3 := Lib.hid (grown_trans hg1 hg3)
  clear hlr hg1 hg3 hc1 hc
  generalize r.isSome = B at *
  go_wp2_with fail
  go_ret
  exact ⟨B, rfl, HI.out, G3.out⟩

def IdxE (p : Prop) (w : World) (e : Ending) (w' : World) : Prop := ∃ k : Int, e = .returned (.int .i64 k) ∧ (0 ≤ k ↔ p) ∧ w.grownBy w' none
def AnyS (us : List SetE) (v : List Int) : Prop := ∃ u ∈ us, SolE u.2.2 (lessL v u.2.1)

set_option maxRecDepth 100000 in
set_option maxHeartbeats 1000000 in
theorem indexL_any (n c b off cap : Nat) (us : List SetE) (vv : Value) (v : List Int) (w : World) (hcs : CellsS w b off (us.map Prod.fst)) (h : ∀ u ∈ us, SetOk w n u) (hus : us.length ≤ 8) (hc : w.cell? ⟨c, 0, none⟩ = some vv) (hr : RowOk w (vv, v)) (hvl : v.length = n) (hv64 : withB 64 v = true) :
    Calls Try.prog 65 #[.slice (some ⟨b, off, none⟩) us.length cap, .func (.func 46) #[] #[.pointer (some ⟨c, 0, none⟩)]] w (IdxE (AnyS us v) w) := by
  have H := Lib.hid h; have HR := Lib.hid hr; have HC := Lib.hid hc; have HL := Lib.hid hvl; have H64 := Lib.hid hv64; have HCS := Lib.hid hcs
  clear h hr hc hvl hv64 hcs
  go_enter Try.func65, Try.ntmps65
  go_wp2_with fail
  go_loopw [8] (fun i wr => ∃ k : Nat, i = .int .i64 k ∧ k ≤ us.length ∧ Hid (∀ j, (hj : j < us.length) → j < k → ¬ SolE us[j].2.2 (lessL v us[j].2.1)) ∧ Hid (w.grownBy wr none)) (fun i _ => us.length - (intOf i).toNat)
  case atStart => exact ⟨0, rfl, Nat.zero_le _, Lib.hid (by omega), Lib.hid (grown_refl _ _)⟩
  case round =>
    obtain ⟨k, rfl, hk, hn, hg⟩ := hrel
    rename World => wk
    by_cases hlt : k < us.length
    · have h1 : (k : Int) < (us.length : Int) := by omega
      obtain ⟨c1, c2⟩ := HCS.out.same hg.out k (by simpa using hlt)
      simp only [List.getElem_map] at c1 c2
      have HU := Lib.hid ((H.out _ (List.getElem_mem hlt)).same hg.out)
      have HUM : Hid (us[k] ∈ us) := Lib.hid (List.getElem_mem hlt)
      have HN : Hid (¬ SolE us[k].2.2 (lessL v us[k].2.1) → ∀ j, (hj : j < us.length) → j < k + 1 → ¬ SolE us[j].2.2 (lessL v us[j].2.1)) := Lib.hid (by
        intro hno j hj hjk
        by_cases he : j = k
        · subst he; exact hno
        · exact hn.out j hj (by omega))
      clear hn
      generalize us[k] = u at *
      obtain ⟨⟨x, y⟩, sb, sp⟩ := u
      dsimp only at c1 c2 HU HN
      obtain ⟨⟨vb, vp, qs, he, ⟨⟨ab, cb, hvb, -, -, -⟩, -, -⟩, ⟨ap, cp, hvp, -, -, -⟩, -, -⟩, -⟩ := HU.out
      simp only [Value.agg.injEq, Array.mk.injEq, List.cons.injEq, and_true] at he
      obtain ⟨rfl, rfl⟩ := he
      dsimp only at hvb
      subst hvb hvp
      go_wp2_with fail
      refine (has1_any n c ((.slice ab sb.length cb, .slice ap qs.length cp), (sb, sp)) vv v _ HU.out (hg.out.cell HC.out (by simp)) (HR.out.same hg.out) HL.out H64.out).mono ?_
      rintro e w3 ⟨B, rfl, hB, hg3⟩
      have HB := Lib.hid hB; have G3 := Lib.hid (grown_trans hg.out hg3)
      clear hB hg3 c1 c2
      cases B with
      | false =>
        go_wp2_with fail
        go_roundw
        case rel => exact ⟨k + 1, by go_num, by omega, Lib.hid (HN.out (fun h => by have := HB.out.2 h; simp at this)), G3⟩
        case measure => simp [intOf]; omega
      | true =>
        go_wp2_with fail
        go_ret
        exact ⟨k, rfl, ⟨fun _ => ⟨_, HUM.out, HB.out.1 (by simp)⟩, fun _ => by omega⟩, G3.out⟩
    · have h1 : ¬ (k : Int) < (us.length : Int) := by omega
      go_wp2_with fail
      go_ret
      exact ⟨-1, rfl, ⟨fun h => absurd h (by omega), fun ⟨u, hu, hs⟩ => by
        obtain ⟨j, hj, rfl⟩ := List.getElem_of_mem hu
        exact absurd hs (hn.out j hj (by omega))⟩, hg.out⟩

theorem containsL_any (n c b off cap : Nat) (us : List SetE) (vv : Value) (v : List Int) (w : World) (hcs : CellsS w b off (us.map Prod.fst)) (h : ∀ u ∈ us, SetOk w n u) (hus : us.length ≤ 8) (hc : w.cell? ⟨c, 0, none⟩ = some vv) (hr : RowOk w (vv, v)) (hvl : v.length = n) (hv64 : withB 64 v = true) :
    Calls Try.prog 45 #[.slice (some ⟨b, off, none⟩) us.length cap, .func (.func 46) #[] #[.pointer (some ⟨c, 0, none⟩)]] w (SaysP (AnyS us v) w) := by
  have H := Lib.hid (indexL_any n c b off cap us vv v w hcs h hus hc hr hvl hv64)
  clear h hr hc hvl hv64 hcs
  go_enter Try.func45, Try.ntmps45
  go_wp2_with fail
  refine H.out.mono ?_
  rintro e w3 ⟨k, rfl, hk, hg⟩
  have HK := Lib.hid hk; have HG := Lib.hid hg
  clear hk hg H
  go_wp2_with fail
  go_ret
  exact ⟨decide (0 ≤ k), rfl, by simpa using HK.out, HG.out⟩

set_option maxRecDepth 100000 in
set_option maxHeartbeats 1000000 in
theorem has_any (n b off cap : Nat) (us : List SetE) (vv : Value) (v : List Int) (w : World) (hn1 : 1 ≤ n) (hn4 : n ≤ 4) (hcs : CellsS w b off (us.map Prod.fst)) (h : ∀ u ∈ us, SetOk w n u) (hus : us.length ≤ 8) (hr : RowOk w (vv, v)) (hvl : v.length = n) (hv64 : withB 64 v = true) :
    Calls Try.prog 22 #[.int .i64 (n : Int), .slice (some ⟨b, off, none⟩) us.length cap, vv] w (SaysP (AnyS us v) w) := by
  have H := Lib.hid h; have HR := Lib.hid hr; have HL := Lib.hid hvl; have H64 := Lib.hid hv64; have HCS := Lib.hid hcs
  obtain ⟨⟨av, cv, hvv, -, -, -⟩, -, -⟩ := hr
  dsimp only at hvv
  subst hvv
  clear h hvl hv64 hcs
  go_enter Try.func22, Try.ntmps22
  have hbx : (w.alloc (.cells #[.slice av v.length cv] 22)).cell? ⟨w.heap.size, 0, none⟩ = some (.slice av v.length cv) := by simp
  have HG1 := Lib.hid (World.grownBy_alloc w (.cells #[.slice av v.length cv] 22) none)
  have HBX := Lib.hid hbx
  clear hbx
  go_wp2_with fail
  have hck := check_any n hn1 hn4 (us.map Prod.fst) b off cap _ (HCS.out.same HG1.out) (by intro u hu; obtain ⟨e, he, rfl⟩ := List.mem_map.1 hu; exact ⟨_, _, ((H.out e he).same HG1.out).1, (H.out e he).2⟩) (by simpa using hus)
  rw [List.length_map] at hck
  refine hck.mono ?_
  rintro e w2 ⟨rfl, hg2⟩
  have G2 := Lib.hid (grown_trans HG1.out hg2)
  have C2 := Lib.hid (hg2.cell HBX.out (by simp))
  clear hg2 hck
  go_wp2_with fail
  refine (containsL_any n w.heap.size b off cap us _ v _ (HCS.out.same G2.out) (fun u hu => (H.out u hu).same G2.out) hus C2.out (HR.out.same G2.out) HL.out H64.out).mono ?_
  rintro e w3 ⟨B, rfl, hB, hg3⟩
  have HB := Lib.hid hB; have G3 := Lib.hid (grown_trans G2.out hg3)
  clear hB hg3
  go_wp2_with fail
  go_ret
  exact ⟨B, rfl, HB.out, G3.out⟩

end Go.Proofs.Ytoaoheblaidhmaa

namespace Go.Proofs.Ytoaoheblaidhmaa
open Go.RowKit
set_option linter.unusedVariables false

open Classical in
/-- What Times answers. -/
noncomputable def timesO (b v : List Int) (qs : List Row) : Option (List Int) := if h : qs.length ≤ 20 then Classical.choose (times_u b v qs h) else none
section
variable {b v : List Int} {qs : List Row} {sv vv : Value} {w : World}
theorem times_p (hq : qs.length ≤ 20) (h : LinX w sv b qs) (hr : RowOk w (vv, v)) : Calls Try.prog 17 #[sv, vv] w (GivesO (timesO b v qs) w) := by
  unfold timesO; rw [dif_pos hq]
  exact (Classical.choose_spec (times_u b v qs hq)).1 w sv vv h hr
theorem times_r (hq : qs.length ≤ 20) (h : LinX w sv b qs) (hr : RowOk w (vv, v)) : Calls Try.prog 18 #[sv, vv] w (GivesO (timesO b v qs) w) := by
  unfold timesO; rw [dif_pos hq]
  exact (Classical.choose_spec (times_u b v qs hq)).2.1 w sv vv h hr
theorem times_good (h : (timesO b v qs).isSome = true) : ValidX b qs ∧ v.length = b.length ∧ withB 64 v = true := by
  unfold timesO at h
  by_cases hq : qs.length ≤ 20
  · rw [dif_pos hq] at h
    rcases (Classical.choose_spec (times_u b v qs hq)).2.2.1 with e | e
    · rw [e] at h; cases h
    · exact e
  · rw [dif_neg hq] at h; cases h
end
def HasP (us : List SetR) (v : List Int) : Prop := ∃ u ∈ us, (timesO u.2.1 v u.2.2).isSome = true
set_option maxRecDepth 100000 in
set_option maxHeartbeats 1000000 in
theorem has1_is (c : Nat) (u : SetR) (vv : Value) (v : List Int) (w : World) (h : LinX w (.agg #[u.1.1, u.1.2]) u.2.1 u.2.2) (hq : u.2.2.length ≤ 20) (hc : w.cell? ⟨c, 0, none⟩ = some vv) (hr : RowOk w (vv, v)) :
    Calls Try.prog 46 #[.agg #[u.1.1, u.1.2], .pointer (some ⟨c, 0, none⟩)] w fun e w' => e = .returned (.bool (timesO u.2.1 v u.2.2).isSome) ∧ w.grownBy w' none := by
  obtain ⟨⟨x, y⟩, b, qs⟩ := u
  dsimp only at h hq ⊢
  have H := Lib.hid h; have HR := Lib.hid hr
  obtain ⟨vb, vp, he, ⟨⟨ab, cb, hvb, -⟩, -, -⟩, ⟨ap, cp, hvp, -⟩, -⟩ := h
  simp only [Value.agg.injEq, Array.mk.injEq, List.cons.injEq, and_true] at he
  obtain ⟨rfl, rfl⟩ := he
  dsimp only at hvb
  subst hvb hvp
  obtain ⟨⟨av, cv, hvv, -, -, -⟩, -, -⟩ := hr
  dsimp only at hvv
  subst hvv
  have hg1 := World.grownBy_alloc w (.cells #[.slice ab b.length cb, .slice ap qs.length cp] 26) none
  have HT := Lib.hid (times_p (v := v) (vv := .slice av v.length cv) hq (H.out.same hg1) (HR.out.same hg1))
  have HG1 := Lib.hid hg1
  have hc1 := hg1.cell hc (by simp)
  clear hg1 hc hq
  go_enter Try.func46, Try.ntmps46
  go_wp2_with fail
  refine HT.out.mono ?_
  rintro e w3 ⟨v3, rfl, -, hg3⟩
  have G3 := Lib.hid (grown_trans HG1.out hg3)
  clear hg3 hc1
  obtain ⟨B, hB⟩ : ∃ B, (timesO b v qs).isSome = B := ⟨_, rfl⟩
  rw [hB]
  have HB := Lib.hid hB
  clear hB
  go_wp2_with fail
  go_ret
  exact ⟨ret_bool HB.out.symm, G3.out⟩
set_option maxRecDepth 100000 in
set_option maxHeartbeats 1000000 in
theorem indexL_is (c : Nat) (sv : Value) (us : List SetR) (vv : Value) (v : List Int) (w : World) (h : SetsX w sv us) (hc : w.cell? ⟨c, 0, none⟩ = some vv) (hr : RowOk w (vv, v)) :
    Calls Try.prog 65 #[sv, .func (.func 46) #[] #[.pointer (some ⟨c, 0, none⟩)]] w (IdxE (HasP us v) w) := by
  have H := Lib.hid h; have HR := Lib.hid hr; have HC := Lib.hid hc
  obtain ⟨a, cap, rfl, hl20, -⟩ := h
  clear hr hc
  go_enter Try.func65, Try.ntmps65
  go_wp2_with fail
  go_loopw [8] (fun i wr => ∃ k : Nat, i = .int .i64 k ∧ k ≤ us.length ∧ Hid (∀ j, (hj : j < us.length) → j < k → (timesO us[j].2.1 v us[j].2.2).isSome = false) ∧ Hid (w.grownBy wr none)) (fun i _ => us.length - (intOf i).toNat)
  case atStart => exact ⟨0, rfl, Nat.zero_le _, Lib.hid (by omega), Lib.hid (grown_refl _ _)⟩
  case round =>
    obtain ⟨k, rfl, hk, hn, hg⟩ := hrel
    rename World => wk
    by_cases hlt : k < us.length
    · have h1 : (k : Int) < (us.length : Int) := by omega
      obtain ⟨b, off, rfl, c1, c2, hS, h20⟩ := (H.out.same hg.out).at hlt
      have HU := Lib.hid hS; have H20 := Lib.hid h20
      have HUM : Hid (us[k] ∈ us) := Lib.hid (List.getElem_mem hlt)
      have HN : Hid ((timesO us[k].2.1 v us[k].2.2).isSome = false → ∀ j, (hj : j < us.length) → j < k + 1 → (timesO us[j].2.1 v us[j].2.2).isSome = false) := Lib.hid (by
        intro hno j hj hjk
        by_cases he : j = k
        · subst he; exact hno
        · exact hn.out j hj (by omega))
      clear hn hS h20
      generalize us[k] = u at *
      obtain ⟨vb, vp, he, ⟨⟨ab, cb, hvb, -⟩, -, -⟩, ⟨ap, cp, hvp, -⟩, -⟩ := id HU.out
      simp only [Value.agg.injEq, Array.mk.injEq, List.cons.injEq, and_true] at he
      obtain ⟨e1, e2⟩ := he
      dsimp only at hvb
      rw [← e1] at hvb
      rw [← e2] at hvp
      have HT := Lib.hid (has1_is c u vv v _ HU.out H20.out (hg.out.cell HC.out (by simp)) (HR.out.same hg.out))
      rw [hvb, hvp] at HT
      rw [hvb] at c1
      rw [hvp] at c2
      clear e1 e2 hvb hvp
      go_wp2_with fail
      refine HT.out.mono ?_
      rintro e w3 ⟨rfl, hg3⟩
      have G3 := Lib.hid (grown_trans hg.out hg3)
      clear hg3 c1 c2
      cases hB : (timesO u.2.1 v u.2.2).isSome with
      | false =>
        have HN2 := Lib.hid (HN.out hB)
        clear hB
        go_wp2_with fail
        go_roundw
        case rel => exact ⟨k + 1, by go_num, by omega, HN2, G3⟩
        case measure => simp [intOf]; omega
      | true =>
        have HB := Lib.hid hB
        clear hB
        go_wp2_with fail
        go_ret
        exact ⟨k, rfl, ⟨fun _ => ⟨_, HUM.out, HB.out⟩, fun _ => by omega⟩, G3.out⟩
    · have h1 : ¬ (k : Int) < (us.length : Int) := by omega
      go_wp2_with fail
      go_ret
      exact ⟨-1, rfl, ⟨fun h => absurd h (by omega), fun ⟨u, hu, hs⟩ => by
        obtain ⟨j, hj, rfl⟩ := List.getElem_of_mem hu
        rw [hn.out j hj (by omega)] at hs
        cases hs⟩, hg.out⟩
theorem containsL_is (c : Nat) (sv : Value) (us : List SetR) (vv : Value) (v : List Int) (w : World) (h : SetsX w sv us) (hc : w.cell? ⟨c, 0, none⟩ = some vv) (hr : RowOk w (vv, v)) :
    Calls Try.prog 45 #[sv, .func (.func 46) #[] #[.pointer (some ⟨c, 0, none⟩)]] w (SaysP (HasP us v) w) := by
  have H := Lib.hid (indexL_is c sv us vv v w h hc hr)
  obtain ⟨a, cap, rfl, hl20, -⟩ := h
  clear hr hc
  go_enter Try.func45, Try.ntmps45
  go_wp2_with fail
  refine H.out.mono ?_
  rintro e w3 ⟨k, rfl, hk, hg⟩
  have HK := Lib.hid hk; have HG := Lib.hid hg
  clear hk hg H
  go_wp2_with fail
  go_ret
  exact ⟨decide (0 ≤ k), rfl, by simpa using HK.out, HG.out⟩
set_option maxRecDepth 100000 in
set_option maxHeartbeats 1000000 in
theorem has_is (n : Int) (sv : Value) (us : List SetR) (vv : Value) (v : List Int) (w : World) (h : SetsX w sv us) (hr : RowOk w (vv, v)) :
    Calls Try.prog 22 #[.int .i64 n, sv, vv] w (SaysP (CheckF n us 0 ∧ HasP us v) w) := by
  have H := Lib.hid h; have HR := Lib.hid hr
  obtain ⟨⟨av, cv, hvv, -, -, -⟩, -, -⟩ := hr
  dsimp only at hvv
  subst hvv
  obtain ⟨a, cap, rfl, hl20, -⟩ := h
  have HG1 := Lib.hid (World.grownBy_alloc w (.cells #[.slice av v.length cv] 22) none)
  have HBX : Hid ((w.alloc (.cells #[.slice av v.length cv] 22)).cell? ⟨w.heap.size, 0, none⟩ = some (.slice av v.length cv)) := Lib.hid (by simp)
  have HCK := Lib.hid (check_is n _ us _ (H.out.same HG1.out))
  go_enter Try.func22, Try.ntmps22
  go_wp2_with fail
  refine HCK.out.mono ?_
  rintro e w2 ⟨err, rfl, hf, hg2⟩
  have HF := Lib.hid hf
  have G2 := Lib.hid (grown_trans HG1.out hg2)
  have C2 := Lib.hid (hg2.cell HBX.out (by simp))
  clear hg2 hf
  by_cases he : err = 0
  · subst he
    go_wp2_with fail
    refine (containsL_is w.heap.size _ us _ v _ (H.out.same G2.out) C2.out (HR.out.same G2.out)).mono ?_
    rintro e w3 ⟨B, rfl, hB, hg3⟩
    have HB := Lib.hid hB; have G3 := Lib.hid (grown_trans G2.out hg3)
    clear hB hg3
    go_wp2_with fail
    go_ret
    exact ⟨B, rfl, ⟨fun h => ⟨HF.out, HB.out.1 h⟩, fun h => HB.out.2 h.2⟩, G3.out⟩
  · have q1 : (err != 0) = true := by simpa using he
    have HNE := Lib.hid he
    clear he
    go_wp2_with fail
    go_ret
    exact ⟨false, rfl, ⟨fun h => (by cases h), fun h => absurd (HF.out.one h.1) HNE.out⟩, G2.out⟩
theorem has_len {n : Int} {us : List SetR} {v : List Int} (h : CheckF n us 0 ∧ HasP us v) : (v.length : Int) = n := by
  obtain ⟨hc, u, hu, hs⟩ := h
  have h1 := times_good hs
  cases hc with
  | bad k err hk g1 g2 g3 g4 g5 g6 => exact absurd rfl g6
  | ok g1 g2 g3 g4 =>
    obtain ⟨j, hj, rfl⟩ := List.getElem_of_mem hu
    have h2 := g4 j hj
    cases h2 with
    | ok k1 k2 k3 k4 => have := k1.1; omega
set_option maxRecDepth 100000 in
set_option maxHeartbeats 1000000 in
theorem rhas_is (n : Int) (sv : Value) (us : List SetR) (vv : Value) (v : List Int) (w : World) (h : SetsX w sv us) (hr : RowOk w (vv, v)) :
    Calls Try.prog 23 #[.int .i64 n, sv, vv] w (SaysP (CheckF n us 0 ∧ HasP us v) w) := by
  have H := Lib.hid h; have HR := Lib.hid hr
  obtain ⟨⟨av, cv, hvv, hvm, -, -⟩, -, -⟩ := hr
  dsimp only at hvv
  unfold maxLen at hvm
  subst hvv
  obtain ⟨a, cap, rfl, hl20, -⟩ := h
  have HCK := Lib.hid (rcheck13_is n _ us _ H.out)
  go_enter Try.func23, Try.ntmps23
  go_wp2_with fail
  refine HCK.out.mono ?_
  rintro e w2 ⟨err, rfl, hf, hg2⟩
  have HF := Lib.hid hf
  have G2 := Lib.hid hg2
  clear hg2 hf
  by_cases he : err = 0
  case neg =>
    have q1 : (err != 0) = true := by simpa using he
    have HNE := Lib.hid he
    clear he
    go_wp2_with fail
    go_ret
    exact ⟨false, rfl, ⟨fun h => (by cases h), fun h => absurd (HF.out.one h.1) HNE.out⟩, G2.out⟩
  subst he
  by_cases hl : (v.length : Int) = n
  case neg =>
    have q1 : ((v.length : Int) != n) = true := by simpa using hl
    have HNL := Lib.hid hl
    clear hl
    go_wp2_with fail
    go_ret
    exact ⟨false, rfl, ⟨fun h => (by cases h), fun h => absurd (has_len h) HNL.out⟩, G2.out⟩
  have q1 : ((v.length : Int) != n) = false := by simpa using hl
  clear hl
  go_wp2_with fail
  go_loopw [7] (fun i wr => ∃ k : Nat, i = .int .i64 k ∧ k ≤ us.length ∧ Hid (∀ j, (hj : j < us.length) → j < k → (timesO us[j].2.1 v us[j].2.2).isSome = false) ∧ Hid (w.grownBy wr none)) (fun i _ => us.length - (intOf i).toNat)
  case atStart => exact ⟨0, rfl, Nat.zero_le _, Lib.hid (by omega), G2⟩
  case round =>
    obtain ⟨k, rfl, hk, hn, hg⟩ := hrel
    rename World => wk
    by_cases hlt : k < us.length
    · have h1 : (k : Int) < (us.length : Int) := by omega
      have i1 : IntKind.i64.wrap ((k : Int) + 1) = (k : Int) + 1 := IntWalk.i64_in _ (by omega)
      obtain ⟨b, off, rfl, c1, c2, hS, h20⟩ := (H.out.same hg.out).at hlt
      have HU := Lib.hid hS; have H20 := Lib.hid h20
      have HUM : Hid (us[k] ∈ us) := Lib.hid (List.getElem_mem hlt)
      have HN : Hid ((timesO us[k].2.1 v us[k].2.2).isSome = false → ∀ j, (hj : j < us.length) → j < k + 1 → (timesO us[j].2.1 v us[j].2.2).isSome = false) := Lib.hid (by
        intro hno j hj hjk
        by_cases he : j = k
        · subst he; exact hno
        · exact hn.out j hj (by omega))
      clear hn hS h20
      generalize us[k] = u at *
      obtain ⟨vb, vp, he, ⟨⟨ab, cb, hvb, -⟩, -, -⟩, ⟨ap, cp, hvp, -⟩, -⟩ := id HU.out
      simp only [Value.agg.injEq, Array.mk.injEq, List.cons.injEq, and_true] at he
      obtain ⟨e1, e2⟩ := he
      dsimp only at hvb
      rw [← e1] at hvb
      rw [← e2] at hvp
      have HT := Lib.hid (times_r (v := v) H20.out HU.out (HR.out.same hg.out))
      rw [hvb, hvp] at HT
      rw [hvb] at c1
      rw [hvp] at c2
      clear e1 e2 hvb hvp
      go_wp2_with fail
      refine HT.out.mono ?_
      rintro e w3 ⟨v3, rfl, -, hg3⟩
      have G3 := Lib.hid (grown_trans hg.out hg3)
      clear hg3 c1 c2
      cases hB : (timesO u.2.1 v u.2.2).isSome with
      | false =>
        have HN2 := Lib.hid (HN.out hB)
        clear hB
        go_wp2_with fail
        go_roundw
        case rel => exact ⟨k + 1, by go_num, by omega, HN2, G3⟩
        case measure => (simp [intOf]; try omega)
      | true =>
        have HB := Lib.hid hB
        clear hB
        go_wp2_with fail
        go_ret
        exact ⟨true, rfl, ⟨fun _ => ⟨HF.out, _, HUM.out, HB.out⟩, fun _ => rfl⟩, G3.out⟩
    · have h1 : ¬ (k : Int) < (us.length : Int) := by omega
      go_wp2_with fail
      go_ret
      exact ⟨false, rfl, ⟨fun h => (by cases h), fun ⟨_, u, hu, hs⟩ => by
        obtain ⟨j, hj, rfl⟩ := List.getElem_of_mem hu
        rw [hn.out j hj (by omega)] at hs
        cases hs⟩, hg.out⟩
theorem saysP_u {p : Prop} {w : World} {e : Ending} {w' : World} (h : SaysP p w e w') : ∀ {B : Bool}, (B = true ↔ p) → e = .returned (.bool B) ∧ w.grownBy w' none := by
  intro B hB
  obtain ⟨B', h1, h2, h3⟩ := h
  have : B' = B := by rw [Bool.eq_iff_iff, h2, hB]
  rw [← this]
  exact ⟨h1, h3⟩
/-- One answer for both sides. -/
theorem has_u (n : Int) (us : List SetR) (v : List Int) : ∃ B : Bool, (∀ w sv vv, SetsX w sv us → RowOk w (vv, v) → Calls Try.prog 22 #[.int .i64 n, sv, vv] w fun e w' => e = .returned (.bool B) ∧ w.grownBy w' none) ∧ ∀ w sv vv, SetsX w sv us → RowOk w (vv, v) → Calls Try.prog 23 #[.int .i64 n, sv, vv] w fun e w' => e = .returned (.bool B) ∧ w.grownBy w' none := by
  by_cases hp : CheckF n us 0 ∧ HasP us v
  · exact ⟨true, fun w sv vv h k => (has_is n sv us vv v w h k).mono fun e w' hh => saysP_u hh (by simp [hp]), fun w sv vv h k => (rhas_is n sv us vv v w h k).mono fun e w' hh => saysP_u hh (by simp [hp])⟩
  · exact ⟨false, fun w sv vv h k => (has_is n sv us vv v w h k).mono fun e w' hh => saysP_u hh (by simp [hp]), fun w sv vv h k => (rhas_is n sv us vv v w h k).mono fun e w' hh => saysP_u hh (by simp [hp])⟩
theorem check_u (n : Int) (us : List SetR) : ∃ err : Int, (∀ w sv, SetsX w sv us → Calls Try.prog 14 #[.int .i64 n, sv] w fun e w' => e = .returned (.int .i64 err) ∧ w.grownBy w' none) ∧ ∀ w sv, SetsX w sv us → Calls Try.prog 15 #[.int .i64 n, sv] w fun e w' => e = .returned (.int .i64 err) ∧ w.grownBy w' none := by
  by_cases he : ∃ err, CheckF n us err
  · obtain ⟨err, he⟩ := he
    refine ⟨err, fun w sv h => (check_is n sv us w h).mono fun e w' hh => ?_, fun w sv h => (rcheck13_is n sv us w h).mono fun e w' hh => ?_⟩
    · obtain ⟨err', h1, h2, h3⟩ := hh
      rw [h2.one he] at h1; exact ⟨h1, h3⟩
    · obtain ⟨err', h1, h2, h3⟩ := hh
      rw [h2.one he] at h1; exact ⟨h1, h3⟩
  · refine ⟨0, fun w sv h => (check_is n sv us w h).mono fun e w' hh => ?_, fun w sv h => (rcheck13_is n sv us w h).mono fun e w' hh => ?_⟩
    · obtain ⟨err', h1, h2, h3⟩ := hh
      exact absurd ⟨_, h2⟩ he
    · obtain ⟨err', h1, h2, h3⟩ := hh
      exact absurd ⟨_, h2⟩ he
end Go.Proofs.Ytoaoheblaidhmaa
