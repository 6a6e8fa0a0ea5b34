/- Simulates and Holds at valid systems. -/
import Derived.Test.YtelpkcndbcfaiaaIm
namespace Go.Proofs.Ytelpkcndbcfaiaa
open Go.RowKit
set_option linter.unusedVariables false
open Classical in
/-- Whether one system simulates another. -/
noncomputable def grB (a b : Sys) : Bool := decide (Gr a b 0 0)
theorem grB_iff {a b : Sys} : grB a b = true ↔ Gr a b 0 0 := by unfold grB; simp
theorem grB_of {a b : Sys} {v : Bool} (h : v = true ↔ Gr a b 0 0) : v = grB a b := by
  cases v with
  | true => exact (grB_iff.2 (h.1 rfl)).symm
  | false =>
    cases hg : grB a b with
    | false => rfl
    | true => exact absurd (h.2 (grB_iff.1 hg)) (by simp)
set_option maxRecDepth 100000 in
set_option maxHeartbeats 2000000 in
theorem simulates_any (va vb : Value) (sa sb : List ArcP) (w : World) (ha : SysG w va sa) (hb : SysG w vb sb) :
    Calls Try.prog 25 #[va, vb] w fun e w' => e = .returned (.tuple #[.bool (grB (sa.map Prod.snd) (sb.map Prod.snd)), .int .i64 0]) ∧ w.grownBy w' none := by
  have HA := Lib.hid ha; have HB := Lib.hid hb
  obtain ⟨hn1, -, -, -⟩ := good_parts ha.2
  obtain ⟨hm1, -, -, -⟩ := good_parts hb.2
  obtain ⟨⟨xa, rfl, hA⟩, -⟩ := ha
  obtain ⟨⟨xb, rfl, hB⟩, -⟩ := hb
  obtain ⟨a, c, rfl, -⟩ := hA
  obtain ⟨b, k, rfl, -⟩ := hB
  have HN1 := Lib.hid hn1; have HM1 := Lib.hid hm1
  obtain ⟨n, hn⟩ : ∃ n, sa.length = n := ⟨_, rfl⟩
  obtain ⟨m, hm⟩ : ∃ m, sb.length = m := ⟨_, rfl⟩
  rw [hn] at HA HN1 ⊢
  rw [hm] at HB HM1 ⊢
  have HN := Lib.hid hn; have HM := Lib.hid hm
  clear hn hm hn1 hm1
  go_enter Try.func25, Try.ntmps25
  go_wp2_with fail
  obtain ⟨w2, hw2⟩ : ∃ w2, w2 = (w.alloc (.cells #[.slice a n c] 25)).alloc (.cells #[.slice b m k] 25) := ⟨_, rfl⟩
  have hg2 : w.grownBy w2 none := by rw [hw2]; exact grown_aft2 (World.grownBy_alloc _ _ _)
  rw [← hw2]
  refine (greatest_any (.agg #[.slice a n c]) (.agg #[.slice b m k]) sa sb w2 (HA.out.same hg2) (HB.out.same hg2)).mono ?_
  rintro e w3 ⟨R, bs, rs, rfl, hR, hx, hgt, hg3⟩
  have HG := Lib.hid (grown_trans hg2 hg3)
  have HLN : Hid ((sa.map Prod.snd).length = n) := Lib.hid (by rw [List.length_map, HN.out])
  have HLM : Hid ((sb.map Prod.snd).length = m) := Lib.hid (by rw [List.length_map, HM.out])
  obtain ⟨hl, hr, hat⟩ := hgt
  rw [HLN.out] at hx hl hat ⊢
  rw [HLM.out] at hx hat
  obtain ⟨b0, -, -, x1, x2, -⟩ := hx.cells (x := 0) (y := 0) (by have := HN1.out; omega) HM1.out
  have HE : Hid (atB rs 0 0 = grB (sa.map Prod.snd) (sb.map Prod.snd)) := Lib.hid (grB_of (hat 0 0 (by have := HN1.out; omega) HM1.out))
  rw [HE.out] at x2
  have n1 : (0 : Int) < (n : Int) := by have := HN1.out; omega
  have m1 : (0 : Int) < (m : Int) := by have := HM1.out; omega
  clear hl hr hat hx hR hg2 hg3 hw2
  go_wp2_with fail
  ((try simp only [Exit.inBlock, Exit.then]); refine bodyPost_ret (results_tmp2 rfl _ _ _) rfl ?_)
  exact ⟨rfl, HG.out⟩
end Go.Proofs.Ytelpkcndbcfaiaa
