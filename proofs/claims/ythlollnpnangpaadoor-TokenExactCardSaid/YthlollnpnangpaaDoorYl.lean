/- The laws' sanity check. -/
import Derived.Test.YthlollnpnangpaaDoorYh
import Derived.Test.YthlollnpnangpaaDoorYj
import Derived.Test.YthlollnpnangpaaDoorYk
namespace Go.Proofs.YthlollnpnangpaaDoor
open Go.RowKit
set_option linter.unusedVariables false
def awT : Bs := [97, 45, 62, 98, 32, 49, 50, 32, 35, 32, 120, 10, 10, 40]
def awL : List Tk := [(1, [97], 1), (3, [45, 62], 1), (1, [98], 1), (2, [49, 50], 1), (4, [], 1), (3, [40], 3), (4, [], 3)]
theorem aw_scan : scanL 0 (linesL awT) = .ok awL := by kernel_rfl
theorem aw_join : joinL awL = [97, 32, 45, 62, 32, 98, 32, 49, 50, 10, 40, 10] := by kernel_rfl
theorem aw_word : isWord [97, 95, 49] = true := by kernel_rfl
theorem aw_itoa : Lib.itoa (120 : Nat) = [49, 50, 48] := by
  unfold Lib.itoa
  rw [if_neg (by decide)]
  rw [show ((120 : Nat) : Int).toNat = 120 by decide]
  simp [Lib.decDigits]
set_option maxRecDepth 100000 in
set_option maxHeartbeats 2000000 in
theorem awake14_any (w : World) (hT : TabP w) : Calls Tryd.prog 8 #[] w fun e w' => e = .returned (.bool true) ∧ w.grownBy w' none := by
  have HT := Lib.hid hT
  clear hT
  go_enter Tryd.func8, Tryd.ntmps8
  go_wp2_with fail
  refine (Scan_any awT (by decide) _).mono ?_
  rintro e w1 ⟨hg, hr⟩
  rw [aw_scan] at hr
  obtain ⟨v, rfl, ho⟩ := hr
  have HG := Lib.hid hg
  obtain ⟨a, cap, rfl⟩ := ho.slice
  have HTK := Lib.hid ho.toks
  obtain ⟨b1, off1, cp1, hv, -, x1, -⟩ := HTK.out.at (k := 1) (by decide)
  simp only [Value.slice.injEq] at hv
  obtain ⟨rfl, -, rfl⟩ := hv
  obtain ⟨b3, off3, cp3, hv, x3, -, -⟩ := HTK.out.at (k := 3) (by decide)
  simp only [Value.slice.injEq, Option.some.injEq, Addr.mk.injEq] at hv
  obtain ⟨⟨rfl, rfl, -⟩, -, rfl⟩ := hv
  obtain ⟨b4, off4, cp4, hv, x4, -, -⟩ := HTK.out.at (k := 4) (by decide)
  simp only [Value.slice.injEq, Option.some.injEq, Addr.mk.injEq] at hv
  obtain ⟨⟨rfl, rfl, -⟩, -, rfl⟩ := hv
  obtain ⟨b5, off5, cp5, hv, -, -, x5⟩ := HTK.out.at (k := 5) (by decide)
  simp only [Value.slice.injEq, Option.some.injEq, Addr.mk.injEq] at hv
  obtain ⟨⟨rfl, rfl, -⟩, -, rfl⟩ := hv
  have y1 : w1.cell? ⟨b1, off1 + 3 + 1, none⟩ = some (.string ⟨#[45, 62]⟩) := x1
  have y3 : w1.cell? ⟨b1, off1 + 9, none⟩ = some (.int .i64 2) := x3
  have y4 : w1.cell? ⟨b1, off1 + 12, none⟩ = some (.int .i64 4) := x4
  have y5 : w1.cell? ⟨b1, off1 + 15 + 2, none⟩ = some (.int .i64 3) := x5
  rw [show awL.length = 7 by rfl] at *
  clear x1 x3 x4 x5 ho hg
  go_wp2_with (first | (go_at_call 16; refine (Word_any [97, 95, 49] (by decide) _).mono ?_; rintro e w' ⟨rfl, rfl⟩; rw [aw_word]))
  refine (Number_any 120 (by decide) _ (HT.out.same HG.out)).mono ?_
  rintro e w2 ⟨rfl, hg2⟩
  rw [aw_itoa]
  have HG2 := Lib.hid (grown_trans HG.out hg2)
  have HTK2 := Lib.hid (HTK.out.same hg2)
  clear hg2 y1 y3 y4 y5
  go_wp2_with fail
  refine (Join_any awL _ _ HTK2.out (by rw [aw_join]; decide) (by decide)).mono ?_
  rintro e w3 ⟨rfl, hg3⟩
  rw [aw_join]
  have HG3 := Lib.hid (grown_trans HG2.out hg3)
  clear hg3
  go_wp2_with fail
  go_ret
  exact ⟨rfl, HG3.out⟩
end Go.Proofs.YthlollnpnangpaaDoor
