/- Which systems are valid: both sides, whatever comes in. -/
import Derived.Test.YtgcfafjgaifmiaaFc
namespace Go.Proofs.Ytgcfafjgaifmiaa
open Go.RowKit
set_option linter.unusedVariables false

def ShapeOk (ms : List Row) : Prop := ∃ r c, MatOkP r c ms ∧ r ≤ 6 ∧ c ≤ 6
def inR (b : Int) : Bool := decide (-1048576 ≤ b) && decide (b ≤ 1048576)
theorem inR_iff {b : Int} : inR b = true ↔ -1048576 ≤ b ∧ b ≤ 1048576 := by unfold inR; simp
theorem all_snoc1 (P : Int → Bool) (xs : List Int) (k : Nat) (h : k < xs.length) : (xs.take (k + 1)).all P = ((xs.take k).all P && P (xs[k]?.getD 0)) := by
  rw [take_snoc' xs k h, List.all_append]; simp
theorem all_no {P : Int → Bool} {xs : List Int} {k : Nat} (h : k < xs.length) (hp : P (xs[k]?.getD 0) = false) : xs.all P = false := by
  cases h2 : xs.all P with
  | false => rfl
  | true =>
    rw [List.all_eq_true] at h2
    have := h2 xs[k] (List.getElem_mem h)
    rw [List.getElem?_eq_getElem h] at hp
    rw [show (some xs[k]).getD 0 = xs[k] from rfl, this] at hp
    cases hp
def rangeE (bs : List Int) : Int := if bs.all inR then 0 else 2
set_option maxRecDepth 100000 in
set_option maxHeartbeats 1000000 in
theorem hcheck_no {ms : List Row} {va vb : Value} {w : World} (h : RowsI w va ms) (hno : ¬ ShapeOk ms) :
    Calls Try.prog 15 #[va, vb] w fun e w' => e = .returned (.int .i64 10) ∧ w' = w := by
  obtain ⟨aa, capa, rfl, -⟩ : ∃ a cap, va = .slice a ms.length cap ∧ True := by obtain ⟨a, cap, h, -⟩ := h; exact ⟨a, cap, h, trivial⟩
  have H := Lib.hid h
  clear h
  by_cases hex : ∃ r c, MatOkP r c ms
  · obtain ⟨r, c, hm⟩ := hex
    have HM := Lib.hid hm
    have h0 : 0 < ms.length := by have := hm.1; have := hm.2.1; omega
    have hr12 : ms.length ≤ 12 := by have := hm.1; have := hm.2.2.1; omega
    have hc12 : c ≤ 12 := hm.2.2.2.2.1
    by_cases h6 : (6 : Int) < (ms.length : Int)
    · clear hno hm
      go_enter Try.func15, Try.ntmps15
      go_wp2_with fail
      refine (Check10_any (H.out.toP HM.out) HM.out).mono ?_
      rintro e w' ⟨rfl, rfl⟩
      go_wp2_with fail
      go_ret
      exact ⟨rfl, rfl⟩
    · have h7 : (6 : Int) < (c : Int) := Int.not_le.1 (fun h => hno ⟨r, c, hm, by have := hm.1; omega, by omega⟩)
      obtain ⟨b, off, a2, c2, rfl, hc0, -⟩ := H.out.row h0
      rw [(hm.2.2.2.2.2.2 _ (List.getElem_mem h0)).1, Nat.add_zero] at hc0
      have p1 : 0 < (ms.length : Int) := by omega
      clear hno hm
      go_enter Try.func15, Try.ntmps15
      go_wp2_with fail
      refine (Check10_any (H.out.toP HM.out) HM.out).mono ?_
      rintro e w' ⟨rfl, rfl⟩
      go_wp2_with fail
      go_ret
      exact ⟨rfl, rfl⟩
  · go_enter Try.func15, Try.ntmps15
    go_wp2_with fail
    refine (Check_bad H.out (fun r c hm => hex ⟨r, c, hm⟩)).mono ?_
    rintro e w' ⟨rfl, rfl⟩
    go_wp2_with fail
    go_ret
    exact ⟨rfl, rfl⟩
set_option maxRecDepth 100000 in
set_option maxHeartbeats 1000000 in
theorem hcheck_len {r c : Nat} {ms : List Row} {va vb : Value} {bs : List Int} {w : World} (h : RowsP w va ms) (hm : MatOkP r c ms) (hr : r ≤ 6) (hc : c ≤ 6) (hb : Ints w vb bs) (hl : bs.length ≠ r) :
    Calls Try.prog 15 #[va, vb] w fun e w' => e = .returned (.int .i64 3) ∧ w' = w := by
  have HM := Lib.hid hm; have HA := Lib.hid h
  have hml := hm.1
  have h0 : 0 < ms.length := by have := hm.2.1; omega
  have hl6 : ms.length ≤ 6 := by omega
  obtain ⟨aa, capa, rfl, -⟩ : ∃ a cap, va = .slice a ms.length cap ∧ True := by obtain ⟨a, cap, h, -⟩ := h; exact ⟨a, cap, h, trivial⟩
  obtain ⟨ab, capb, hvb, hbl, -, -⟩ := hb
  unfold maxLen at hbl
  subst hvb
  obtain ⟨b, off, a2, c2, rfl, hc0, -, -⟩ := h.row h0
  rw [(hm.2.2.2.2.2.2 _ (List.getElem_mem h0)).1, Nat.add_zero] at hc0
  have p1 : 0 < (ms.length : Int) := by omega
  have p4 : ((bs.length : Int) != (ms.length : Int)) = true := by simp; omega
  clear h hm hl hml
  go_enter Try.func15, Try.ntmps15
  go_wp2_with fail
  refine (Check10_any HA.out HM.out).mono ?_
  rintro e w' ⟨rfl, rfl⟩
  go_wp2_with fail
  go_ret
  exact ⟨rfl, rfl⟩
set_option maxRecDepth 100000 in
set_option maxHeartbeats 1000000 in
theorem hcheck_fit {r c : Nat} {ms : List Row} {va vb : Value} {bs : List Int} {w : World} (h : RowsP w va ms) (hm : MatOkP r c ms) (hr : r ≤ 6) (hc : c ≤ 6) (hb : Ints w vb bs) (hbn : bs.length = r) :
    Calls Try.prog 15 #[va, vb] w fun e w' => e = .returned (.int .i64 (rangeE bs)) ∧ w' = w := by
  have HM := Lib.hid hm
  obtain ⟨hl, hr1, hr12, hc1, hc12, hrc, hq⟩ := hm
  obtain ⟨aa, capa, rfl, -⟩ : ∃ a cap, va = .slice a ms.length cap ∧ True := by obtain ⟨a, cap, h, -⟩ := h; exact ⟨a, cap, h, trivial⟩
  obtain ⟨ab, capb, hvb, hbl, -, hbc⟩ := id hb
  subst hvb
  have h0 : 0 < ms.length := by omega
  obtain ⟨b, off, a2, c2, rfl, hc0, -, -⟩ := h.row h0
  rw [(hq _ (List.getElem_mem h0)).1, Nat.add_zero] at hc0
  have HA := Lib.hid h
  have p1 : 0 < (ms.length : Int) := by omega
  have p2 : ¬ (6 : Int) < (ms.length : Int) := by omega
  have p3 : ¬ (6 : Int) < (c : Int) := by omega
  have p4 : ((bs.length : Int) != (ms.length : Int)) = false := by simp; omega
  have p5 : bs.length ≤ 6 := by omega
  clear h hb hq hl hbn hbl
  go_enter Try.func15, Try.ntmps15
  go_wp2_with fail
  refine (Check10_any HA.out HM.out).mono ?_
  rintro e w' ⟨rfl, rfl⟩
  go_wp2_with fail
  clear p4
  go_loop [29] (fun i => ∃ k : Nat, k ≤ bs.length ∧ i = .int .i64 k ∧ Hid ((bs.take k).all inR = true)) (fun i => bs.length - (intOf i).toNat)
  case atStart => exact ⟨0, Nat.zero_le _, rfl, Lib.hid rfl⟩
  case round =>
    obtain ⟨k, hk, rfl, HA2⟩ := hrel
    by_cases hlt : k < bs.length
    · obtain ⟨bb, ob, rfl, hx⟩ := Ints.at hbc hlt
      have h1 : (k : Int) < (bs.length : Int) := by omega
      have i1 : IntKind.i64.wrap ((k : Int) + 1) = (k : Int) + 1 := IntWalk.i64_in _ (by omega)
      have HS := Lib.hid (all_snoc1 inR bs k hlt)
      have HN : Hid (inR (bs[k]?.getD 0) = false → rangeE bs = 2) := Lib.hid (fun e => by unfold rangeE; rw [all_no hlt e]; rfl)
      generalize bs[k]?.getD 0 = x at *
      clear hbc
      by_cases h2 : x < -1048576
      · have HI : Hid (inR x = false) := Lib.hid (by unfold inR; simp; omega)
        go_wp2_with fail
        go_ret
        exact ⟨ret_int (HN.out HI.out).symm, rfl⟩
      · by_cases h3 : (1048576 : Int) < x
        · have HI : Hid (inR x = false) := Lib.hid (by unfold inR; simp; omega)
          go_wp2_with fail
          go_ret
          exact ⟨ret_int (HN.out HI.out).symm, rfl⟩
        · have HI : Hid (inR x = true) := Lib.hid (inR_iff.2 ⟨by omega, by omega⟩)
          go_wp2_with fail
          go_round
          case rel => exact ⟨k + 1, by omega, by go_num, Lib.hid (by rw [HS.out, HA2.out, HI.out]; rfl)⟩
          case measure => simp [intOf]; omega
    · have h1 : ¬ (k : Int) < (bs.length : Int) := by omega
      clear hbc
      go_wp2_with fail
      go_ret
      exact ⟨ret_int (by unfold rangeE; have := HA2.out; rw [List.take_of_length_le (by omega)] at this; rw [this]; rfl), rfl⟩
end Go.Proofs.Ytgcfafjgaifmiaa
