/- MultisetExact: for every input it answers true. -/
import Derived.Test.YtnppmemcdcgjhaaLk
import Derived.Deep.Grids
import Derived.Test.YtnppmemcdcgjhaaHk
namespace Go.Proofs.Ytnppmemcdcgjhaa
open Go.ChangeShapes Go.WideShapes Go.ChangeAt Go.RowKit Go.Deep
set_option linter.unusedVariables false

theorem okWide_slice_lt {P : Program} {w : World} {r : Reach} {base : Nat} {t e : TypeId} {a : Addr} {len cap : Nat} (ht : P.underlying t = some (.slice e)) (h : Value.okWide P w r base t (.slice (some a) len cap)) : a.block < w.heap.size := by
  simp only [Value.okWide, ht, Cell.okWide, Cell.ok] at h
  obtain ⟨-, -, -, -, row, cells, hs, -⟩ := h
  unfold World.shape? at hs
  rcases Nat.lt_or_ge a.block w.heap.size with h1 | h1
  · exact h1
  · rw [Array.getElem?_eq_none h1] at hs; simp at hs
theorem brows_of {W : World} {x : Addr} {l c : Nat} {A : Nat → Option Addr} {L C : Nat → Nat} {B : Nat → Nat → Bool} (hl : l ≤ c) (hm : c ≤ maxLen)
    (hx : ∀ r, r < c → W.cell? (x.add r) = some (.slice (A r) (L r) (C r)) ∧ L r ≤ C r ∧ C r ≤ maxLen ∧ (A r = none → C r = 0) ∧ ∀ a', A r = some a' → 0 ≤ a'.block ∧ ∀ k, k < C r → W.cell? (a'.add k) = some (.bool (B r k))) :
    ∃ ps : List BRow, l = ps.length ∧ BRowsW W (.slice (some x) ps.length c) ps := by
  refine ⟨(List.range l).map (fun r => (.slice (A r) (L r) (C r), (List.range (L r)).map (B r))), by simp, some x, c, rfl, by simp; omega, ?_, fun p hp => ?_⟩
  · by_cases h0 : l = 0
    · subst h0; exact .inl rfl
    · obtain ⟨b, off, spot⟩ := x
      have hspot : spot = none := by simpa [Addr.add] using World.cell?_spot (hx 0 (by omega)).1
      subst hspot
      refine .inr ⟨b, off, rfl, fun i hi => ?_⟩
      have hi' : i < l := by simpa using hi
      have := (hx i (by omega)).1
      have ha : (Addr.mk b off none).add i = ⟨b, off + i, none⟩ := by unfold Addr.add; split <;> simp_all
      rw [ha] at this
      rw [this]
      simp [hi']
  · obtain ⟨r, hr, rfl⟩ := List.mem_map.1 hp
    have hr' : r < l := List.mem_range.1 hr
    obtain ⟨-, h1, h2, h3, h4⟩ := hx r (by omega)
    refine ⟨⟨A r, C r, by simp, by simp; omega, ?_⟩, fun n c e => ?_, fun a n c e => ?_⟩
    · by_cases h0 : L r = 0
      · exact .inl (by simp [h0])
      · cases ha : A r with
        | none => exact absurd (h3 ha) (by omega)
        | some a' =>
          obtain ⟨b, off, spot⟩ := a'
          have hc := (h4 _ ha).2
          have hspot : spot = none := by simpa [Addr.add] using World.cell?_spot (hc 0 (by omega))
          subst hspot
          refine .inr ⟨b, off, rfl, fun i hi => ?_⟩
          have hi' : i < L r := by simpa using hi
          have := hc i (by omega)
          have he : (Addr.mk b off none).add i = ⟨b, off + i, none⟩ := by unfold Addr.add; split <;> simp_all
          rw [he] at this
          rw [this]
          simp [hi']
    · simp only [Value.slice.injEq] at e
      obtain ⟨e1, rfl, rfl⟩ := e
      have := h3 e1
      omega
    · simp only [Value.slice.injEq] at e
      obtain ⟨-, rfl, rfl⟩ := e
      exact h1
theorem four_cells {w : World} {B : Nat} {v1 v2 v3 v4 : Value} {e : TypeId} {p1 p2 p3 p4 : List BRow} (h : w.heap[B]? = some (.cells #[v1, v2, v3, v4] e (0, 0))) (h1 : BRowsW w v1 p1) (h2 : BRowsW w v2 p2) (h3 : BRowsW w v3 p3) (h4 : BRowsW w v4 p4) (k : Nat) (hk : k < 4) :
    ∃ v p, w.cell? ⟨B, k, none⟩ = some v ∧ BRowsW w v p := by
  obtain rfl | rfl | rfl | rfl : k = 0 ∨ k = 1 ∨ k = 2 ∨ k = 3 := by omega
  · exact ⟨v1, p1, by unfold World.cell?; dsimp only; rw [h]; rfl, h1⟩
  · exact ⟨v2, p2, by unfold World.cell?; dsimp only; rw [h]; rfl, h2⟩
  · exact ⟨v3, p3, by unfold World.cell?; dsimp only; rw [h]; rfl, h3⟩
  · exact ⟨v4, p4, by unfold World.cell?; dsimp only; rw [h]; rfl, h4⟩

set_option maxRecDepth 100000 in
set_option maxHeartbeats 6000000 in
theorem walkMultisetExact (a0 : Option Addr) (len0 cap0 : Nat) (z0 : List Int) (w : World) (w0 : IsRow .i64 w a0 len0 cap0 z0) (ar : Option Addr) (cr : Nat) (ps : List BRow) (hr : BRowsW w (.slice ar ps.length cr) ps) (hrb : ∀ k, (Value.slice ar ps.length cr).ownBlock = some k → k < w.heap.size)
    (am : Option Addr) (cm : Nat) (xs : List Int) (hm : Ints w (.slice am xs.length cm) xs) (hmb : ∀ k, (Value.slice am xs.length cm).ownBlock = some k → k < w.heap.size) :
    Calls Try.prog 3 #[.slice a0 len0 cap0, .slice ar ps.length cr, .slice am xs.length cm] w fun e w' => e = .returned (.bool true) ∧ Below w.heap.size w w' := by
  obtain ⟨hI, hlen⟩ := w0.ints
  generalize z0.take len0 = zs at hI hlen
  subst hlen
  have HI := Lib.hid hI; have HR := Lib.hid hr; have HRB := Lib.hid hrb; have HMI := Lib.hid hm; have HMB := Lib.hid hmb
  clear hI w0 hr hrb hm hmb
  by_cases hfew : (zs.length : Int) ≤ 400
  case neg =>
    go_enter Try.func3, Try.ntmps3
    go_wp2_with fail
    refine (awake03_any _).mono ?_
    rintro e w1 ⟨rfl, hg⟩
    have HG := Lib.hid hg
    clear hg
    go_wp2_with fail
    refine (few_any _ _ _ _).mono ?_
    rintro e w2 ⟨rfl, rfl⟩
    rw [decide_eq_false (by omega)]
    go_wp2_with fail
    refine (awake03_any _).mono ?_
    rintro e w9 ⟨rfl, hg⟩
    have HGX := Lib.hid (grown_trans HG.out hg)
    clear hg
    go_wp2_with fail
    go_ret
    exact ⟨rfl, below_of HGX.out⟩
  go_enter Try.func3, Try.ntmps3
  go_wp2_with fail
  refine (awake03_any _).mono ?_
  rintro e w1 ⟨rfl, hg⟩
  have HG := Lib.hid hg
  clear hg
  go_wp2_with fail
  refine (few_any _ _ _ _).mono ?_
  rintro e w2 ⟨rfl, rfl⟩
  rw [decide_eq_true hfew]
  by_cases hn30 : (30 : Int) < (ps.length : Int)
  · have k1 : (30 : Int) < (ps.length : Int) := hn30
    go_wp2_with fail
    refine (awake03_any _).mono ?_
    rintro e w9 ⟨rfl, hg⟩
    have HGX := Lib.hid (grown_trans HG.out hg)
    clear hg
    go_wp2_with fail
    go_ret
    exact ⟨rfl, below_of HGX.out⟩
  by_cases hm30 : (30 : Int) < (xs.length : Int)
  ·
    go_wp2_with fail
    refine (awake03_any _).mono ?_
    rintro e w9 ⟨rfl, hg⟩
    have HGX := Lib.hid (grown_trans HG.out hg)
    clear hg
    go_wp2_with fail
    go_ret
    exact ⟨rfl, below_of HGX.out⟩
  go_wp2_with fail
  go_loopw [39] (fun i wr => ∃ k : Nat, i = .int .i64 k ∧ k ≤ ps.length ∧ Hid (w.grownBy wr none)) (fun i _ => ps.length - (intOf i).toNat)
  case atStart => exact ⟨0, rfl, Nat.zero_le _, HG⟩
  case round =>
    clear HG
    obtain ⟨k, rfl, hk, HG⟩ := hrel
    by_cases hkb : k < ps.length
    · have h2 : (k : Int) < (ps.length : Int) := by omega
      have i1 : IntKind.i64.wrap ((k : Int) + 1) = (k : Int) + 1 := IntWalk.i64_in _ (by omega)
      obtain ⟨ax, cx, hvx, -, hct, hrs⟩ := (HR.out.same HG.out)
      simp only [Value.slice.injEq] at hvx
      obtain ⟨rfl, -, rfl⟩ := hvx
      obtain ⟨b, off, rfl, hc0⟩ := BRowsP.at hct hkb
      have HBR := Lib.hid (hrs _ (List.getElem_mem hkb))
      generalize ps[k] = R at *
      obtain ⟨rv, R⟩ := R
      obtain ⟨⟨ra, rc, hrv, -, -⟩, -⟩ := HBR.out
      dsimp only at hrv hc0
      subst hrv
      clear hct hrs HBR
      by_cases hR : (30 : Int) < (R.length : Int)
      · go_wp2_with fail
        go_ret
        exact ⟨rfl, below_of HG.out⟩
      · go_wp2_with fail
        go_roundw
        case rel => exact ⟨k + 1, by go_num, by omega, HG⟩
        case measure => simp [intOf]; omega
    · obtain rfl : k = ps.length := by omega
      have h2 : ¬ (ps.length : Int) < (ps.length : Int) := by omega
      clear hn30 hm30
      go_wp2_with fail
      refine (new_st (HI.out.same HG.out) HG.out).mono ?_
      rintro e w3 ⟨p, d, rfl, hs⟩
      have HS := Lib.hid hs
      have XR : Hid (TabX w3 d (.slice ar ps.length cr) ps) := Lib.hid ⟨HR.out.same hs.2.1, (fun g hg e => by have := HRB.out g hg; have := hs.2.2; omega), fun q hq h0 g hg e => by
        obtain ⟨-, -, -, -, -, hrs⟩ := HR.out
        have := (hrs q hq).1.lt h0 g hg
        have := hs.2.2
        omega⟩
      have XM : Hid (IntN w3 d (.slice am xs.length cm) xs) := Lib.hid ⟨HMI.out.same hs.2.1, fun g hg e => by have := HMB.out g hg; have := hs.2.2; omega⟩
      clear hs HG HI h2
      go_wp2_with fail
      refine (next_st HS.out _ (by omega) (by omega)).mono ?_
      rintro e w10 ⟨y0, rfl, hy0, hy1, hs, hg⟩
      obtain ⟨r1, rfl⟩ : ∃ r : Nat, y0 = (r : Int) := ⟨y0.toNat, by omega⟩
      have hr1 : r1 < 6 := by omega
      replace HS := Lib.hid hs; replace XR := Lib.hid (XR.out.deal hg); replace XM := Lib.hid (XM.out.deal hg)
      skip
      clear hs hg hy0 hy1
      go_wp2_with fail
      refine (next_st HS.out _ (by omega) (by omega)).mono ?_
      rintro e w10 ⟨y0, rfl, hy0, hy1, hs, hg⟩
      obtain ⟨c1, rfl⟩ : ∃ r : Nat, y0 = (r : Int) := ⟨y0.toNat, by omega⟩
      have hc1 : c1 < 6 := by omega
      replace HS := Lib.hid hs; replace XR := Lib.hid (XR.out.deal hg); replace XM := Lib.hid (XM.out.deal hg)
      skip
      clear hs hg hy0 hy1
      go_wp2_with fail
      refine (table_st HS.out r1 c1 (by omega) (by omega)).mono ?_
      rintro e w11 ⟨v1, p1, rfl, htd, -, -, hs, hg⟩
      obtain ⟨a1, cp1, rfl⟩ := htd.open
      replace HS := Lib.hid hs; replace XR := Lib.hid (XR.out.deal hg); replace XM := Lib.hid (XM.out.deal hg)
      skip
      have X1 := Lib.hid htd.tabX
      clear hs hg htd
      go_wp2_with fail
      refine (next_st HS.out _ (by omega) (by omega)).mono ?_
      rintro e w10 ⟨y0, rfl, hy0, hy1, hs, hg⟩
      obtain ⟨r2, rfl⟩ : ∃ r : Nat, y0 = (r : Int) := ⟨y0.toNat, by omega⟩
      have hr2 : r2 < 13 := by omega
      replace HS := Lib.hid hs; replace XR := Lib.hid (XR.out.deal hg); replace XM := Lib.hid (XM.out.deal hg)
      replace X1 := Lib.hid (X1.out.deal hg)
      clear hs hg hy0 hy1
      go_wp2_with fail
      refine (next_st HS.out _ (by omega) (by omega)).mono ?_
      rintro e w10 ⟨y0, rfl, hy0, hy1, hs, hg⟩
      obtain ⟨c2, rfl⟩ : ∃ r : Nat, y0 = (r : Int) := ⟨y0.toNat, by omega⟩
      have hc2 : c2 < 14 := by omega
      replace HS := Lib.hid hs; replace XR := Lib.hid (XR.out.deal hg); replace XM := Lib.hid (XM.out.deal hg)
      replace X1 := Lib.hid (X1.out.deal hg)
      clear hs hg hy0 hy1
      go_wp2_with fail
      refine (table_st HS.out r2 c2 (by omega) (by omega)).mono ?_
      rintro e w11 ⟨v2, p2, rfl, htd, -, -, hs, hg⟩
      obtain ⟨a2, cp2, rfl⟩ := htd.open
      replace HS := Lib.hid hs; replace XR := Lib.hid (XR.out.deal hg); replace XM := Lib.hid (XM.out.deal hg)
      replace X1 := Lib.hid (X1.out.deal hg)
      have X2 := Lib.hid htd.tabX
      clear hs hg htd
      go_wp2_with fail
      refine (table_st HS.out 4 4 (by omega) (by omega)).mono ?_
      rintro e w11 ⟨v3, p3, rfl, htd, -, -, hs, hg⟩
      obtain ⟨a3, cp3, rfl⟩ := htd.open
      replace HS := Lib.hid hs; replace XR := Lib.hid (XR.out.deal hg); replace XM := Lib.hid (XM.out.deal hg)
      replace X1 := Lib.hid (X1.out.deal hg); replace X2 := Lib.hid (X2.out.deal hg)
      have X3 := Lib.hid htd.tabX
      clear hs hg htd
      go_wp2_with fail
      have HB := heap_new (w := w11) (g := w11.heap.size) (.cells #[.slice ar ps.length cr, .slice a1 p1.length cp1, .slice a2 p2.length cp2, .slice a3 p3.length cp3] 23) rfl
      have hg := World.grownBy_alloc w11 (.cells #[.slice ar ps.length cr, .slice a1 p1.length cp1, .slice a2 p2.length cp2, .slice a3 p3.length cp3] 23) none
      generalize w11.alloc (.cells #[.slice ar ps.length cr, .slice a1 p1.length cp1, .slice a2 p2.length cp2, .slice a3 p3.length cp3] 23) = WB at *
      have HF := Lib.hid (four_cells HB (XR.out.same hg).1 (X1.out.same hg).1 (X2.out.same hg).1 (X3.out.same hg).1)
      replace XM := Lib.hid (XM.out.same hg).1; have HSB := Lib.hid (HS.out.step hg)
      clear HB hg HS XR X1 X2 X3
      go_loopw [68] (fun i wr => ∃ k : Nat, i = .int .i64 k ∧ k ≤ 4 ∧ Hid (WB.grownBy wr none)) (fun i _ => 4 - (intOf i).toNat)
      case atStart => exact ⟨0, rfl, Nat.zero_le _, Lib.hid (grown_refl _ _)⟩
      case round =>
        obtain ⟨k, rfl, hk, hG⟩ := hrel
        by_cases hk4 : k < 4
        · have h2 : (k : Int) < 4 := by omega
          have i1 : IntKind.i64.wrap ((k : Int) + 1) = (k : Int) + 1 := IntWalk.i64_in _ (by omega)
          obtain ⟨vt, pt, hc0, hb⟩ := HF.out k hk4
          have hc := hG.out.cell hc0 (by simp)
          have TB := Lib.hid (hb.same hG.out)
          clear hc0 hb
          go_wp2_with fail
          refine (Match_w vt pt _ TB.out).mono ?_
          rintro e w40 hm
          obtain ⟨y1, b1, x1, rfl, h1, hg, hu⟩ := hm.u
          have I1 := Lib.hid h1; have U1 := Lib.hid hu; have G1 : Hid (WB.grownBy w40 none) := Lib.hid (grown_trans hG.out hg); replace TB := Lib.hid (TB.out.same hg)
          clear hm h1 hg hu
          go_wp2_with fail
          refine (rMatch_w vt pt _ TB.out).mono ?_
          rintro e w41 hm
          obtain ⟨y2, b2, x2, rfl, h2, hg, hu⟩ := hm.u
          obtain ⟨rfl, rfl⟩ := U1.out.eq hu
          have I2 := Lib.hid h2; replace I1 := Lib.hid (I1.out.same hg); replace G1 : Hid (WB.grownBy w41 none) := Lib.hid (grown_trans G1.out hg); replace TB := Lib.hid (TB.out.same hg)
          clear hm h2 hg hu U1
          go_wp2_with fail
          refine (Most_w vt pt _ TB.out).mono ?_
          rintro e w42 hm
          obtain ⟨n1, c1, rfl, hg, hu⟩ := hm.u
          have U1 := Lib.hid hu; replace I1 := Lib.hid (I1.out.same hg); replace I2 := Lib.hid (I2.out.same hg); replace G1 : Hid (WB.grownBy w42 none) := Lib.hid (grown_trans G1.out hg); replace TB := Lib.hid (TB.out.same hg)
          clear hm hg hu
          go_wp2_with fail
          refine (rMost_w vt pt _ TB.out).mono ?_
          rintro e w43 hm
          obtain ⟨n2, c2, rfl, hg, hu⟩ := hm.u
          obtain ⟨rfl, rfl⟩ := U1.out.eq hu
          replace I1 := Lib.hid (I1.out.same hg); replace I2 := Lib.hid (I2.out.same hg); replace G1 : Hid (WB.grownBy w43 none) := Lib.hid (grown_trans G1.out hg); replace TB := Lib.hid (TB.out.same hg)
          clear hm hg hu U1
          have e1 : (b1 != b1) = false := by simp
          have e2 : (c1 != c1) = false := by simp
          have e3 : ((n1 : Int) != (n1 : Int)) = false := by simp
          go_wp2_with fail
          refine (same_any _ _ _ _ _ I1.out I2.out).mono ?_
          rintro e w44 ⟨rfl, hd⟩
          have hg := hd.grown none
          have e4 : (x1 == x1) = true := by simp
          rw [e4]
          replace I2 := Lib.hid (I2.out.same hg); replace G1 : Hid (WB.grownBy w44 none) := Lib.hid (grown_trans G1.out hg); replace TB := Lib.hid (TB.out.same hg)
          clear hd hg e4 I1
          go_wp2_with fail
          refine (Valid_w vt pt _ TB.out).mono ?_
          rintro e w45 ⟨rfl, hw⟩
          rw [hw]
          clear hw w45
          go_wp2_with fail
          refine (rvalid_w vt pt _ TB.out).mono ?_
          rintro e w46 ⟨rfl, hd⟩
          have hg := hd.grown none
          have e5 : (validT (pt.map Prod.snd) != validT (pt.map Prod.snd)) = false := by simp
          replace I2 := Lib.hid (I2.out.same hg); replace G1 : Hid (WB.grownBy w46 none) := Lib.hid (grown_trans G1.out hg); replace TB := Lib.hid (TB.out.same hg)
          clear hd hg
          generalize validT (pt.map Prod.snd) = vd at *
          go_wp2_with fail
          refine (ProvesM_w vt _ pt xs _ TB.out (XM.out.same G1.out)).mono ?_
          rintro e w47 ⟨B1, rfl, hB, hg⟩
          have P1 := Lib.hid hB; replace I2 := Lib.hid (I2.out.same hg); replace G1 : Hid (WB.grownBy w47 none) := Lib.hid (grown_trans G1.out hg); replace TB := Lib.hid (TB.out.same hg)
          clear hB hg
          go_wp2_with fail
          refine (rproves_w vt _ pt xs _ TB.out (XM.out.same G1.out)).mono ?_
          rintro e w48 ⟨B2, rfl, hB, hg⟩
          obtain rfl : B2 = B1 := prov_eq P1.out hB
          have e6 : (B2 != B2) = false := by simp
          replace I2 := Lib.hid (I2.out.same hg); replace G1 : Hid (WB.grownBy w48 none) := Lib.hid (grown_trans G1.out hg); replace TB := Lib.hid (TB.out.same hg)
          clear hB hg P1
          go_wp2_with fail
          refine (ProvesM_w vt _ pt x1 _ TB.out I2.out).mono ?_
          rintro e w49 ⟨B3, rfl, hB, hg⟩
          have P1 := Lib.hid hB; replace I2 := Lib.hid (I2.out.same hg); replace G1 : Hid (WB.grownBy w49 none) := Lib.hid (grown_trans G1.out hg); replace TB := Lib.hid (TB.out.same hg)
          clear hB hg
          go_wp2_with fail
          refine (rproves_w vt _ pt x1 _ TB.out I2.out).mono ?_
          rintro e w50 ⟨B4, rfl, hB, hg⟩
          obtain rfl : B4 = B3 := prov_eq P1.out hB
          have e7 : (B4 != B4) = false := by simp
          replace G1 : Hid (WB.grownBy w50 none) := Lib.hid (grown_trans G1.out hg)
          clear hB hg P1 I2 TB
          go_wp2_with fail
          go_roundw
          case rel => exact ⟨k + 1, by go_num, by omega, G1⟩
          case measure => simp [intOf]; omega
        · obtain rfl : k = 4 := by omega
          have h2 : ¬ (((4 : Nat) : Int)) < 4 := by omega
          go_wp2_with fail
          go_ret
          exact ⟨rfl, (HSB.out.step hG.out).below⟩


/-! ### MultisetExact: the statement, from its walk -/
set_option maxRecDepth 100000 in
theorem liftedMultisetExact (os : Os) (started : os.Started) (H : Type) (enc : TypeId × Value → H) :
    ReturnsInHanded {} Try.checked os 3 .any (Rows.multisetExactSpec.pre6 enc Try.prog Try.f3 Rows.multisetExactRow.domain false) (Rows.multisetExactSpec.post enc Try.prog Try.f3 false true false false) := by
  refine returnsInHanded_of_change (C := Try.checked) own started (by kernel_rfl) Try.func3
    (ChangeSpec.witness6 (enc := enc) (C := Try.checked) false ⟨#[], #[.slice none 0 0, .slice none 0 0, .slice none 0 0], []⟩ 8 (by kernel_rfl) (by kernel_rfl) (by kernel_rfl) (by kernel_rfl)) ?_
  intro W base args ds gs before hval0 hW hcnd _
  have hval : ∀ (j : Nat) t v, Try.f3.params[j]? = some t → args[j]? = some v → Value.okWide Try.prog W .any base t v := hval0
  have hW' := hW
  obtain ⟨p, q, hA0, hV, rfl, hfz, hnd⟩ := hW
  have hA : DataW.TrodAll enc Try.prog W 0 (fun _ => true) true Try.f3.params.toList args.toList ds p := hA0
  rw [Try.params3] at hA hval
  obtain ⟨v0, vs0, d0, ds0, p0, q0, hargs, rfl, rfl, h0, r0⟩ := trodAll_cons hA
  obtain ⟨v1, vs1, d1, ds1, p1, q1, rfl, rfl, rfl, h1, r1⟩ := trodAll_cons r0
  obtain ⟨v2, vs2, d2, ds2, p2, q2, rfl, rfl, rfl, h2, r2⟩ := trodAll_cons r1
  obtain ⟨rfl, rfl, rfl⟩ := trodAll_nil r2
  obtain rfl : args = #[v0, v1, v2] := by cases args; simp_all
  obtain ⟨rfl, rfl⟩ := trodVars_none hV
  obtain ⟨a0, len0, cap0, rfl⟩ := okWide_slice Try.underlying22 (hval 0 22 v0 rfl rfl)
  have k0 := h0
  have lt0 : ∀ x ∈ p0, x.block < W.heap.size := by obtain ⟨m, hm⟩ := k0; exact DataW.trod_lt m _ _ _ hm
  obtain ⟨z0, w0⟩ : ∃ zs, IsRow .i64 W a0 len0 cap0 zs := by
    obtain ⟨fuel, hf⟩ := h0
    rcases open_ints Try.underlying22 Try.underlying3 (by kernel_rfl) hf with ⟨hcs, _⟩ | ⟨x, l, c, zs, hcs, _, hl, hm, hz, _, hcell, hwz⟩
    · simp [Value.cells] at hcs
      obtain ⟨rfl, rfl, rfl⟩ := hcs
      exact ⟨[], .inl ⟨rfl, rfl, rfl, rfl⟩⟩
    · simp [Value.cells] at hcs
      obtain ⟨rfl, rfl, rfl⟩ := hcs
      exact ⟨zs, .inr ⟨_, rfl, hl, hm, by simpa using hz, hcell, hwz⟩⟩
  obtain ⟨a1, len1, cap1, rfl⟩ := okWide_slice Try.underlying23 (hval 1 23 v1 rfl rfl)
  have k1 := h1
  have b1 : ∀ x, a1 = some x → x.block < W.heap.size := fun x hx => okWide_slice_lt Try.underlying23 (by subst hx; exact hval 1 23 _ rfl rfl)
  have lt1 : ∀ x ∈ p1, x.block < W.heap.size := by obtain ⟨m, hm⟩ := k1; exact DataW.trod_lt m _ _ _ hm
  obtain ⟨ps, hlen1, hr1⟩ : ∃ ps : List BRow, len1 = ps.length ∧ BRowsW W (.slice a1 ps.length cap1) ps := by
    obtain ⟨fuel, hf⟩ := h1
    rcases open_bool_rows Try.underlying23 Try.underlying26 Try.underlying4 (by kernel_rfl) (by kernel_rfl) hf with ⟨hcs, _⟩ | ⟨x, l, c, A, L, C, B, hcs, _, hl, hm, _, hx⟩
    · simp [Value.cells] at hcs
      obtain ⟨rfl, rfl, rfl⟩ := hcs
      exact ⟨[], rfl, none, 0, rfl, Nat.zero_le _, .inl rfl, by simp⟩
    · simp [Value.cells] at hcs
      obtain ⟨rfl, rfl, rfl⟩ := hcs
      exact brows_of hl hm hx
  subst hlen1
  obtain ⟨a2, len2, cap2, rfl⟩ := okWide_slice Try.underlying22 (hval 2 22 v2 rfl rfl)
  have k2 := h2
  have b2 : ∀ x, a2 = some x → x.block < W.heap.size := fun x hx => okWide_slice_lt Try.underlying22 (by subst hx; exact hval 2 22 _ rfl rfl)
  have lt2 : ∀ x ∈ p2, x.block < W.heap.size := by obtain ⟨m, hm⟩ := k2; exact DataW.trod_lt m _ _ _ hm
  obtain ⟨z2, w2⟩ : ∃ zs, IsRow .i64 W a2 len2 cap2 zs := by
    obtain ⟨fuel, hf⟩ := h2
    rcases open_ints Try.underlying22 Try.underlying3 (by kernel_rfl) hf with ⟨hcs, _⟩ | ⟨x, l, c, zs, hcs, _, hl, hm, hz, _, hcell, hwz⟩
    · simp [Value.cells] at hcs
      obtain ⟨rfl, rfl, rfl⟩ := hcs
      exact ⟨[], .inl ⟨rfl, rfl, rfl, rfl⟩⟩
    · simp [Value.cells] at hcs
      obtain ⟨rfl, rfl, rfl⟩ := hcs
      exact ⟨zs, .inr ⟨_, rfl, hl, hm, by simpa using hz, hcell, hwz⟩⟩
  clear hA0 hval0
  obtain ⟨xs, hxs, hxl⟩ : ∃ xs, Ints W (.slice a2 len2 cap2) xs ∧ xs.length = len2 := ⟨_, w2.ints⟩
  subst hxl
  have own_lt : ∀ {a : Option Addr} {n c : Nat}, (∀ x, a = some x → x.block < W.heap.size) → ∀ k, (Value.slice a n c).ownBlock = some k → k < W.heap.size := fun {a n c} hb k hk => by
    cases a with
    | none => simp [Value.ownBlock] at hk
    | some x => simp only [Value.ownBlock, Option.some.injEq] at hk; have := hb x rfl; omega
  refine (walkMultisetExact a0 len0 cap0 z0 W w0 a1 cap1 ps hr1 (own_lt b1) a2 cap2 xs hxs (own_lt b2)).mono fun e W' ⟨he, bel⟩ => ?_
  subst he
  exact ⟨_, rfl, _, _, _, [], _, [], hW', trodAll_mk1 (shut_bool Try.underlying4 _), (trodAll_cons_mk (Below.trod laidOut (by kernel_rfl) (of_decide_eq_true (by kernel_rfl)) k0 bel lt0) (trodAll_cons_mk (Below.trod laidOut (by kernel_rfl) (of_decide_eq_true (by kernel_rfl)) k1 bel lt1) (trodAll_cons_mk (Below.trod laidOut (by kernel_rfl) (of_decide_eq_true (by kernel_rfl)) k2 bel lt2) trodAll_mk0))), rfl, bel.frame _, fun h => by cases h⟩

theorem multisetExact_holds : Rows.MultisetExactSaid :=
  OpenClaim.holds_of_wide 3 Try.f3 rfl rfl rfl rfl rfl rfl rfl ⟨rfl, rfl, rfl, rfl, rfl⟩ rfl rfl rfl rfl rfl (by kernel_rfl) Try.func3 (by kernel_rfl)
    (of_decide_eq_true (by kernel_rfl)) (by unfold Func.isWrapper; first | (rw [if_pos (by decide +kernel)]; kernel_rfl) | (rw [if_neg (by decide +kernel)]; exact ⟨rfl, rfl⟩))
    (fun os started H enc _ => liftedMultisetExact os started H enc)
#print axioms multisetExact_holds
end Go.Proofs.Ytnppmemcdcgjhaa
