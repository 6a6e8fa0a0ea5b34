/- Bound, Allows. -/
import Derived.Test.YtpnghgihepnepaaDoorDc
namespace Go.Proofs.YtpnghgihepnepaaDoor
open Go.RowKit
set_option linter.unusedVariables false

theorem row_ints {w : World} {a : Option Addr} {n cap : Nat} {ps : List Row} (h : RowsP w (.slice a n cap) ps) {k : Nat} (hk : k < ps.length) :
    ∃ b off a2 c2, a = some ⟨b, off, none⟩ ∧ w.cell? ⟨b, off + k, none⟩ = some (.slice a2 ps[k].2.length c2) ∧ Ints w (.slice a2 ps[k].2.length c2) ps[k].2 := by
  obtain ⟨b, off, a2, c2, h1, h2, -, h4⟩ := h.row hk
  exact ⟨b, off, a2, c2, h1, h2, h4⟩
/-- What Allows answers where all weighted sums are equal. -/
def AllowsTo (w : World) (e : Ending) (w' : World) : Prop := e = .returned (.tuple #[.bool true, .int .i64 0]) ∧ w.grownBy w' none
theorem fl_bd {C : List (List Int)} {c N : Nat} {fs : List Row} (h : OfL C c N (fs.map Prod.snd)) {k : Nat} (hk : k < fs.length) : fs[k].2.length = C.length ∧ ∀ x ∈ fs[k].2, 0 ≤ x ∧ x ≤ 1099511627776 := by
  obtain ⟨s, -, -, h3, h4⟩ := h.all _ (List.mem_map_of_mem (List.getElem_mem hk))
  exact ⟨h3.flow.1, fun x hx => by have := h4 x hx; omega⟩
set_option maxRecDepth 100000 in
set_option maxHeartbeats 2000000 in
theorem allows_any {w : World} {v vs vn : Value} {ps : List Row} {r c : Nat} {st nw : List Int} (h : RowsP w v ps) (hm : MatOkP r c ps) (h6 : r ≤ 6) (hT : TabW w) (hs : Ints w vs st) (hsl : st.length = r) (hsb : ∀ x ∈ st, 0 ≤ x ∧ x ≤ 1048576)
    (hn : Ints w vn nw) (hnl : nw.length = r) (hnb : ∀ x ∈ nw, 0 ≤ x ∧ x ≤ 1048576) (heq : ∀ y, Flow (ps.map Prod.snd) c y → dotL y st = dotL y nw) :
    Calls Tryd.prog 22 #[v, vs, vn] w (AllowsTo w) := by
  have H := Lib.hid h; have HM := Lib.hid hm; have HT := Lib.hid hT; have HS := Lib.hid hs; have HSB := Lib.hid hsb; have HN := Lib.hid hn; have HNB := Lib.hid hnb; have HEQ := Lib.hid heq
  have HPL := Lib.hid hm.1; have HSL := Lib.hid hsl; have HNL := Lib.hid hnl
  obtain ⟨a, cap, rfl, -⟩ : ∃ a cap, v = .slice a ps.length cap ∧ True := by obtain ⟨a, cap, h, -⟩ := h; exact ⟨a, cap, h, trivial⟩
  obtain ⟨as', cs', rfl, -⟩ := hs
  obtain ⟨an, cn, rfl, -⟩ := hn
  have e1 : ps.length = r := hm.1
  rw [e1] at H ⊢
  rw [hsl] at HS ⊢
  rw [hnl] at HN ⊢
  have k1 : ((r : Int) != (r : Int)) = false := by simp
  clear h hT hsb hnb heq hm hsl hnl e1
  go_enter Tryd.func22, Tryd.ntmps22
  go_wp2_with fail
  refine (of_any H.out HM.out h6 HT.out).mono ?_
  rintro e w1 ⟨vf, fs, rfl, hF, hL, -, hg⟩
  have HF := Lib.hid hF; have HL := Lib.hid hL; have HG := Lib.hid hg
  replace HS := Lib.hid (HS.out.same hg); replace HN := Lib.hid (HN.out.same hg)
  obtain ⟨af, cf, rfl, -⟩ : ∃ a cap, vf = .slice a fs.length cap ∧ True := by obtain ⟨a, cap, h, -⟩ := hF; exact ⟨a, cap, h, trivial⟩
  clear hF hL hg
  go_wp2_with fail
  refine (within_any _ _ _ _ HS.out HSB.out).mono ?_
  rintro e w2 ⟨rfl, hw⟩
  subst hw
  go_wp2_with fail
  refine (within_any _ _ _ _ HN.out HNB.out).mono ?_
  rintro e w3 ⟨rfl, hw⟩
  subst hw
  have hfl : fs.length ≤ maxLen := by obtain ⟨_, _, -, h, -⟩ := HF.out; exact h
  unfold maxLen at hfl
  go_wp2_with fail
  go_loop [49] (fun i => ∃ k : Nat, i = .int .i64 k ∧ k ≤ fs.length) (fun i => fs.length - (intOf i).toNat)
  case atStart => exact ⟨0, rfl, Nat.zero_le _⟩
  case round =>
    obtain ⟨k, rfl, hk⟩ := hrel
    by_cases hkb : k < fs.length
    · have h1 : (k : Int) < (fs.length : Int) := by omega
      have i1 : IntKind.i64.wrap ((k : Int) + 1) = (k : Int) + 1 := IntWalk.i64_in _ (by omega)
      obtain ⟨b, off, a2, c2, rfl, hc, hi⟩ := row_ints HF.out hkb
      have hfb := fl_bd HL.out hkb
      have HFL : Hid (Flow (ps.map Prod.snd) c fs[k].2) := Lib.hid (by
        obtain ⟨s, -, -, h3, -⟩ := HL.out.all _ (List.mem_map_of_mem (List.getElem_mem hkb))
        exact h3.flow)
      have hyl : fs[k].2.length = r := by rw [hfb.1, List.length_map, HPL.out]
      rw [hyl] at hc hi
      have HI := Lib.hid hi; have HB := Lib.hid hfb.2; have HYL := Lib.hid hyl
      generalize fs[k].2 = y at *
      have HE : Hid (dotL y st = dotL y nw) := Lib.hid (HEQ.out y HFL.out)
      clear hi hfb hyl
      go_wp2_with fail
      refine (value_any _ _ y st _ HI.out HS.out (by rw [HYL.out, HSL.out]) (by rw [HYL.out]; exact h6) HB.out HSB.out).mono ?_
      rintro e w4 ⟨rfl, hw⟩
      subst hw
      go_wp2_with fail
      refine (value_any _ _ y nw _ HI.out HN.out (by rw [HYL.out, HNL.out]) (by rw [HYL.out]; exact h6) HB.out HNB.out).mono ?_
      rintro e w5 ⟨rfl, hw⟩
      subst hw
      rw [← HE.out]
      generalize dotL y st = z at *
      have q1 : (z != z) = false := by simp
      go_wp2_with fail
      go_round
      case rel => exact ⟨k + 1, by go_num, by omega⟩
      case measure => simp [intOf]; omega
    · obtain rfl : k = fs.length := by omega
      have h1 : ¬ (fs.length : Int) < (fs.length : Int) := by omega
      go_wp2_with fail
      go_ret2
      exact ⟨rfl, HG.out⟩
/-- What Bound answers: no more than each quotient. -/
def BoundA (C : List (List Int)) (c r : Nat) (st : List Int) (p : Nat) (b : Int) : Prop := ∃ s y, 1 ≤ s ∧ s < 2 ^ r ∧ FlowAt C c (bitB s) y ∧ (∀ x ∈ y, 0 ≤ x) ∧ 0 < y[p]?.getD 0 ∧ b = (dotL y st).tdiv (y[p]?.getD 0)
def BoundTo (C : List (List Int)) (c r : Nat) (st : List Int) (p : Nat) (w : World) (e : Ending) (w' : World) : Prop := ∃ (b : Int) (ok : Bool), e = .returned (.tuple #[.int .i64 b, .bool ok, .int .i64 0]) ∧ (ok = true → BoundA C c r st p b) ∧ (ok = false → ∀ s y, 1 ≤ s → s < 2 ^ r → FlowAt C c (bitB s) y → ¬ 0 < y[p]?.getD 0) ∧ w.grownBy w' none
set_option maxRecDepth 100000 in
set_option maxHeartbeats 2000000 in
theorem bound_any {w : World} {v vs : Value} {ps : List Row} {r c : Nat} {st : List Int} {p : Nat} (h : RowsP w v ps) (hm : MatOkP r c ps) (h6 : r ≤ 6) (hT : TabW w) (hs : Ints w vs st) (hsl : st.length = r) (hsb : ∀ x ∈ st, 0 ≤ x ∧ x ≤ 1048576) (hp : p < r) :
    Calls Tryd.prog 20 #[v, vs, .int .i64 (p : Int)] w (BoundTo (ps.map Prod.snd) c r st p w) := by
  have H := Lib.hid h; have HM := Lib.hid hm; have HT := Lib.hid hT; have HS := Lib.hid hs; have HSB := Lib.hid hsb
  have HPL := Lib.hid hm.1; have HSL := Lib.hid hsl
  obtain ⟨a, cap, rfl, -⟩ : ∃ a cap, v = .slice a ps.length cap ∧ True := by obtain ⟨a, cap, h, -⟩ := h; exact ⟨a, cap, h, trivial⟩
  obtain ⟨as', cs', rfl, -⟩ := hs
  have e1 : ps.length = r := hm.1
  rw [e1] at H ⊢
  rw [hsl] at HS ⊢
  have k1 : ((r : Int) != (r : Int)) = false := by simp
  have k2 : decide ((p : Int) < 0) = false := by simp
  have k3 : decide (r ≤ p) = false := by simp; omega
  have k4 : (p : Int) < (r : Int) := by omega
  clear h hT hsb hm hsl e1
  go_enter Tryd.func20, Tryd.ntmps20
  go_wp2_with fail
  refine (of_any H.out HM.out h6 HT.out).mono ?_
  rintro e w1 ⟨vf, fs, rfl, hF, hL, -, hg⟩
  have HF := Lib.hid hF; have HL := Lib.hid hL; have HG := Lib.hid hg
  replace HS := Lib.hid (HS.out.same hg)
  obtain ⟨af, cf, rfl, -⟩ : ∃ a cap, vf = .slice a fs.length cap ∧ True := by obtain ⟨a, cap, h, -⟩ := hF; exact ⟨a, cap, h, trivial⟩
  clear hF hL hg
  go_wp2_with fail
  refine (within_any _ _ _ _ HS.out HSB.out).mono ?_
  rintro e w2 ⟨rfl, hw⟩
  subst hw
  have hfl : fs.length ≤ maxLen := by obtain ⟨_, _, -, h, -⟩ := HF.out; exact h
  unfold maxLen at hfl
  go_wp2_with fail
  go_loop [49, 11, 12] (fun i l f => ∃ (k : Nat) (b : Int) (ok : Bool), i = .int .i64 k ∧ l = .int .i64 b ∧ f = .bool ok ∧ k ≤ fs.length ∧ Hid (ok = true → BoundA (ps.map Prod.snd) c r st p b) ∧ Hid (ok = false → ∀ k' (hk' : k' < fs.length), k' < k → ¬ 0 < fs[k'].2[p]?.getD 0)) (fun i _ _ => fs.length - (intOf i).toNat)
  case atStart => exact ⟨0, 0, false, rfl, rfl, rfl, Nat.zero_le _, Lib.hid (fun h => by cases h), Lib.hid (fun _ k' _ h => by omega)⟩
  case round =>
    obtain ⟨k, b, ok, rfl, rfl, rfl, hk, HB0, HB1⟩ := hrel
    by_cases hkb : k < fs.length
    · have h1 : (k : Int) < (fs.length : Int) := by omega
      have i1 : IntKind.i64.wrap ((k : Int) + 1) = (k : Int) + 1 := IntWalk.i64_in _ (by omega)
      obtain ⟨b', off, a2, c2, rfl, hc, hi⟩ := row_ints HF.out hkb
      have hfb := fl_bd HL.out hkb
      have HFL : Hid (∃ s, 1 ≤ s ∧ s < 2 ^ r ∧ FlowAt (ps.map Prod.snd) c (bitB s) fs[k].2) := Lib.hid (by
        obtain ⟨s, h1, h2, h3, -⟩ := HL.out.all _ (List.mem_map_of_mem (List.getElem_mem hkb))
        exact ⟨s, h1, h2, h3⟩)
      have HBN : Hid (¬ 0 < fs[k].2[p]?.getD 0 → ok = false → ∀ k' (hk' : k' < fs.length), k' < k + 1 → ¬ 0 < fs[k'].2[p]?.getD 0) := Lib.hid (fun h1 h2 k' hk' h3 => by
        by_cases e : k' = k
        · subst e; exact h1
        · exact HB1.out h2 k' hk' (by omega))
      have hyl : fs[k].2.length = r := by rw [hfb.1, List.length_map, HPL.out]
      rw [hyl] at hc hi
      have HI := Lib.hid hi; have HB := Lib.hid hfb.2; have HYL := Lib.hid hyl
      generalize hyk : fs[k].2 = y at *
      clear hyk
      obtain ⟨_, _, hxv, -, -, hxc⟩ := HI.out
      simp only [Value.slice.injEq] at hxv
      obtain ⟨rfl, -, rfl⟩ := hxv
      obtain ⟨by', oy, rfl, hcy⟩ := Ints.at hxc (show p < y.length by omega)
      have hb := mem_at (P := fun y => 0 ≤ y ∧ y ≤ 1099511627776) HB.out (show p < y.length by omega)
      have HV : Hid (y[p]?.getD 0 = y[p]?.getD 0) := Lib.hid rfl
      obtain ⟨u, hu⟩ : ∃ u, y[p]?.getD 0 = u := ⟨_, rfl⟩
      rw [hu] at hcy hb
      have HU := Lib.hid hu
      clear hi hfb hyl hxc hu HV
      by_cases hu0 : u = 0
      · subst hu0
        have q1 : ((0 : Int) == 0) = true := by decide
        clear hb
        go_wp2_with fail
        go_round
        case rel => exact ⟨k + 1, b, ok, by go_num, rfl, rfl, by omega, HB0, Lib.hid (HBN.out (by have := HU.out; omega))⟩
        case measure => simp [intOf]; omega
      · have q1 : (u == 0) = false := by simpa using hu0
        have HU0 : Hid (0 < u) := Lib.hid (by omega)
        have HZB : Hid (-60000000000000000000 ≤ dotL y st ∧ dotL y st ≤ 8000000000000000000) := Lib.hid (by
          have := dot_bd (A := 1099511627776) (B := 1048576) y st (fun x hx => by have := HB.out x hx; omega) (fun x hx => by have := HSB.out x hx; omega) (by decide)
          have := HYL.out
          omega)
        have HZ8 : Hid (-8000000000000000000 ≤ dotL y st ∧ dotL y st ≤ 8000000000000000000) := Lib.hid (by
          have := dot_bd (A := 1099511627776) (B := 1048576) y st (fun x hx => by have := HB.out x hx; omega) (fun x hx => by have := HSB.out x hx; omega) (by decide)
          have := HYL.out
          omega)
        have m4 : IntKind.i64.wrap ((dotL y st).tdiv u) = (dotL y st).tdiv u := IntWalk.i64_in _ (by
          have h5 : ((dotL y st).tdiv u).natAbs ≤ (dotL y st).natAbs := by rw [Int.natAbs_tdiv]; exact Nat.div_le_self _ _
          have := HZ8.out
          generalize (dotL y st).tdiv u = q at *
          omega)
        clear hb
        go_wp2_with fail
        refine (value_any _ _ y st _ HI.out HS.out (by rw [HYL.out, HSL.out]) (by rw [HYL.out]; exact h6) HB.out HSB.out).mono ?_
        rintro e w4 ⟨rfl, hw⟩
        subst hw
        have HNEW2 : Hid (BoundA (ps.map Prod.snd) c r st p ((dotL y st).tdiv u)) := Lib.hid (by
          obtain ⟨s, h1, h2, h3⟩ := HFL.out
          exact ⟨s, y, h1, h2, h3, fun x hx => (HB.out x hx).1, by rw [HU.out]; exact HU0.out, by rw [HU.out]⟩)
        generalize dotL y st = z at *
        generalize hq : z.tdiv u = q at *
        clear HZB HZ8
        cases ok with
        | false =>
          go_wp2_with fail
          go_round
          case rel => exact ⟨k + 1, q, true, by go_num, rfl, rfl, by omega, Lib.hid (fun _ => HNEW2.out), Lib.hid (fun h => by cases h)⟩
          case measure => simp [intOf]; omega
        | true =>
          by_cases hlt : q < b
          · have q2 : decide (q < b) = true := by simpa using hlt
            go_wp2_with fail
            go_round
            case rel => exact ⟨k + 1, q, true, by go_num, rfl, rfl, by omega, Lib.hid (fun _ => HNEW2.out), Lib.hid (fun h => by cases h)⟩
            case measure => simp [intOf]; omega
          · have q2 : decide (q < b) = false := by simpa using hlt
            go_wp2_with fail
            go_round
            case rel => exact ⟨k + 1, b, true, by go_num, rfl, rfl, by omega, Lib.hid (fun _ => HB0.out trivial), Lib.hid (fun h => by cases h)⟩
            case measure => simp [intOf]; omega
    · obtain rfl : k = fs.length := by omega
      have h1 : ¬ (fs.length : Int) < (fs.length : Int) := by omega
      go_wp2_with fail
      go_ret3
      refine ⟨b, ok, rfl, HB0.out, fun h s y h1 h2 h3 => ?_, HG.out⟩
      have hy := HL.out.got s h1 h2 y h3
      obtain ⟨k', hk', e⟩ := List.getElem_of_mem hy
      have hk2 : k' < fs.length := by simpa using hk'
      have := HB1.out h k' hk2 hk2
      rw [List.getElem_map] at e
      rw [e] at this
      omega
end Go.Proofs.YtpnghgihepnepaaDoor
