/- Texts Qg in one. -/
import Derived.Test.YtpnghgihepnepaaDoorU31
namespace Go.Proofs.YtpnghgihepnepaaDoor
open Go.RowKit
set_option linter.unusedVariables false

/-- What Bound reckons, flow by flow. -/
def bstep (st : List Int) (p : Nat) (a : Int × Bool) (y : List Int) : Int × Bool :=
  if y[p]?.getD 0 = 0 then a else if a.2 = false ∨ (dotL y st).tdiv (y[p]?.getD 0) < a.1 then ((dotL y st).tdiv (y[p]?.getD 0), true) else a
def boundL (st : List Int) (p : Nat) (fs : List (List Int)) : Int × Bool := fs.foldl (bstep st p) (0, false)
theorem boundL_snoc (st : List Int) (p : Nat) (fs : List (List Int)) (k : Nat) (h : k < fs.length) : boundL st p (fs.take (k + 1)) = bstep st p (boundL st p (fs.take k)) fs[k] := by
  unfold boundL
  rw [List.take_succ_eq_append_getElem h, List.foldl_append]
  rfl
theorem flows_at {C : List (List Int)} {c r : Nat} {fs : List Row} (h : OfL C c (2 ^ r) (fs.map Prod.snd)) (hC : C.length = r) {k : Nat} (hk : k < fs.length) : fs[k].2.length = r ∧ ∀ x ∈ fs[k].2, 0 ≤ x ∧ x ≤ 1099511627776 := by
  have := fl_bd h hk
  exact ⟨by rw [this.1, hC], this.2⟩
theorem mapsnd_at (fs : List Row) (k : Nat) (h : k < fs.length) : (fs.map Prod.snd)[k]'(by rw [List.length_map]; exact h) = fs[k].2 := by simp
def BoundIs (C : List (List Int)) (c r : Nat) (st : List Int) (p : Nat) (w : World) (e : Ending) (w' : World) : Prop := ∃ fs, OfL C c (2 ^ r) fs ∧ SortedL fs ∧ e = .returned (.tuple #[.int .i64 (boundL st p fs).1, .bool (boundL st p fs).2, .int .i64 0]) ∧ w.grownBy w' none
theorem dot_fit {y st : List Int} {r : Nat} (h6 : r ≤ 6) (hl : y.length = r) (hy : ∀ x ∈ y, 0 ≤ x ∧ x ≤ 1099511627776) (hs : ∀ x ∈ st, 0 ≤ x ∧ x ≤ 1048576) : -8000000000000000000 ≤ dotL y st ∧ dotL y st ≤ 8000000000000000000 := by
  have := dot_bd (A := 1099511627776) (B := 1048576) y st (fun x hx => by have := hy x hx; omega) (fun x hx => by have := hs x hx; omega) (by decide)
  omega
theorem quo_fit {z u : Int} (h : -8000000000000000000 ≤ z ∧ z ≤ 8000000000000000000) : IntKind.i64.wrap (z.tdiv u) = z.tdiv u := IntWalk.i64_in _ (by
  have h5 : (z.tdiv u).natAbs ≤ z.natAbs := by rw [Int.natAbs_tdiv]; exact Nat.div_le_self _ _
  generalize z.tdiv u = q at *
  omega)
theorem pair_eta (a : Int × Bool) {b : Int} {ok : Bool} (h : a = (b, ok)) : a.1 = b ∧ a.2 = ok := by rw [h]; exact ⟨rfl, rfl⟩
set_option maxRecDepth 100000 in
set_option maxHeartbeats 3000000 in
theorem bound_is {w : World} {v vs : Value} {ps : List Row} {r c : Nat} {st : List Int} {p : Nat} (h : RowsP w v ps) (hm : MatOkP r c ps) (h6 : r ≤ 6) (hT : TabW w) (hs : Ints w vs st) (hsl : st.length = r) (hsb : ∀ x ∈ st, 0 ≤ x ∧ x ≤ 1048576) (hp : p < r) :
    Calls Tryd.prog 20 #[v, vs, .int .i64 (p : Int)] w (BoundIs (ps.map Prod.snd) c r st p w) := by
  have HM := Lib.hid hm; have HS := Lib.hid hs; have HSB := Lib.hid hsb
  have HOF := Lib.hid (of_any h hm h6 hT)
  have HPL := Lib.hid hm.1; have HSL := Lib.hid hsl
  obtain ⟨a, cap, rfl, -⟩ : ∃ a cap, v = .slice a ps.length cap ∧ True := by obtain ⟨a, cap, h, -⟩ := h; exact ⟨a, cap, h, trivial⟩
  obtain ⟨as', cs', rfl, -⟩ := hs
  have e1 : ps.length = r := hm.1
  rw [e1] at HOF ⊢
  rw [hsl] at HS ⊢
  have k1 : ((r : Int) != (r : Int)) = false := by simp
  have k2 : decide ((p : Int) < 0) = false := by simp
  have k2' : ¬ (p : Int) < 0 := by omega
  have k3 : decide (r ≤ p) = false := by simp; omega
  have k3' : ¬ (r : Int) ≤ (p : Int) := by omega
  have k4 : (p : Int) < (r : Int) := by omega
  have HCL : Hid ((ps.map Prod.snd).length = r) := Lib.hid (by rw [List.length_map]; exact e1)
  clear h hsb hm hsl e1 hT
  go_enter Tryd.func20, Tryd.ntmps20
  go_wp2_with fail
  refine HOF.out.mono ?_
  rintro e w1 ⟨vf, fs, rfl, hF, hL, hso, hg⟩
  have HF := Lib.hid hF; have HL := Lib.hid hL; have HSO : Hid (SortedL (fs.map Prod.snd)) := Lib.hid hso; have HG := Lib.hid hg
  replace HS := Lib.hid (HS.out.same hg)
  obtain ⟨af, cf, rfl, -⟩ : ∃ a cap, vf = .slice a fs.length cap ∧ True := by obtain ⟨a, cap, h, -⟩ := hF; exact ⟨a, cap, h, trivial⟩
  have hfl : fs.length ≤ maxLen := by obtain ⟨_, _, -, h, -⟩ := hF; exact h
  unfold maxLen at hfl
  clear hF hL hg hso HOF
  go_wp2_with fail
  refine (within_is _ _ _ _ HS.out).mono ?_
  rintro e w2 ⟨rfl, hw⟩
  subst hw
  rw [nn_all HSB.out]
  go_wp2_with fail
  clear k2 k2' k3 k3'
  go_loopw [49, 11, 12] (fun i l f wr => ∃ (k : Nat) (b : Int) (ok : Bool), i = .int .i64 k ∧ l = .int .i64 b ∧ f = .bool ok ∧ k ≤ fs.length ∧ Hid (boundL st p ((fs.map Prod.snd).take k) = (b, ok)) ∧ Hid (w.grownBy wr none) ∧ Hid (w2.grownBy wr none)) (fun i _ _ _ => fs.length - (intOf i).toNat)
  case atStart => exact ⟨0, 0, false, rfl, rfl, rfl, Nat.zero_le _, Lib.hid rfl, HG, Lib.hid (grown_refl _ _)⟩
  case round =>
    clear HG
    obtain ⟨k, b, ok, rfl, rfl, rfl, hk, HB0, HG, HK⟩ := hrel
    rename World => wk
    by_cases hkb : k < fs.length
    · have h1 : (k : Int) < (fs.length : Int) := by omega
      have i1 : IntKind.i64.wrap ((k : Int) + 1) = (k : Int) + 1 := IntWalk.i64_in _ (by omega)
      obtain ⟨b', off, a2, c2, rfl, hc, hi⟩ := row_ints (HF.out.same HK.out) hkb
      have hfb := flows_at HL.out HCL.out hkb
      have HBN : Hid (boundL st p ((fs.map Prod.snd).take (k + 1)) = bstep st p (b, ok) fs[k].2) := Lib.hid (by
        rw [boundL_snoc _ _ _ k (by rw [List.length_map]; exact hkb), HB0.out, mapsnd_at fs k hkb])
      have hyl : fs[k].2.length = r := hfb.1
      rw [hyl] at hc hi
      have HI := Lib.hid hi; have HB := Lib.hid hfb.2; have HYL := Lib.hid hyl
      generalize hyk : fs[k].2 = y at *
      clear hyk
      have HZ8 := Lib.hid (dot_fit h6 HYL.out HB.out HSB.out)
      obtain ⟨_, _, hxv, -, -, hxc⟩ := HI.out
      simp only [Value.slice.injEq] at hxv
      obtain ⟨rfl, -, rfl⟩ := hxv
      obtain ⟨by', oy, rfl, hcy⟩ := Ints.at hxc (show p < y.length by omega)
      have hb := mem_at (P := fun y => 0 ≤ y ∧ y ≤ 1099511627776) HB.out (show p < y.length by omega)
      obtain ⟨u, hu⟩ : ∃ u, y[p]?.getD 0 = u := ⟨_, rfl⟩
      rw [hu] at hcy hb
      have HU := Lib.hid hu
      clear hi hfb hyl hxc hu
      by_cases hu0 : u = 0
      · subst hu0
        have q1 : ((0 : Int) == 0) = true := by decide
        have HBE : Hid (boundL st p ((fs.map Prod.snd).take (k + 1)) = (b, ok)) := Lib.hid (by rw [HBN.out]; unfold bstep; rw [if_pos HU.out])
        clear hb
        go_wp2_with fail
        go_roundw
        case rel => exact ⟨k + 1, b, ok, by go_num, rfl, rfl, by omega, HBE, HG, HK⟩
        case measure => simp [intOf]; omega
      · have q1 : (u == 0) = false := by simpa using hu0
        have m4 := quo_fit (u := u) HZ8.out
        have HBE : Hid (boundL st p ((fs.map Prod.snd).take (k + 1)) = if ok = false ∨ (dotL y st).tdiv u < b then ((dotL y st).tdiv u, true) else (b, ok)) := Lib.hid (by rw [HBN.out]; unfold bstep; rw [HU.out, if_neg hu0])
        clear hb
        go_wp2_with fail
        refine (value_any _ _ y st _ HI.out (HS.out.same HK.out) (by rw [HYL.out, HSL.out]) (by rw [HYL.out]; exact h6) HB.out HSB.out).mono ?_
        rintro e w4 ⟨rfl, hw⟩
        subst hw
        generalize dotL y st = z at *
        generalize hq : z.tdiv u = q at *
        clear HZ8
        cases ok with
        | false =>
          have HBF : Hid (boundL st p ((fs.map Prod.snd).take (k + 1)) = (q, true)) := Lib.hid (by rw [HBE.out, if_pos (.inl rfl)])
          go_wp2_with fail
          go_roundw
          case rel => exact ⟨k + 1, q, true, by go_num, rfl, rfl, by omega, HBF, HG, HK⟩
          case measure => simp [intOf]; omega
        | true =>
          by_cases hlt : q < b
          · have q2 : decide (q < b) = true := by simpa using hlt
            have HBF : Hid (boundL st p ((fs.map Prod.snd).take (k + 1)) = (q, true)) := Lib.hid (by rw [HBE.out, if_pos (.inr hlt)])
            go_wp2_with fail
            go_roundw
            case rel => exact ⟨k + 1, q, true, by go_num, rfl, rfl, by omega, HBF, HG, HK⟩
            case measure => simp [intOf]; omega
          · have q2 : decide (q < b) = false := by simpa using hlt
            have HBF : Hid (boundL st p ((fs.map Prod.snd).take (k + 1)) = (b, true)) := Lib.hid (by rw [HBE.out, if_neg (by simp; omega)])
            go_wp2_with fail
            go_roundw
            case rel => exact ⟨k + 1, b, true, by go_num, rfl, rfl, by omega, HBF, HG, HK⟩
            case measure => simp [intOf]; omega
    · obtain rfl : k = fs.length := by omega
      have h1 : ¬ (fs.length : Int) < (fs.length : Int) := by omega
      have HBE : Hid (boundL st p (fs.map Prod.snd) = (b, ok)) := Lib.hid (by have := HB0.out; rw [List.take_of_length_le (by rw [List.length_map]; exact Nat.le_refl _)] at this; exact this)
      go_wp2_with fail
      go_ret3
      exact ⟨_, HL.out, HSO.out, by rw [HBE.out]; rfl, HG.out⟩
set_option maxRecDepth 100000 in
set_option maxHeartbeats 3000000 in
theorem rbound_is {w : World} {v vs : Value} {ps : List Row} {r c : Nat} {st : List Int} {p : Nat} (h : RowsP w v ps) (hm : MatOkP r c ps) (h6 : r ≤ 6) (hs : Ints w vs st) (hsl : st.length = r) (hsb : ∀ x ∈ st, 0 ≤ x ∧ x ≤ 1048576) (hp : p < r) :
    Calls Tryd.prog 21 #[v, vs, .int .i64 (p : Int)] w (BoundIs (ps.map Prod.snd) c r st p w) := by
  have HM := Lib.hid hm; have HS := Lib.hid hs; have HSB := Lib.hid hsb
  have HOF := Lib.hid (rOf_any h hm h6)
  have HPL := Lib.hid hm.1; have HSL := Lib.hid hsl
  obtain ⟨a, cap, rfl, -⟩ : ∃ a cap, v = .slice a ps.length cap ∧ True := by obtain ⟨a, cap, h, -⟩ := h; exact ⟨a, cap, h, trivial⟩
  obtain ⟨as', cs', rfl, -⟩ := hs
  have e1 : ps.length = r := hm.1
  rw [e1] at HOF ⊢
  rw [hsl] at HS ⊢
  have k1 : ((r : Int) != (r : Int)) = false := by simp
  have k2 : decide ((p : Int) < 0) = false := by simp
  have k2' : ¬ (p : Int) < 0 := by omega
  have k3 : decide (r ≤ p) = false := by simp; omega
  have k3' : ¬ (r : Int) ≤ (p : Int) := by omega
  have k4 : (p : Int) < (r : Int) := by omega
  have HCL : Hid ((ps.map Prod.snd).length = r) := Lib.hid (by rw [List.length_map]; exact e1)
  clear h hsb hm hsl e1
  go_enter Tryd.func21, Tryd.ntmps21
  go_wp2_with fail
  refine HOF.out.mono ?_
  rintro e w1 ⟨vf, fs, rfl, hF, hL, hso, hg⟩
  have HF := Lib.hid hF; have HL := Lib.hid hL; have HSO : Hid (SortedL (fs.map Prod.snd)) := Lib.hid hso; have HG := Lib.hid hg
  replace HS := Lib.hid (HS.out.same hg)
  obtain ⟨af, cf, rfl, -⟩ : ∃ a cap, vf = .slice a fs.length cap ∧ True := by obtain ⟨a, cap, h, -⟩ := hF; exact ⟨a, cap, h, trivial⟩
  have hfl : fs.length ≤ maxLen := by obtain ⟨_, _, -, h, -⟩ := hF; exact h
  unfold maxLen at hfl
  clear hF hL hg hso HOF
  go_wp2_with fail
  refine (rnumbers_is _ _ _ _ HS.out).mono ?_
  rintro e w2 ⟨rfl, hw⟩
  subst hw
  rw [nn_all HSB.out]
  go_wp2_with fail
  clear k2 k2' k3 k3'
  go_loopw [13, 11, 12] (fun i l f wr => ∃ (k : Nat) (b : Int) (ok : Bool), i = .int .i64 k ∧ l = .int .i64 b ∧ f = .bool ok ∧ k ≤ fs.length ∧ Hid (boundL st p ((fs.map Prod.snd).take k) = (b, ok)) ∧ Hid (w.grownBy wr none) ∧ Hid (w2.grownBy wr none)) (fun i _ _ _ => fs.length - (intOf i).toNat)
  case atStart => exact ⟨0, 0, false, rfl, rfl, rfl, Nat.zero_le _, Lib.hid rfl, HG, Lib.hid (grown_refl _ _)⟩
  case round =>
    clear HG
    obtain ⟨k, b, ok, rfl, rfl, rfl, hk, HB0, HG, HK⟩ := hrel
    rename World => wk
    by_cases hkb : k < fs.length
    · have h1 : (k : Int) < (fs.length : Int) := by omega
      have i1 : IntKind.i64.wrap ((k : Int) + 1) = (k : Int) + 1 := IntWalk.i64_in _ (by omega)
      obtain ⟨b', off, a2, c2, rfl, hc, hi⟩ := row_ints (HF.out.same HK.out) hkb
      have hfb := flows_at HL.out HCL.out hkb
      have HBN : Hid (boundL st p ((fs.map Prod.snd).take (k + 1)) = bstep st p (b, ok) fs[k].2) := Lib.hid (by
        rw [boundL_snoc _ _ _ k (by rw [List.length_map]; exact hkb), HB0.out, mapsnd_at fs k hkb])
      have hyl : fs[k].2.length = r := hfb.1
      rw [hyl] at hc hi
      have HI := Lib.hid hi; have HB := Lib.hid hfb.2; have HYL := Lib.hid hyl
      generalize hyk : fs[k].2 = y at *
      clear hyk
      have HZ8 := Lib.hid (dot_fit h6 HYL.out HB.out HSB.out)
      obtain ⟨_, _, hxv, -, -, hxc⟩ := HI.out
      simp only [Value.slice.injEq] at hxv
      obtain ⟨rfl, -, rfl⟩ := hxv
      obtain ⟨by', oy, rfl, hcy⟩ := Ints.at hxc (show p < y.length by omega)
      have hb := mem_at (P := fun y => 0 ≤ y ∧ y ≤ 1099511627776) HB.out (show p < y.length by omega)
      obtain ⟨u, hu⟩ : ∃ u, y[p]?.getD 0 = u := ⟨_, rfl⟩
      rw [hu] at hcy hb
      have HU := Lib.hid hu
      clear hi hfb hyl hxc hu
      by_cases hu0 : u = 0
      · subst hu0
        have q1 : ((0 : Int) == 0) = true := by decide
        have HBE : Hid (boundL st p ((fs.map Prod.snd).take (k + 1)) = (b, ok)) := Lib.hid (by rw [HBN.out]; unfold bstep; rw [if_pos HU.out])
        clear hb
        go_wp2_with fail
        go_roundw
        case rel => exact ⟨k + 1, b, ok, by go_num, rfl, rfl, by omega, HBE, HG, HK⟩
        case measure => simp [intOf]; omega
      · have q1 : (u == 0) = false := by simpa using hu0
        have m4 := quo_fit (u := u) HZ8.out
        have HBE : Hid (boundL st p ((fs.map Prod.snd).take (k + 1)) = if ok = false ∨ (dotL y st).tdiv u < b then ((dotL y st).tdiv u, true) else (b, ok)) := Lib.hid (by rw [HBN.out]; unfold bstep; rw [HU.out, if_neg hu0])
        clear hb
        have HSK := Lib.hid (HS.out.same HK.out)
        go_wp2_with fail
        go_big_quiet ((go_at_call 41; exact (rsum_any _ _ y st _ (HI.out.same (grown_drewN _ _ none)) (HSK.out.same (grown_drewN _ _ none)) (by rw [HYL.out, HSL.out]) (by rw [HYL.out]; exact h6) HB.out HSB.out).mono (fun _ _ ⟨he, hd⟩ => ⟨he, by obtain ⟨m, rfl⟩ := hd; exact ⟨_ + m, by simp; rfl⟩⟩)))
        replace HG := Lib.hid (grown_trans HG.out (grown_drewN wk nq none))
        replace HK := Lib.hid (grown_trans HK.out (grown_drewN wk nq none))
        clear HSK hc hcy
        generalize wk.drewN nq = wd at *
        generalize dotL y st = z at *
        generalize hq : z.tdiv u = q at *
        clear HZ8
        cases ok with
        | false =>
          have HBF : Hid (boundL st p ((fs.map Prod.snd).take (k + 1)) = (q, true)) := Lib.hid (by rw [HBE.out, if_pos (.inl rfl)])
          go_wp2_with fail
          go_roundw
          case rel => exact ⟨k + 1, q, true, by go_num, rfl, rfl, by omega, HBF, HG, HK⟩
          case measure => simp [intOf]; omega
        | true =>
          by_cases hlt : q < b
          · have q2 : decide (q < b) = true := by simpa using hlt
            have HBF : Hid (boundL st p ((fs.map Prod.snd).take (k + 1)) = (q, true)) := Lib.hid (by rw [HBE.out, if_pos (.inr hlt)])
            go_wp2_with fail
            go_roundw
            case rel => exact ⟨k + 1, q, true, by go_num, rfl, rfl, by omega, HBF, HG, HK⟩
            case measure => simp [intOf]; omega
          · have q2 : decide (q < b) = false := by simpa using hlt
            have HBF : Hid (boundL st p ((fs.map Prod.snd).take (k + 1)) = (b, true)) := Lib.hid (by rw [HBE.out, if_neg (by simp; omega)])
            go_wp2_with fail
            go_roundw
            case rel => exact ⟨k + 1, b, true, by go_num, rfl, rfl, by omega, HBF, HG, HK⟩
            case measure => simp [intOf]; omega
    · obtain rfl : k = fs.length := by omega
      have h1 : ¬ (fs.length : Int) < (fs.length : Int) := by omega
      have HBE : Hid (boundL st p (fs.map Prod.snd) = (b, ok)) := Lib.hid (by have := HB0.out; rw [List.take_of_length_le (by rw [List.length_map]; exact Nat.le_refl _)] at this; exact this)
      go_wp2_with fail
      go_ret3
      exact ⟨_, HL.out, HSO.out, by rw [HBE.out]; rfl, HG.out⟩
theorem bound_no {ms : List Row} {va vs : Value} {st : List Int} {p : Int} {w : World} (h : RowsI w va ms) (hno : ¬ Shape11 ms) (hs : Ints w vs st) :
    Calls Tryd.prog 20 #[va, vs, .int .i64 p] w fun e w' => e = .returned (.tuple #[.int .i64 0, .bool false, .int .i64 10]) ∧ w.grownBy w' none := by
  have H := Lib.hid (of_no h hno)
  clear h
  go_enter Tryd.func20, Tryd.ntmps20
  go_wp2_with fail
  refine H.out.mono ?_
  rintro e w1 ⟨rfl, hg⟩
  have HG := Lib.hid hg
  clear hg
  go_wp2_with fail
  go_ret3
  exact ⟨rfl, HG.out⟩
set_option maxRecDepth 100000 in
set_option maxHeartbeats 2000000 in
theorem bound_bad {w : World} {v vs : Value} {ps : List Row} {r c : Nat} {st : List Int} {p err : Int} (h : RowsP w v ps) (hm : MatOkP r c ps) (h6 : r ≤ 6) (hT : TabW w) (hs : Ints w vs st)
    (hb : (st.length ≠ r ∧ err = 3) ∨ (st.length = r ∧ (st.all (nnB 1048576) = false ∨ p < 0 ∨ (r : Int) ≤ p) ∧ err = 2)) :
    Calls Tryd.prog 20 #[v, vs, .int .i64 p] w fun e w' => e = .returned (.tuple #[.int .i64 0, .bool false, .int .i64 err]) ∧ w.grownBy w' none := by
  have HS := Lib.hid hs
  have HOF := Lib.hid (of_any h hm h6 hT)
  obtain ⟨a, cap, rfl, -⟩ : ∃ a cap, v = .slice a ps.length cap ∧ True := by obtain ⟨a, cap, h, -⟩ := h; exact ⟨a, cap, h, trivial⟩
  obtain ⟨as', cs', rfl, hsm, -⟩ := hs
  unfold maxLen at hsm
  have e1 : ps.length = r := hm.1
  rw [e1] at HOF ⊢
  clear h hm e1 hT
  rcases hb with ⟨hl, rfl⟩ | ⟨hl, hb, rfl⟩
  · have k1 : ((st.length : Int) != (r : Int)) = true := by simp; omega
    clear hl
    go_enter Tryd.func20, Tryd.ntmps20
    go_wp2_with fail
    refine HOF.out.mono ?_
    rintro e w1 ⟨vf, fs, rfl, hF, -, -, hg⟩
    have HG := Lib.hid hg
    obtain ⟨af, cf, rfl, -⟩ : ∃ a cap, vf = .slice a fs.length cap ∧ True := by obtain ⟨a, cap, h, -⟩ := hF; exact ⟨a, cap, h, trivial⟩
    clear hF hg HOF
    go_wp2_with fail
    go_ret3
    exact ⟨rfl, HG.out⟩
  · have k1 : ((st.length : Int) != (r : Int)) = false := by simp; omega
    clear hl
    cases hst : st.all (nnB 1048576) with
    | false =>
      have HST := Lib.hid hst
      clear hb hst
      go_enter Tryd.func20, Tryd.ntmps20
      go_wp2_with fail
      refine HOF.out.mono ?_
      rintro e w1 ⟨vf, fs, rfl, hF, -, -, hg⟩
      have HG := Lib.hid hg
      replace HS := Lib.hid (HS.out.same hg)
      obtain ⟨af, cf, rfl, -⟩ : ∃ a cap, vf = .slice a fs.length cap ∧ True := by obtain ⟨a, cap, h, -⟩ := hF; exact ⟨a, cap, h, trivial⟩
      clear hF hg HOF
      go_wp2_with fail
      refine (within_is _ _ _ _ HS.out).mono ?_
      rintro e w2 ⟨rfl, hw⟩
      subst hw
      rw [HST.out]
      go_wp2_with fail
      go_ret3
      exact ⟨rfl, HG.out⟩
    | true =>
      have HST := Lib.hid hst
      by_cases hp0 : p < 0
      · have d0 : decide (p < 0) = true := by simpa using hp0
        clear hb hst
        go_enter Tryd.func20, Tryd.ntmps20
        go_wp2_with fail
        refine HOF.out.mono ?_
        rintro e w1 ⟨vf, fs, rfl, hF, -, -, hg⟩
        have HG := Lib.hid hg
        replace HS := Lib.hid (HS.out.same hg)
        obtain ⟨af, cf, rfl, -⟩ : ∃ a cap, vf = .slice a fs.length cap ∧ True := by obtain ⟨a, cap, h, -⟩ := hF; exact ⟨a, cap, h, trivial⟩
        clear hF hg HOF
        go_wp2_with fail
        refine (within_is _ _ _ _ HS.out).mono ?_
        rintro e w2 ⟨rfl, hw⟩
        subst hw
        rw [HST.out]
        go_wp2_with fail
        go_ret3
        exact ⟨rfl, HG.out⟩
      · have hp1 : (r : Int) ≤ p := by
          rcases hb with hb | hb | hb
          · rw [hst] at hb; cases hb
          · exact absurd hb hp0
          · exact hb
        have d0 : decide (p < 0) = false := by simpa using hp0
        have d1 : decide ((r : Int) ≤ p) = true := by simpa using hp1
        clear hb hst
        go_enter Tryd.func20, Tryd.ntmps20
        go_wp2_with fail
        refine HOF.out.mono ?_
        rintro e w1 ⟨vf, fs, rfl, hF, -, -, hg⟩
        have HG := Lib.hid hg
        replace HS := Lib.hid (HS.out.same hg)
        obtain ⟨af, cf, rfl, -⟩ : ∃ a cap, vf = .slice a fs.length cap ∧ True := by obtain ⟨a, cap, h, -⟩ := hF; exact ⟨a, cap, h, trivial⟩
        clear hF hg HOF
        go_wp2_with fail
        refine (within_is _ _ _ _ HS.out).mono ?_
        rintro e w2 ⟨rfl, hw⟩
        subst hw
        rw [HST.out]
        go_wp2_with fail
        go_ret3
        exact ⟨rfl, HG.out⟩
theorem rbound_no {ms : List Row} {va vs : Value} {st : List Int} {p : Int} {w : World} (h : RowsI w va ms) (hno : ¬ Shape11 ms) (hs : Ints w vs st) :
    Calls Tryd.prog 21 #[va, vs, .int .i64 p] w fun e w' => e = .returned (.tuple #[.int .i64 0, .bool false, .int .i64 10]) ∧ w.grownBy w' none := by
  have H := Lib.hid (rOf_no h hno)
  clear h
  go_enter Tryd.func21, Tryd.ntmps21
  go_wp2_with fail
  refine H.out.mono ?_
  rintro e w1 ⟨rfl, hg⟩
  have HG := Lib.hid hg
  clear hg
  go_wp2_with fail
  go_ret3
  exact ⟨rfl, HG.out⟩
set_option maxRecDepth 100000 in
set_option maxHeartbeats 2000000 in
theorem rbound_bad {w : World} {v vs : Value} {ps : List Row} {r c : Nat} {st : List Int} {p err : Int} (h : RowsP w v ps) (hm : MatOkP r c ps) (h6 : r ≤ 6) (hs : Ints w vs st)
    (hb : (st.length ≠ r ∧ err = 3) ∨ (st.length = r ∧ (st.all (nnB 1048576) = false ∨ p < 0 ∨ (r : Int) ≤ p) ∧ err = 2)) :
    Calls Tryd.prog 21 #[v, vs, .int .i64 p] w fun e w' => e = .returned (.tuple #[.int .i64 0, .bool false, .int .i64 err]) ∧ w.grownBy w' none := by
  have HS := Lib.hid hs
  have HOF := Lib.hid (rOf_any h hm h6)
  obtain ⟨a, cap, rfl, -⟩ : ∃ a cap, v = .slice a ps.length cap ∧ True := by obtain ⟨a, cap, h, -⟩ := h; exact ⟨a, cap, h, trivial⟩
  obtain ⟨as', cs', rfl, hsm, -⟩ := hs
  unfold maxLen at hsm
  have e1 : ps.length = r := hm.1
  rw [e1] at HOF ⊢
  clear h hm e1
  rcases hb with ⟨hl, rfl⟩ | ⟨hl, hb, rfl⟩
  · have k1 : ((st.length : Int) != (r : Int)) = true := by simp; omega
    clear hl
    go_enter Tryd.func21, Tryd.ntmps21
    go_wp2_with fail
    refine HOF.out.mono ?_
    rintro e w1 ⟨vf, fs, rfl, hF, -, -, hg⟩
    have HG := Lib.hid hg
    obtain ⟨af, cf, rfl, -⟩ : ∃ a cap, vf = .slice a fs.length cap ∧ True := by obtain ⟨a, cap, h, -⟩ := hF; exact ⟨a, cap, h, trivial⟩
    clear hF hg HOF
    go_wp2_with fail
    go_ret3
    exact ⟨rfl, HG.out⟩
  · have k1 : ((st.length : Int) != (r : Int)) = false := by simp; omega
    clear hl
    cases hst : st.all (nnB 1048576) with
    | false =>
      have HST := Lib.hid hst
      clear hb hst
      go_enter Tryd.func21, Tryd.ntmps21
      go_wp2_with fail
      refine HOF.out.mono ?_
      rintro e w1 ⟨vf, fs, rfl, hF, -, -, hg⟩
      have HG := Lib.hid hg
      replace HS := Lib.hid (HS.out.same hg)
      obtain ⟨af, cf, rfl, -⟩ : ∃ a cap, vf = .slice a fs.length cap ∧ True := by obtain ⟨a, cap, h, -⟩ := hF; exact ⟨a, cap, h, trivial⟩
      clear hF hg HOF
      go_wp2_with fail
      refine (rnumbers_is _ _ _ _ HS.out).mono ?_
      rintro e w2 ⟨rfl, hw⟩
      subst hw
      rw [HST.out]
      go_wp2_with fail
      go_ret3
      exact ⟨rfl, HG.out⟩
    | true =>
      have HST := Lib.hid hst
      by_cases hp0 : p < 0
      · have d0 : decide (p < 0) = true := by simpa using hp0
        clear hb hst
        go_enter Tryd.func21, Tryd.ntmps21
        go_wp2_with fail
        refine HOF.out.mono ?_
        rintro e w1 ⟨vf, fs, rfl, hF, -, -, hg⟩
        have HG := Lib.hid hg
        replace HS := Lib.hid (HS.out.same hg)
        obtain ⟨af, cf, rfl, -⟩ : ∃ a cap, vf = .slice a fs.length cap ∧ True := by obtain ⟨a, cap, h, -⟩ := hF; exact ⟨a, cap, h, trivial⟩
        clear hF hg HOF
        go_wp2_with fail
        refine (rnumbers_is _ _ _ _ HS.out).mono ?_
        rintro e w2 ⟨rfl, hw⟩
        subst hw
        rw [HST.out]
        go_wp2_with fail
        go_ret3
        exact ⟨rfl, HG.out⟩
      · have hp1 : (r : Int) ≤ p := by
          rcases hb with hb | hb | hb
          · rw [hst] at hb; cases hb
          · exact absurd hb hp0
          · exact hb
        have d0 : decide (p < 0) = false := by simpa using hp0
        have d1 : decide ((r : Int) ≤ p) = true := by simpa using hp1
        clear hb hst
        go_enter Tryd.func21, Tryd.ntmps21
        go_wp2_with fail
        refine HOF.out.mono ?_
        rintro e w1 ⟨vf, fs, rfl, hF, -, -, hg⟩
        have HG := Lib.hid hg
        replace HS := Lib.hid (HS.out.same hg)
        obtain ⟨af, cf, rfl, -⟩ : ∃ a cap, vf = .slice a fs.length cap ∧ True := by obtain ⟨a, cap, h, -⟩ := hF; exact ⟨a, cap, h, trivial⟩
        clear hF hg HOF
        go_wp2_with fail
        refine (rnumbers_is _ _ _ _ HS.out).mono ?_
        rintro e w2 ⟨rfl, hw⟩
        subst hw
        rw [HST.out]
        go_wp2_with fail
        go_ret3
        exact ⟨rfl, HG.out⟩
def BoundU (z : Int) (ok : Bool) (err : Int) (w : World) (e : Ending) (w' : World) : Prop := e = .returned (.tuple #[.int .i64 z, .bool ok, .int .i64 err]) ∧ w.grownBy w' none
/-- One answer for both sides. -/
theorem bound_u (ms : List Row) (st : List Int) (p : Int) : ∃ z ok err, (∀ w v u, TabW w → RowsI w v ms → Ints w u st → Calls Tryd.prog 20 #[v, u, .int .i64 p] w (BoundU z ok err w)) ∧ ∀ w v u, RowsI w v ms → Ints w u st → Calls Tryd.prog 21 #[v, u, .int .i64 p] w (BoundU z ok err w) := by
  by_cases hs : Shape11 ms
  · obtain ⟨r, c, hm, h6⟩ := hs
    by_cases hl : st.length = r
    · by_cases hb : st.all (nnB 1048576) = false ∨ p < 0 ∨ (r : Int) ≤ p
      · exact ⟨0, false, 2, fun w v u hT a b => bound_bad (a.toP hm) hm h6 hT b (.inr ⟨hl, hb, rfl⟩), fun w v u a b => rbound_bad (a.toP hm) hm h6 b (.inr ⟨hl, hb, rfl⟩)⟩
      · obtain ⟨n, rfl⟩ : ∃ n : Nat, p = (n : Int) := ⟨p.toNat, by omega⟩
        have hn : n < r := by omega
        have hst : ∀ x ∈ st, 0 ≤ x ∧ x ≤ 1048576 := all_nn (by
          cases h : st.all (nnB 1048576) with
          | true => rfl
          | false => exact absurd (.inl h) hb)
        by_cases he : ∃ fs, OfL (ms.map Prod.snd) c (2 ^ r) fs ∧ SortedL fs
        · obtain ⟨fs, g1, g2⟩ := he
          refine ⟨(boundL st n fs).1, (boundL st n fs).2, 0, fun w v u hT a b => (bound_is (a.toP hm) hm h6 hT b hl hst hn).mono fun e w' h => ?_, fun w v u a b => (rbound_is (a.toP hm) hm h6 b hl hst hn).mono fun e w' h => ?_⟩
          · obtain ⟨gs, h1, h2, h3, h4⟩ := h
            rw [h1.same g1 h2 g2] at h3
            exact ⟨h3, h4⟩
          · obtain ⟨gs, h1, h2, h3, h4⟩ := h
            rw [h1.same g1 h2 g2] at h3
            exact ⟨h3, h4⟩
        · refine ⟨0, false, 0, fun w v u hT a b => (bound_is (a.toP hm) hm h6 hT b hl hst hn).mono fun e w' h => ?_, fun w v u a b => (rbound_is (a.toP hm) hm h6 b hl hst hn).mono fun e w' h => ?_⟩
          · obtain ⟨gs, h1, h2, h3, h4⟩ := h
            exact absurd ⟨_, h1, h2⟩ he
          · obtain ⟨gs, h1, h2, h3, h4⟩ := h
            exact absurd ⟨_, h1, h2⟩ he
    · exact ⟨0, false, 3, fun w v u hT a b => bound_bad (a.toP hm) hm h6 hT b (.inl ⟨hl, rfl⟩), fun w v u a b => rbound_bad (a.toP hm) hm h6 b (.inl ⟨hl, rfl⟩)⟩
  · exact ⟨0, false, 10, fun w v u hT a b => bound_no a hs b, fun w v u a b => rbound_no a hs b⟩
end Go.Proofs.YtpnghgihepnepaaDoor
