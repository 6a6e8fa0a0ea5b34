/- Contracts of package priority: Proves, Drops. -/
import Derived.Test.YtaenkbcclgpphaaPd
import Derived.Test.YtaenkbcclgpphaaAs
import Derived.Test.YtaenkbcclgpphaaDr
namespace Go.Proofs.Ytaenkbcclgpphaa
open Go.RowKit
set_option linter.unusedVariables false

/-- Do the letters before each place, behind the one before, give way to it, and is the last place the last index? -/
def chainQ (rs b : List Int) : List Int → Nat → Bool
  | [], n => n == b.length
  | p :: ps, n => quietP rs b n p.toNat && chainQ rs b ps (p.toNat + 1)
def provesP (rs a b ps : List Int) : Bool := (validP rs a && validP rs b && provesL b a ps (-1)) && (if a = [] then b.length == 0 else chainQ rs b ps 0)

set_option maxHeartbeats 4000000 in
theorem provesP_any (vr va vb vp : Value) (rs a b ps : List Int) (w : World) (hr : Ints w vr rs) (ha : RowOk w (va, a)) (hb : RowOk w (vb, b)) (hp : Ints w vp ps) :
    Calls Try.prog 44 #[vr, va, vb, vp] w fun e w' => e = .returned (.bool (provesP rs a b ps)) ∧ Drew w w' := by
  have HR := Lib.hid hr; have HA := Lib.hid ha; have HB := Lib.hid hb; have HP := Lib.hid hp
  obtain ⟨⟨aa, ca, hva', hal0, -, -⟩, -, -⟩ := ha
  simp only at hva'
  subst hva'
  obtain ⟨⟨ab, cb, hvb', hbl0, -, -⟩, -, -⟩ := hb
  simp only at hvb'
  subst hvb'
  obtain ⟨ap, cp, rfl, hpl0, -, hpc⟩ := hp
  dsimp only at hal0 hbl0
  unfold maxLen at hal0 hbl0 hpl0
  have HPC := Lib.hid hpc
  clear hr hpc
  cases c1 : validP rs a
  · have C1 := Lib.hid c1
    clear c1
    go_enter Try.func44, Try.ntmps44
    go_wp2_with fail
    refine (validP_any _ _ _ _ _ HR.out HA.out.1).mono ?_; rintro e w' ⟨rfl, rfl⟩
    rw [C1.out]
    go_wp2_with fail
    go_ret
    exact ⟨ret_bool (by unfold provesP; rw [C1.out]; simp), Drew.refl _⟩
  cases c2 : validP rs b
  · have C1 := Lib.hid c1; have C2 := Lib.hid c2
    clear c1 c2
    go_enter Try.func44, Try.ntmps44
    go_wp2_with fail
    refine (validP_any _ _ _ _ _ HR.out HA.out.1).mono ?_; rintro e w1 ⟨rfl, rfl⟩
    rw [C1.out]
    go_wp2_with fail
    refine (validP_any _ _ _ _ _ HR.out HB.out.1).mono ?_; rintro e w' ⟨rfl, rfl⟩
    rw [C2.out]
    go_wp2_with fail
    go_ret
    exact ⟨ret_bool (by unfold provesP; rw [C2.out]; simp), Drew.refl _⟩
  have C1 := Lib.hid c1; have C2 := Lib.hid c2
  have W1 := Lib.hid (validP_W c1); have W2 := Lib.hid (validP_W c2)
  have HE : Hid (provesW a b ps = provesL b a ps (-1)) := Lib.hid (by simp [provesW, validP_W c1, validP_W c2])
  have HE2 : Hid (provesP rs a b ps = (provesL b a ps (-1) && (if a = [] then b.length == 0 else chainQ rs b ps 0))) := Lib.hid (by simp [provesP, c1, c2])
  have hal := (validP_le c1).2.1
  have hbl := (validP_le c2).2.1
  clear c1 c2
  cases c3 : provesL b a ps (-1)
  · have C3 := Lib.hid c3
    clear c3
    go_enter Try.func44, Try.ntmps44
    go_wp2_with fail
    refine (validP_any _ _ _ _ _ HR.out HA.out.1).mono ?_; rintro e w1 ⟨rfl, rfl⟩
    rw [C1.out]
    go_wp2_with fail
    refine (validP_any _ _ _ _ _ HR.out HB.out.1).mono ?_; rintro e w2 ⟨rfl, rfl⟩
    rw [C2.out]
    go_wp2_with fail
    refine (provesW_any _ _ _ _ _ _ _ HA.out.1 HB.out.1 HP.out).mono ?_; rintro e w3 ⟨rfl, hd⟩
    have HD := Lib.hid hd
    clear hd
    rw [HE.out, C3.out]
    go_wp2_with fail
    go_ret
    exact ⟨ret_bool (by rw [HE2.out, C3.out]; rfl), HD.out⟩
  have C3 := Lib.hid c3
  have hpl := provesL_len b a ps (-1) c3
  have hpal : ps.length ≤ a.length := by omega
  have HPL := Lib.hid hpl
  clear c3 hpl
  by_cases h0 : a.length = 0
  · have ea : a = [] := List.eq_nil_of_length_eq_zero h0
    have HE3 : Hid (provesP rs a b ps = (b.length == 0)) := Lib.hid (by rw [HE2.out, C3.out, if_pos ea]; rfl)
    have hz : ((a.length : Int) == 0) = true := by rw [beq_iff_eq]; omega
    have hz2 : ((b.length : Int) == 0) = (b.length == 0) := by rw [Bool.eq_iff_iff, beq_iff_eq, beq_iff_eq]; omega
    clear h0 ea
    go_enter Try.func44, Try.ntmps44
    go_wp2_with fail
    refine (validP_any _ _ _ _ _ HR.out HA.out.1).mono ?_; rintro e w1 ⟨rfl, rfl⟩
    rw [C1.out]
    go_wp2_with fail
    refine (validP_any _ _ _ _ _ HR.out HB.out.1).mono ?_; rintro e w2 ⟨rfl, rfl⟩
    rw [C2.out]
    go_wp2_with fail
    refine (provesW_any _ _ _ _ _ _ _ HA.out.1 HB.out.1 HP.out).mono ?_; rintro e w3 ⟨rfl, hd⟩
    have HD := Lib.hid hd
    clear hd
    rw [HE.out, C3.out]
    go_wp2_with fail
    go_ret
    exact ⟨ret_bool HE3.out.symm, HD.out⟩
  have hz : ((a.length : Int) == 0) = false := by rw [beq_eq_false_iff_ne]; omega
  have HE3 : Hid (provesP rs a b ps = chainQ rs b ps 0) := Lib.hid (by rw [HE2.out, C3.out, if_neg (fun e => h0 (by rw [e]; rfl))]; rfl)
  clear h0
  go_enter Try.func44, Try.ntmps44
  go_wp2_with fail
  refine (validP_any _ _ _ _ _ HR.out HA.out.1).mono ?_; rintro e w1 ⟨rfl, rfl⟩
  rw [C1.out]
  go_wp2_with fail
  refine (validP_any _ _ _ _ _ HR.out HB.out.1).mono ?_; rintro e w2 ⟨rfl, rfl⟩
  rw [C2.out]
  go_wp2_with fail
  refine (provesW_any _ _ _ _ _ _ _ HA.out.1 HB.out.1 HP.out).mono ?_; rintro e w3 ⟨rfl, m0, rfl⟩
  rw [HE.out, C3.out]
  go_wp2_with fail
  go_loopw [9, 37] (fun nx ix wr => ∃ (k n m : Nat), ix = .int .i64 k ∧ k ≤ ps.length ∧ nx = .int .i64 n ∧ n ≤ b.length ∧ Hid (chainQ rs b ps 0 = chainQ rs b (ps.drop k) n) ∧ Hid (provesL b (a.drop k) (ps.drop k) ((n : Int) - 1) = true) ∧ wr = w2.drewN m) (fun _ ix _ => ps.length - (intOf ix).toNat)
  case atStart => exact ⟨0, 0, m0, rfl, Nat.zero_le _, rfl, Nat.zero_le _, Lib.hid rfl, Lib.hid C3.out, rfl⟩
  case round =>
    obtain ⟨k, n, m, rfl, hk, rfl, hn, hc, hpv, rfl⟩ := hrel
    by_cases hlt : k < ps.length
    · have g1 : (k : Int) < (ps.length : Int) := by omega
      have h1 := hpv.out
      rw [drop_at a k (by omega), drop_at ps k hlt, provesL_cons, Bool.and_eq_true] at h1
      obtain ⟨h2, h3⟩ := h1
      unfold okP at h2
      simp only [Bool.and_eq_true, decide_eq_true_eq] at h2
      obtain ⟨b1, o1, rfl, hx⟩ := Ints.at HPC.out hlt
      have HCS : Hid (chainQ rs b ps 0 = (quietP rs b n (ps[k]?.getD 0).toNat && chainQ rs b (ps.drop (k + 1)) ((ps[k]?.getD 0).toNat + 1))) := Lib.hid (by rw [hc.out, drop_at ps k hlt]; rfl)
      obtain ⟨q, hq⟩ := Int.eq_ofNat_of_zero_le (show 0 ≤ ps[k]?.getD 0 by omega)
      rw [hq] at h2 h3 hx
      have HCS2 : Hid (chainQ rs b ps 0 = (quietP rs b n q && chainQ rs b (ps.drop (k + 1)) (q + 1))) := Lib.hid (by rw [HCS.out, hq]; rfl)
      have hnq : n ≤ q := by omega
      have hqb : q < b.length := by omega
      have H3 := Lib.hid h3
      have i5 : IntKind.i64.wrap ((q : Int) + 1) = (q : Int) + 1 := IntWalk.i64_in _ (by omega)
      clear h2 h3 hq HCS
      go_wp2_with fail
      refine (pquiet_any _ _ _ _ _ _ _ (HR.out.same (grown_drewN _ _ none)) (HB.out.same (grown_drewN _ _ none)) C2.out hnq hqb).mono ?_
      rintro e w5 ⟨rfl, m2, rfl⟩
      cases c4 : quietP rs b n q
      · have C4 := Lib.hid c4
        clear c4
        go_wp2_with fail
        go_ret
        exact ⟨ret_bool (by rw [HE3.out, HCS2.out, C4.out]; rfl), Drew.mk _ _⟩
      · have C4 := Lib.hid c4
        clear c4
        go_wp2_with fail
        go_roundw
        case rel => exact ⟨k + 1, q + 1, m + m2, by go_num, by omega, by go_num, by omega, Lib.hid (by rw [HCS2.out, C4.out]; rfl), Lib.hid (by rw [show (((q + 1 : Nat) : Int) - 1) = (q : Int) by omega]; exact H3.out), by simp⟩
        case measure => simp [intOf]; omega
    · have g1 : ¬ (k : Int) < (ps.length : Int) := by omega
      have hz2 : ((n : Int) == (b.length : Int)) = (n == b.length) := by rw [Bool.eq_iff_iff, beq_iff_eq, beq_iff_eq]; omega
      go_wp2_with fail
      go_ret
      exact ⟨ret_bool (by rw [HE3.out, hc.out, List.drop_eq_nil_of_le (by omega)]; rfl), Drew.mk _ _⟩

end Go.Proofs.Ytaenkbcclgpphaa
