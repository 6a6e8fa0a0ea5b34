/- Texts Bz in one. -/
import Derived.Test.YtpnghgihepnepaaDoorU27
import Derived.Test.YtpnghgihepnepaaDoorU25
import Derived.Test.YtpnghgihepnepaaDoorU23
namespace Go.Proofs.YtpnghgihepnepaaDoor
open Go.RowKit
set_option linter.unusedVariables false

structure KInfo (m : Nat) (R : List (List Int)) (P : List Int) : Prop where
  plen : P.length ≤ R.length
  wide : ∀ t, t < R.length → (R[t]?.getD []).length = m
  pos : ∀ l, l < P.length → 0 < plL R P l
  pbd : ∀ l, l < P.length → 0 ≤ P[l]?.getD 0 ∧ P[l]?.getD 0 < (m : Int)
  bd : ∀ t j : Nat, ((R[t]?.getD [])[j]?.getD 0).natAbs ≤ 12079595520
  sc : ∀ col i, i ≤ P.length → scaleN (plL R P) (xlL R col) i ≤ 12079595520
  en : ∀ col i, i < P.length → (entV (scaleN (plL R P) (xlL R col) P.length) (plL R P i) (xlL R col i)).natAbs ≤ 12079595520
theorem kinfo_of {ps : List Row} {r m : Nat} (hm : MatOkP r m ps) {R : List (List Int)} {P : List Int} (h : (R, P) = lredN (ps.map (fun q => primL q.2), []) m) : KInfo m R P := by
  have hLI := linfo_of hm
  obtain ⟨hl, hr1, hr12, hm1, hm12, h6, hq⟩ := hm
  have hW : ∀ r ∈ ps.map Prod.snd, r.length = m := fun r hr => by
    obtain ⟨q, hq', rfl⟩ := List.mem_map.1 hr
    exact (hq q hq').1
  have hM : ∀ r ∈ ps.map Prod.snd, ∀ x ∈ r, x.natAbs ≤ 16 := fun r hr x hx => by
    obtain ⟨q, hq', rfl⟩ := List.mem_map.1 hr
    have := (hq q hq').2 x hx
    omega
  have h6' : (ps.map Prod.snd).length ≤ 6 ∨ m ≤ 6 := by rw [List.length_map]; omega
  have hrel := RelR.all (RelR.start (m := m) ps) rfl hW m (Nat.le_refl _)
  obtain ⟨os, c, hb⟩ := BInv.all (qs := ps) rfl hW m (Nat.le_refl _)
  have hlen := hLI.len m (Nat.le_refl _)
  have hwd := hLI.wide m (Nat.le_refl _)
  have hple := hLI.ple m (Nat.le_refl _)
  have hpb := lred_piv (ps.map (fun q => primL q.2)) m
  rw [← h] at hrel hlen hwd hple hpb
  dsimp only at hlen hwd hple hpb
  obtain ⟨hfb, heb⟩ := hb.end_bd hM h6'
  have hne := hb.ne
  have hown : ∀ l, l < P.length → ent (redN (ps, [], 1) m).1 l (c l) = (redN (ps, [], 1) m).2.2 := fun l hl => hb.own (Nat.le_refl _) (by rw [← hrel.piv]; exact hl)
  have hpv : ∀ l, l < P.length → P[l]?.getD 0 = (c l : Int) := fun l hl => by
    have := hb.piv l (by rw [← hrel.piv]; exact hl)
    rw [← hrel.piv] at this; exact this
  have hrow := hrel.row
  have hpos := hrel.pos
  have hln := hrel.len
  have hpi := hrel.piv
  dsimp only at hrow hpos hln hpi
  have hbl : (redN (ps, [], 1) m).1.length = R.length := hln.symm
  generalize (redN (ps, [], 1) m).2.2 = f at *
  have hmul : ∀ l, l < P.length → ∃ μ : Int, μ ≠ 0 ∧ (∀ j : Nat, ent (redN (ps, [], 1) m).1 l j = (R[l]?.getD [])[j]?.getD 0 * μ) ∧ f = plL R P l * μ := fun l hl => by
    obtain ⟨μ, h1, h2⟩ := (hrow l (by omega)).mul
    refine ⟨μ, h1, h2, ?_⟩
    rw [← hown l hl]
    show (((redN (ps, [], 1) m).1[l]?.getD rowN).2)[c l]?.getD 0 = _
    rw [h2]
    unfold plL
    rw [hpv l hl]; rfl
  have hpp : ∀ l, l < P.length → 0 < plL R P l := fun l hl => by
    have := hpos l (by rw [← hpi]; exact hl)
    rw [← hpi] at this; exact this
  have hdv : ∀ col l, l < P.length → needN (plL R P l) (xlL R col l) ∣ f.natAbs := fun col l hl => by
    obtain ⟨μ, -, -, h3⟩ := hmul l hl
    refine Nat.dvd_trans (need_dvd _ _) ?_
    rw [h3, Int.natAbs_mul]; exact Nat.dvd_mul_right _ _
  have hf0 : 0 < f.natAbs := by omega
  have hentb : ∀ t j : Nat, (ent (redN (ps, [], 1) m).1 t j).natAbs ≤ 12079595520 := fun t j => by
    unfold ent
    by_cases ht : t < (redN (ps, [], 1) m).1.length
    · rw [List.getElem?_eq_getElem ht]
      show ((redN (ps, [], 1) m).1[t].2[j]?.getD 0).natAbs ≤ _
      by_cases hj : j < (redN (ps, [], 1) m).1[t].2.length
      · rw [List.getElem?_eq_getElem hj]; exact heb _ (List.getElem_mem ht) _ (List.getElem_mem hj)
      · rw [List.getElem?_eq_none (by omega)]; simp
    · rw [List.getElem?_eq_none (l := (redN (ps, [], 1) m).1) (i := t) (by omega)]
      show (([] : List Int)[j]?.getD 0).natAbs ≤ _
      simp
  refine ⟨by omega, fun t ht => hwd t (by omega), hpp, fun l hl => ?_, fun t j => ?_, fun col i hi => ?_, fun col i hi => ?_⟩
  · rw [List.getElem?_eq_getElem hl]; exact hpb _ (List.getElem_mem hl)
  · by_cases ht : t < R.length
    · exact Nat.le_trans ((hrow t (by omega)).bd j) (hentb t j)
    · rw [List.getElem?_eq_none (l := R) (i := t) (by omega)]
      show (([] : List Int)[j]?.getD 0).natAbs ≤ _
      simp
  · exact Nat.le_trans (Nat.le_of_dvd hf0 (scale_dvd i (fun l hl => hdv col l (by omega)))) hfb
  · obtain ⟨μ, h1, h2, h3⟩ := hmul i hi
    have hs := scale_dvd (pl := plL R P) (xl := xlL R col) (F := f.natAbs) P.length (fun l hl => hdv col l hl)
    have hsl := Nat.le_of_dvd hf0 hs
    have he := ent_mul (xlL R col i) (hpp i hi) (scale_has (pl := plL R P) (xl := xlL R col) P.length i hi)
    generalize scaleN (plL R P) (xlL R col) P.length = s at *
    have hx : ent (redN (ps, [], 1) m).1 i col = xlL R col i * μ := h2 col
    have hxb := hentb i col
    rw [hx] at hxb
    generalize entV s (plL R P i) (xlL R col i) = E at *
    generalize plL R P i = p at *
    generalize xlL R col i = x at *
    have e1 : E.natAbs * f.natAbs = (x * μ).natAbs * s := by
      have := congrArg Int.natAbs he
      rw [Int.natAbs_mul, Int.natAbs_neg, Int.natAbs_mul, Int.natAbs_natCast] at this
      rw [h3, Int.natAbs_mul, Int.natAbs_mul, ← Nat.mul_assoc, this, Nat.mul_assoc, Nat.mul_assoc, Nat.mul_comm s]
    have e2 : E.natAbs * f.natAbs ≤ (x * μ).natAbs * f.natAbs := by rw [e1]; exact Nat.mul_le_mul_left _ hsl
    exact Nat.le_trans (Nat.le_of_mul_le_mul_right e2 hf0) hxb
theorem ker_same {ps qs : List Row} {r m : Nat} (hm : MatOkP r m ps) (hq : qs.map Prod.snd = ps.map Prod.snd) {R : List (List Int)} {P : List Int} (h : (R, P) = lredN (ps.map (fun q => primL q.2), []) m) :
    kerL R P m m = kerOf (redN (qs, [], 1) m) m ∧ P.length = (redN (qs, [], 1) m).2.1.length := by
  obtain ⟨hl, hr1, hr12, hm1, hm12, h6, hq'⟩ := hm
  have hW : ∀ r ∈ ps.map Prod.snd, r.length = m := fun r hr => by
    obtain ⟨q, hq2, rfl⟩ := List.mem_map.1 hr
    exact (hq' q hq2).1
  have e0 : ps.map (fun q => primL q.2) = qs.map (fun q => primL q.2) := by
    have := congrArg (List.map primL) hq
    rw [List.map_map, List.map_map] at this
    exact this.symm
  have hrel := RelR.all (RelR.start (m := m) qs) hq hW m (Nat.le_refl _)
  obtain ⟨os, c, hb⟩ := BInv.all (qs := qs) hq hW m (Nat.le_refl _)
  rw [← e0, ← h] at hrel
  exact ⟨kerL_eq hrel hb hW m (Nat.le_refl _), congrArg List.length hrel.piv⟩
theorem lcm_step (s n : Nat) : (((s : Int).tdiv ((Nat.gcd s n : Nat) : Int)) * (n : Int)) = ((Nat.lcm s n : Nat) : Int) := by
  have : (s : Int).tdiv ((Nat.gcd s n : Nat) : Int) = ((s / Nat.gcd s n : Nat) : Int) := by
    rw [Int.tdiv_eq_ediv_of_nonneg (by omega)]; rfl
  rw [this, ← Int.natCast_mul]
  congr 1
  unfold Nat.lcm
  rw [Nat.div_mul_right_comm (Nat.gcd_dvd_left s n)]
end Go.Proofs.YtpnghgihepnepaaDoor
