/- Texts By in one. -/
import Derived.Test.YtpnghgihepnepaaDoorU26
import Derived.Deep.DeepCutAuto
namespace Go.Proofs.YtpnghgihepnepaaDoor
open Go.RowKit
set_option linter.unusedVariables false

def StepL (m : Nat) (R0 : List (List Int)) : Prop := ∀ k, k < m → ∀ i, lfind (lredN (R0, []) k).1 k ((lredN (R0, []) k).1.length - (lredN (R0, []) k).2.length) (lredN (R0, []) k).2.length = some i →
  (lredN (R0, []) k).2.length < (lredN (R0, []) k).1.length ∧ (lredN (R0, []) k).2.length ≤ i ∧ i < (lredN (R0, []) k).1.length ∧ StepF m k (lredN (R0, []) k).2.length (ltop k ((swapO (lredN (R0, []) k).1 (lredN (R0, []) k).2.length i)[(lredN (R0, []) k).2.length]?.getD [])) (swapO (lredN (R0, []) k).1 (lredN (R0, []) k).2.length i)
structure LInfo (n m : Nat) (R0 : List (List Int)) : Prop where
  step : StepL m R0
  len : ∀ k, k ≤ m → (lredN (R0, []) k).1.length = n
  wide : ∀ k, k ≤ m → ∀ t, t < n → ((lredN (R0, []) k).1[t]?.getD []).length = m
  ple : ∀ k, k ≤ m → (lredN (R0, []) k).2.length ≤ n
theorem linfo_of {ps : List Row} {r m : Nat} (hm : MatOkP r m ps) : LInfo ps.length m (ps.map (fun q => primL q.2)) := by
  obtain ⟨hl, -, -, -, -, h6, hq⟩ := hm
  have hW : ∀ r ∈ ps.map Prod.snd, r.length = m := fun r hr => by
    obtain ⟨q, hq', rfl⟩ := List.mem_map.1 hr
    exact (hq q hq').1
  have hM : ∀ r ∈ ps.map Prod.snd, ∀ x ∈ r, x.natAbs ≤ 16 := fun r hr x hx => by
    obtain ⟨q, hq', rfl⟩ := List.mem_map.1 hr
    have := (hq q hq').2 x hx
    omega
  have h6' : (ps.map Prod.snd).length ≤ 6 ∨ m ≤ 6 := by rw [List.length_map]; omega
  have hrel := RelR.all (RelR.start (m := m) ps) rfl hW
  have hlen : ∀ k, k ≤ m → (lredN (ps.map (fun q => primL q.2), []) k).1.length = ps.length := fun k hk => by
    obtain ⟨os, c, hb⟩ := BInv.all (qs := ps) rfl hW k hk
    have h1 := (hrel k hk).len
    have h2 := hb.len
    have h3 := hb.ln
    rw [List.length_map] at h3
    omega
  refine ⟨fun k hk i hf => ?_, hlen, fun k hk t ht => ?_, fun k hk => ?_⟩
  · obtain ⟨os, c, hb⟩ := BInv.all (qs := ps) rfl hW k (by omega)
    exact stepF_of (hrel k (by omega)) hb hk hM h6' hf
  · obtain ⟨os, c, hb⟩ := BInv.all (qs := ps) rfl hW k hk
    exact rel_wide (hrel k hk) hb t (by rw [hlen k hk]; exact ht)
  · obtain ⟨os, c, hb⟩ := BInv.all (qs := ps) rfl hW k hk
    have h1 := (hrel k hk).piv
    have h2 := hb.ple
    have h3 := hb.ln
    rw [List.length_map] at h3
    rw [h1]; omega
theorem row_val {w : World} {base : Nat} {v : Value} {qs : List Row} (h : MatO w base v qs) {t m : Nat} (ht : t < qs.length) (hw : qs[t].2.length = m) (h1 : 1 ≤ m) : ∃ b c, qs[t].1 = .slice (some ⟨b, 0, none⟩) m c ∧ True := by
  obtain ⟨b, c, e, -⟩ := h.row ht (by omega)
  rw [hw] at e
  exact ⟨b, c, e, trivial⟩
def Sub5 (w : World) (H m : Nat) (rb rc : Nat) (k : Nat) (x y : Int) (row T : List Int) (q : Nat) (wr : World) : Prop := (∃ L, OwnI wr H (.slice (some ⟨rb, 0, none⟩) m rc) L ∧ SubR k x y row T q L) ∧ w.grownBy wr none

def Mid4 (w wx : World) (v vp : Value) (k n : Nat) (T : List Int) (L : List (List Int)) (pv : List Int) : Prop := ∃ qs1, RedR w wx v vp qs1 pv ∧ qs1.length = n ∧ qs1.map Prod.snd = halfR k pv.length T L 0
set_option maxRecDepth 100000 in
set_option maxHeartbeats 8000000 in
theorem rreduced_any {w : World} {v : Value} {ps : List Row} {r m : Nat} (h : RowsP w v ps) (hm : MatOkP r m ps) :
    Calls Tryd.prog 69 #[v] w (RRed w ps m) := by
  have HLI := Lib.hid (linfo_of hm)
  obtain ⟨hl, hr1, hr12, hm1, hm12, h6, hq⟩ := hm
  have hn1 : 1 ≤ ps.length := by omega
  have hn : ps.length ≤ 12 := by omega
  obtain ⟨a, cap, rfl, -⟩ : ∃ a cap, v = .slice a ps.length cap ∧ True := by obtain ⟨a, cap, h, -⟩ := h; exact ⟨a, cap, h, trivial⟩
  obtain ⟨b, off, a2, c2, rfl, hc0, -, -⟩ := h.row (show 0 < ps.length by omega)
  rw [(hq _ (List.getElem_mem _)).1, Nat.add_zero] at hc0
  have HC0 := Lib.hid hc0
  have H := Lib.hid h; have HQ := Lib.hid hq
  have e0 : (0 : Int) < (ps.length : Int) := by omega
  obtain ⟨R0, hR0⟩ : ∃ R0, ps.map (fun q => primL q.2) = R0 := ⟨_, rfl⟩
  rw [hR0] at HLI
  have HR0 := Lib.hid hR0
  clear h hq hc0 hl hr1 hr12 h6 hR0
  go_enter Tryd.func69, Tryd.ntmps69
  go_wp2_with fail
  have HS0 := Lib.hid (RedR.start w)
  go_loopw [5, 4] (fun i rows wr => ∃ (k : Nat) (vr : Value) (qs : List Row), i = .int .i64 k ∧ rows = vr ∧ k ≤ ps.length ∧ Hid (qs.map Prod.snd = R0.take k) ∧ Hid (qs.length = k) ∧ Hid (RedR w wr vr (.slice none 0 0) qs [])) (fun i _ _ => ps.length - (intOf i).toNat)
  case atStart => exact ⟨0, .slice none 0 0, [], rfl, rfl, Nat.zero_le _, Lib.hid rfl, Lib.hid rfl, HS0⟩
  case round =>
    clear HS0
    obtain ⟨k, vr, qs, rfl, rfl, hk, hqs, hql, hS⟩ := hrel
    rename World => wk
    by_cases hkb : k < ps.length
    · have h3 : (k : Int) < (ps.length : Int) := by omega
      have i1 : IntKind.i64.wrap ((k : Int) + 1) = (k : Int) + 1 := IntWalk.i64_in _ (by omega)
      obtain ⟨b', off', ar, cr, hbe, hcr, -, hri⟩ := (H.out.same hS.out.grow).row hkb
      simp only [Option.some.injEq, Addr.mk.injEq, and_true] at hbe
      obtain ⟨rfl, rfl⟩ := hbe
      have hxm := HQ.out _ (List.getElem_mem hkb)
      have hqn : qs.map Prod.snd ++ [primL ps[k].2] = R0.take (k + 1) := by
        rw [hqs.out, List.take_add_one, ← HR0.out, List.getElem?_map, List.getElem?_eq_getElem hkb]; rfl
      generalize ps[k].2 = xs at *
      rw [hxm.1] at hcr hri
      have HXM := Lib.hid hxm; have HQN := Lib.hid hqn; have HRI := Lib.hid hri
      clear hri hxm hqn
      go_wp2_with fail
      refine (rprim_any _ xs _ HRI.out (by rw [HXM.out.1]; omega) (fun x hx => by have := HXM.out.2 x hx; omega)).mono ?_
      rintro e w2 ⟨vq, rfl, ho, hg⟩
      have HPB : Hid (∀ x ∈ primL xs, -9223372036854775808 ≤ x ∧ x ≤ 9223372036854775807) := Lib.hid (fun x hx => by
        obtain ⟨t, ht, rfl⟩ := List.getElem_of_mem hx
        obtain ⟨g, hg1, hg2, -⟩ := prim_fac xs
        have e1 : (primL xs)[t] = (primL xs)[t]?.getD 0 := by rw [List.getElem?_eq_getElem ht]; rfl
        have htl : t < xs.length := by rw [primL_len] at ht; exact ht
        have h2 := HXM.out.2 _ (List.getElem_mem htl)
        have h3 := hg2 t
        rw [List.getElem?_eq_getElem htl] at h3
        simp only [Option.getD_some] at h3
        rw [e1]
        generalize (primL xs)[t]?.getD 0 = z at *
        have h4 : z.natAbs ≤ (z * (g : Int)).natAbs := by rw [Int.natAbs_mul]; exact Nat.le_mul_of_pos_right _ (by rw [Int.natAbs_natCast]; omega)
        rw [← h3] at h4
        omega)
      have HPL : Hid ((primL xs).length = m) := Lib.hid (by rw [primL_len]; exact HXM.out.1)
      generalize primL xs = pr at *
      obtain ⟨aq, cq, rfl⟩ := ownI_sl' ho
      rw [HPL.out] at ho
      have HO := Lib.hid ho; have HS2 := Lib.hid (hS.out.same hg)
      have HF : Hid (∀ g, (Value.slice aq m cq).ownBlock = some g → u4.ownBlock ≠ some g ∧ ∀ p ∈ qs, p.1.ownBlock ≠ some g) := Lib.hid (fun g hg => ⟨(hS.out.fresh (ho.fresh g hg).1).1, (hS.out.fresh (ho.fresh g hg).1).2.1⟩)
      have HW := Lib.hid hS.out.grow.size
      rw [HPL.out]
      clear ho hg hcr
      go_wp2_with (at_builtin; refine app_row rfl _ _ rfl w.heap.size _ qs rfl (HS2.out.mat.own.same (World.grownBy_alloc _ _ none)) w2.heap.size (.slice aq m cq, pr) rfl (cell_new rfl) ((HO.out.row HPB.out).same (World.grownBy_alloc _ _ none)) (fun g hg => (HF.out g hg).1) (by have := hql.out; omega) (Nat.le_trans HS2.out.grow.size (World.grownBy_alloc _ _ none).size) ?_)
      intro v9 w9 ho9 hg9
      have HR9 := Lib.hid (RedR.push (q := (.slice aq m cq, pr)) (HS2.out.same (World.grownBy_alloc _ _ none)) ((HO.out.kept (World.grownBy_alloc _ _ none) (by simp)).mono HW.out) HF.out ho9 hg9)
      have HL9 : Hid ((qs ++ [(Value.slice aq m cq, pr)]).length = k + 1) := Lib.hid (by rw [List.length_append, List.length_singleton, hql.out])
      have HE9 : Hid ((qs ++ [(Value.slice aq m cq, pr)]).map Prod.snd = R0.take (k + 1)) := Lib.hid (by rw [List.map_append]; exact HQN.out)
      clear ho9 hg9
      go_wp2_with fail
      go_roundw
      case rel => exact ⟨k + 1, _, _, by go_num, rfl, by omega, HE9, HL9, HR9⟩
      case measure => (simp [intOf]; try omega)
    · obtain rfl : k = ps.length := by omega
      have h3 : ¬ (ps.length : Int) < (ps.length : Int) := by omega
      have hq0 : qs.map Prod.snd = R0 := by have := hqs.out; rw [List.take_of_length_le (by rw [← HR0.out, List.length_map]; exact Nat.le_refl _)] at this; exact this
      obtain ⟨g, cg, hv, hgb⟩ := hS.out.mat.head (by have := hql.out; omega)
      rw [hql.out] at hv
      subst hv
      have HG0 : Hid (ps.length ≤ cg) := Lib.hid hS.out.mat.own.caple
      have HS1 := hS
      have HE1 : Hid ((qs.map Prod.snd, ([] : List Int)) = lredN (R0, []) 0) := Lib.hid (by rw [hq0]; rfl)
      have hcw : wk.cell? ⟨b, off, none⟩ = some (.slice a2 m c2) := hS.out.grow.cell HC0.out (by simp)
      have HL1 := hql
      clear hq0 hqs hgb hcw hS hql
      go_wp2_with fail
      go_loopw [6, 7, 8] (fun cols av c wr => ∃ (k : Nat) (vp : Value) (rs : List Row) (pv : List Int), c = .int .i64 k ∧ av = .int .i64 pv.length ∧ cols = vp ∧ k ≤ m ∧ pv.length ≤ ps.length ∧ Hid (rs.length = ps.length) ∧ Hid ((rs.map Prod.snd, pv) = lredN (R0, []) k) ∧ Hid (RedR w wr (.slice (some ⟨g, 0, none⟩) ps.length cg) vp rs pv)) (fun _ _ c _ => m - (intOf c).toNat)
      case atStart => exact ⟨0, _, qs, [], rfl, rfl, rfl, Nat.zero_le _, Nat.zero_le _, HL1, HE1, HS1⟩
      case round =>
        clear HE1 HS1 HL1
        obtain ⟨k, vp, rs, pv, rfl, rfl, rfl, hk, hpn, HL, HE, HS⟩ := hrel
        rename World => wk2
        have hcw : wk2.cell? ⟨b, off, none⟩ = some (.slice a2 m c2) := HS.out.grow.cell HC0.out (by simp)
        by_cases hkm : k < m
        · have q1 : (k : Int) < (m : Int) := by omega
          have q2 : decide ((k : Int) < (m : Int)) = true := by simpa using hkm
          have q3 : decide (k < m) = true := by simpa using hkm
          by_cases hpp : pv.length < ps.length
          · have q4 : (pv.length : Int) < (ps.length : Int) := by omega
            have q5 : decide ((pv.length : Int) < (ps.length : Int)) = true := by simpa using hpp
            have q6 : decide (pv.length < ps.length) = true := by simpa using hpp
            go_wp2_with fail
            have HF0 : Hid (lfind (rs.map Prod.snd) k (ps.length - pv.length) pv.length = lfind (rs.map Prod.snd) k (ps.length - pv.length) pv.length) := Lib.hid rfl
            clear hcw
            go_loopw [9] (fun i wr => wr = wk2 ∧ ∃ t : Nat, i = .int .i64 t ∧ pv.length ≤ t ∧ t ≤ ps.length ∧ Hid (lfind (rs.map Prod.snd) k (ps.length - pv.length) pv.length = lfind (rs.map Prod.snd) k (ps.length - t) t)) (fun i _ => ps.length - (intOf i).toNat)
            case atStart => exact ⟨(by first | rfl | trivial), pv.length, rfl, Nat.le_refl _, hpn, HF0⟩
            case round =>
              clear HF0
              obtain ⟨rfl, t, rfl, ht1, ht2, hF⟩ := hrel
              by_cases htb : t < ps.length
              · have h5 : (t : Int) < (ps.length : Int) := by omega
                have h6 : decide ((t : Int) < (ps.length : Int)) = true := by simpa using htb
                have h7 : decide (t < ps.length) = true := by simpa using htb
                have i3 : IntKind.i64.wrap ((t : Int) + 1) = (t : Int) + 1 := IntWalk.i64_in _ (by omega)
                have htr : t < rs.length := by rw [HL.out]; exact htb
                have hwd : rs[t].2.length = m := by
                  have := HLI.out.wide k (by omega) t htb
                  rw [← HE.out] at this
                  dsimp only at this
                  rw [snd_at htr] at this; exact this
                obtain ⟨tb, tc, hrt, -⟩ := row_val HS.out.mat htr hwd hm1
                have hct := (HS.out.mat.own.cell t htr).1
                rw [hrt] at hct
                have hcl := (HS.out.mat.cell htr hrt (k := k) (by omega)).1
                have hfn : lfind (rs.map Prod.snd) k (ps.length - t) t = if lhit (rs.map Prod.snd) k t then some t else lfind (rs.map Prod.snd) k (ps.length - (t + 1)) (t + 1) := by
                  rw [show ps.length - t = (ps.length - (t + 1)) + 1 by omega]; rfl
                have hhit : lhit (rs.map Prod.snd) k t = (rs[t].2[k]?.getD 0 != 0) := by unfold lhit; rw [snd_at htr]
                rw [hhit] at hfn
                obtain ⟨x, hx⟩ : ∃ x, rs[t].2[k]?.getD 0 = x := ⟨_, rfl⟩
                rw [hx] at hcl hfn
                have HX := Lib.hid hx; have HRT := Lib.hid hrt; have HWD := Lib.hid hwd
                clear hx hrt hwd hhit
                by_cases hz : x = 0
                · have hz1 : (x == 0) = true := by simpa using hz
                  have HFN : Hid (lfind (rs.map Prod.snd) k (ps.length - pv.length) pv.length = lfind (rs.map Prod.snd) k (ps.length - (t + 1)) (t + 1)) := Lib.hid (by rw [hF.out, hfn, hz]; rfl)
                  clear hfn hz
                  go_wp2_with fail
                  go_roundw
                  case rel => exact ⟨(by first | rfl | trivial), t + 1, by go_num, by omega, by omega, HFN⟩
                  case measure => simp [intOf]; omega
                · have hz1 : (x == 0) = false := by simpa using hz
                  have hz2 : (x != 0) = true := by simpa using hz
                  rw [hz2] at hfn
                  have HFN : Hid (lfind (rs.map Prod.snd) k (ps.length - pv.length) pv.length = some t) := Lib.hid (by rw [hF.out, hfn]; rfl)
                  have hte : ((t : Int) == (ps.length : Int)) = false := by simp; omega
                  have HZ := Lib.hid hz
                  have HLF : Hid (lfind (lredN (R0, []) k).1 k ((lredN (R0, []) k).1.length - (lredN (R0, []) k).2.length) (lredN (R0, []) k).2.length = some t) := Lib.hid (by
                    rw [← HE.out]; dsimp only; rw [List.length_map, HL.out]; exact HFN.out)
                  obtain ⟨-, -, -, hSF⟩ := HLI.out.step k hkm t HLF.out
                  have HLS : Hid (lredN (R0, []) (k + 1) = lstep k (lredN (R0, []) k)) := Lib.hid rfl
                  rw [← HE.out] at hSF HLF HLS
                  dsimp only at hSF
                  have hkr : pv.length < rs.length := by rw [HL.out]; exact hpp
                  have HLS2 := Lib.hid (HLS.out.trans (lstep_hit HLF.out))
                  have hwk : rs[pv.length].2.length = m := by
                    have := HLI.out.wide k (by omega) pv.length hpp
                    rw [← HE.out] at this
                    dsimp only at this
                    rw [snd_at hkr] at this; exact this
                  obtain ⟨kb, kc, hrk, -⟩ := row_val HS.out.mat hkr hwk hm1
                  have hck := (HS.out.mat.own.cell pv.length hkr).1
                  have hfk := (HS.out.mat.own.cell pv.length hkr).2
                  have hft := (HS.out.mat.own.cell t htr).2
                  rw [hrk] at hck
                  have HMS : Hid (MatO wr w.heap.size (.slice (some ⟨g, 0, none⟩) rs.length cg) rs) := Lib.hid (by rw [HL.out]; exact HS.out.mat)
                  obtain ⟨z2, hzc, hzf⟩ := MatO.second HMS.out hkr htr
                  have HSW : Hid (RedR w ((wr.setCell ⟨g, pv.length, none⟩ (.slice (some ⟨tb, 0, none⟩) m tc)).setCell ⟨g, t, none⟩ (.slice (some ⟨kb, 0, none⟩) m kc)).drew (.slice (some ⟨g, 0, none⟩) ps.length cg) u6 (swapP rs pv.length t hkr htr) pv) := Lib.hid (by
                    have e := HS.out
                    have hl : ps.length = rs.length := HL.out.symm
                    rw [hl] at e ⊢
                    have e2 := e.swap hkr htr
                    rw [HRT.out, hrk] at e2
                    exact e2.same (grown_drew _ none))
                  have HSL : Hid ((swapP rs pv.length t hkr htr).length = ps.length) := Lib.hid (by rw [swapP_len]; exact HL.out)
                  have HSS : Hid ((swapP rs pv.length t hkr htr).map Prod.snd = swapO (rs.map Prod.snd) pv.length t) := Lib.hid (swap_snd hkr htr)
                  have HSF := Lib.hid hSF
                  have HTP : Hid ((swapO (rs.map Prod.snd) pv.length t)[pv.length]?.getD [] = rs[t].2) := Lib.hid (by
                    rw [swapO_at (by rw [List.length_map]; exact hkr) (by rw [List.length_map]; exact htr)]
                    by_cases e : pv.length = t
                    · rw [if_pos e]; subst e; rw [snd_at hkr]
                    · rw [if_neg e, if_pos rfl, snd_at htr])
                  rw [HRT.out] at hzc hzf
                  have hctd : wr.drew.cell? ⟨g, t, none⟩ = some (.slice (some ⟨tb, 0, none⟩) m tc) := hct
                  have hckd : wr.drew.cell? ⟨g, pv.length, none⟩ = some (.slice (some ⟨kb, 0, none⟩) m kc) := hck
                  have hftd : wr.drew.frozen? ⟨g, t, none⟩ = false := hft
                  have hfkd : wr.drew.frozen? ⟨g, pv.length, none⟩ = false := hfk
                  have HTB : Hid (tb ≠ g) := Lib.hid (fun e => by
                    have := (HMS.out.own.2 _ (List.getElem_mem htr)).2 tb (by rw [HRT.out]; rfl)
                    exact this (by rw [e]; rfl))
                  clear hSF hrk hwk hfn hF HFN hz
                  go_wp2_with fail
                  go_region
                  clear hctd hckd hftd hfkd hzc hzf hct hck hft hfk hcl hz1 hz2
                  generalize ((wr.setCell ⟨g, pv.length, none⟩ (.slice (some ⟨tb, 0, none⟩) m tc)).setCell ⟨g, t, none⟩ (.slice (some ⟨kb, 0, none⟩) m kc)).drew = ws at *
                  generalize hss : swapP rs pv.length t hkr htr = ss at *
                  have hsp : pv.length < ss.length := by rw [HSL.out]; exact hpp
                  have HSP : Hid (ss[pv.length] = rs[t]) := Lib.hid (by
                    subst hss
                    rw [swapP_at]
                    by_cases e : pv.length = t
                    · rw [if_pos e]; subst e; rfl
                    · rw [if_neg e, if_pos rfl])
                  generalize swapO (rs.map Prod.snd) pv.length t = L at *
                  obtain ⟨T, hT⟩ : ∃ T, ltop k (L[pv.length]?.getD []) = T := ⟨_, rfl⟩
                  rw [hT] at HSF HLS2
                  rw [HTP.out] at hT
                  have HT := Lib.hid hT
                  have HLL : Hid (L.length = ps.length) := Lib.hid (by rw [← HSS.out, List.length_map]; exact HSL.out)
                  have hc1 := (HSW.out.mat.own.cell pv.length hsp).1
                  rw [HSP.out, HRT.out] at hc1
                  have hc2 := (HSW.out.mat.cell hsp (k := k) (b := tb) (c := tc) (n := m) (by rw [HSP.out, HRT.out]) (by rw [HSP.out, HWD.out]; exact hkm)).1
                  rw [HSP.out, HX.out] at hc2
                  have HSET : Hid (L.set pv.length (rs[t].2) = L) := Lib.hid (by
                    refine ext_getD (List.length_set ..) (fun j hj => ?_)
                    rw [List.length_set] at hj
                    rw [getD_set _ (by rw [HLL.out]; exact hpp)]
                    by_cases e : j = pv.length
                    · rw [if_pos e, e, HTP.out]
                    · rw [if_neg e])
                  have HLP : Hid (∀ y ∈ rs[t].2, y.natAbs ≤ 12079595520) := Lib.hid (fun y hy => by
                    obtain ⟨j, hj, rfl⟩ := List.getElem_of_mem hy
                    have := HSF.out.bl pv.length j
                    rw [HTP.out, List.getElem?_eq_getElem hj] at this
                    exact this)
                  clear hT hss
                  go_upto_if 86 with fail
                  go_cut [87] (fun s87 wx => Mid4 w wx (.slice (some ⟨g, 0, none⟩) ps.length cg) u6 k ps.length T L pv)
                  case first =>
                    by_cases hx0 : x < 0
                    · have HRI : Hid (Ints ws (.slice (some ⟨tb, 0, none⟩) m tc) rs[t].2) := Lib.hid (by
                        have := (HSW.out.mat.rowsP).row (show pv.length < ss.length from hsp)
                        obtain ⟨b3, o3, a3, c3, hb3, hc3, hok3, hi3⟩ := this
                        simp only [Option.some.injEq, Addr.mk.injEq, and_true] at hb3
                        obtain ⟨rfl, rfl⟩ := hb3
                        rw [Nat.zero_add, hc1] at hc3
                        simp only [Option.some.injEq, Value.slice.injEq] at hc3
                        obtain ⟨rfl, -, rfl⟩ := hc3
                        rw [HSP.out, HWD.out] at hi3
                        exact hi3)
                      have HTE : Hid (timesL (-1) rs[t].2 = T) := Lib.hid (by
                        rw [← HT.out]; unfold ltop; rw [HX.out, if_pos hx0])
                      have HNB : Hid (∀ y ∈ rs[t].2, -9223372036854775808 ≤ y * (-1) ∧ y * (-1) ≤ 9223372036854775807) := Lib.hid (fun y hy => by have := HLP.out y hy; omega)
                      go_wp2_with fail
                      refine (rtimes_any _ rs[t].2 (-1) _ HRI.out (by rw [HWD.out]; omega) HNB.out).mono ?_
                      rintro e w5 ⟨v5, rfl, ho5, hg5⟩
                      rw [HTE.out] at ho5
                      obtain ⟨a5, c5, hv5⟩ := ownI_sl' ho5
                      rw [HSF.out.wt] at hv5
                      subst hv5
                      have HM5 := Lib.hid (RedR.fill HSW.out hg5 hsp (.slice a5 m c5, T) ho5 (fun y hy => by
                        obtain ⟨j, hj, rfl⟩ := List.getElem_of_mem hy
                        have := HSF.out.bt j
                        rw [List.getElem?_eq_getElem hj] at this
                        simp only [Option.getD_some] at this
                        show -9223372036854775808 ≤ T[j] ∧ T[j] ≤ 9223372036854775807
                        omega))
                      have hz5 := (HSW.out.same hg5).mat.own.cell pv.length hsp
                      have hf5 := hz5.2
                      have hz5 := hz5.1
                      have HFIN : Hid (Mid4 w (w5.setCell ⟨g, pv.length, none⟩ (.slice a5 m c5)) (.slice (some ⟨g, 0, none⟩) ps.length cg) u6 k ps.length T L pv) := Lib.hid ⟨_, HM5.out, by rw [List.length_set]; exact HSL.out, by
                        rw [List.map_set, HSS.out]
                        exact halfR_start (by rw [HLL.out]; exact hpp)⟩
                      clear ho5 hg5 HM5
                      go_wp2_with fail
                      go_meet
                      exact HFIN.out
                    · have HFIN : Hid (Mid4 w ws (.slice (some ⟨g, 0, none⟩) ps.length cg) u6 k ps.length T L pv) := Lib.hid ⟨ss, HSW.out, HSL.out, by
                        rw [HSS.out, ← halfR_start (by rw [HLL.out]; exact hpp)]
                        have : T = rs[t].2 := by rw [← HT.out]; unfold ltop; rw [HX.out, if_neg hx0]
                        rw [this, HSET.out]⟩
                      go_wp2_with fail
                      go_meet
                      exact HFIN.out
                  case rest =>
                  obtain ⟨qs1, hR1, hL1, hQ1⟩ := hcut
                  rename World => wm
                  have HR1 := Lib.hid hR1; have HL1 := Lib.hid hL1; have HQ1 := Lib.hid hQ1
                  clear hR1 hL1 hQ1 hc1 hc2 HSW HSS HSL HSP HSET HLP HX HRT HWD HMS
                  go_wp2_with fail
                  go_loopw [10] (fun i wr => ∃ (j : Nat) (qs2 : List Row), i = .int .i64 j ∧ j ≤ ps.length ∧ Hid (qs2.length = ps.length) ∧ Hid (qs2.map Prod.snd = halfR k pv.length T L j) ∧ Hid (RedR w wr (.slice (some ⟨g, 0, none⟩) ps.length cg) u6 qs2 pv)) (fun i _ => ps.length - (intOf i).toNat)
                  case atStart => exact ⟨0, qs1, rfl, Nat.zero_le _, HL1, HQ1, HR1⟩
                  case round =>
                    clear HL1 HQ1 HR1
                    obtain ⟨j, qs2, rfl, hj, HL2, HQ2, HR2⟩ := hrel
                    rename World => wi
                    by_cases hjb : j < ps.length
                    · have h8 : (j : Int) < (ps.length : Int) := by omega
                      have i4 : IntKind.i64.wrap ((j : Int) + 1) = (j : Int) + 1 := IntWalk.i64_in _ (by omega)
                      by_cases hjp : j = pv.length
                      · subst hjp
                        have hne : ((pv.length : Int) != (pv.length : Int)) = false := by simp
                        have HQ3 := Lib.hid (HQ2.out.trans halfR_skip)
                        go_wp2_with fail
                        go_roundw
                        case rel => exact ⟨pv.length + 1, qs2, by go_num, by omega, HL2, HQ3, HR2⟩
                        case measure => simp [intOf]; omega
                      · have hne : ((j : Int) != (pv.length : Int)) = true := by simp; omega
                        have hjr : j < qs2.length := by rw [HL2.out]; exact hjb
                        have hjL : j < L.length := by rw [HLL.out]; exact hjb
                        have hw2 : qs2[j].2 = L[j]?.getD [] := by
                          rw [← snd_at hjr, HQ2.out, halfR_at hjL, if_neg hjp, if_neg (Nat.lt_irrefl j)]
                        have hw3 : qs2[j].2.length = m := by rw [hw2]; exact HSF.out.wl j hjL
                        obtain ⟨jb, jc, hrj, -⟩ := row_val HR2.out.mat hjr hw3 hm1
                        have hcj := (HR2.out.mat.own.cell j hjr).1
                        rw [hrj] at hcj
                        have hcy := (HR2.out.mat.cell hjr hrj (k := k) (by rw [hw3]; exact hkm)).1
                        rw [hw2] at hcy
                        have HW2 := Lib.hid hw2; have HRJ := Lib.hid hrj
                        obtain ⟨y0, hy⟩ : ∃ y0, (L[j]?.getD [])[k]?.getD 0 = y0 := ⟨_, rfl⟩
                        rw [hy] at hcy
                        have HY := Lib.hid hy
                        clear hw2 hrj hw3 hy
                        by_cases hy0 : y0 = 0
                        · have hy1 : (y0 != 0) = false := by simpa using hy0
                          have HQ3 := Lib.hid (HQ2.out.trans (halfR_zero (by rw [HY.out]; exact hy0)))
                          clear hy0
                          go_wp2_with fail
                          go_roundw
                          case rel => exact ⟨j + 1, qs2, by go_num, by omega, HL2, HQ3, HR2⟩
                          case measure => simp [intOf]; omega
                        · have hy1 : (y0 != 0) = true := by simpa using hy0
                          have hpr : pv.length < qs2.length := by rw [HL2.out]; exact hpp
                          have hpL : pv.length < L.length := by rw [HLL.out]; exact hpp
                          have hwp : qs2[pv.length].2 = T := by rw [← snd_at hpr, HQ2.out, halfR_at hpL, if_pos rfl]
                          obtain ⟨pb, pc, hrp, -⟩ := row_val HR2.out.mat hpr (by rw [hwp]; exact HSF.out.wt) hm1
                          have hcp := (HR2.out.mat.own.cell pv.length hpr).1
                          rw [hrp] at hcp
                          have hct := (HR2.out.mat.cell hpr hrp (k := k) (by rw [hwp, HSF.out.wt]; exact hkm)).1
                          rw [hwp] at hct
                          have HWP := Lib.hid hwp; have HRP := Lib.hid hrp
                          obtain ⟨tk, htk⟩ : ∃ tk, T[k]?.getD 0 = tk := ⟨_, rfl⟩
                          obtain ⟨gg, hgg⟩ : ∃ gg, Nat.gcd tk.natAbs y0.natAbs = gg := ⟨_, rfl⟩
                          obtain ⟨xq, hxq⟩ : ∃ xq, tk.tdiv (gg : Int) = xq := ⟨_, rfl⟩
                          obtain ⟨yq, hyq⟩ : ∃ yq, y0.tdiv (gg : Int) = yq := ⟨_, rfl⟩
                          have hstep := HSF.out.row hjL hjp (by rw [HY.out]; exact hy0) (g := gg) (by rw [htk, HY.out, hgg])
                          rw [htk, HY.out, hxq, hyq] at hstep
                          rw [htk] at hct
                          have hgc : ∀ W, Calls Tryd.prog 71 #[.int .i64 tk, .int .i64 y0] W fun e w' => e = .returned (.int .i64 (gg : Int)) ∧ Drew W w' := fun W => by
                            have h1 := HSF.out.bt k; have h2 := HSF.out.bl j k
                            rw [htk] at h1; rw [HY.out] at h2
                            have := rgcd_any tk y0 W (by omega) (by omega)
                            rw [hgg] at this; exact this
                          have q7 : ¬ (gg : Int) = 0 := by have := hstep.2.2.2; omega
                          have q8 : ((gg : Int) == 0) = false := by simpa using q7
                          have q9 : IntKind.i64.wrap (tk.tdiv (gg : Int)) = xq := by
                            rw [hxq]; refine IntWalk.i64_in _ ?_
                            have h1 := HSF.out.bt k; rw [htk] at h1
                            have h2 := tdiv_small tk gg
                            rw [hxq] at h2; omega
                          have q10 : IntKind.i64.wrap (y0.tdiv (gg : Int)) = yq := by
                            rw [hyq]; refine IntWalk.i64_in _ ?_
                            have h1 := HSF.out.bl j k; rw [HY.out] at h1
                            have h2 := tdiv_small y0 gg
                            rw [hyq] at h2; omega
                          have HGC := Lib.hid hgc; have HST := Lib.hid hstep
                          have HIJ : Hid (Ints wi (.slice (some ⟨jb, 0, none⟩) m jc) (L[j]?.getD [])) := Lib.hid (by
                            obtain ⟨b3, o3, a3, c3, hb3, hc3, hok3, hi3⟩ := (HR2.out.mat.rowsP).row hjr
                            simp only [Option.some.injEq, Addr.mk.injEq, and_true] at hb3
                            obtain ⟨rfl, rfl⟩ := hb3
                            rw [Nat.zero_add, hcj] at hc3
                            simp only [Option.some.injEq, Value.slice.injEq] at hc3
                            obtain ⟨rfl, -, rfl⟩ := hc3
                            rw [HW2.out, HSF.out.wl j hjL] at hi3
                            exact hi3)
                          clear hgc hstep hwp hrp htk hgg hxq hyq
                          go_wp2_with fail
                          go_big_quiet ((go_at_call 71; exact (HGC.out _).mono (fun _ _ ⟨he, hd⟩ => ⟨he, by obtain ⟨m, rfl⟩ := hd; exact ⟨_ + m, by simp; rfl⟩⟩)))
                          have GA := Lib.hid (grown_drewN wi nq none)
                          have hcj := GA.out.cell hcj (by simp); have hcy := GA.out.cell hcy (by simp); have hcp := GA.out.cell hcp (by simp); have hct := GA.out.cell hct (by simp)
                          generalize wi.drewN nq = wa at *
                          go_wp2_with fail
                          go_big_quiet (fail)
                          have GB := Lib.hid (grown_trans GA.out (grown_drewN wa nq none))
                          have hcj := (grown_drewN wa nq none).cell hcj (by simp); have hcp := (grown_drewN wa nq none).cell hcp (by simp)
                          generalize wa.drewN nq = wb at *
                          have HRB := Lib.hid (HR2.out.same GB.out)
                          clear hcy hct q9 q10 hy1 hne GA
                          go_wp2_with fail
                          refine (rtimesW_any _ (L[j]?.getD []) xq _ (HIJ.out.same GB.out) (by rw [HSF.out.wl j hjL]; omega)).mono ?_
                          rintro e w5 ⟨v5, rfl, ho5, hg5⟩
                          have htl : (timesW xq (L[j]?.getD [])).length = m := by unfold timesW; rw [List.length_map]; exact HSF.out.wl j hjL
                          obtain ⟨rb, rc, hv5, hrb⟩ := ho5.head2 (by rw [htl]; exact hm1)
                          rw [htl] at hv5
                          subst hv5
                          have HS5 : Hid (Sub5 wb wb.heap.size m rb rc k xq yq (L[j]?.getD []) T 0 w5) := Lib.hid ⟨⟨_, ho5, SubR.start _ _ _ _ _⟩, hg5⟩
                          clear ho5 hg5 htl hcj hcp
                          go_wp2_with fail
                          go_loopw [15] (fun i wr => ∃ q : Nat, i = .int .i64 q ∧ q ≤ m ∧ Hid (Sub5 wb wb.heap.size m rb rc k xq yq (L[j]?.getD []) T q wr)) (fun i _ => m - (intOf i).toNat)
                          case atStart => exact ⟨0, rfl, Nat.zero_le _, HS5⟩
                          case round =>
                            clear HS5
                            obtain ⟨q, rfl, hq, HS5⟩ := hrel
                            rename World => wq
                            by_cases hqb : q < m
                            · have h9 : (q : Int) < (m : Int) := by omega
                              have i5 : IntKind.i64.wrap ((q : Int) + 1) = (q : Int) + 1 := IntWalk.i64_in _ (by omega)
                              obtain ⟨⟨L5, hO5, hD5⟩, hg5⟩ := HS5.out
                              have hwj := HSF.out.wl j hjL
                              have hcz := (hO5.cell q (by rw [hD5.1, hwj]; exact hqb)).1; have hfz := (hO5.cell q (by rw [hD5.1, hwj]; exact hqb)).2
                              rw [hD5.2 q (by rw [hwj]; exact hqb), if_neg (Nat.lt_irrefl q)] at hcz
                              have hcp := ((HRB.out.same hg5).mat.own.cell pv.length hpr).1
                              rw [HRP.out] at hcp
                              have hctq := ((HRB.out.same hg5).mat.cell hpr HRP.out (k := q) (by rw [HWP.out, HSF.out.wt]; exact hqb)).1
                              rw [HWP.out] at hctq
                              have hsw := HST.out.1 q hqb
                              have hNX := hD5.put (k := q) (by rw [hwj]; exact hqb)
                              obtain ⟨z, hz⟩ : ∃ z, (L[j]?.getD [])[q]?.getD 0 * xq - yq * T[q]?.getD 0 = z := ⟨_, rfl⟩
                              obtain ⟨a0, ha0⟩ : ∃ a0, IntKind.i64.wrap ((L[j]?.getD [])[q]?.getD 0 * xq) = a0 := ⟨_, rfl⟩
                              rw [hz] at hsw hNX
                              rw [ha0] at hsw hcz
                              obtain ⟨b0, hb0⟩ : ∃ b0, T[q]?.getD 0 = b0 := ⟨_, rfl⟩
                              rw [hb0] at hsw hctq
                              obtain ⟨p0, hp0⟩ : ∃ p0, IntKind.i64.wrap (yq * b0) = p0 := ⟨_, rfl⟩
                              rw [hp0] at hsw
                              have HGN : Hid (wb.grownBy ((wq.setCell ⟨rb, q, none⟩ (.int .i64 z)).drew) none) := Lib.hid (grown_trans (grown_then hg5 (grown_set _ _ _) (by rintro j ⟨⟩; exact .inl (hO5.fresh rb rfl).1)) (grown_drew _ none))
                              have HNN : Hid (Sub5 wb wb.heap.size m rb rc k xq yq (L[j]?.getD []) T (q + 1) ((wq.setCell ⟨rb, q, none⟩ (.int .i64 z)).drew)) := Lib.hid ⟨⟨_, (hO5.stored q z).kept (grown_drew _ none) (by simp), hNX⟩, HGN.out⟩
                              have hczd : wq.drew.cell? ⟨rb, q, none⟩ = some (.int .i64 a0) := hcz
                              have hfzd : wq.drew.frozen? ⟨rb, q, none⟩ = false := hfz
                              have hcpd : wq.drew.cell? ⟨g, pv.length, none⟩ = some (.slice (some ⟨pb, 0, none⟩) m pc) := hcp
                              have hctd : wq.drew.cell? ⟨pb, q, none⟩ = some (.int .i64 b0) := hctq
                              clear hO5 hD5 hg5 hNX hz ha0 hb0 HS5 hwj
                              go_wp2_with fail
                              go_region
                              clear hczd hfzd hcpd hctd hcz hfz hcp hctq hp0 hsw
                              go_wp2_with fail
                              go_roundw
                              case rel => exact ⟨q + 1, by go_num, by omega, HNN⟩
                              case measure => (simp [intOf]; try omega)
                            · obtain rfl : q = m := by omega
                              have h9 : ¬ (q : Int) < (q : Int) := by omega
                              obtain ⟨⟨L5, hO5, hD5⟩, hg5⟩ := HS5.out
                              have hwj := HSF.out.wl j hjL
                              rw [← hwj] at hD5
                              have hL5 := hD5.full (by rw [hwj, HSF.out.wt])
                              subst hL5
                              have HO5 := Lib.hid hO5; have HG5 := Lib.hid hg5
                              clear hO5 hD5 hg5 HS5
                              obtain ⟨rl, hrl⟩ : ∃ rl, primL (comboL xq yq (L[j]?.getD []) T) = rl := ⟨_, rfl⟩
                              have hcl : (comboL xq yq (L[j]?.getD []) T).length = q := by unfold comboL; rw [List.length_zipWith, HSF.out.wt, hwj, Nat.min_self]
                              have HRL : Hid (relim k T (L[j]?.getD []) = rl) := Lib.hid (by rw [HST.out.2.2.1, hrl])
                              have HRLL : Hid (rl.length = q) := Lib.hid (by rw [← hrl, primL_len]; exact hcl)
                              have HRLB : Hid (∀ x ∈ rl, -9223372036854775808 ≤ x ∧ x ≤ 9223372036854775807) := Lib.hid (fun x hx => by
                                obtain ⟨t', ht', rfl⟩ := List.getElem_of_mem hx
                                obtain ⟨g', hg1, hg2, -⟩ := prim_fac (comboL xq yq (L[j]?.getD []) T)
                                have htl : t' < (comboL xq yq (L[j]?.getD []) T).length := by rw [hcl]; rw [HRLL.out] at ht'; exact ht'
                                have h2 := HST.out.2.1 _ (List.getElem_mem htl)
                                have h3 := hg2 t'
                                rw [List.getElem?_eq_getElem htl, hrl, List.getElem?_eq_getElem ht'] at h3
                                simp only [Option.getD_some] at h3
                                have h4 : (rl[t']).natAbs ≤ (rl[t'] * (g' : Int)).natAbs := by rw [Int.natAbs_mul]; exact Nat.le_mul_of_pos_right _ (by rw [Int.natAbs_natCast]; omega)
                                rw [← h3] at h4
                                omega)
                              have HCL := Lib.hid hcl; have HPE := Lib.hid hrl
                              clear hrl hcl hwj
                              go_wp2_with fail
                              refine (rprim_any _ (comboL xq yq (L[j]?.getD []) T) _ (HO5.out.ints (fun x hx => by have := HST.out.2.1 x hx; omega)) (by rw [HCL.out]; omega) HST.out.2.1).mono ?_
                              rintro e w7 ⟨v7, rfl, ho7, hg7⟩
                              rw [HPE.out] at ho7
                              obtain ⟨a7, c7, hv7⟩ := ownI_sl' ho7
                              rw [HRLL.out] at hv7
                              subst hv7
                              have HG7 := Lib.hid (grown_trans HG5.out hg7)
                              have HF7 := Lib.hid (RedR.fill HRB.out HG7.out hjr (.slice a7 q c7, rl) (ho7.mono HG5.out.size) HRLB.out)
                              have hz7 := ((HRB.out.same HG7.out).mat.own.cell j hjr).1
                              have hf7 := ((HRB.out.same HG7.out).mat.own.cell j hjr).2
                              have HL7 : Hid ((qs2.set j (.slice a7 q c7, rl)).length = ps.length) := Lib.hid (by rw [List.length_set]; exact HL2.out)
                              have HQ7 : Hid ((qs2.set j (.slice a7 q c7, rl)).map Prod.snd = halfR k pv.length T L (j + 1)) := Lib.hid (by
                                rw [List.map_set, HQ2.out]
                                show (halfR k pv.length T L j).set j rl = _
                                rw [← HRL.out]
                                exact halfR_next hjL hjp)
                              clear ho7 hg7
                              go_wp2_with fail
                              go_roundw
                              case rel => exact ⟨j + 1, _, by go_num, by omega, HL7, HQ7, HF7⟩
                              case measure => simp [intOf]; omega
                    · obtain rfl : j = ps.length := by omega
                      have h8 : ¬ (ps.length : Int) < (ps.length : Int) := by omega
                      have i2 : IntKind.i64.wrap ((k : Int) + 1) = (k : Int) + 1 := IntWalk.i64_in _ (by omega)
                      have i5 : IntKind.i64.wrap ((pv.length : Int) + 1) = (pv.length : Int) + 1 := IntWalk.i64_in _ (by omega)
                      have HR3 := Lib.hid (HR2.out.same (World.grownBy_alloc wi (.cells #[.int .i64 (k : Int)] 3) none))
                      have HEN : Hid ((qs2.map Prod.snd, pv ++ [(k : Int)]) = lredN (R0, []) (k + 1)) := Lib.hid (by
                        rw [HLS2.out, HQ2.out, HLL.out])
                      go_wp2_with (at_builtin; refine app_int_blk rfl _ _ rfl w.heap.size _ pv rfl HR3.out.piv.1 wi.heap.size (k : Int) rfl (cell_new rfl) (by omega) (HR3.out.grow.size) ?_)
                      intro v9 w9 ho9 hg9 hb9
                      have HR4 := Lib.hid (HR3.out.piv1 ho9 hg9 hb9 (by show (wi.heap.push _).size = _; simp))
                      have HPL : Hid (((pv ++ [(k : Int)]).length : Int) = (pv.length : Int) + 1) := Lib.hid (by rw [List.length_append, List.length_singleton]; omega)
                      clear ho9 hg9 hb9
                      go_wp2_with fail
                      go_roundw
                      case rel => exact ⟨k + 1, _, qs2, _, by go_num, by rw [HPL.out], rfl, by omega, by rw [List.length_append, List.length_singleton]; omega, HL2, HEN, HR4⟩
                      case measure => simp [intOf]; omega
              · obtain rfl : t = ps.length := by omega
                have h5 : ¬ (ps.length : Int) < (ps.length : Int) := by omega
                have h6 : decide ((ps.length : Int) < (ps.length : Int)) = false := by simp
                have h7 : decide (ps.length < ps.length) = false := by simp
                have i2 : IntKind.i64.wrap ((k : Int) + 1) = (k : Int) + 1 := IntWalk.i64_in _ (by omega)
                have hte : ((ps.length : Int) == (ps.length : Int)) = true := by simp
                have HEN : Hid ((rs.map Prod.snd, pv) = lredN (R0, []) (k + 1)) := Lib.hid (by
                  show _ = lstep k (lredN (R0, []) k)
                  rw [← HE.out]
                  refine (lstep_none ?_).symm
                  rw [List.length_map, HL.out, hF.out, Nat.sub_self]; rfl)
                go_wp2_with fail
                go_roundw
                case rel => exact ⟨k + 1, _, rs, pv, by go_num, rfl, rfl, by omega, by omega, HL, HEN, HS⟩
                case measure => simp [intOf]; omega
          · obtain hpe : pv.length = ps.length := by omega
            have q4 : ¬ (pv.length : Int) < (ps.length : Int) := by omega
            have q5 : decide ((pv.length : Int) < (ps.length : Int)) = false := by simp; omega
            have q6 : decide (pv.length < ps.length) = false := by simp; omega
            have hfin : RRed w ps m (.returned (.tuple #[.slice (some ⟨g, 0, none⟩) pv.length cg, u6])) wk2 := by
              refine ⟨_, _, rs.take pv.length, pv, rs.map Prod.snd, rfl, HS.out.rows (by rw [HL.out]; exact hpn), HS.out.piv.1.ints (fun x hx => ?_), ?_, by rw [List.length_map, HL.out]; exact hpn, by rw [List.map_take], HS.out.grow⟩
              · have := lred_piv R0 k x (by rw [← HE.out]; exact hx); omega
              · rw [HR0.out, HE.out]
                have := lred_stay (s := (R0, [])) (k := k) (by rw [← HE.out]; dsimp only; rw [List.length_map, HL.out]; exact hpe) (m - k)
                rw [show k + (m - k) = m by omega] at this
                exact this.symm
            have HFIN := Lib.hid hfin
            have q7 : (pv.length : Int) ≤ (cg : Int) := by have := HG0.out; omega
            have q8 : pv.length ≤ cg := by have := HG0.out; omega
            clear hfin hpe
            go_wp2_with fail
            go_ret2
            exact HFIN.out
        · obtain rfl : k = m := by omega
          have q1 : ¬ (k : Int) < (k : Int) := by omega
          have q2 : decide ((k : Int) < (k : Int)) = false := by simp
          have q3 : decide (k < k) = false := by simp
          have hfin : RRed w ps k (.returned (.tuple #[.slice (some ⟨g, 0, none⟩) pv.length cg, u6])) wk2 := by
            refine ⟨_, _, rs.take pv.length, pv, rs.map Prod.snd, rfl, HS.out.rows (by rw [HL.out]; exact hpn), HS.out.piv.1.ints (fun x hx => ?_), ?_, by rw [List.length_map, HL.out]; exact hpn, by rw [List.map_take], HS.out.grow⟩
            · have := lred_piv R0 k x (by rw [← HE.out]; exact hx); omega
            · rw [HR0.out]; exact HE.out
          have HFIN := Lib.hid hfin
          have q7 : (pv.length : Int) ≤ (cg : Int) := by have := HG0.out; omega
          have q8 : pv.length ≤ cg := by have := HG0.out; omega
          clear hfin
          go_wp2_with fail
          go_ret2
          exact HFIN.out
end Go.Proofs.YtpnghgihepnepaaDoor
