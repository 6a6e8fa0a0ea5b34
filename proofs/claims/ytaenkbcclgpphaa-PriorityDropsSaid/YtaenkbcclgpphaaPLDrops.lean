/- PriorityDrops: for every input it answers true. -/
import Derived.Test.YtaenkbcclgpphaaPq
namespace Go.Proofs.Ytaenkbcclgpphaa
open Go.ChangeShapes Go.WideShapes Go.ChangeAt Go.RowKit
set_option linter.unusedVariables false

def Reach (rs b : List Int) (k : Nat) (L : List (List Int)) : Prop := b ∈ L ∧ L.Nodup ∧ (∀ x ∈ L, leqP rs x b = true) ∧ ∀ j, j < k → ∀ x ∈ dropsP rs (L[j]?.getD []), x ∈ L
theorem reach_start {rs b : List Int} (h : validP rs b = true) : Reach rs b 0 [b] :=
  ⟨List.mem_singleton.2 rfl, by simp, fun x hx => by rw [List.mem_singleton.1 hx]; exact leqP_refl h, fun j hj => absurd hj (Nat.not_lt_zero _)⟩
theorem reach_len {rs b : List Int} {k : Nat} {L : List (List Int)} (hb : b.length ≤ 7) (h : Reach rs b k L) : L.length ≤ 128 := reached_len hb h.2.1 h.2.2.1
theorem reach_add {rs b x : List Int} {k : Nat} {L : List (List Int)} (h : Reach rs b k L) (hk : k ≤ L.length) (hx : leqP rs x b = true) : Reach rs b k (addL L x) := by
  refine ⟨addL_sub L x _ h.1, addL_nodup h.2.1, fun y hy => ?_, fun j hj y hy => addL_sub L x _ (h.2.2.2 j hj y ?_)⟩
  · rcases addL_of hy with h1 | h1
    · exact h.2.2.1 y h1
    · rw [h1]; exact hx
  · obtain ⟨t, ht⟩ := addL_pre L x
    rw [ht, List.getElem?_append_left (by omega)] at hy
    exact hy
theorem reach_next {rs b : List Int} {k : Nat} {L : List (List Int)} (h : Reach rs b k L) (hd : ∀ x ∈ dropsP rs (L[k]?.getD []), x ∈ L) : Reach rs b (k + 1) L := by
  refine ⟨h.1, h.2.1, h.2.2.1, fun j hj x hx => ?_⟩
  rcases Nat.lt_or_ge j k with h1 | h1
  · exact h.2.2.2 j h1 x hx
  · obtain rfl : j = k := by omega
    exact hd x hx
theorem reach_end {rs a b : List Int} {L : List (List Int)} (h : Reach rs b L.length L) : L.any (fun x => a == x) = leqP rs a b := by
  refine shut_iff (fun d hd x hx => ?_) h.1 h.2.2.1
  obtain ⟨j, hj, rfl⟩ := List.mem_iff_getElem.1 hd
  exact h.2.2.2 j hj x (by rw [List.getElem?_eq_getElem hj]; exact hx)
theorem anyb_snoc (P : List Int → Bool) (qs : List Row) (k : Nat) (h : k < qs.length) : (qs.take (k + 1)).any (fun q => P q.2) = ((qs.take k).any (fun q => P q.2) || P (qs[k]).2) := by
  rw [List.take_succ_eq_append_getElem h, List.any_append]; simp
theorem take_in {P : List Int → Prop} {ds : List Row} {j : Nat} (h : j < ds.length) (h1 : ∀ x ∈ (ds.take j).map Prod.snd, P x) (h2 : P (ds[j]).2) : ∀ x ∈ (ds.take (j + 1)).map Prod.snd, P x := by
  rw [List.take_succ_eq_append_getElem h, List.map_append]
  intro x hx
  rcases List.mem_append.1 hx with hx | hx
  · exact h1 x hx
  · rw [List.mem_singleton.1 hx]; exact h2

set_option maxRecDepth 100000 in
set_option maxHeartbeats 1500000 in
theorem walkPriorityDrops (a0 : Option Addr) (len0 cap0 : Nat) (z0 : List Int) (w : World) (w0 : IsRow .i64 w a0 len0 cap0 z0) :
    Calls Try.prog 9 #[.slice a0 len0 cap0] w fun e w' => e = .returned (.bool true) ∧ Below w.heap.size w w' := by
  obtain ⟨hI, hlen⟩ := w0.ints
  generalize z0.take len0 = zs at hI hlen
  subst hlen
  have HI := Lib.hid hI
  clear hI w0
  by_cases hfew : (zs.length : Int) ≤ 400
  · go_enter Try.func9, Try.ntmps9
    go_wp2_with fail
    refine (awake05_any _).mono ?_
    rintro e w1 ⟨rfl, hg⟩
    have HG := Lib.hid hg
    clear hg
    go_wp2_with fail
    refine (few_any _ _ _ _).mono ?_
    rintro e w2 ⟨rfl, rfl⟩
    rw [decide_eq_true hfew]
    go_wp2_with fail
    refine (new_st (HI.out.same HG.out) HG.out).mono ?_
    rintro e w3 ⟨p, d, rfl, hs⟩
    have HS := Lib.hid hs
    clear hs HG HI
    go_wp2_with fail
    refine (ranks_st HS.out 2 (by omega) (by omega)).mono ?_
    rintro e w4 ⟨vr, R, rfl, hlR, hpR, hv, hs, hg⟩
    have Vvr := Lib.hid hv; replace HS := Lib.hid hs; have LR := Lib.hid hlR; have PR := Lib.hid hpR
    have KR := Lib.hid (ranks_ok hlR (by omega) (by omega) hpR)
    clear hv hs hg hlR hpR
    go_wp2_with fail
    refine (word_st HS.out 2 3 (by omega) (by omega) (by omega) (by omega)).mono ?_
    rintro e w5 ⟨va, A, rfl, hlA, hpA, hv, hs, hg⟩
    replace Vvr := Lib.hid (Vvr.out.deal hg)
    have Vva := Lib.hid hv; replace HS := Lib.hid hs; have LA := Lib.hid hlA; have PA := Lib.hid hpA
    clear hv hs hg hlA hpA
    go_wp2_with fail
    refine (word_st HS.out 2 7 (by omega) (by omega) (by omega) (by omega)).mono ?_
    rintro e w6 ⟨vb, B, rfl, hlB, hpB, hv, hs, hg⟩
    replace Vvr := Lib.hid (Vvr.out.deal hg)
    replace Vva := Lib.hid (Vva.out.deal hg)
    have Vvb := Lib.hid hv; replace HS := Lib.hid hs; have LB := Lib.hid hlB; have PB := Lib.hid hpB
    clear hv hs hg hlB hpB
    have VB := Lib.hid (word_ok KR.out LB.out PB.out (by omega) (by have := LR.out; omega))
    have hlb : B.length ≤ 7 := by have := LB.out; omega
    obtain ⟨bb, cb, rfl, -⟩ := Vvb.out.slice
    have O0 := Lib.hid (ownP_lit (p := (.slice bb B.length cb, B)) Vvb.out.1)
    have G0 : Hid (w6.grownBy (w6.alloc (.cells #[.slice bb B.length cb] 22)) none) := Lib.hid (World.grownBy_alloc _ _ none)
    go_wp2_with fail
    go_loopw [7, 8] (fun v i wr => ∃ (k : Nat) (qs : List Row), i = .int .i64 k ∧ k ≤ qs.length ∧ Hid (OwnP wr w6.heap.size v qs) ∧ Hid (w6.grownBy wr none) ∧ Hid (Reach R B k (qs.map Prod.snd))) (fun _ i _ => 200 - (intOf i).toNat)
    case atStart => exact ⟨0, [(.slice bb B.length cb, B)], rfl, Nat.zero_le _, O0, G0, Lib.hid (reach_start VB.out)⟩
    case round =>
      obtain ⟨k, qs, rfl, hk, ho, hg, hr⟩ := hrel
      rename World => wk
      rename Value => vo
      obtain ⟨ao, co, rfl⟩ := ho.out.slice
      have hql : qs.length ≤ 128 := by have := reach_len hlb hr.out; rwa [List.length_map] at this
      have Wr := Lib.hid (Vvr.out.step hg.out); have Wa := Lib.hid (Vva.out.step hg.out); have Wb := Lib.hid (Vvb.out.step hg.out)
      by_cases hlt : k < qs.length
      · have g1 : (k : Int) < (qs.length : Int) := by omega
        have HBO : Hid (∀ g, Value.ownBlock (.slice ao qs.length co) = some g → w6.heap.size ≤ g ∧ g < wk.heap.size) := Lib.hid (fun g h => ho.out.fresh g h)
        obtain ⟨bo, hbo⟩ : ∃ bo, bo = Value.ownBlock (.slice ao qs.length co) := ⟨_, rfl⟩
        rw [← hbo] at HBO
        have HBE := Lib.hid hbo
        clear hbo
        obtain ⟨_, _, hv, _, hc, hrow⟩ := ho.out.rows
        simp only [Value.slice.injEq] at hv
        obtain ⟨rfl, -, -⟩ := hv
        obtain ⟨b, off, rfl, hx⟩ := RowsP.at hc hlt
        have R1 := Lib.hid (hrow _ (List.getElem_mem hlt))
        have HKQ : Hid ((qs.map Prod.snd)[k]?.getD [] = (qs[k]).2) := Lib.hid (by simp [hlt])
        have HLQ : Hid (leqP R (qs[k]).2 B = true) := Lib.hid (hr.out.2.2.1 _ (List.mem_map_of_mem (List.getElem_mem hlt)))
        clear hc hrow
        generalize qs[k] = q at *
        obtain ⟨qv, qx⟩ := q
        dsimp only at hx
        go_wp2_with fail
        refine (dropsF_any _ _ _ _ _ Wr.out.1.1 R1.out).mono ?_
        rintro e w10 ⟨vd, ds, rfl, ho9, hm9, hg9, hf9⟩
        have O9 := Lib.hid ho9; have M9 := Lib.hid hm9; have G9 := Lib.hid hg9; have F9 := Lib.hid hf9
        have O4 := Lib.hid (ho.out.same hg9)
        have G4 := Lib.hid (grown_trans hg.out hg9)
        have hdl : ds.length ≤ maxLen := by obtain ⟨_, _, _, h, _⟩ := ho9.rows; exact h
        unfold maxLen at hdl
        clear ho9 hm9 hg9 hf9
        obtain ⟨ad, cd, rfl⟩ := O9.out.slice
        go_wp2_with fail
        go_loopw [7, 48] (fun v i wr => ∃ (j : Nat) (pj : List Row), i = .int .i64 j ∧ j ≤ ds.length ∧ Hid (OwnP wr w6.heap.size v pj) ∧ Hid (w10.grownBy wr bo) ∧ Hid (∀ g, v.ownBlock = some g → w10.heap.size ≤ g ∨ bo = some g) ∧ Hid (Reach R B k (pj.map Prod.snd)) ∧ Hid (∀ x ∈ (ds.take j).map Prod.snd, x ∈ pj.map Prod.snd) ∧ Hid ((pj.map Prod.snd)[k]?.getD [] = qx) ∧ Hid (k < pj.length)) (fun _ i _ => ds.length - (intOf i).toNat)
        case atStart => exact ⟨0, qs, rfl, Nat.zero_le _, O4, Lib.hid (grown_refl _ _), Lib.hid (fun g h => .inr (by rw [HBE.out]; exact h)), hr, Lib.hid (by simp), HKQ, Lib.hid hlt⟩
        case round =>
          obtain ⟨j, pj, rfl, hj, hoj, hgj, hbj, hrj, hij, hkj, hlj⟩ := hrel
          rename World => wi
          rename Value => vi
          obtain ⟨ai, ci, rfl⟩ := hoj.out.slice
          have hpl : pj.length ≤ 128 := by have := reach_len hlb hrj.out; rwa [List.length_map] at this
          have GI : Hid (w6.grownBy wi none) := Lib.hid (grown_then G4.out hgj.out (fun g h => .inl (HBO.out g h).1))
          by_cases hlj2 : j < ds.length
          · have k1 : (j : Int) < (ds.length : Int) := by omega
            have R9 := Lib.hid (O9.out.rows.keptR hgj.out (fun g h1 h2 => by have := (HBO.out g h1).2; have := (O9.out.fresh g h2).1; omega) (fun g h1 p hp h2 => by have := (HBO.out g h1).2; have := F9.out p hp g h2; omega))
            have N9 : Hid (∀ g, (ds[j]).1.ownBlock = some g → Value.ownBlock (.slice ai pj.length ci) ≠ some g) := Lib.hid (fun g h1 h2 => by
              rcases hbj.out g h2 with h | h
              · have := (O9.out.2 _ (List.getElem_mem hlj2)).1.2.2 g h1
                omega
              · have := (HBO.out g h).2
                have := F9.out _ (List.getElem_mem hlj2) g h1
                omega)
            obtain ⟨_, _, hv, _, hc, hrow⟩ := R9.out
            simp only [Value.slice.injEq] at hv
            obtain ⟨rfl, -, -⟩ := hv
            obtain ⟨b9, o9, rfl, hx9⟩ := RowsP.at hc hlj2
            have R1 := Lib.hid (hrow _ (List.getElem_mem hlj2))
            have HPX : Hid (leqP R (ds[j]).2 B = true) := Lib.hid (leqP_trans (drops_leq (show (ds[j]).2 ∈ dropsP R qx by
              have h : List.map Prod.snd ds = dropsP R qx := M9.out
              rw [← h]
              exact List.mem_map_of_mem (List.getElem_mem hlj2))) HLQ.out)
            have HTK : Hid (∀ P : List Int → Prop, (∀ x ∈ (ds.take j).map Prod.snd, P x) → P (ds[j]).2 → ∀ x ∈ (ds.take (j + 1)).map Prod.snd, P x) := Lib.hid (fun P h1 h2 => take_in hlj2 h1 h2)
            clear hc hrow
            generalize ds[j] = p at *
            obtain ⟨pv, px⟩ := p
            dsimp only at hx9
            obtain ⟨⟨aq, cq, hvq, -⟩, -⟩ := R1.out
            dsimp only at hvq
            subst hvq
            go_wp2_with fail
            go_loopw [11, 54] (fun v i wr => ∃ (m : Nat) (sm : Bool), i = .int .i64 m ∧ m ≤ pj.length ∧ v = .bool sm ∧ Hid (sm = (pj.take m).any (fun q => px == q.2)) ∧ Hid (wi.grownBy wr none)) (fun _ i _ => pj.length - (intOf i).toNat)
            case atStart => exact ⟨0, false, rfl, Nat.zero_le _, rfl, Lib.hid (by simp), Lib.hid (grown_refl _ _)⟩
            case round =>
              obtain ⟨m, sm, rfl, hm, rfl, hsm, hgq⟩ := hrel
              rename World => wq
              by_cases hlm : m < pj.length
              · have k3 : (m : Int) < (pj.length : Int) := by omega
                obtain ⟨_, _, hv, _, hc, hrow⟩ := hoj.out.rows.same hgq.out
                simp only [Value.slice.injEq] at hv
                obtain ⟨rfl, -, -⟩ := hv
                obtain ⟨b2, o2, rfl, hx2⟩ := RowsP.at hc hlm
                have R2 := Lib.hid (hrow _ (List.getElem_mem hlm))
                have HN := Lib.hid (anyb_snoc (fun x => px == x) pj m hlm)
                clear hc hrow
                generalize pj[m] = q2 at *
                obtain ⟨v2, x2⟩ := q2
                dsimp only at hx2
                obtain ⟨⟨a2, c2, hv2, -⟩, -⟩ := R2.out
                dsimp only at hv2
                subst hv2
                cases hs : sm
                · go_wp2_with fail
                  refine (same_any _ _ _ _ _ (R1.out.same hgq.out).1 R2.out.1).mono ?_
                  rintro e w30 ⟨rfl, hd⟩
                  have HG2 := Lib.hid (grown_trans hgq.out (hd.grown none))
                  clear hd
                  go_wp2_with fail
                  go_roundw
                  case rel => exact ⟨m + 1, px == x2, by go_num, by omega, rfl, Lib.hid (by rw [HN.out, ← hsm.out, hs]; rfl), HG2⟩
                  case measure => simp [intOf]; omega
                · go_wp2_with fail
                  go_roundw
                  case rel => exact ⟨m + 1, true, by go_num, by omega, rfl, Lib.hid (by rw [HN.out, ← hsm.out, hs]; rfl), hgq⟩
                  case measure => simp [intOf]; omega
              · have k3 : ¬ (m : Int) < (pj.length : Int) := by omega
                have HA : Hid (sm = (pj.map Prod.snd).any (fun y => px == y)) := Lib.hid (by
                  have h := hsm.out
                  rw [List.take_of_length_le (by omega)] at h
                  rw [h, List.any_map]; rfl)
                have HKL : Hid (k ≤ (pj.map Prod.snd).length) := Lib.hid (by rw [List.length_map]; exact Nat.le_of_lt hlj.out)
                cases hs : sm
                · have HADD : Hid (addL (pj.map Prod.snd) px = (pj ++ [(Value.slice aq px.length cq, px)]).map Prod.snd) := Lib.hid (by
                    have h := HA.out
                    rw [hs] at h
                    unfold addL
                    rw [if_neg (by rw [← h]; simp), List.map_append]; rfl)
                  have hpj9 : pj.length ≤ 1000000000000 := by omega
                  go_wp2_with (at_builtin; refine app_row_at rfl (.tmp 67) (.tmp 69) rfl w6.heap.size (.slice ai pj.length ci) pj (by kernel_rfl) (hoj.out.same (grown_after hgq.out)) wq.heap.size (.slice aq px.length cq, px) (by kernel_rfl) (cell_new rfl) (R1.out.same (grown_after hgq.out)) N9.out hpj9 (grown_after (grown_trans GI.out hgq.out)).size ?_)
                  intro a7 n7 c7 w7 hn7 ho7 hg7 hat7
                  have O7 := Lib.hid ho7
                  have G7 : Hid (w10.grownBy w7 bo) := Lib.hid (grown_then (grown_then hgj.out (grown_after hgq.out) (by simp)) hg7 (fun g h => hbj.out g h))
                  have B7 : Hid (∀ g, Value.ownBlock (.slice a7 n7 c7) = some g → w10.heap.size ≤ g ∨ bo = some g) := Lib.hid (fun g h => by
                    rcases hat7 g h with h1 | h1
                    · exact hbj.out g h1
                    · refine .inl ?_
                      have := hgj.out.size; have := hgq.out.size; have := (grown_after (o := .cells #[Value.slice aq px.length cq] 22) hgq.out).size; omega)
                  clear ho7 hg7 hat7 hn7
                  go_wp2_with fail
                  go_roundw
                  case rel => exact ⟨j + 1, _, by go_num, by omega, O7, G7, B7, Lib.hid (by rw [← HADD.out]; exact reach_add hrj.out HKL.out HPX.out), Lib.hid (by rw [← HADD.out]; exact HTK.out _ (fun x hx => addL_sub _ _ _ (hij.out x hx)) (addL_mem _ _)), Lib.hid (by rw [List.map_append, List.getElem?_append_left (by rw [List.length_map]; exact hlj.out)]; exact hkj.out), Lib.hid (by rw [List.length_append]; exact Nat.lt_of_lt_of_le hlj.out (Nat.le_add_right _ _))⟩
                  case measure => simp [intOf]; omega
                · have HADD : Hid (addL (pj.map Prod.snd) px = pj.map Prod.snd) := Lib.hid (by
                    have h := HA.out
                    rw [hs] at h
                    unfold addL
                    rw [if_pos h.symm])
                  have HMX : Hid (px ∈ pj.map Prod.snd) := Lib.hid (by rw [← HADD.out]; exact addL_mem _ _)
                  go_wp2_with fail
                  go_roundw
                  case rel => exact ⟨j + 1, pj, by go_num, by omega, Lib.hid (hoj.out.same hgq.out), Lib.hid (grown_then hgj.out hgq.out (by simp)), hbj, hrj, Lib.hid (HTK.out _ hij.out HMX.out), hkj, hlj⟩
                  case measure => simp [intOf]; omega
          · have k1 : ¬ (j : Int) < (ds.length : Int) := by omega
            have HR2 : Hid (Reach R B (k + 1) (pj.map Prod.snd)) := Lib.hid (reach_next hrj.out (by
              rw [hkj.out]
              have h : List.map Prod.snd ds = dropsP R qx := M9.out
              rw [← h]
              have h2 := hij.out
              rwa [List.take_of_length_le (by omega)] at h2))
            have hlk : k < pj.length := hlj.out
            have k2 : ¬ (pj.length : Int) > 300 := by omega
            go_wp2_with fail
            go_roundw
            case rel => exact ⟨k + 1, pj, by go_num, by omega, hoj, GI, HR2⟩
            case measure => simp [intOf]; omega
      · have g1 : ¬ (k : Int) < (qs.length : Int) := by omega
        have HRE : Hid (Reach R B (qs.map Prod.snd).length (qs.map Prod.snd)) := Lib.hid (by
          have h := hr.out
          rwa [show k = (qs.map Prod.snd).length by rw [List.length_map]; omega] at h)
        clear hr hlt
        go_wp2_with fail
        go_loopw [14, 77] (fun v i wr => ∃ (m : Nat) (sm : Bool), i = .int .i64 m ∧ m ≤ qs.length ∧ v = .bool sm ∧ Hid (sm = (qs.take m).any (fun q => A == q.2)) ∧ Hid (wk.grownBy wr none)) (fun _ i _ => qs.length - (intOf i).toNat)
        case atStart => exact ⟨0, false, rfl, Nat.zero_le _, rfl, Lib.hid (by simp), Lib.hid (grown_refl _ _)⟩
        case round =>
          obtain ⟨m, sm, rfl, hm, rfl, hsm, hgq⟩ := hrel
          rename World => wq
          have Xr := Lib.hid (Wr.out.step hgq.out); have Xa := Lib.hid (Wa.out.step hgq.out); have Xb := Lib.hid (Wb.out.step hgq.out)
          by_cases hlm : m < qs.length
          · have k3 : (m : Int) < (qs.length : Int) := by omega
            obtain ⟨_, _, hv, _, hc, hrow⟩ := ho.out.rows.same hgq.out
            simp only [Value.slice.injEq] at hv
            obtain ⟨rfl, -, -⟩ := hv
            obtain ⟨b2, o2, rfl, hx2⟩ := RowsP.at hc hlm
            have R2 := Lib.hid (hrow _ (List.getElem_mem hlm))
            have HN := Lib.hid (anyb_snoc (fun x => A == x) qs m hlm)
            have HL2 : Hid (leqP R (qs[m]).2 B = true) := Lib.hid (HRE.out.2.2.1 _ (List.mem_map_of_mem (List.getElem_mem hlm)))
            clear hc hrow
            generalize qs[m] = q2 at *
            obtain ⟨v2, x2⟩ := q2
            dsimp only at hx2
            obtain ⟨⟨a2, c2, hv2, -⟩, -⟩ := R2.out
            dsimp only at hv2
            subst hv2
            go_wp2_with fail
            refine (leqP_any _ _ _ _ _ _ _ Xr.out.1.1 R2.out Xb.out.1).mono ?_
            rintro e w29 ⟨rfl, hg2⟩
            rw [show leqP (vr, R).snd x2 (Value.slice bb B.length cb, B).snd = true from HL2.out]
            have HG1 := Lib.hid (grown_trans hgq.out hg2)
            have R3 := Lib.hid (R2.out.same hg2)
            replace Xa := Lib.hid (Xa.out.step hg2)
            clear hg2
            cases hs : sm
            · go_wp2_with fail
              refine (same_any _ _ _ _ _ Xa.out.1.1 R3.out.1).mono ?_
              rintro e w30 ⟨rfl, hd⟩
              have HG2 := Lib.hid (grown_trans HG1.out (hd.grown none))
              clear hd
              go_wp2_with fail
              go_roundw
              case rel => exact ⟨m + 1, A == x2, by go_num, by omega, rfl, Lib.hid (by rw [HN.out, ← hsm.out, hs]; rfl), HG2⟩
              case measure => simp [intOf]; omega
            · go_wp2_with fail
              go_roundw
              case rel => exact ⟨m + 1, true, by go_num, by omega, rfl, Lib.hid (by rw [HN.out, ← hsm.out, hs]; rfl), HG1⟩
              case measure => simp [intOf]; omega
          · have k3 : ¬ (m : Int) < (qs.length : Int) := by omega
            have HA : Hid (sm = leqP R A B) := Lib.hid (by
              have h := hsm.out
              rw [List.take_of_length_le (by omega)] at h
              rw [h, ← reach_end HRE.out, List.any_map]; rfl)
            have HSX := Lib.hid ((HS.out.step hg.out).step hgq.out)
            cases hs : sm
            all_goals
              have HAB : Hid (leqP R A B = _) := Lib.hid (HA.out.symm.trans hs)
              go_wp2_with fail
              refine (leqP_any _ _ _ _ _ _ _ Xr.out.1.1 Xa.out.1 Xb.out.1).mono ?_
              rintro e w29 ⟨rfl, hg2⟩
              rw [show leqP (vr, R).snd A (Value.slice bb B.length cb, B).snd = _ from HAB.out]
              have HS2 := Lib.hid (HSX.out.step hg2)
              clear hg2
              go_wp2_with fail
              go_ret
              exact ⟨rfl, HS2.out.below⟩
  · go_enter Try.func9, Try.ntmps9
    go_wp2_with fail
    refine (awake05_any _).mono ?_
    rintro e w1 ⟨rfl, hg⟩
    have HG := Lib.hid hg
    clear hg
    go_wp2_with fail
    refine (few_any _ _ _ _).mono ?_
    rintro e w2 ⟨rfl, rfl⟩
    rw [decide_eq_false (by omega)]
    go_wp2_with fail
    refine (awake05_any _).mono ?_
    rintro e w3 ⟨rfl, hg⟩
    have HG := Lib.hid (grown_trans HG.out hg)
    clear hg
    go_wp2_with fail
    go_ret
    exact ⟨rfl, below_of HG.out⟩

/-! ### PriorityDrops: the statement, from its walk -/
set_option maxRecDepth 100000 in
theorem liftedPriorityDrops (os : Os) (started : os.Started) (H : Type) (enc : TypeId × Value → H) :
    ReturnsInHanded {} Try.checked os 9 .any (Rows.priorityDropsSpec.pre6 enc Try.prog Try.f9 Rows.priorityDropsRow.domain false) (Rows.priorityDropsSpec.post enc Try.prog Try.f9 false true false false) := by
  refine returnsInHanded_of_change (C := Try.checked) own started (by kernel_rfl) Try.func9
    (ChangeSpec.witness6 (enc := enc) (C := Try.checked) false ⟨#[], #[.slice none 0 0], []⟩ 8 (by kernel_rfl) (by kernel_rfl) (by kernel_rfl) (by kernel_rfl)) ?_
  intro W base args ds gs before hval0 hW hcnd _
  have hval : ∀ (j : Nat) t v, Try.f9.params[j]? = some t → args[j]? = some v → Value.okWide Try.prog W .any base t v := hval0
  have hW' := hW
  obtain ⟨p, q, hA0, hV, rfl, hfz, hnd⟩ := hW
  have hA : DataW.TrodAll enc Try.prog W 0 (fun _ => true) true Try.f9.params.toList args.toList ds p := hA0
  rw [Try.params9] at hA hval
  obtain ⟨v0, vs0, d0, ds0, p0, q0, hargs, rfl, rfl, h0, r0⟩ := trodAll_cons hA
  obtain ⟨rfl, rfl, rfl⟩ := trodAll_nil r0
  obtain rfl : args = #[v0] := by cases args; simp_all
  obtain ⟨rfl, rfl⟩ := trodVars_none hV
  obtain ⟨a0, len0, cap0, rfl⟩ := okWide_slice Try.underlying22 (hval 0 22 v0 rfl rfl)
  have k0 := h0
  have lt0 : ∀ x ∈ p0, x.block < W.heap.size := by obtain ⟨m, hm⟩ := k0; exact DataW.trod_lt m _ _ _ hm
  obtain ⟨z0, w0⟩ : ∃ zs, IsRow .i64 W a0 len0 cap0 zs := by
    obtain ⟨fuel, hf⟩ := h0
    rcases open_ints Try.underlying22 Try.underlying3 (by kernel_rfl) hf with ⟨hcs, _⟩ | ⟨x, l, c, zs, hcs, _, hl, hm, hz, _, hcell, hwz⟩
    · simp [Value.cells] at hcs
      obtain ⟨rfl, rfl, rfl⟩ := hcs
      exact ⟨[], .inl ⟨rfl, rfl, rfl, rfl⟩⟩
    · simp [Value.cells] at hcs
      obtain ⟨rfl, rfl, rfl⟩ := hcs
      exact ⟨zs, .inr ⟨_, rfl, hl, hm, by simpa using hz, hcell, hwz⟩⟩
  clear hA0 hval0
  refine (walkPriorityDrops a0 len0 cap0 z0 W w0).mono fun e W' ⟨he, bel⟩ => ?_
  subst he
  exact ⟨_, rfl, _, _, _, [], _, [], hW', trodAll_mk1 (shut_bool Try.underlying4 _), (trodAll_cons_mk (Below.trod laidOut (by kernel_rfl) (of_decide_eq_true (by kernel_rfl)) k0 bel lt0) trodAll_mk0), rfl, bel.frame _, fun h => by cases h⟩

theorem priorityDrops_holds : Rows.PriorityDropsSaid :=
  OpenClaim.holds_of_wide 9 Try.f9 rfl rfl rfl rfl rfl rfl rfl ⟨rfl, rfl, rfl, rfl, rfl⟩ rfl rfl rfl rfl rfl (by kernel_rfl) Try.func9 (by kernel_rfl)
    (of_decide_eq_true (by kernel_rfl)) (by unfold Func.isWrapper; first | (rw [if_pos (by decide +kernel)]; kernel_rfl) | (rw [if_neg (by decide +kernel)]; exact ⟨rfl, rfl⟩))
    (fun os started H enc _ => liftedPriorityDrops os started H enc)
#print axioms priorityDrops_holds
end Go.Proofs.Ytaenkbcclgpphaa
