/- made of law 13. -/
import Derived.Test.YtgdnlibklopdiaaTj
namespace Go.Proofs.Ytgdnlibklopdiaa
open Go.RowKit
set_option linter.unusedVariables false

theorem at_cell {w : World} {a : Option Addr} {c k : Nat} {xs : List Int} (h : RowOk w (.slice a xs.length c, xs)) (hk : k < xs.length) :
    ∃ b o, a = some ⟨b, o, none⟩ ∧ ∀ W, w.grownBy W none → W.cell? ⟨b, o + k, none⟩ = some (.int .i64 (xs[k]?.getD 0)) := by
  obtain ⟨⟨_, _, hv, _, _, hct⟩, -, -⟩ := h
  simp only [Value.slice.injEq] at hv
  obtain ⟨rfl, -, -⟩ := hv
  obtain ⟨bt, ot, e, hc⟩ := Ints.at hct hk
  exact ⟨bt, ot, e, fun W hW => hW.cell hc (by simp)⟩

set_option maxRecDepth 100000 in
set_option maxHeartbeats 3000000 in
theorem made_any (n : Nat) (sv tv : Value) (b ts : List Int) (ps : List (List Int)) (w : World) (h : LinV w sv b ps) (hs : ValidS n b ps) (ht : RowOk w (tv, ts)) (htl : ts.length = ps.length) (ht64 : ∀ t ∈ ts, 0 ≤ t ∧ t ≤ 64) :
    Calls Try.prog 53 #[sv, tv] w (Made (madeL b ps ts) w) := by
  obtain ⟨vb, vp, qs, rfl, hb, hq, hg, rfl⟩ := h
  have hbl := hs.2.2.1
  subst hbl
  rw [List.length_map] at htl
  have hn1 := hs.1
  have hn4 := hs.2.1
  have hq3 : qs.length ≤ 3 := by have := hs.2.2.2.2.2.1; rwa [List.length_map] at this
  have HS := Lib.hid hs; have HB := Lib.hid hb; have HQ := Lib.hid hq; have HT := Lib.hid ht; have HTL := Lib.hid htl; have H64 := Lib.hid ht64
  have ht3 : ts.length ≤ 3 := by omega
  have HP : Hid (∀ q ∈ qs, PerOk b.length q.2) := Lib.hid (fun q hq => hs.2.2.2.2.1 q.2 (List.mem_map_of_mem hq))
  obtain ⟨⟨ab, cb, hvb, -, -, -⟩, -, -⟩ := hb
  obtain ⟨⟨at_, ct, htv, -, -, -⟩, -, -⟩ := ht
  dsimp only at hvb htv
  subst hvb htv
  obtain ⟨ap, cp, rfl, -, -, -⟩ := hq
  clear hs hg htl ht64
  go_enter Try.func53, Try.ntmps53
  have HG1 := Lib.hid (World.grownBy_alloc w (.cells #[.slice ab b.length cb, .slice ap qs.length cp] 49) none)
  have h1 : (w.alloc (.cells #[.slice ab b.length cb, .slice ap qs.length cp] 49)).heap[w.heap.size]? = some (.cells #[.slice ab b.length cb, .slice ap qs.length cp] 49 (0, 0)) := heap_new _ rfl
  have HH1 := Lib.hid h1
  have hs1 : w.heap.size + 1 ≤ (w.alloc (.cells #[.slice ab b.length cb, .slice ap qs.length cp] 49)).heap.size := by show _ ≤ (w.heap.push _).size; simp
  clear h1
  go_wp2_with (at_builtin; refine app_ints rfl _ _ rfl (w.heap.size + 1) _ [] rfl (OwnI.nil _ _) _ b rfl (HB.out.same HG1.out).1 HB.out.2.1 (by simp; omega) hs1 ?_)
  intro v3 w3 ho3 hg3
  have C1 := Lib.hid (hg3.cell (cells_of HH1.out).2 (by simp [Value.ownBlock]))
  have G3 := Lib.hid (grown_then HG1.out hg3 (fun j hj => by cases hj))
  obtain ⟨g, c, rfl, hbg, hbc⟩ := ownI_own ho3 (by first | exact hn1 | (simp; omega))
  have O3 : Hid (OwnI w3 (w.heap.size + 1) (.slice (some ⟨g, 0, none⟩) b.length c) b) := Lib.hid ho3
  have BG := Lib.hid hbg
  clear ho3 hg3 hbg hbc
  go_wp2_with fail
  go_loopw [13] (fun i wr => ∃ (k : Nat), i = .int .i64 k ∧ k ≤ ts.length ∧ Hid (OwnI wr (w.heap.size + 1) (.slice (some ⟨g, 0, none⟩) b.length c) (madeL b ((qs.take k).map Prod.snd) (ts.take k))) ∧ Hid (w3.grownBy wr (some g))) (fun i _ => ts.length - (intOf i).toNat)
  case atStart => exact ⟨0, rfl, Nat.zero_le _, O3, Lib.hid (grown_refl _ _)⟩
  case round =>
    obtain ⟨k, rfl, hk, ho, hgk⟩ := hrel
    rename World => wk
    by_cases hkt : k < ts.length
    · have hlt : k < qs.length := by have := HTL.out; omega
      have GK : Hid (w.grownBy wk none) := Lib.hid (grown_then G3.out hgk.out (fun j hj => .inl (by cases hj; have := BG.out; omega)))
      obtain ⟨_, _, hv, _, hc, hrow⟩ := HQ.out
      simp only [Value.slice.injEq] at hv
      obtain ⟨rfl, -, -⟩ := hv
      obtain ⟨b1, o1, rfl, hx⟩ := RowsP.at hc hlt
      have HX := Lib.hid hx
      have HR0 : Hid (RowOk w (qs[k])) := Lib.hid (hrow _ (List.getElem_mem hlt))
      have HPK := Lib.hid (HP.out _ (List.getElem_mem hlt))
      obtain ⟨⟨ak, ck, hvk, -, -, -⟩, -, -⟩ := HR0.out
      have h1 : (k : Int) < (qs.length : Int) := by omega
      have h1' : (k : Int) < (ts.length : Int) := by omega
      have HSN : Hid (madeL b ((qs.take (k + 1)).map Prod.snd) (ts.take (k + 1)) = addk (ts[k]?.getD 0) (qs[k]).2 (madeL b ((qs.take k).map Prod.snd) (ts.take k))) := Lib.hid (by
        rw [snd_take qs k hlt, take_snoc' ts k hkt]
        exact madeL_snoc _ _ _ _ _ (by simp; omega))
      have HSL : Hid ((madeL b ((qs.take k).map Prod.snd) (ts.take k)).length = b.length) := Lib.hid (madeL_len _ _ _ (fun p hp => by obtain ⟨q, hq, rfl⟩ := List.mem_map.1 hp; exact (HP.out q (List.mem_of_mem_take hq)).1.1) rfl)
      have HSB : Hid (∀ x ∈ madeL b ((qs.take k).map Prod.snd) (ts.take k), 0 ≤ x ∧ x ≤ 4096) := Lib.hid (fun x hx => by
        have h2 := madeL_bd _ _ _ 16 (fun p hp => by obtain ⟨q, hq, rfl⟩ := List.mem_map.1 hp; exact HP.out q (List.mem_of_mem_take hq)) rfl (fun u hu => H64.out u (List.mem_of_mem_take hu)) (by omega) HS.out.2.2.2.1 x hx
        have h3 : ((qs.take k).map Prod.snd).length ≤ 3 := by simp; omega
        omega)
      have ht64 := mem_at H64.out hkt
      obtain ⟨bt, ot, rfl, htc⟩ := at_cell HT.out hkt
      have HTC2 := Lib.hid htc
      clear hc hrow htc hx
      generalize qs[k] = q at *
      generalize hY : ts[k]?.getD 0 = t at *
      obtain ⟨qv, p⟩ := q
      dsimp only at hvk HSN HPK HX HR0
      subst hvk
      generalize hSS : madeL b ((qs.take k).map Prod.snd) (ts.take k) = S at *
      clear hY hSS
      have hpb : p.length = b.length := HPK.out.1.1
      have HPB := Lib.hid hpb
      clear hpb
      go_wp2_with fail
      go_loopw [18] (fun i wr => ∃ (j : Nat) (zs : List Int), i = .int .i64 j ∧ j ≤ b.length ∧ Hid (zs.length = b.length ∧ zs.take j = (addk t p S).take j ∧ zs.drop j = S.drop j) ∧ Hid (OwnI wr (w.heap.size + 1) (.slice (some ⟨g, 0, none⟩) b.length c) zs) ∧ Hid (w3.grownBy wr (some g))) (fun i _ => b.length - (intOf i).toNat)
      case atStart => exact ⟨0, _, rfl, Nat.zero_le _, Lib.hid ⟨HSL.out, by simp, rfl⟩, ho, hgk⟩
      case round =>
        obtain ⟨j, zs, rfl, hj, hz, hoz, hgz⟩ := hrel
        rename World => wj
        by_cases hjb : j < b.length
        · have hjl : j < p.length := by have := HPB.out; omega
          have GJ : Hid (w.grownBy wj none) := Lib.hid (grown_then G3.out hgz.out (fun j hj => .inl (by cases hj; have := BG.out; omega)))
          have ST := Lib.hid (addk_step (t := t) HPK.out.1.1 HSL.out hz.out.1 hjb hz.out.2.1 hz.out.2.2)
          obtain ⟨bp, op, rfl, hpc⟩ := at_cell HR0.out hjl
          have cp1 := hpc _ GJ.out
          have ctt := HTC2.out _ GJ.out
          have cx := GJ.out.cell HX.out (by simp)
          have c1 := hgz.out.cell C1.out (by have := BG.out; simp; omega)
          obtain ⟨hcell, hfr⟩ := hoz.out.cell j (by have := hz.out.1; omega)
          have hyy := mem_at HPK.out.1.2 hjl
          have hyz := mem_at HPK.out.2.2 hjl
          have hxx : 0 ≤ zs[j]?.getD 0 ∧ zs[j]?.getD 0 ≤ 4096 := by
            rw [ST.out.1]
            exact mem_at HSB.out (by rw [HSL.out]; exact hjb)
          have h2 : (j : Int) < (p.length : Int) := by omega
          have h3 : (j : Int) < (b.length : Int) := by omega
          clear hpc
          generalize hX : zs[j]?.getD 0 = x at *
          generalize hY : p[j]?.getD 0 = y at *
          clear hX hY
          have m1 : 0 ≤ t * y := Int.mul_nonneg ht64.1 hyy
          have m2 : t * y ≤ 64 * 16 := Int.mul_le_mul ht64.2 hyz hyy (by omega)
          have g1 : IntKind.i64.wrap (t * y) = t * y := IntWalk.i64_in _ (by omega)
          have g2 : IntKind.i64.wrap (x + t * y) = x + t * y := IntWalk.i64_in _ (by omega)
          clear m1 m2 hyy hyz hxx ht64
          go_wp2_with fail
          go_region
          all_goals
            go_wp2_with fail
            go_roundw
            case rel => exact ⟨j + 1, zs.set j (x + t * y), by go_num, by omega, Lib.hid ⟨by rw [List.length_set]; exact hz.out.1, ST.out.2.1, ST.out.2.2⟩, Lib.hid ((hoz.out.stored j _).kept (grown_drew _ none) (by simp)), Lib.hid (grown_trans (grown_trans hgz.out (grown_set _ _ _)) (grown_drew _ _))⟩
            case measure => simp [intOf]; omega
        · have hq : zs = addk t p S := by
            have h2 := hz.out.1
            have h1 := hz.out.2.1
            rwa [List.take_of_length_le (by omega), List.take_of_length_le (by rw [addk_len HPK.out.1.1 HSL.out]; omega)] at h1
          subst hq
          have h2 : ¬ (j : Int) < (b.length : Int) := by omega
          go_wp2_with fail
          go_roundw
          case rel => exact ⟨k + 1, by go_num, by omega, by rw [HSN.out]; exact hoz, hgz⟩
          case measure => simp [intOf]; omega
    · have h1 : ¬ (k : Int) < (ts.length : Int) := by omega
      have hq : (qs.take k).map Prod.snd = qs.map Prod.snd ∧ ts.take k = ts := ⟨by rw [List.take_of_length_le (by have := HTL.out; omega)], List.take_of_length_le (by omega)⟩
      rw [hq.1, hq.2] at ho
      clear hq
      go_wp2_with fail
      go_ret
      exact ⟨_, rfl, ho.out.mono (by omega), grown_then G3.out hgk.out (fun j hj => .inl (by cases hj; have := BG.out; omega))⟩

end Go.Proofs.Ytgdnlibklopdiaa
