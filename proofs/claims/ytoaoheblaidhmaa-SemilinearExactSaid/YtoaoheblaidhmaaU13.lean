/- Texts Vi in one. -/
import Derived.Test.YtoaoheblaidhmaaU12
namespace Go.Proofs.Ytoaoheblaidhmaa
open Go.RowKit
set_option linter.unusedVariables false

theorem addk_bdB {n : Nat} {t : Int} {p b : List Int} {M : Int} (hp : PerOk n p) (hb : b.length = n) (ht : 0 ≤ t ∧ t ≤ 1048576) (h : ∀ x ∈ b, 0 ≤ x ∧ x ≤ M) : ∀ x ∈ addk t p b, 0 ≤ x ∧ x ≤ M + 16777216 := by
  intro z hz
  obtain ⟨x, hx, y, hy, rfl⟩ := mem_zipWith _ b p z hz
  have h1 := h x hx
  have h2 := hp.1.2 y hy
  have h3 := hp.2.2 y hy
  have h4 := Int.mul_nonneg ht.1 h2
  have h5 : t * y ≤ 1048576 * 16 := Int.mul_le_mul ht.2 h3 h2 (by omega)
  omega

theorem madeL_bdB {n : Nat} : ∀ (ps : List (List Int)) (ts b : List Int) (M : Int), (∀ p ∈ ps, PerOk n p) → b.length = n → (∀ t ∈ ts, 0 ≤ t ∧ t ≤ 1048576) → 0 ≤ M → (∀ x ∈ b, 0 ≤ x ∧ x ≤ M) → ∀ x ∈ madeL b ps ts, 0 ≤ x ∧ x ≤ M + 16777216 * ps.length
  | [], _, b, M, _, _, _, _, h => by unfold madeL; simpa using h
  | p :: ps, [], b, M, _, _, _, _, h => by
    unfold madeL
    intro x hx
    have := h x hx
    simp only [List.length_cons]
    omega
  | p :: ps, t :: ts, b, M, hp, hb, ht, hM, h => by
    unfold madeL
    have := madeL_bdB ps ts (addk t p b) (M + 16777216) (fun q hq => hp q (by simp [hq])) (addk_len (hp p (by simp)).1.1 hb) (fun u hu => ht u (by simp [hu])) (by omega) (addk_bdB (hp p (by simp)) hb (ht t (by simp)) h)
    intro x hx
    have := this x hx
    simp only [List.length_cons]
    omega

set_option maxRecDepth 100000 in
set_option maxHeartbeats 2000000 in
theorem Proves_big (n : Nat) (sv vv tv : Value) (b v ts : List Int) (ps : List (List Int)) (w : World) (h : LinV w sv b ps) (hs : ValidS n b ps) (hr : RowOk w (vv, v)) (ht : RowOk w (tv, ts)) (htl : ts.length = ps.length) (ht64 : ∀ t ∈ ts, 0 ≤ t ∧ t ≤ 1048576) :
    Calls Try.prog 20 #[sv, vv, tv] w fun e w' => e = .returned (.bool (madeL b ps ts == v)) ∧ w.grownBy w' none := by
  obtain ⟨vb, vp, qs, rfl, hb, hq, hg, rfl⟩ := h
  have hbl := hs.2.2.1
  subst hbl
  rw [List.length_map] at htl
  have hn1 := hs.1
  have hn4 := hs.2.1
  have hq3 : qs.length ≤ 3 := by have := hs.2.2.2.2.2.1; rwa [List.length_map] at this
  have HS := Lib.hid hs; have HB := Lib.hid hb; have HQ := Lib.hid hq; have HGd := Lib.hid hg; have HR := Lib.hid hr; have HT := Lib.hid ht; have HTL := Lib.hid htl; have H64 := Lib.hid ht64
  have HP : Hid (∀ q ∈ qs, PerOk b.length q.2) := Lib.hid (fun q hq => hs.2.2.2.2.1 q.2 (List.mem_map_of_mem hq))
  obtain ⟨⟨ab, cb, hvb, -, -, -⟩, -, -⟩ := hb
  obtain ⟨⟨av, cv, hvv, -, -, -⟩, -, -⟩ := hr
  obtain ⟨⟨at_, ct, htv, -, -, -⟩, -, -⟩ := ht
  dsimp only at hvb hvv htv
  subst hvb hvv htv
  obtain ⟨ap, cp, rfl, -, -, -⟩ := hq
  have hd : ((ts.length : Int) != (qs.length : Int)) = false := by rw [htl]; simp
  have hd' : (ts.length == qs.length) = true := by rw [htl]; simp
  have HW : Hid (withB 1048576 ts = true) := Lib.hid (withB_iff.2 fun x hx => by have := ht64 x hx; omega)
  clear hs hg htl ht64
  go_enter Try.func20, Try.ntmps20
  go_wp2_with fail
  refine (check_boxed _ b (qs.map Prod.snd) _ _ w ⟨_, _, qs, rfl, HB.out, HQ.out, HGd.out, rfl⟩ HS.out).mono ?_
  rintro e w3 ⟨rfl, hg3, c0, c1⟩
  have G3 := Lib.hid hg3; have C0 := Lib.hid c0; have C1 := Lib.hid c1
  clear hg3
  go_wp2_with fail
  refine (within_any _ ts _ _ (HT.out.same G3.out).1).mono ?_
  rintro e w9 ⟨rfl, hw9⟩
  subst hw9
  rw [HW.out]
  rename World => w3
  go_wp2_with fail
  refine (cloneInts_any _ _ _ (HB.out.same G3.out) hn1 (by omega)).mono ?_
  rintro e w4 ⟨v4, rfl, ho4, hg4⟩
  obtain ⟨g, c, rfl, hbg, hbc⟩ := ownI_own ho4 hn1
  have O4 := Lib.hid ho4; have G4 := Lib.hid (grown_trans G3.out hg4)
  have BG : Hid (w3.heap.size ≤ g) := Lib.hid hbg
  have hlt3 : Hid (w.heap.size < w3.heap.size) := Lib.hid (World.block_lt_of_cell? _ _ C0.out)
  have B3 := Lib.hid (Nat.le_of_lt hlt3.out)
  clear c0 c1 ho4 hbg hbc
  have c0 := hg4.cell C0.out (by simp); have c1 := hg4.cell C1.out (by simp)
  clear hg4 C0 C1
  go_wp2_with fail
  have C1 := Lib.hid c1
  clear c0 c1
  go_loopw [38] (fun i wr => ∃ (k : Nat), i = .int .i64 k ∧ k ≤ qs.length ∧ Hid (OwnI wr w3.heap.size (.slice (some ⟨g, 0, none⟩) b.length c) (madeL b ((qs.take k).map Prod.snd) (ts.take k))) ∧ Hid (w.grownBy wr none)) (fun i _ => qs.length - (intOf i).toNat)
  case atStart => exact ⟨0, rfl, Nat.zero_le _, O4, G4⟩
  case round =>
    obtain ⟨k, rfl, hk, ho, hgk⟩ := hrel
    rename World => wk
    by_cases hlt : k < qs.length
    · obtain ⟨_, _, hv, _, hc, hrow⟩ := HQ.out.same hgk.out
      simp only [Value.slice.injEq] at hv
      obtain ⟨rfl, -, -⟩ := hv
      obtain ⟨b1, o1, rfl, hx⟩ := RowsP.at hc hlt
      have HRK := Lib.hid (hrow _ (List.getElem_mem hlt))
      have HR0 : Hid (RowOk w (qs[k])) := Lib.hid (rows_rows HQ.out _ (List.getElem_mem hlt))
      have HPK := Lib.hid (HP.out _ (List.getElem_mem hlt))
      obtain ⟨⟨ak, ck, hvk, -, -, -⟩, -, -⟩ := HRK.out
      have h1 : (k : Int) < (qs.length : Int) := by omega
      have hkt : k < ts.length := by rw [HTL.out]; exact hlt
      have HSN : Hid (madeL b ((qs.take (k + 1)).map Prod.snd) (ts.take (k + 1)) = addk (ts[k]?.getD 0) (qs[k]).2 (madeL b ((qs.take k).map Prod.snd) (ts.take k))) := Lib.hid (by
        rw [snd_take qs k hlt, take_snoc' ts k hkt]
        exact madeL_snoc _ _ _ _ _ (by simp; omega))
      have HSL : Hid ((madeL b ((qs.take k).map Prod.snd) (ts.take k)).length = b.length) := Lib.hid (madeL_len _ _ _ (fun p hp => by obtain ⟨q, hq, rfl⟩ := List.mem_map.1 hp; exact (HP.out q (List.mem_of_mem_take hq)).1.1) rfl)
      have HSB : Hid (∀ x ∈ madeL b ((qs.take k).map Prod.snd) (ts.take k), 0 ≤ x ∧ x ≤ 67108864) := Lib.hid (fun x hx => by
        have h2 := madeL_bdB _ _ _ 16 (fun p hp => by obtain ⟨q, hq, rfl⟩ := List.mem_map.1 hp; exact HP.out q (List.mem_of_mem_take hq)) rfl (fun u hu => H64.out u (List.mem_of_mem_take hu)) (by omega) HS.out.2.2.2.1 x hx
        have h3 : ((qs.take k).map Prod.snd).length ≤ 3 := by simp; omega
        omega)
      have ht64 := mem_at H64.out hkt
      have HXK : Hid (∀ W, wk.grownBy W none → Ints W (.slice at_ ts.length ct) ts) := Lib.hid (fun W hW => (HT.out.same (grown_trans hgk.out hW)).1)
      have HTC : Hid (∃ bt ot, at_ = some ⟨bt, ot, none⟩ ∧ ∀ W, w.grownBy W none → W.cell? ⟨bt, ot + k, none⟩ = some (.int .i64 (ts[k]?.getD 0))) := Lib.hid (by
        obtain ⟨⟨_, _, hv, _, _, hct⟩, -, -⟩ := HT.out
        simp only [Value.slice.injEq] at hv
        obtain ⟨rfl, -, -⟩ := hv
        obtain ⟨bt, ot, e, hc⟩ := Ints.at hct hkt
        exact ⟨bt, ot, e, fun W hW => hW.cell hc (by simp)⟩)
      obtain ⟨bt, ot, rfl, htc⟩ := HTC.out
      have HTC2 := Lib.hid htc
      clear hc hrow htc HTC HXK
      generalize qs[k] = q at *
      generalize hY : ts[k]?.getD 0 = t at *
      obtain ⟨qv, p⟩ := q
      dsimp only at hx hvk HSN HPK
      subst hvk
      generalize hSS : madeL b ((qs.take k).map Prod.snd) (ts.take k) = S at *
      clear hY hSS
      have hpb : p.length ≤ 1000 := by rw [HPK.out.1.1]; omega
      go_wp2_with fail
      clear hx
      go_loopw [45] (fun i wr => ∃ (j : Nat) (zs : List Int), i = .int .i64 j ∧ j ≤ p.length ∧ Hid (zs.length = b.length ∧ zs.take j = (addk t p S).take j ∧ zs.drop j = S.drop j) ∧ Hid (OwnI wr w3.heap.size (.slice (some ⟨g, 0, none⟩) b.length c) zs) ∧ Hid (w.grownBy wr none)) (fun i _ => p.length - (intOf i).toNat)
      case atStart => exact ⟨0, _, rfl, Nat.zero_le _, Lib.hid ⟨HSL.out, by simp, rfl⟩, ho, hgk⟩
      case round =>
        obtain ⟨j, zs, rfl, hj, hz, hoz, hgz⟩ := hrel
        rename World => wj
        by_cases hjl : j < p.length
        · have hjb : j < b.length := by have := HPK.out.1.1; omega
          have ST := Lib.hid (addk_step (t := t) HPK.out.1.1 HSL.out hz.out.1 hjb hz.out.2.1 hz.out.2.2)
          have HRP : Hid (∃ bp op, ak = some ⟨bp, op, none⟩ ∧ ∀ W, w.grownBy W none → W.cell? ⟨bp, op + j, none⟩ = some (.int .i64 (p[j]?.getD 0))) := Lib.hid (by
            obtain ⟨⟨_, _, hv, _, _, hct⟩, -, -⟩ := HR0.out
            simp only [Value.slice.injEq] at hv
            obtain ⟨rfl, -, -⟩ := hv
            obtain ⟨bt, ot, e, hc⟩ := Ints.at hct hjl
            exact ⟨bt, ot, e, fun W hW => hW.cell hc (by simp)⟩)
          obtain ⟨bp, op, rfl, hpc⟩ := HRP.out
          have cp := hpc _ hgz.out
          have ctt := HTC2.out _ hgz.out
          obtain ⟨hcell, hfr⟩ := hoz.out.cell j (by have := hz.out.1; omega)
          have hyy := mem_at HPK.out.1.2 hjl
          have hyz := mem_at HPK.out.2.2 hjl
          have hxx : 0 ≤ zs[j]?.getD 0 ∧ zs[j]?.getD 0 ≤ 67108864 := by
            rw [ST.out.1]
            exact mem_at HSB.out (by rw [HSL.out]; exact hjb)
          have h2 : (j : Int) < (p.length : Int) := by omega
          have h3 : (j : Int) < (b.length : Int) := by omega
          have h4 : (k : Int) < (ts.length : Int) := by omega
          clear hpc HRP
          generalize hX : zs[j]?.getD 0 = x at *
          generalize hY : p[j]?.getD 0 = y at *
          have HXY := Lib.hid (And.intro hX hY)
          clear hX hY
          have m1 : 0 ≤ t * y := Int.mul_nonneg ht64.1 hyy
          have m2 : t * y ≤ 1048576 * 16 := Int.mul_le_mul ht64.2 hyz hyy (by omega)
          have g1 : IntKind.i64.wrap (t * y) = t * y := IntWalk.i64_in _ (by omega)
          have g2 : IntKind.i64.wrap (x + t * y) = x + t * y := IntWalk.i64_in _ (by omega)
          clear m1 m2 hyy hyz hxx
          go_wp2_with fail
          go_region
          all_goals
            go_wp2_with fail
            go_roundw
            case rel => exact ⟨j + 1, zs.set j (x + t * y), by go_num, by omega, Lib.hid ⟨by rw [List.length_set]; exact hz.out.1, ST.out.2.1, ST.out.2.2⟩, Lib.hid ((hoz.out.stored j _).kept (grown_drew _ none) (by simp)), Lib.hid (grown_trans (grown_then hgz.out (grown_set _ _ _) (by rintro j ⟨⟩; exact .inl (Nat.le_trans B3.out BG.out))) (grown_drew _ none))⟩
            case measure => simp [intOf]; omega
        · have hq : zs = addk t p S := by
            have h2 := hz.out.1
            have h3 := HPK.out.1.1
            have h1 := hz.out.2.1
            rwa [List.take_of_length_le (by omega), List.take_of_length_le (by rw [addk_len HPK.out.1.1 HSL.out]; omega)] at h1
          subst hq
          have h2 : ¬ (j : Int) < (p.length : Int) := by omega
          go_wp2_with fail
          go_roundw
          case rel => exact ⟨k + 1, by go_num, by omega, by rw [HSN.out]; exact hoz, hgz⟩
          case measure => simp [intOf]; omega
    · have h1 : ¬ (k : Int) < (qs.length : Int) := by omega
      have hq : (qs.take k).map Prod.snd = qs.map Prod.snd ∧ ts.take k = ts := ⟨by rw [List.take_of_length_le (by omega)], List.take_of_length_le (by rw [HTL.out]; omega)⟩
      rw [hq.1, hq.2] at ho
      clear hq
      have HMB : Hid (∀ x ∈ madeL b (qs.map Prod.snd) ts, -9223372036854775808 ≤ x ∧ x ≤ 9223372036854775807) := Lib.hid (fun x hx => by
        have h2 := madeL_bdB _ _ _ 16 HS.out.2.2.2.2.1 rfl H64.out (by omega) HS.out.2.2.2.1 x hx
        have h3 : (qs.map Prod.snd).length ≤ 3 := HS.out.2.2.2.2.2.1
        omega)
      go_wp2_with fail
      refine (equal_any _ _ _ _ _ (ho.out.ints HMB.out) (HR.out.same hgk.out).1).mono ?_
      rintro e w5 ⟨rfl, hd5⟩
      have G5 := Lib.hid (grown_trans hgk.out (hd5.grown none))
      clear hd5
      go_wp2_with fail
      go_ret
      exact ⟨rfl, G5.out⟩


section
variable {b v ts : List Int} {qs : List Row} {sv vv tv : Value} {w : World}
set_option maxRecDepth 100000 in
set_option maxHeartbeats 1000000 in
theorem Proves_bad (h : LinX w sv b qs) (hq : qs.length ≤ 20) (hr : RowOk w (vv, v)) (ht : RowOk w (tv, ts)) (hb : ¬ (ValidX b qs ∧ ts.length = qs.length ∧ withB 1048576 ts = true)) :
    Calls Try.prog 20 #[sv, vv, tv] w fun e w' => e = .returned (.bool false) ∧ w.grownBy w' none := by
  have H := Lib.hid h; have HT := Lib.hid ht
  obtain ⟨vb, vp, rfl, ⟨⟨ab, cb, hvb, hbm, -⟩, -, -⟩, ⟨ap, cp, rfl, -⟩, -⟩ := h
  obtain ⟨⟨av, cv, hvv, hvm, -⟩, -, -⟩ := hr
  obtain ⟨⟨at_, ct, htv, htm, -⟩, -, -⟩ := ht
  dsimp only at hvb hvv htv
  unfold maxLen at hbm hvm htm
  subst hvb hvv htv
  have HCB := Lib.hid (check_boxedX (b.length : Int) b qs _ _ w H.out hq)
  have HBD := Lib.hid hb
  clear hb
  go_enter Try.func20, Try.ntmps20
  go_wp2_with fail
  refine HCB.out.mono ?_
  rintro e w3 ⟨err, rfl, hc, hg3, c0, c1⟩
  have G3 := Lib.hid hg3
  have HV := Lib.hid (checkF_valid hc)
  dsimp only at c0 c1
  clear hc hg3
  by_cases he : err = 0
  · subst he
    have HVX := Lib.hid (HV.out.1 rfl)
    by_cases hl : ts.length = qs.length
    · have HW : Hid (withB 1048576 ts = false) := Lib.hid (by
        cases h : withB 1048576 ts with
        | false => rfl
        | true => exact absurd ⟨HVX.out, hl, h⟩ HBD.out)
      have d1 : ((ts.length : Int) != (qs.length : Int)) = false := by simp; omega
      clear hl
      go_wp2_with fail
      refine (within_any _ ts _ _ (HT.out.same G3.out).1).mono ?_
      rintro e w9 ⟨rfl, hw9⟩
      subst hw9
      rw [HW.out]
      go_wp2_with fail
      go_ret
      exact ⟨rfl, G3.out⟩
    · have d1 : ((ts.length : Int) != (qs.length : Int)) = true := by simp; omega
      clear hl
      go_wp2_with fail
      go_ret
      exact ⟨rfl, G3.out⟩
  · have d0 : (err != 0) = true := by simpa using he
    go_wp2_with fail
    go_ret
    exact ⟨rfl, G3.out⟩
set_option maxRecDepth 100000 in
set_option maxHeartbeats 1000000 in
theorem rProves_bad (h : LinX w sv b qs) (hq : qs.length ≤ 20) (hr : RowOk w (vv, v)) (ht : RowOk w (tv, ts)) (hb : ¬ (ValidX b qs ∧ v.length = b.length ∧ ts.length = qs.length ∧ withB 1048576 ts = true)) :
    Calls Try.prog 21 #[sv, vv, tv] w fun e w' => e = .returned (.bool false) ∧ w.grownBy w' none := by
  have H := Lib.hid h; have HT := Lib.hid ht
  obtain ⟨vb, vp, rfl, ⟨⟨ab, cb, hvb, hbm, -⟩, -, -⟩, ⟨ap, cp, rfl, -⟩, -⟩ := h
  obtain ⟨⟨av, cv, hvv, hvm, -⟩, -, -⟩ := hr
  obtain ⟨⟨at_, ct, htv, htm, -⟩, -, -⟩ := ht
  dsimp only at hvb hvv htv
  unfold maxLen at hbm hvm htm
  subst hvb hvv htv
  have G0 := Lib.hid (World.grownBy_alloc w (.cells #[.slice ab b.length cb, .slice ap qs.length cp] 26) none)
  have HCB := Lib.hid (rvalid_is _ b qs _ (H.out.same G0.out) hq)
  have HBD := Lib.hid hb
  have HC0 : Hid ((w.alloc (.cells #[.slice ab b.length cb, .slice ap qs.length cp] 26)).cell? ⟨w.heap.size, 0, none⟩ = some (.slice ab b.length cb)) := Lib.hid (by rw [World.cell?, heap_new _ rfl]; rfl)
  have HC1 : Hid ((w.alloc (.cells #[.slice ab b.length cb, .slice ap qs.length cp] 26)).cell? ⟨w.heap.size, 1, none⟩ = some (.slice ap qs.length cp)) := Lib.hid (by rw [World.cell?, heap_new _ rfl]; rfl)
  clear hb
  go_enter Try.func21, Try.ntmps21
  go_wp2_with fail
  refine HCB.out.mono ?_
  rintro e w3 ⟨B, rfl, hv, hg⟩
  have c0 := hg.cell HC0.out (by simp)
  have c1 := hg.cell HC1.out (by simp)
  have G3 := Lib.hid (grown_trans G0.out hg)
  have HV := Lib.hid hv
  clear hv hg
  cases B with
  | false =>
    go_wp2_with fail
    go_ret
    exact ⟨rfl, G3.out⟩
  | true =>
    have HVX := Lib.hid (HV.out.1 rfl)
    by_cases hl : v.length = b.length
    · have d1 : ((v.length : Int) != (b.length : Int)) = false := by simp; omega
      by_cases hl2 : ts.length = qs.length
      · have HW : Hid (withB 1048576 ts = false) := Lib.hid (by
          cases h : withB 1048576 ts with
          | false => rfl
          | true => exact absurd ⟨HVX.out, hl, hl2, h⟩ HBD.out)
        have d2 : ((ts.length : Int) != (qs.length : Int)) = false := by simp; omega
        clear hl hl2
        go_wp2_with fail
        refine (rnumbers_is _ ts _ _ (HT.out.same G3.out).1).mono ?_
        rintro e w9 ⟨rfl, hw9⟩
        subst hw9
        rw [HW.out]
        go_wp2_with fail
        go_ret
        exact ⟨rfl, G3.out⟩
      · have d2 : ((ts.length : Int) != (qs.length : Int)) = true := by simp; omega
        clear hl hl2
        go_wp2_with fail
        go_ret
        exact ⟨rfl, G3.out⟩
    · have d1 : ((v.length : Int) != (b.length : Int)) = true := by simp; omega
      clear hl
      go_wp2_with fail
      go_ret
      exact ⟨rfl, G3.out⟩
theorem made_ext {x y : List Int} (hl : x.length = y.length) (h : ∀ j, j < y.length → x[j]?.getD 0 = y[j]?.getD 0) : x = y := by
  refine List.ext_getElem hl (fun j h1 h2 => ?_)
  have := h j h2
  rw [List.getElem?_eq_getElem h1, List.getElem?_eq_getElem h2] at this
  exact this
set_option maxRecDepth 100000 in
set_option maxHeartbeats 2000000 in
theorem rProves_any (h : LinX w sv b qs) (hq : qs.length ≤ 20) (hr : RowOk w (vv, v)) (ht : RowOk w (tv, ts)) (hv : ValidX b qs) (hl : v.length = b.length) (htl : ts.length = qs.length) (ht20 : withB 1048576 ts = true) :
    Calls Try.prog 21 #[sv, vv, tv] w fun e w' => e = .returned (.bool (madeL b (qs.map Prod.snd) ts == v)) ∧ w.grownBy w' none := by
  have H := Lib.hid h; have HR := Lib.hid hr; have HT := Lib.hid ht; have HVX := Lib.hid hv
  obtain ⟨vb, vp, rfl, hb0, hp0, hgd⟩ := h
  have HB := Lib.hid hb0; have HP := Lib.hid (hp0.toP1 hv.ne)
  obtain ⟨⟨ab, cb, hvb, hbm, -⟩, -, -⟩ := hb0
  obtain ⟨ap, cp, rfl, -⟩ := hp0
  obtain ⟨⟨av, cv, hvv, hvm, -⟩, -, -⟩ := hr
  obtain ⟨⟨at_, ct, htv, htm, -⟩, -, -⟩ := ht
  dsimp only at hvb hvv htv
  unfold maxLen at hbm hvm htm
  subst hvb hvv htv
  have G0 := Lib.hid (World.grownBy_alloc w (.cells #[.slice ab b.length cb, .slice ap qs.length cp] 26) none)
  have HCB := Lib.hid (rvalid_is _ b qs _ (H.out.same G0.out) hq)
  have HC0 : Hid ((w.alloc (.cells #[.slice ab b.length cb, .slice ap qs.length cp] 26)).cell? ⟨w.heap.size, 0, none⟩ = some (.slice ab b.length cb)) := Lib.hid (by rw [World.cell?, heap_new _ rfl]; rfl)
  have HC1 : Hid ((w.alloc (.cells #[.slice ab b.length cb, .slice ap qs.length cp] 26)).cell? ⟨w.heap.size, 1, none⟩ = some (.slice ap qs.length cp)) := Lib.hid (by rw [World.cell?, heap_new _ rfl]; rfl)
  have HS := Lib.hid hv.s
  have HPO : Hid (∀ q ∈ qs, PerOk b.length q.2) := Lib.hid (fun q hq => hv.s.2.2.2.2.1 q.2 (List.mem_map_of_mem hq))
  have hb4 : b.length ≤ 4 := hv.2.1
  have hq3 : qs.length ≤ 3 := by have := hv.s.2.2.2.2.2.1; rwa [List.length_map] at this
  have HL := Lib.hid hl; have HTL := Lib.hid htl; have HT20 := Lib.hid ht20
  have HML : Hid ((madeL b (qs.map Prod.snd) ts).length = b.length) := Lib.hid (madeL_len _ _ _ (fun p hp => by obtain ⟨q, hq, rfl⟩ := List.mem_map.1 hp; exact (HPO.out q hq).1.1) rfl)
  have d1 : ((v.length : Int) != (b.length : Int)) = false := by simp; omega
  have d2 : ((ts.length : Int) != (qs.length : Int)) = false := by simp; omega
  clear hv hl htl ht20 hgd
  go_enter Try.func21, Try.ntmps21
  go_wp2_with fail
  refine HCB.out.mono ?_
  rintro e w3 ⟨B, rfl, hv, hg⟩
  have c0 := hg.cell HC0.out (by simp)
  have c1 := hg.cell HC1.out (by simp)
  have G3 := Lib.hid (grown_trans G0.out hg)
  obtain rfl : B = true := hv.2 HVX.out
  clear hv hg
  go_wp2_with fail
  refine (rnumbers_is _ ts _ _ (HT.out.same G3.out).1).mono ?_
  rintro e w9 ⟨rfl, hw9⟩
  subst hw9
  rw [HT20.out]
  rename World => w3
  have C0 := Lib.hid c0; have C1 := Lib.hid c1
  go_wp2_with fail
  clear c0 c1
  go_loopw [7] (fun i wr => ∃ j : Nat, i = .int .i64 j ∧ j ≤ v.length ∧ Hid (∀ j', j' < j → (madeL b (qs.map Prod.snd) ts)[j']?.getD 0 = v[j']?.getD 0) ∧ Hid (w3.grownBy wr none)) (fun i _ => v.length - (intOf i).toNat)
  case atStart => exact ⟨0, rfl, Nat.zero_le _, Lib.hid (fun j h => by omega), Lib.hid (grown_refl _ _)⟩
  case round =>
    obtain ⟨j, rfl, hj, HA, HG⟩ := hrel
    rename World => wj
    have G4 := Lib.hid (grown_trans G3.out HG.out)
    by_cases hjv : j < v.length
    · have hjb : j < b.length := by rw [← HL.out]; exact hjv
      have h1 : (j : Int) < (v.length : Int) := by omega
      have h2 : (j : Int) < (b.length : Int) := by omega
      have i1 : IntKind.i64.wrap ((j : Int) + 1) = (j : Int) + 1 := IntWalk.i64_in _ (by omega)
      have c0 := HG.out.cell C0.out (by simp)
      obtain ⟨⟨_, _, hv, _, _, hc⟩, -, -⟩ := HB.out.same G4.out
      simp only [Value.slice.injEq] at hv
      obtain ⟨rfl, -, -⟩ := hv
      obtain ⟨b1, o1, rfl, hx⟩ := Ints.at hc hjb
      have HBB := Lib.hid (mem_at HS.out.2.2.2.1 hjb)
      have HAN : Hid ((madeL b (qs.map Prod.snd) ts)[j]?.getD 0 = v[j]?.getD 0 → ∀ j', j' < j + 1 → (madeL b (qs.map Prod.snd) ts)[j']?.getD 0 = v[j']?.getD 0) := Lib.hid (fun h j' hj' => by
        by_cases e : j' = j
        · subst e; exact h
        · exact HA.out j' (by omega))
      clear hc
      have hzero : b[j]?.getD 0 = (madeL b ((qs.take 0).map Prod.snd) (ts.take 0))[j]?.getD 0 := rfl
      rw [hzero] at hx
      clear hzero
      go_wp2_with fail
      clear hx c0
      have HGJ := Lib.hid (grown_refl wj none)
      go_loopw [9, 8] (fun i x wr => ∃ k : Nat, i = .int .i64 k ∧ k ≤ ts.length ∧ x = .int .i64 ((madeL b ((qs.take k).map Prod.snd) (ts.take k))[j]?.getD 0) ∧ Hid (wj.grownBy wr none)) (fun i _ _ => ts.length - (intOf i).toNat)
      case atStart => exact ⟨0, rfl, Nat.zero_le _, rfl, HGJ⟩
      case round =>
        clear HGJ
        obtain ⟨k, rfl, hk, rfl, HGJ⟩ := hrel
        rename World => wk
        have G5 := Lib.hid (grown_trans G4.out HGJ.out)
        by_cases hkt : k < ts.length
        · have hlt : k < qs.length := by rw [← HTL.out]; exact hkt
          have h3 : (k : Int) < (ts.length : Int) := by omega
          have h4 : (k : Int) < (qs.length : Int) := by omega
          have i2 : IntKind.i64.wrap ((k : Int) + 1) = (k : Int) + 1 := IntWalk.i64_in _ (by omega)
          have c1 := HGJ.out.cell (HG.out.cell C1.out (by simp)) (by simp)
          have HPK := Lib.hid (HPO.out _ (List.getElem_mem hlt))
          have HSN : Hid (madeL b ((qs.take (k + 1)).map Prod.snd) (ts.take (k + 1)) = addk (ts[k]?.getD 0) (qs[k]).2 (madeL b ((qs.take k).map Prod.snd) (ts.take k))) := Lib.hid (by
            rw [snd_take qs k hlt, take_snoc' ts k hkt]
            exact madeL_snoc _ _ _ _ _ (by simp; omega))
          have HSL : Hid ((madeL b ((qs.take k).map Prod.snd) (ts.take k)).length = b.length) := Lib.hid (madeL_len _ _ _ (fun p hp => by obtain ⟨q, hq, rfl⟩ := List.mem_map.1 hp; exact (HPO.out q (List.mem_of_mem_take hq)).1.1) rfl)
          have HSB : Hid (∀ x ∈ madeL b ((qs.take k).map Prod.snd) (ts.take k), 0 ≤ x ∧ x ≤ 67108864) := Lib.hid (fun x hx => by
            have h2 := madeL_bdB _ _ _ 16 (fun p hp => by obtain ⟨q, hq, rfl⟩ := List.mem_map.1 hp; exact HPO.out q (List.mem_of_mem_take hq)) rfl (fun u hu => withB_iff.1 HT20.out u (List.mem_of_mem_take hu)) (by omega) HS.out.2.2.2.1 x hx
            have h3 : ((qs.take k).map Prod.snd).length ≤ 3 := by simp; omega
            omega)
          have hxs := mem_at HSB.out (show j < (madeL b ((qs.take k).map Prod.snd) (ts.take k)).length by rw [HSL.out]; exact hjb)
          have htt := mem_at (withB_iff.1 HT20.out) hkt
          have hjp : j < (qs[k]).2.length := by rw [HPK.out.1.1]; exact hjb
          have hpp := mem_at HPK.out.1.2 hjp
          have hpq := mem_at HPK.out.2.2 hjp
          have HAT : Hid ((madeL b ((qs.take (k + 1)).map Prod.snd) (ts.take (k + 1)))[j]?.getD 0 = (madeL b ((qs.take k).map Prod.snd) (ts.take k))[j]?.getD 0 + ts[k]?.getD 0 * (qs[k]).2[j]?.getD 0) := Lib.hid (by
            rw [HSN.out]
            exact addk_at _ _ _ j hjp (by rw [HSL.out]; exact hjb))
          obtain ⟨_, _, hv, _, hc, hrow⟩ := HP.out.same G5.out
          simp only [Value.slice.injEq] at hv
          obtain ⟨rfl, -, -⟩ := hv
          obtain ⟨b2, o2, rfl, hx2⟩ := RowsP.at hc hlt
          obtain ⟨⟨ak, ck, hvk, -, -, hck⟩, -, -⟩ := hrow _ (List.getElem_mem hlt)
          rw [hvk] at hx2
          obtain ⟨b3, o3, rfl, hx3⟩ := Ints.at hck hjp
          obtain ⟨⟨_, _, hv, _, _, hct⟩, -, -⟩ := HT.out.same G5.out
          simp only [Value.slice.injEq] at hv
          obtain ⟨rfl, -, -⟩ := hv
          obtain ⟨b4, o4, rfl, hx4⟩ := Ints.at hct hkt
          have h5 : (j : Int) < ((qs[k]).2.length : Int) := by omega
          rw [HPK.out.1.1] at hx2 h5
          clear hc hrow hvk hck hct hjp
          generalize (madeL b ((qs.take k).map Prod.snd) (ts.take k))[j]?.getD 0 = x at *
          generalize ts[k]?.getD 0 = t at *
          generalize (qs[k]).2[j]?.getD 0 = y at *
          have m1 : 0 ≤ t * y := Int.mul_nonneg htt.1 hpp
          have m2 : t * y ≤ 1048576 * 16 := Int.mul_le_mul htt.2 hpq hpp (by omega)
          have g1 : IntKind.i64.wrap (t * y) = t * y := IntWalk.i64_in _ (by omega)
          have g2 : IntKind.i64.wrap (x + t * y) = x + t * y := IntWalk.i64_in _ (by omega)
          clear m1 m2 hpp hpq hxs htt h2
          go_wp2_with fail
          go_big_quiet (fail)
          have HGN := Lib.hid (grown_trans HGJ.out (grown_drewN wk nq none))
          clear hx2 hx3 hx4 c1 g1 g2
          generalize wk.drewN nq = wd at *
          go_wp2_with fail
          go_roundw
          case rel => exact ⟨k + 1, by go_num, by omega, by rw [HAT.out], HGN⟩
          case measure => (simp [intOf]; try omega)
        · obtain rfl : k = ts.length := by omega
          have h3 : ¬ (ts.length : Int) < (ts.length : Int) := by omega
          have e1 : (madeL b ((qs.take ts.length).map Prod.snd) (ts.take ts.length))[j]?.getD 0 = (madeL b (qs.map Prod.snd) ts)[j]?.getD 0 := by
            rw [List.take_length, List.take_of_length_le (by rw [HTL.out]; exact Nat.le_refl _)]
          rw [e1]
          obtain ⟨⟨_, _, hv, _, _, hcv⟩, -, -⟩ := HR.out.same G5.out
          simp only [Value.slice.injEq] at hv
          obtain ⟨rfl, -, -⟩ := hv
          obtain ⟨b4, o4, rfl, hx4⟩ := Ints.at hcv hjv
          have HGT := Lib.hid (grown_trans HG.out HGJ.out)
          have HNE : Hid ((madeL b (qs.map Prod.snd) ts)[j]?.getD 0 ≠ v[j]?.getD 0 → (madeL b (qs.map Prod.snd) ts == v) = false) := Lib.hid (fun h => by
            rw [beq_eq_false_iff_ne]
            intro e
            rw [e] at h
            exact h rfl)
          clear e1 hcv
          generalize (madeL b (qs.map Prod.snd) ts)[j]?.getD 0 = x at *
          generalize v[j]?.getD 0 = y at *
          by_cases hxy : x = y
          · subst hxy
            have q1 : (x != x) = false := by simp
            have HA2 := Lib.hid (HAN.out rfl)
            go_wp2_with fail
            go_roundw
            case rel => exact ⟨j + 1, by go_num, by omega, HA2, HGT⟩
            case measure => (simp [intOf]; try omega)
          · have q1 : (x != y) = true := by simpa using hxy
            have HF := Lib.hid (HNE.out hxy)
            go_wp2_with fail
            go_ret
            exact ⟨ret_bool HF.out.symm, grown_trans G3.out HGT.out⟩
    · obtain rfl : j = v.length := by omega
      have h1 : ¬ (v.length : Int) < (v.length : Int) := by omega
      have HE : Hid ((madeL b (qs.map Prod.snd) ts == v) = true) := Lib.hid (by
        rw [beq_iff_eq]
        exact made_ext (by rw [HML.out, HL.out]) HA.out)
      go_wp2_with fail
      go_ret
      exact ⟨ret_bool HE.out.symm, G4.out⟩
end
/-- One answer for both sides. -/
theorem proves_u (b v ts : List Int) (qs : List Row) (hq : qs.length ≤ 20) : ∃ B : Bool, (∀ w sv vv tv, LinX w sv b qs → RowOk w (vv, v) → RowOk w (tv, ts) → Calls Try.prog 20 #[sv, vv, tv] w fun e w' => e = .returned (.bool B) ∧ w.grownBy w' none) ∧ ∀ w sv vv tv, LinX w sv b qs → RowOk w (vv, v) → RowOk w (tv, ts) → Calls Try.prog 21 #[sv, vv, tv] w fun e w' => e = .returned (.bool B) ∧ w.grownBy w' none := by
  by_cases hg : ValidX b qs ∧ ts.length = qs.length ∧ withB 1048576 ts = true
  · have hml : (madeL b (qs.map Prod.snd) ts).length = b.length := madeL_len _ _ _ (fun p hp => (hg.1.s.2.2.2.2.1 p hp).1.1) rfl
    refine ⟨madeL b (qs.map Prod.snd) ts == v, fun w sv vv tv h k l => Proves_big b.length sv vv tv b v ts _ w (h.lin hg.1.1 hg.1.ne) hg.1.s k l (by rw [List.length_map]; exact hg.2.1) (withB_iff.1 hg.2.2), fun w sv vv tv h k l => ?_⟩
    by_cases hl : v.length = b.length
    · exact rProves_any h hq k l hg.1 hl hg.2.1 hg.2.2
    · refine (rProves_bad h hq k l (fun hh => hl hh.2.1)).mono fun e w' hh => ⟨?_, hh.2⟩
      rw [hh.1]
      have : (madeL b (qs.map Prod.snd) ts == v) = false := by
        rw [beq_eq_false_iff_ne]
        intro e
        rw [e] at hml
        exact hl hml
      rw [this]
  · exact ⟨false, fun w sv vv tv h k l => Proves_bad h hq k l hg, fun w sv vv tv h k l => rProves_bad h hq k l (fun hh => hg ⟨hh.1, hh.2.2⟩)⟩
end Go.Proofs.Ytoaoheblaidhmaa
