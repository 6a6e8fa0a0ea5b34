/- Texts Vh, Tc in one. -/
import Derived.Test.YtoaoheblaidhmaaU11
import Derived.BigRegion
namespace Go.Proofs.Ytoaoheblaidhmaa
open Go.RowKit
set_option linter.unusedVariables false

section
variable {b v : List Int} {qs : List Row} {sv vv : Value} {w : World}
set_option maxRecDepth 100000 in
set_option maxHeartbeats 1000000 in
theorem Times_bad (h : LinX w sv b qs) (hq : qs.length ≤ 20) (hr : RowOk w (vv, v)) (hb : ¬ (ValidX b qs ∧ v.length = b.length ∧ withB 64 v = true)) :
    Calls Try.prog 17 #[sv, vv] w (GivesO none w) := by
  have H := Lib.hid h; have HR := Lib.hid hr
  obtain ⟨vb, vp, rfl, ⟨⟨ab, cb, hvb, hbm, -⟩, -, -⟩, ⟨ap, cp, rfl, -⟩, -⟩ := h
  obtain ⟨⟨av, cv, hvv, hvm, -⟩, -, -⟩ := hr
  dsimp only at hvb hvv
  unfold maxLen at hbm hvm
  subst hvb hvv
  have HCB := Lib.hid (check_boxedX (b.length : Int) b qs _ _ w H.out hq)
  have HBD := Lib.hid hb
  clear hb
  go_enter Try.func17, Try.ntmps17
  go_wp2_with fail
  refine HCB.out.mono ?_
  rintro e w3 ⟨err, rfl, hc, hg3, c0, c1⟩
  have G3 := Lib.hid hg3
  have HV := Lib.hid (checkF_valid hc)
  clear hc hg3
  by_cases he : err = 0
  · subst he
    have HVX := Lib.hid (HV.out.1 rfl)
    by_cases hl : v.length = b.length
    · have HW : Hid (withB 64 v = false) := Lib.hid (by
        cases h : withB 64 v with
        | false => rfl
        | true => exact absurd ⟨HVX.out, hl, h⟩ HBD.out)
      have d1 : ((v.length : Int) != (b.length : Int)) = false := by simp; omega
      clear hl
      go_wp2_with fail
      refine (within_any _ v _ _ (HR.out.same G3.out).1).mono ?_
      rintro e w9 ⟨rfl, hw9⟩
      subst hw9
      rw [HW.out]
      go_wp2_with fail
      go_ret2
      exact GivesO.no _ _ G3.out
    · have d1 : ((v.length : Int) != (b.length : Int)) = true := by simp; omega
      clear hl
      go_wp2_with fail
      go_ret2
      exact GivesO.no _ _ G3.out
  · have d0 : (err != 0) = true := by simpa using he
    go_wp2_with fail
    go_ret2
    exact GivesO.no _ _ G3.out
set_option maxRecDepth 100000 in
set_option maxHeartbeats 1000000 in
theorem rTimes_bad (h : LinX w sv b qs) (hq : qs.length ≤ 20) (hr : RowOk w (vv, v)) (hb : ¬ (ValidX b qs ∧ v.length = b.length ∧ withB 64 v = true)) :
    Calls Try.prog 18 #[sv, vv] w (GivesO none w) := by
  have H := Lib.hid h; have HR := Lib.hid hr
  obtain ⟨vb, vp, rfl, ⟨⟨ab, cb, hvb, hbm, -⟩, -, -⟩, ⟨ap, cp, rfl, -⟩, -⟩ := h
  obtain ⟨⟨av, cv, hvv, hvm, -⟩, -, -⟩ := hr
  dsimp only at hvb hvv
  unfold maxLen at hbm hvm
  subst hvb hvv
  have G0 := Lib.hid (World.grownBy_alloc w (.cells #[.slice ab b.length cb, .slice ap qs.length cp] 26) none)
  have HCB := Lib.hid (rvalid_is _ b qs _ (H.out.same G0.out) hq)
  have HBD := Lib.hid hb
  have HC0 : Hid ((w.alloc (.cells #[.slice ab b.length cb, .slice ap qs.length cp] 26)).cell? ⟨w.heap.size, 0, none⟩ = some (.slice ab b.length cb)) := Lib.hid (by rw [World.cell?, heap_new _ rfl]; rfl)
  clear hb
  go_enter Try.func18, Try.ntmps18
  go_wp2_with fail
  refine HCB.out.mono ?_
  rintro e w3 ⟨B, rfl, hv, hg⟩
  have c0 := hg.cell HC0.out (by simp)
  have G3 := Lib.hid (grown_trans G0.out hg)
  have HV := Lib.hid hv
  clear hv hg
  cases B with
  | false =>
    go_wp2_with fail
    go_ret2
    exact GivesO.no _ _ G3.out
  | true =>
    have HVX := Lib.hid (HV.out.1 rfl)
    by_cases hl : v.length = b.length
    · have HW : Hid (withB 64 v = false) := Lib.hid (by
        cases h : withB 64 v with
        | false => rfl
        | true => exact absurd ⟨HVX.out, hl, h⟩ HBD.out)
      have d1 : ((v.length : Int) != (b.length : Int)) = false := by simp; omega
      clear hl
      go_wp2_with fail
      refine (rnumbers_is _ v _ _ (HR.out.same G3.out).1).mono ?_
      rintro e w9 ⟨rfl, hw9⟩
      subst hw9
      rw [HW.out]
      go_wp2_with fail
      go_ret2
      exact GivesO.no _ _ G3.out
    · have d1 : ((v.length : Int) != (b.length : Int)) = true := by simp; omega
      clear hl
      go_wp2_with fail
      go_ret2
      exact GivesO.no _ _ G3.out
set_option maxRecDepth 100000 in
set_option maxHeartbeats 1000000 in
theorem rTimes_any (h : LinX w sv b qs) (hq : qs.length ≤ 20) (hr : RowOk w (vv, v)) (hv : ValidX b qs) (hl : v.length = b.length) (h64 : withB 64 v = true) :
    Calls Try.prog 18 #[sv, vv] w (GivesT (qs.map Prod.snd) (lessL v b) w) := by
  have H := Lib.hid h; have HR := Lib.hid hr; have HVX := Lib.hid hv
  obtain ⟨vb, vp, rfl, hb0, hp0, hgd⟩ := h
  have HB := Lib.hid hb0; have HP := Lib.hid (hp0.toP1 hv.ne); have HGD := Lib.hid hgd
  obtain ⟨⟨ab, cb, hvb, hbm, -⟩, -, -⟩ := hb0
  obtain ⟨ap, cp, rfl, -⟩ := hp0
  obtain ⟨⟨av, cv, hvv, hvm, -⟩, -, -⟩ := hr
  dsimp only at hvb hvv
  unfold maxLen at hbm hvm
  subst hvb hvv
  have G0 := Lib.hid (World.grownBy_alloc w (.cells #[.slice ab b.length cb, .slice ap qs.length cp] 26) none)
  have HCB := Lib.hid (rvalid_is _ b qs _ (H.out.same G0.out) hq)
  have HC0 : Hid ((w.alloc (.cells #[.slice ab b.length cb, .slice ap qs.length cp] 26)).cell? ⟨w.heap.size, 0, none⟩ = some (.slice ab b.length cb)) := Lib.hid (by rw [World.cell?, heap_new _ rfl]; rfl)
  have HC1 : Hid ((w.alloc (.cells #[.slice ab b.length cb, .slice ap qs.length cp] 26)).cell? ⟨w.heap.size, 1, none⟩ = some (.slice ap qs.length cp)) := Lib.hid (by rw [World.cell?, heap_new _ rfl]; rfl)
  have HS := Lib.hid hv.s
  have HL := Lib.hid hl; have H64 := Lib.hid h64
  have hb4 : b.length ≤ 4 := hv.2.1
  have d1 : ((v.length : Int) != (b.length : Int)) = false := by simp; omega
  clear hv hl h64 hgd
  go_enter Try.func18, Try.ntmps18
  go_wp2_with fail
  refine HCB.out.mono ?_
  rintro e w3 ⟨B, rfl, hv, hg⟩
  have c0 := hg.cell HC0.out (by simp)
  have c1 := hg.cell HC1.out (by simp)
  have HGB := Lib.hid hg
  have G3 := Lib.hid (grown_trans G0.out hg)
  obtain rfl : B = true := hv.2 HVX.out
  clear hv hg
  go_wp2_with fail
  refine (rnumbers_is _ v _ _ (HR.out.same G3.out).1).mono ?_
  rintro e w9 ⟨rfl, hw9⟩
  subst hw9
  rw [H64.out]
  rename World => w3
  go_wp2_with fail
  refine (rless_any _ _ v b _ (HR.out.same G3.out).1 (HB.out.same G3.out).1 HL.out (by rw [HL.out]; omega) (withB_iff.1 H64.out) HS.out.2.2.2.1).mono ?_
  rintro e w4 ⟨hg4, hcase⟩
  have G4 := Lib.hid (grown_trans G3.out hg4)
  have c2 := hg4.cell c1 (by simp)
  clear c0 c1
  rcases hcase with ⟨v4, rfl, ho, hp⟩ | ⟨rfl, hn⟩
  · have HO := Lib.hid ho; have HNN := Lib.hid hp
    have BD := Lib.hid (lessL_bd HL.out rfl H64.out HS.out.2.2.2.1)
    obtain ⟨a4, c4, rfl⟩ := HO.out.slice
    have HLL : Hid ((lessL v b).length = b.length) := Lib.hid (lessL_len rfl HL.out)
    have HRW := Lib.hid (HO.out.row (fun x hx => by have := BD.out x hx; omega))
    clear ho hp hg4
    go_wp2_with fail
    refine (rtimes_any b.length HVX.out.1 (by omega) qs _ _ (lessL v b) _ (HP.out.same G4.out) HGD.out HRW.out HLL.out (fun q hq => HS.out.2.2.2.2.1 _ (List.mem_map_of_mem hq)) (fun x hx => by have := BD.out x hx; omega) (by omega)).mono ?_
    rintro e w5 ⟨r, hlr, v5, rfl, ho5, hg5⟩
    have LR := Lib.hid hlr; have O5 := Lib.hid ho5; have G5 := Lib.hid (grown_trans G4.out hg5)
    have B5 := G4.out.size
    clear hlr ho5 hg5
    go_wp2_with fail
    go_ret2
    exact ⟨r, LR.out, _, rfl, O5.out.mono B5, G5.out⟩
  · have HLN : Hid (Least (qs.map Prod.snd) (lessL v b) none) := Lib.hid (least_neg (n := b.length) (fun p hp => (HS.out.2.2.2.2.1 p hp).1) (lessL_len rfl HL.out) hn)
    clear hn hg4
    go_wp2_with fail
    go_ret2
    exact ⟨none, HLN.out, GivesO.no _ _ G4.out⟩
end
/-- One answer for both sides. -/
theorem times_u (b v : List Int) (qs : List Row) (hq : qs.length ≤ 20) : ∃ r, (∀ w sv vv, LinX w sv b qs → RowOk w (vv, v) → Calls Try.prog 17 #[sv, vv] w (GivesO r w)) ∧ (∀ w sv vv, LinX w sv b qs → RowOk w (vv, v) → Calls Try.prog 18 #[sv, vv] w (GivesO r w)) ∧ (r = none ∨ (ValidX b qs ∧ v.length = b.length ∧ withB 64 v = true)) ∧ (∀ x ∈ r.getD [], 0 ≤ x ∧ x ≤ 64) := by
  by_cases hg : ValidX b qs ∧ v.length = b.length ∧ withB 64 v = true
  · by_cases he : ∃ r, Least (qs.map Prod.snd) (lessL v b) r
    · obtain ⟨r, hr⟩ := he
      refine ⟨r, fun w sv vv h k => (Times_any b.length sv vv b v _ w (h.lin hg.1.1 hg.1.ne) hg.1.s k hg.2.1 hg.2.2).mono fun e w' hh => ?_, fun w sv vv h k => (rTimes_any h hq k hg.1 hg.2.1 hg.2.2).mono fun e w' hh => ?_, .inr hg, fun x hx => ?_⟩
      · obtain ⟨r', h1, h2⟩ := hh
        rw [hr.one h1]; exact h2
      · obtain ⟨r', h1, h2⟩ := hh
        rw [hr.one h1]; exact h2
      · cases r with
        | none => cases hx
        | some ks =>
          have hs := hg.1.s
          exact Sol.le (n := b.length) (fun p hp => ⟨(hs.2.2.2.2.1 p hp).1, (hs.2.2.2.2.1 p hp).2.1⟩) (lessL_len rfl hg.2.1) (fun y hy => (lessL_bd hg.2.1 rfl hg.2.2 hs.2.2.2.1 y hy).2) hr.1 x hx
    · refine ⟨none, fun w sv vv h k => (Times_any b.length sv vv b v _ w (h.lin hg.1.1 hg.1.ne) hg.1.s k hg.2.1 hg.2.2).mono fun e w' hh => ?_, fun w sv vv h k => (rTimes_any h hq k hg.1 hg.2.1 hg.2.2).mono fun e w' hh => ?_, .inl rfl, (by intro x hx; cases hx)⟩
      · obtain ⟨r', h1, h2⟩ := hh
        exact absurd ⟨_, h1⟩ he
      · obtain ⟨r', h1, h2⟩ := hh
        exact absurd ⟨_, h1⟩ he
  · exact ⟨none, fun w sv vv h k => Times_bad h hq k hg, fun w sv vv h k => rTimes_bad h hq k hg, .inl rfl, (by intro x hx; cases hx)⟩
end Go.Proofs.Ytoaoheblaidhmaa

namespace Go.Proofs.Ytoaoheblaidhmaa
open Go.RowKit
set_option linter.unusedVariables false

/-- What multiples of periods make. -/
def madeL : List Int → List (List Int) → List Int → List Int
  | b, p :: ps, t :: ts => madeL (addk t p b) ps ts
  | b, [], _ => b
  | b, _ :: _, [] => b
theorem madeL_snoc : ∀ (ps : List (List Int)) (ts b p : List Int) (t : Int), ps.length = ts.length → madeL b (ps ++ [p]) (ts ++ [t]) = addk t p (madeL b ps ts)
  | [], [], b, p, t, _ => rfl
  | q :: ps, u :: ts, b, p, t, h => madeL_snoc ps ts (addk u q b) p t (by simpa using h)
  | [], _ :: _, _, _, _, h => by simp at h
  | _ :: _, [], _, _, _, h => by simp at h
theorem madeL_len {n : Nat} : ∀ (ps : List (List Int)) (ts b : List Int), (∀ p ∈ ps, p.length = n) → b.length = n → (madeL b ps ts).length = n
  | [], _, b, _, h => by unfold madeL; exact h
  | p :: ps, [], b, _, h => by unfold madeL; exact h
  | p :: ps, t :: ts, b, hp, h => by
    unfold madeL
    exact madeL_len ps ts _ (fun q hq => hp q (by simp [hq])) (addk_len (hp p (by simp)) h)
theorem addk_bd {n : Nat} {t : Int} {p b : List Int} {M : Int} (hp : PerOk n p) (hb : b.length = n) (ht : 0 ≤ t ∧ t ≤ 64) (h : ∀ x ∈ b, 0 ≤ x ∧ x ≤ M) : ∀ x ∈ addk t p b, 0 ≤ x ∧ x ≤ M + 1024 := by
  intro z hz
  obtain ⟨x, hx, y, hy, rfl⟩ := mem_zipWith _ b p z hz
  have h1 := h x hx
  have h2 := hp.1.2 y hy
  have h3 := hp.2.2 y hy
  have h4 := Int.mul_nonneg ht.1 h2
  have h5 : t * y ≤ 64 * 16 := Int.mul_le_mul ht.2 h3 h2 (by omega)
  omega
theorem madeL_bd {n : Nat} : ∀ (ps : List (List Int)) (ts b : List Int) (M : Int), (∀ p ∈ ps, PerOk n p) → b.length = n → (∀ t ∈ ts, 0 ≤ t ∧ t ≤ 64) → 0 ≤ M → (∀ x ∈ b, 0 ≤ x ∧ x ≤ M) → ∀ x ∈ madeL b ps ts, 0 ≤ x ∧ x ≤ M + 1024 * ps.length
  | [], _, b, M, _, _, _, _, h => by unfold madeL; simpa using h
  | p :: ps, [], b, M, _, _, _, _, h => by
    unfold madeL
    intro x hx
    have := h x hx
    simp only [List.length_cons]
    omega
  | p :: ps, t :: ts, b, M, hp, hb, ht, hM, h => by
    unfold madeL
    have := madeL_bd ps ts (addk t p b) (M + 1024) (fun q hq => hp q (by simp [hq])) (addk_len (hp p (by simp)).1.1 hb) (fun u hu => ht u (by simp [hu])) (by omega) (addk_bd (hp p (by simp)) hb (ht t (by simp)) h)
    intro x hx
    have := this x hx
    simp only [List.length_cons]
    omega
theorem addk_at (k : Int) (p v : List Int) (i : Nat) (hp : i < p.length) (hv : i < v.length) : (addk k p v)[i]?.getD 0 = v[i]?.getD 0 + k * p[i]?.getD 0 := zip_at _ v p i hv hp
theorem addk_step {n j : Nat} {t : Int} {p v zs : List Int} (hp : p.length = n) (hv : v.length = n) (hz : zs.length = n) (hj : j < n)
    (ht : zs.take j = (addk t p v).take j) (hd : zs.drop j = v.drop j) :
    zs[j]?.getD 0 = v[j]?.getD 0 ∧ (zs.set j (zs[j]?.getD 0 + t * p[j]?.getD 0)).take (j + 1) = (addk t p v).take (j + 1) ∧ (zs.set j (zs[j]?.getD 0 + t * p[j]?.getD 0)).drop (j + 1) = v.drop (j + 1) := by
  have e0 : zs[j]?.getD 0 = v[j]?.getD 0 := by
    have h1 : (zs.drop j)[0]? = (v.drop j)[0]? := by rw [hd]
    rw [List.getElem?_drop, List.getElem?_drop] at h1
    simpa using congrArg (fun o => o.getD 0) h1
  refine ⟨e0, ?_, ?_⟩
  · have e1 : zs[j]?.getD 0 + t * p[j]?.getD 0 = (addk t p v)[j]?.getD 0 := by
      rw [e0, addk_at t p v j (by omega) (by omega)]
    rw [e1]
    exact set_take zs _ j (by rw [hz, addk_len hp hv]) (by rw [addk_len hp hv]; exact hj) ht
  · rw [List.drop_set_of_lt (by omega)]
    have : (zs.drop j).drop 1 = (v.drop j).drop 1 := by rw [hd]
    simpa [List.drop_drop, Nat.add_comm] using this

set_option maxRecDepth 100000 in
set_option maxHeartbeats 2000000 in
theorem proves_any (n : Nat) (sv vv tv : Value) (b v ts : List Int) (ps : List (List Int)) (w : World) (h : LinV w sv b ps) (hs : ValidS n b ps) (hr : RowOk w (vv, v)) (ht : RowOk w (tv, ts)) (htl : ts.length = ps.length) (ht64 : ∀ t ∈ ts, 0 ≤ t ∧ t ≤ 64) :
    Calls Try.prog 20 #[sv, vv, tv] w fun e w' => e = .returned (.bool (madeL b ps ts == v)) ∧ w.grownBy w' none := by
  obtain ⟨vb, vp, qs, rfl, hb, hq, hg, rfl⟩ := h
  have hbl := hs.2.2.1
  subst hbl
  rw [List.length_map] at htl
  have hn1 := hs.1
  have hn4 := hs.2.1
  have hq3 : qs.length ≤ 3 := by have := hs.2.2.2.2.2.1; rwa [List.length_map] at this
  have HS := Lib.hid hs; have HB := Lib.hid hb; have HQ := Lib.hid hq; have HGd := Lib.hid hg; have HR := Lib.hid hr; have HT := Lib.hid ht; have HTL := Lib.hid htl; have H64 := Lib.hid ht64
  have HP : Hid (∀ q ∈ qs, PerOk b.length q.2) := Lib.hid (fun q hq => hs.2.2.2.2.1 q.2 (List.mem_map_of_mem hq))
  obtain ⟨⟨ab, cb, hvb, -, -, -⟩, -, -⟩ := hb
  obtain ⟨⟨av, cv, hvv, -, -, -⟩, -, -⟩ := hr
  obtain ⟨⟨at_, ct, htv, -, -, -⟩, -, -⟩ := ht
  dsimp only at hvb hvv htv
  subst hvb hvv htv
  obtain ⟨ap, cp, rfl, -, -, -⟩ := hq
  have hd : ((ts.length : Int) != (qs.length : Int)) = false := by rw [htl]; simp
  have hd' : (ts.length == qs.length) = true := by rw [htl]; simp
  have HW : Hid (withB 1048576 ts = true) := Lib.hid (withB_iff.2 fun x hx => by have := ht64 x hx; omega)
  clear hs hg htl ht64
  go_enter Try.func20, Try.ntmps20
  go_wp2_with fail
  refine (check_boxed _ b (qs.map Prod.snd) _ _ w ⟨_, _, qs, rfl, HB.out, HQ.out, HGd.out, rfl⟩ HS.out).mono ?_
  rintro e w3 ⟨rfl, hg3, c0, c1⟩
  have G3 := Lib.hid hg3; have C0 := Lib.hid c0; have C1 := Lib.hid c1
  clear hg3
  go_wp2_with fail
  refine (within_any _ ts _ _ (HT.out.same G3.out).1).mono ?_
  rintro e w9 ⟨rfl, hw9⟩
  subst hw9
  rw [HW.out]
  rename World => w3
  go_wp2_with fail
  refine (cloneInts_any _ _ _ (HB.out.same G3.out) hn1 (by omega)).mono ?_
  rintro e w4 ⟨v4, rfl, ho4, hg4⟩
  obtain ⟨g, c, rfl, hbg, hbc⟩ := ownI_own ho4 hn1
  have O4 := Lib.hid ho4; have G4 := Lib.hid (grown_trans G3.out hg4)
  have BG : Hid (w3.heap.size ≤ g) := Lib.hid hbg
  have hlt3 : Hid (w.heap.size < w3.heap.size) := Lib.hid (World.block_lt_of_cell? _ _ C0.out)
  have B3 := Lib.hid (Nat.le_of_lt hlt3.out)
  clear c0 c1 ho4 hbg hbc
  have c0 := hg4.cell C0.out (by simp); have c1 := hg4.cell C1.out (by simp)
  clear hg4 C0 C1
  go_wp2_with fail
  have C1 := Lib.hid c1
  clear c0 c1
  go_loopw [38] (fun i wr => ∃ (k : Nat), i = .int .i64 k ∧ k ≤ qs.length ∧ Hid (OwnI wr w3.heap.size (.slice (some ⟨g, 0, none⟩) b.length c) (madeL b ((qs.take k).map Prod.snd) (ts.take k))) ∧ Hid (w.grownBy wr none)) (fun i _ => qs.length - (intOf i).toNat)
  case atStart => exact ⟨0, rfl, Nat.zero_le _, O4, G4⟩
  case round =>
    obtain ⟨k, rfl, hk, ho, hgk⟩ := hrel
    rename World => wk
    by_cases hlt : k < qs.length
    · obtain ⟨_, _, hv, _, hc, hrow⟩ := HQ.out.same hgk.out
      simp only [Value.slice.injEq] at hv
      obtain ⟨rfl, -, -⟩ := hv
      obtain ⟨b1, o1, rfl, hx⟩ := RowsP.at hc hlt
      have HRK := Lib.hid (hrow _ (List.getElem_mem hlt))
      have HR0 : Hid (RowOk w (qs[k])) := Lib.hid (rows_rows HQ.out _ (List.getElem_mem hlt))
      have HPK := Lib.hid (HP.out _ (List.getElem_mem hlt))
      obtain ⟨⟨ak, ck, hvk, -, -, -⟩, -, -⟩ := HRK.out
      have h1 : (k : Int) < (qs.length : Int) := by omega
      have hkt : k < ts.length := by rw [HTL.out]; exact hlt
      have HSN : Hid (madeL b ((qs.take (k + 1)).map Prod.snd) (ts.take (k + 1)) = addk (ts[k]?.getD 0) (qs[k]).2 (madeL b ((qs.take k).map Prod.snd) (ts.take k))) := Lib.hid (by
        rw [snd_take qs k hlt, take_snoc' ts k hkt]
        exact madeL_snoc _ _ _ _ _ (by simp; omega))
      have HSL : Hid ((madeL b ((qs.take k).map Prod.snd) (ts.take k)).length = b.length) := Lib.hid (madeL_len _ _ _ (fun p hp => by obtain ⟨q, hq, rfl⟩ := List.mem_map.1 hp; exact (HP.out q (List.mem_of_mem_take hq)).1.1) rfl)
      have HSB : Hid (∀ x ∈ madeL b ((qs.take k).map Prod.snd) (ts.take k), 0 ≤ x ∧ x ≤ 4096) := Lib.hid (fun x hx => by
        have h2 := madeL_bd _ _ _ 16 (fun p hp => by obtain ⟨q, hq, rfl⟩ := List.mem_map.1 hp; exact HP.out q (List.mem_of_mem_take hq)) rfl (fun u hu => H64.out u (List.mem_of_mem_take hu)) (by omega) HS.out.2.2.2.1 x hx
        have h3 : ((qs.take k).map Prod.snd).length ≤ 3 := by simp; omega
        omega)
      have ht64 := mem_at H64.out hkt
      have HXK : Hid (∀ W, wk.grownBy W none → Ints W (.slice at_ ts.length ct) ts) := Lib.hid (fun W hW => (HT.out.same (grown_trans hgk.out hW)).1)
      have HTC : Hid (∃ bt ot, at_ = some ⟨bt, ot, none⟩ ∧ ∀ W, w.grownBy W none → W.cell? ⟨bt, ot + k, none⟩ = some (.int .i64 (ts[k]?.getD 0))) := Lib.hid (by
        obtain ⟨⟨_, _, hv, _, _, hct⟩, -, -⟩ := HT.out
        simp only [Value.slice.injEq] at hv
        obtain ⟨rfl, -, -⟩ := hv
        obtain ⟨bt, ot, e, hc⟩ := Ints.at hct hkt
        exact ⟨bt, ot, e, fun W hW => hW.cell hc (by simp)⟩)
      obtain ⟨bt, ot, rfl, htc⟩ := HTC.out
      have HTC2 := Lib.hid htc
      clear hc hrow htc HTC HXK
      generalize qs[k] = q at *
      generalize hY : ts[k]?.getD 0 = t at *
      obtain ⟨qv, p⟩ := q
      dsimp only at hx hvk HSN HPK
      subst hvk
      generalize hSS : madeL b ((qs.take k).map Prod.snd) (ts.take k) = S at *
      clear hY hSS
      have hpb : p.length ≤ 1000 := by rw [HPK.out.1.1]; omega
      go_wp2_with fail
      clear hx
      go_loopw [45] (fun i wr => ∃ (j : Nat) (zs : List Int), i = .int .i64 j ∧ j ≤ p.length ∧ Hid (zs.length = b.length ∧ zs.take j = (addk t p S).take j ∧ zs.drop j = S.drop j) ∧ Hid (OwnI wr w3.heap.size (.slice (some ⟨g, 0, none⟩) b.length c) zs) ∧ Hid (w.grownBy wr none)) (fun i _ => p.length - (intOf i).toNat)
      case atStart => exact ⟨0, _, rfl, Nat.zero_le _, Lib.hid ⟨HSL.out, by simp, rfl⟩, ho, hgk⟩
      case round =>
        obtain ⟨j, zs, rfl, hj, hz, hoz, hgz⟩ := hrel
        rename World => wj
        by_cases hjl : j < p.length
        · have hjb : j < b.length := by have := HPK.out.1.1; omega
          have ST := Lib.hid (addk_step (t := t) HPK.out.1.1 HSL.out hz.out.1 hjb hz.out.2.1 hz.out.2.2)
          have HRP : Hid (∃ bp op, ak = some ⟨bp, op, none⟩ ∧ ∀ W, w.grownBy W none → W.cell? ⟨bp, op + j, none⟩ = some (.int .i64 (p[j]?.getD 0))) := Lib.hid (by
            obtain ⟨⟨_, _, hv, _, _, hct⟩, -, -⟩ := HR0.out
            simp only [Value.slice.injEq] at hv
            obtain ⟨rfl, -, -⟩ := hv
            obtain ⟨bt, ot, e, hc⟩ := Ints.at hct hjl
            exact ⟨bt, ot, e, fun W hW => hW.cell hc (by simp)⟩)
          obtain ⟨bp, op, rfl, hpc⟩ := HRP.out
          have cp := hpc _ hgz.out
          have ctt := HTC2.out _ hgz.out
          obtain ⟨hcell, hfr⟩ := hoz.out.cell j (by have := hz.out.1; omega)
          have hyy := mem_at HPK.out.1.2 hjl
          have hyz := mem_at HPK.out.2.2 hjl
          have hxx : 0 ≤ zs[j]?.getD 0 ∧ zs[j]?.getD 0 ≤ 4096 := by
            rw [ST.out.1]
            exact mem_at HSB.out (by rw [HSL.out]; exact hjb)
          have h2 : (j : Int) < (p.length : Int) := by omega
          have h3 : (j : Int) < (b.length : Int) := by omega
          have h4 : (k : Int) < (ts.length : Int) := by omega
          clear hpc HRP
          generalize hX : zs[j]?.getD 0 = x at *
          generalize hY : p[j]?.getD 0 = y at *
          have HXY := Lib.hid (And.intro hX hY)
          clear hX hY
          have m1 : 0 ≤ t * y := Int.mul_nonneg ht64.1 hyy
          have m2 : t * y ≤ 64 * 16 := Int.mul_le_mul ht64.2 hyz hyy (by omega)
          have g1 : IntKind.i64.wrap (t * y) = t * y := IntWalk.i64_in _ (by omega)
          have g2 : IntKind.i64.wrap (x + t * y) = x + t * y := IntWalk.i64_in _ (by omega)
          clear m1 m2 hyy hyz hxx
          go_wp2_with fail
          go_region
          all_goals
            go_wp2_with fail
            go_roundw
            case rel => exact ⟨j + 1, zs.set j (x + t * y), by go_num, by omega, Lib.hid ⟨by rw [List.length_set]; exact hz.out.1, ST.out.2.1, ST.out.2.2⟩, Lib.hid ((hoz.out.stored j _).kept (grown_drew _ none) (by simp)), Lib.hid (grown_trans (grown_then hgz.out (grown_set _ _ _) (by rintro j ⟨⟩; exact .inl (Nat.le_trans B3.out BG.out))) (grown_drew _ none))⟩
            case measure => simp [intOf]; omega
        · have hq : zs = addk t p S := by
            have h2 := hz.out.1
            have h3 := HPK.out.1.1
            have h1 := hz.out.2.1
            rwa [List.take_of_length_le (by omega), List.take_of_length_le (by rw [addk_len HPK.out.1.1 HSL.out]; omega)] at h1
          subst hq
          have h2 : ¬ (j : Int) < (p.length : Int) := by omega
          go_wp2_with fail
          go_roundw
          case rel => exact ⟨k + 1, by go_num, by omega, by rw [HSN.out]; exact hoz, hgz⟩
          case measure => simp [intOf]; omega
    · have h1 : ¬ (k : Int) < (qs.length : Int) := by omega
      have hq : (qs.take k).map Prod.snd = qs.map Prod.snd ∧ ts.take k = ts := ⟨by rw [List.take_of_length_le (by omega)], List.take_of_length_le (by rw [HTL.out]; omega)⟩
      rw [hq.1, hq.2] at ho
      clear hq
      have HMB : Hid (∀ x ∈ madeL b (qs.map Prod.snd) ts, -9223372036854775808 ≤ x ∧ x ≤ 9223372036854775807) := Lib.hid (fun x hx => by
        have h2 := madeL_bd _ _ _ 16 HS.out.2.2.2.2.1 rfl H64.out (by omega) HS.out.2.2.2.1 x hx
        have h3 : (qs.map Prod.snd).length ≤ 3 := HS.out.2.2.2.2.2.1
        omega)
      go_wp2_with fail
      refine (equal_any _ _ _ _ _ (ho.out.ints HMB.out) (HR.out.same hgk.out).1).mono ?_
      rintro e w5 ⟨rfl, hd5⟩
      have G5 := Lib.hid (grown_trans hgk.out (hd5.grown none))
      clear hd5
      go_wp2_with fail
      go_ret
      exact ⟨rfl, G5.out⟩

end Go.Proofs.Ytoaoheblaidhmaa
