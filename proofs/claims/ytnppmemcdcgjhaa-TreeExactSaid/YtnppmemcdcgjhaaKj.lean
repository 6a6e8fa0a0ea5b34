/- place: a tree is put into another one. -/
import Derived.Test.YtnppmemcdcgjhaaKi
namespace Go.Proofs.Ytnppmemcdcgjhaa
open Go.RowKit Tr
set_option linter.unusedVariables false

set_option maxRecDepth 100000 in
set_option maxHeartbeats 3000000 in
theorem place_any (p : PC) (w0 : World) (hp : p.Ok w0) (s : Tr) : PlaceOk p w0 s := by
  induction s using tr_ind with
  | h s ih =>
  intro i j t w m hs ht hst
  have HPO := Lib.hid hp; have IH := Lib.hid ih; have HSG := Lib.hid hs; have HTG := Lib.hid ht; have HST := Lib.hid hst
  have hi12 : i + size s ≤ size p.s0 := by have := seg_lt hs; rwa [len_pre] at this
  have hj12 : j + size t ≤ size p.t0 := by have := seg_lt ht; rwa [len_pre] at this
  have hs12 := hp.hs
  have ht12 := hp.ht
  have hs1 := size_pos s
  have ht1 := size_pos t
  have HSE := Lib.hid (size_eq s)
  clear hp ih hs ht hst
  unfold PC.args
  have HAW : Hid (p.A < w.heap.size) := Lib.hid (HST.out.o.fresh p.A rfl).2
  go_enter Try.func63, Try.ntmps63
  go_wp2_with fail
  have hb1 := heap_old (.cells #[.slice p.b1 (size p.t0) p.d1, .slice p.b2 (size p.t0) p.d2, .slice p.b3 (size p.t0) p.d3] 71) (heap_new (w := w) (g := w.heap.size) (.cells #[.slice p.a1 (size p.s0) p.c1, .slice p.a2 (size p.s0) p.c2, .slice p.a3 (size p.s0) p.c3] 71) rfl)
  have hb2 := heap_new (w := w.alloc (.cells #[.slice p.a1 (size p.s0) p.c1, .slice p.a2 (size p.s0) p.c2, .slice p.a3 (size p.s0) p.c3] 71)) (g := w.heap.size + 1) (.cells #[.slice p.b1 (size p.t0) p.d1, .slice p.b2 (size p.t0) p.d2, .slice p.b3 (size p.t0) p.d3] 71) (by show _ = (w.heap.push _).size; simp)
  have hg0 : w.grownBy ((w.alloc (.cells #[.slice p.a1 (size p.s0) p.c1, .slice p.a2 (size p.s0) p.c2, .slice p.a3 (size p.s0) p.c3] 71)).alloc (.cells #[.slice p.b1 (size p.t0) p.d1, .slice p.b2 (size p.t0) p.d2, .slice p.b3 (size p.t0) p.d3] 71)) none := grown_after (World.grownBy_alloc _ _ none)
  generalize ((w.alloc (.cells #[.slice p.a1 (size p.s0) p.c1, .slice p.a2 (size p.s0) p.c2, .slice p.a3 (size p.s0) p.c3] 71)).alloc (.cells #[.slice p.b1 (size p.t0) p.d1, .slice p.b2 (size p.t0) p.d2, .slice p.b3 (size p.t0) p.d3] 71)) = wb at *
  have HB1 := Lib.hid hb1; have HB2 := Lib.hid hb2; have HG0 := Lib.hid hg0; have HS1 := Lib.hid (HST.out.step hg0)
  clear hb1 hb2 hg0
  obtain ⟨B, hBB⟩ : ∃ B, w.heap.size = B := ⟨_, rfl⟩
  rw [hBB] at HB1 HB2 HAW ⊢
  clear hBB
  have hjt : (j : Int) < (size p.t0 : Int) := by omega
  obtain ⟨eb, eo, hb2e, hec⟩ := HPO.out.fb.end_ (seg_root HTG.out)
  obtain ⟨lab, lao, ha1e, hlac⟩ := HPO.out.fa.lab (seg_root HSG.out)
  obtain ⟨kab, kao, ak, ck, ha3e, hkac, hkai⟩ := HPO.out.fa.kid (seg_root HSG.out)
  rw [ha1e, ha3e] at HB1 ⊢
  rw [hb2e] at HB2 ⊢
  have HKAI := Lib.hid hkai; have HEC := Lib.hid hec; have HLAC := Lib.hid hlac; have HKAC := Lib.hid hkac
  have HA1E := Lib.hid ha1e; have HA3E := Lib.hid ha3e; have HB2E := Lib.hid hb2e
  clear hkai hec hlac hkac ha1e ha3e hb2e
  go_loopw [11] (fun nx wr => ∃ (nn : Nat) (m1 : List Int), nx = .int .i64 nn ∧ j ≤ nn ∧ nn ≤ j + size t ∧ Hid (∀ l, j + l < nn → ∀ u, (pre t)[l]? = some u → ¬ Rooted s u) ∧ Hid (∀ q, ¬ (i ≤ q ∧ q < i + size s) → m1[q]? = m[q]?) ∧ Hid (PSt p w0 wr m1) ∧ Hid (wb.grownBy wr (some p.A))) (fun nx _ => (j + size t) - (intOf nx).toNat)
  case atStart => exact ⟨j, m, rfl, Nat.le_refl _, by omega, Lib.hid (by intro l hl; omega), Lib.hid (fun _ _ => rfl), HS1, Lib.hid (grown_refl _ _)⟩
  case round =>
    obtain ⟨nn, m1, rfl, hn0, hn1, hR, hF, hP, hG⟩ := hrel
    rename World => wr
    have hbA : some B ≠ some p.A := by have := HAW.out; simp; omega
    have hbA1 : some (B + 1) ≠ some p.A := by have := HAW.out; simp; omega
    have GD : Hid (wb.grownBy wr.drew (some p.A)) := Lib.hid (grown_trans hG.out (grown_drew wr _))
    have PD : Hid (PSt p w0 wr.drew m1) := Lib.hid (hP.out.step (grown_drew wr none))
    have r5 := hG.out.cell (flat3 HB2.out).2.1 hbA1
    have r6 := hP.out.g.cell HEC.out (by simp)
    by_cases hnb : nn < j + size t
    · have e1 : (nn : Int) < ((j + size t : Nat) : Int) := by omega
      have i1 : IntKind.i64.wrap ((nn : Int) + 1) = (nn : Int) + 1 := IntWalk.i64_in _ (by omega)
      obtain ⟨u, hu, hup, hule⟩ := seg_in t HTG.out (nn - j) (by omega)
      rw [show j + (nn - j) = nn by omega] at hu
      obtain ⟨lbb, lbo, hb1e, hlbc⟩ := HPO.out.fb.lab (seg_root hu)
      obtain ⟨kbb, kbo, bk, dk, hb3e, hkbc, hkbi⟩ := HPO.out.fb.kid (seg_root hu)
      have q1 := GD.out.cell (flat3 HB1.out).1 hbA; have q2 := GD.out.cell (flat3 HB1.out).2.1 hbA; have q3 := GD.out.cell (flat3 HB1.out).2.2 hbA
      have q4 := GD.out.cell (flat3 HB2.out).1 hbA1; have q5 := GD.out.cell (flat3 HB2.out).2.1 hbA1; have q6 := GD.out.cell (flat3 HB2.out).2.2 hbA1
      rw [hb1e] at q4
      rw [hb3e] at q6
      have q7 := PD.out.g.cell HLAC.out (by simp); have q8 := PD.out.g.cell HKAC.out (by simp); have q9 := PD.out.g.cell hlbc (by simp); have q10 := PD.out.g.cell hkbc (by simp)
      have hit : (i : Int) < (size p.s0 : Int) := by omega
      have hnt : (nn : Int) < (size p.t0 : Int) := by omega
      have HU := Lib.hid hu; have HUP := Lib.hid hup; have HKBI := Lib.hid hkbi
      have HB1E := Lib.hid hb1e; have HB3E := Lib.hid hb3e
      have HNX : Hid (¬ Rooted s u → ∀ l, j + l < nn + 1 → ∀ v, (pre t)[l]? = some v → ¬ Rooted s v) := Lib.hid (fun hno l hl v hv => by
        by_cases e : l = nn - j
        · subst e; rw [hup] at hv; cases hv; exact hno
        · exact hR.out l (by omega) v hv)
      clear hu hup hkbi hlbc hkbc hbA hbA1 hb1e hb3e
      by_cases hl : s.label = u.label
      · have hd : (s.label == u.label) = true := by simp [hl]
        have HL := Lib.hid hl
        have HKS : Hid (u.kids.length ≤ 12 ∧ s.kids.length ≤ 12) := Lib.hid (by
          have h1 := sizeL_len u.kids; have h2 := sizeL_len s.kids; have h3 := size_eq u; have h4 := HSE.out
          omega)
        clear hl
        go_wp2_with fail
        go_still_tail 25, (by kernel_rfl)
        change wpList _ _ _ _ _ wr.drew
        generalize wr.drew = wd at *
        have hpl := placeKids_any p w0 HPO.out (sizeL s.kids) (fun k hk => IH.out k (by have := HSE.out; omega)) s.kids u.kids (i + 1) (nn + 1) (Nat.le_refl _) (fun κ h => seg_kid HSG.out h) (fun ν h => seg_kid HU.out h) HKS.out.2 HKS.out.1 ak bk ck dk HKAI.out HKBI.out wd m1 PD.out
        unfold PC.args at hpl
        rw [HA1E.out, HA3E.out, HB2E.out, HB1E.out, HB3E.out] at hpl
        have HPL := Lib.hid (hpl)
        clear hpl
        go_wp2_with fail
        (with_reducible refine HPL.out.mono ?_)
        rintro e w5 ⟨Bo, m2, rfl, h1, h2, h3, h4, h5⟩
        have H1 := Lib.hid h1; have H3 := Lib.hid h3; have P5 := Lib.hid h5; have G5 := Lib.hid (grown_trans GD.out h4)
        have H2 : Hid (∀ q, ¬ (i + 1 ≤ q ∧ q < i + size s) → m2[q]? = m1[q]?) := Lib.hid (fun q hq => h2 q (by have := HSE.out; omega))
        have F5 : Hid (∀ q, ¬ (i ≤ q ∧ q < i + size s) → m2[q]? = m[q]?) := Lib.hid (fun q hq => by rw [H2.out q (by omega)]; exact hF.out q hq)
        clear h1 h2 h3 h4 h5 q1 q2 q3 q4 q5 q6 q7 q8 q9 q10 HPL GD PD r5 r6
        cases Bo with
        | false =>
          have HNL : Hid (¬ Rooted s u) := Lib.hid (fun h => by have := H1.out.2 h.2; simp at this)
          go_wp2_with fail
          go_roundw
          case rel => exact ⟨nn + 1, m2, by go_num, by omega, by omega, Lib.hid (HNX.out HNL.out), F5, P5, G5⟩
          case measure => simp [intOf]; omega
        | true =>
          have HIL : Hid (i < m2.length) := Lib.hid (by rw [P5.out.n]; omega)
          obtain ⟨hst1, hst2⟩ := P5.out.o.cell i HIL.out
          have HO6 := Lib.hid (P5.out.o.stored i (nn : Int))
          have G6 := Lib.hid (grown_trans G5.out (grown_set w5 ⟨p.A, i, none⟩ (.int .i64 (nn : Int))))
          have HW0 := Lib.hid (grown_then P5.out.g (grown_set w5 ⟨p.A, i, none⟩ (.int .i64 (nn : Int))) (by rintro k ⟨⟩; exact .inl HPO.out.hA))
          have HPL : Hid (Pl (pre p.t0) (m2.set i (nn : Int)) i s nn) := Lib.hid (.mk (by rw [List.getElem?_set_self HIL.out]) (seg_root HU.out) HL.out (plL_agree (H3.out rfl) (fun q q1 q2 => by rw [List.getElem?_set_ne (by omega)])))
          have F6 : Hid (∀ q, ¬ (i ≤ q ∧ q < i + size s) → (m2.set i (nn : Int))[q]? = m[q]?) := Lib.hid (fun q hq => by rw [List.getElem?_set_ne (by omega)]; exact F5.out q hq)
          have HE : Hid (Emb s t) := Lib.hid ((emb_iff t s).2 ⟨u, List.mem_of_getElem? HUP.out, HL.out, H1.out.1 rfl⟩)
          go_wp2_with fail
          go_ret
          exact ⟨true, _, rfl, ⟨fun _ => HE.out, fun _ => rfl⟩, F6.out, fun _ => ⟨nn, hn0, hnb, HPL.out⟩, grown_trans (grown_then (grown_refl w _) HG0.out (by simp)) G6.out, ⟨HW0.out, HO6.out, by rw [List.length_set]; exact P5.out.n⟩⟩
      · have hd : (s.label == u.label) = false := by simpa using hl
        have HNL : Hid (¬ Rooted s u) := Lib.hid (fun h => hl h.1)
        clear hl
        replace q1 : wr.cell? _ = _ := q1
        replace q2 : wr.cell? _ = _ := q2
        replace q3 : wr.cell? _ = _ := q3
        replace q4 : wr.cell? _ = _ := q4
        replace q5 : wr.cell? _ = _ := q5
        replace q6 : wr.cell? _ = _ := q6
        replace q7 : wr.cell? _ = _ := q7
        replace q9 : wr.cell? _ = _ := q9
        go_wp2_with fail
        go_big_quiet (fail)
        go_wp2_with fail
        go_roundw
        case rel => exact ⟨nn + 1, m1, by go_num, by omega, by omega, Lib.hid (HNX.out HNL.out), hF, Lib.hid (hP.out.step (grown_drewN _ _ _)), Lib.hid (grown_trans hG.out (grown_drewN _ _ _))⟩
        case measure => simp [intOf]; omega
    · obtain rfl : nn = j + size t := by omega
      have e1 : ¬ ((j + size t : Nat) : Int) < ((j + size t : Nat) : Int) := by omega
      have HNO : Hid (¬ Emb s t) := Lib.hid (fun h => by
        obtain ⟨u, hu, hr⟩ := (emb_iff t s).1 h
        obtain ⟨l, hl, rfl⟩ := List.getElem_of_mem hu
        exact hR.out l (by rw [len_pre] at hl; omega) _ (List.getElem?_eq_getElem hl) hr)
      go_wp2_with fail
      go_ret
      exact ⟨false, m1, rfl, ⟨fun h => by simp at h, fun h => absurd h HNO.out⟩, hF.out, fun h => by simp at h, grown_trans (grown_then (grown_refl w _) HG0.out (by simp)) hG.out, hP.out⟩

end Go.Proofs.Ytnppmemcdcgjhaa
