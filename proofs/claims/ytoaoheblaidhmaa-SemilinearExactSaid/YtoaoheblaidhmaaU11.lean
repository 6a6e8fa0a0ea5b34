/- Texts Ve, Tb, Vf, Vg in one. -/
import Derived.Test.YtoaoheblaidhmaaU10
import Derived.Test.YtoaoheblaidhmaaU8
import Derived.Test.YtoaoheblaidhmaaU6
import Derived.Test.YtoaoheblaidhmaaU9
import Derived.BigRegion
namespace Go.Proofs.Ytoaoheblaidhmaa
open Go.RowKit
set_option linter.unusedVariables false

theorem own_lit1 (w : World) (x : Nat) : OwnI (w.alloc (.cells #[.int .i64 (x : Int)] 3)) w.heap.size (.slice (some ⟨w.heap.size, 0, none⟩) 1 1) [(x : Int)] := by
  refine ⟨rfl, .inr ⟨w.heap.size, 1, _, rfl, Nat.le_refl _, heap_new _ rfl, Nat.le_refl _, by unfold maxLen; omega, rfl, rfl⟩⟩
theorem withB_neg {v : List Int} (hb : ∀ x ∈ v, x ≤ 64) (h : withB 64 v = false) : ∃ x ∈ v, x < 0 := by
  unfold withB at h
  rw [List.all_eq_false] at h
  obtain ⟨x, hx, h1⟩ := h
  have := hb x hx
  refine ⟨x, hx, ?_⟩
  by_cases h0 : 0 ≤ x
  · exfalso; apply h1; simp; omega
  · omega
theorem least_neg {n : Nat} {ps : List (List Int)} {v : List Int} (hp : ∀ p ∈ ps, Nat0 n p) (hl : v.length = n) (h : ∃ x ∈ v, x < 0) : Least ps v none := by
  intro ks hs
  obtain ⟨x, hx, h0⟩ := h
  have := Sol.nonneg hp hl hs x hx
  omega
set_option maxRecDepth 100000 in
set_option maxHeartbeats 2000000 in
theorem rtimes_any (n : Nat) (hn1 : 1 ≤ n) (hn2 : n ≤ 1000) : ∀ (qs : List Row) (vp vv : Value) (v : List Int) (w : World), RowsP w vp qs → Good vp → RowOk w (vv, v) → v.length = n →
    (∀ q ∈ qs, PerOk n q.2) → (∀ x ∈ v, -2040 ≤ x ∧ x ≤ 64) → qs.length ≤ 100 →
    Calls Try.prog 42 #[vp, vv] w (GivesT (qs.map Prod.snd) v w) := by
  intro qs
  induction qs with
  | nil =>
    intro vp vv v w h hg hr hl hp hb hm
    obtain ⟨a, cap, rfl, -⟩ := h
    have HR := Lib.hid hr
    have HNEG : Hid (withB 64 v = false → Least [] v none) := Lib.hid (fun h => least_neg (n := n) (by simp) hl (withB_neg (fun x hx => (hb x hx).2) h))
    obtain ⟨⟨av, cv, hvv, -, -, -⟩, -, -⟩ := HR.out
    dsimp only at hvv
    subst hvv
    clear hr hl hp hb hm hg
    go_enter Try.func42, Try.ntmps42
    go_wp2_with fail
    refine (rnumbers_is _ _ _ _ HR.out.1).mono ?_
    rintro e w' ⟨rfl, hw⟩
    subst hw
    cases hw64 : withB 64 v with
    | false =>
      have HN := Lib.hid (HNEG.out hw64)
      clear hw64
      go_wp2_with fail
      go_ret2
      exact ⟨none, HN.out, _, rfl, OwnI.nil _ _, grown_refl _ _⟩
    | true =>
    clear hw64
    go_wp2_with fail
    refine (rzero_is _ _ _ HR.out.1).mono ?_
    rintro e w2 ⟨rfl, hw⟩
    subst hw
    by_cases hz : zeroB v = true
    · have HZ := Lib.hid (least_nil_some hz)
      rw [hz]
      clear hz
      go_wp2_with fail
      go_ret2
      exact ⟨some [], HZ.out, _, rfl, OwnI.nil _ _, grown_refl _ _⟩
    · have hz' : zeroB v = false := by simpa using hz
      have HZ := Lib.hid (least_nil_none hz')
      rw [hz']
      clear hz hz'
      go_wp2_with fail
      go_ret2
      exact ⟨none, HZ.out, _, rfl, OwnI.nil _ _, grown_refl _ _⟩
  | cons q qs ih =>
    intro vp vv v w h hg hr hl hp hb hm
    have HNEG : Hid (withB 64 v = false → Least ((q :: qs).map Prod.snd) v none) := Lib.hid (fun h => least_neg (n := n) (fun p hp' => by
      obtain ⟨r, hr', rfl⟩ := List.mem_map.1 hp'
      exact (hp r hr').1) hl (withB_neg (fun x hx => (hb x hx).2) h))
    obtain ⟨a, cap, rfl, hlm, hc, hrows⟩ := h
    obtain ⟨b, off, rfl, hx⟩ := RowsP.at hc (show 0 < (q :: qs).length by simp)
    rw [Nat.add_zero] at hx
    obtain ⟨ta, tc, hrun, hrt, hgt⟩ : ∃ a' c', (∀ w', (Instr.slice 24 (.slice (some ⟨b, off, none⟩) (qs.length + 1) cap) (some (.int .i64 1)) none none).run Try.prog w' = .ok (.slice a' qs.length c') w') ∧ RowsP w (.slice a' qs.length c') qs ∧ Good (.slice a' qs.length c') :=
      rows_tail1 (k := 1) ⟨_, cap, rfl, hlm, hc, hrows⟩ hg (by simp)
    have hcq := hg.2 _ _ _ rfl
    have Q1 : Hid (RowOk w q) := Lib.hid (hrows q (by simp))
    have P1 : Hid (PerOk n q.2) := Lib.hid (hp q (by simp))
    have PS : Hid (∀ q ∈ qs, PerOk n q.2) := Lib.hid (fun r hr => hp r (by simp [hr]))
    have T1 := Lib.hid hrt; have T2 := Lib.hid hgt; have HR := Lib.hid hr; have HL := Lib.hid hl; have HB := Lib.hid hb; have HM : Hid (qs.length ≤ 100) := Lib.hid (by simp at hm; omega)
    have IH := Lib.hid ih
    have h0 : ¬ (qs.length : Int) + 1 = 0 := by omega
    have j1 : (1 : Int) ≤ (qs.length : Int) + 1 := by omega
    have j2 : (qs.length : Int) + 1 ≤ (cap : Int) := by simp at hcq; omega
    have hxz : w.cell? ⟨b, off, none⟩ = some ((q :: qs : List Row)[0]).1 := hx
    clear hrt hgt hr hl hb hm hp hrows hc hg ih hcq hlm hxz
    obtain ⟨qv, p⟩ := q
    obtain ⟨⟨aq, cq, hqv, -, -, -⟩, -, -⟩ := Q1.out
    dsimp only at hqv hx P1
    subst hqv
    have HX0 := Lib.hid hx
    obtain ⟨⟨av, cv, hvv, -, -, -⟩, -, -⟩ := HR.out
    dsimp only at hvv
    subst hvv
    clear hx
    go_enter Try.func42, Try.ntmps42
    go_wp2_with fail
    refine (rnumbers_is _ _ _ _ HR.out.1).mono ?_
    rintro e w' ⟨rfl, hw⟩
    subst hw
    cases hw64 : withB 64 v with
    | false =>
      have HN := Lib.hid (HNEG.out hw64)
      clear hw64
      go_wp2_with fail
      go_ret2
      exact ⟨none, HN.out, _, rfl, OwnI.nil _ _, grown_refl _ _⟩
    | true =>
    have HW64 := Lib.hid hw64
    clear hw64 HNEG
    rename World => w
    go_wp2_with fail
    refine (rcopy_any _ _ _ HR.out (by rw [HL.out]; omega)).mono ?_
    rintro e w1 ⟨v1, rfl, ho, hg⟩
    obtain ⟨g, c, rfl, hbg, hvc⟩ := ownI_own ho (by rw [HL.out]; exact hn1)
    have HO : Hid (OwnI w1 w.heap.size (.slice (some ⟨g, 0, none⟩) v.length c) (subk 0 p v)) := Lib.hid (by rw [subk_zero p v (by rw [P1.out.1.1, HL.out])]; exact ho)
    have HG := Lib.hid hg; have BG := Lib.hid hbg
    clear ho hg hbg hvc
    have hvl : v.length ≤ 1000 := by rw [HL.out]; exact hn2
    go_wp2_with fail
    go_loopw [7] (fun i wr => ∃ k : Nat, i = .int .i64 k ∧ k ≤ 65 ∧ Hid (OwnI wr w.heap.size (.slice (some ⟨g, 0, none⟩) v.length c) (subk (k : Int) p v)) ∧ Hid (w.grownBy wr none) ∧ Hid (Fewer (qs.map Prod.snd) p v (k : Int))) (fun i _ => 66 - (intOf i).toNat)
    case atStart => exact ⟨0, rfl, by omega, HO, HG, Lib.hid (Fewer.zero _ _ _)⟩
    case round =>
      obtain ⟨k, rfl, hk, ho, hg, hf⟩ := hrel
      rename World => wk
      have SL : Hid ((subk (k : Int) p v).length = n) := Lib.hid (subk_len P1.out.1.1 HL.out)
      have SB : Hid (∀ x ∈ subk (k : Int) p v, -2040 ≤ x ∧ x ≤ 64) := Lib.hid (fun x hx => ⟨subk_lo P1.out HL.out (by omega) (by omega) (fun x hx => by have := (withB_iff.1 HW64.out) x hx; omega) x hx, subk_bd P1.out.1 HL.out (by omega) (fun x hx => (HB.out x hx).2) x hx⟩)
      have hrow := ho.out.row (fun x hx => by have := SB.out x hx; omega)
      have HRW := Lib.hid hrow
      have hk65 : (k : Int) ≤ 65 := by omega
      clear hrow
      go_wp2_with fail
      refine (rnumbers_is _ _ _ _ HRW.out.1).mono ?_
      rintro e w2 ⟨rfl, hw⟩
      subst hw
      cases hwk : withB 64 (subk (k : Int) p v) with
      | true =>
        have HNN : Hid (∀ x ∈ subk (k : Int) p v, 0 ≤ x) := Lib.hid (fun x hx => (withB_iff.1 hwk x hx).1)
        have hk64 : k ≤ 64 := by have := fits_le P1.out HL.out (by omega) (fun x hx => (HB.out x hx).2) HNN.out; omega
        have i1 : IntKind.i64.wrap ((k : Int) + 1) = (k : Int) + 1 := IntWalk.i64_in _ (by omega)
        clear hwk
        go_wp2_with fail
        refine (IH.out _ _ (subk (k : Int) p v) _ (T1.out.same hg.out) T2.out HRW.out SL.out PS.out SB.out HM.out).mono ?_
        rintro e w3 ⟨r, hlst, v3, rfl, ho3, hg3⟩
        have HLS := Lib.hid hlst
        have G3 := Lib.hid (grown_trans hg.out hg3)
        have O3 := Lib.hid (ho.out.kept hg3 (by simp))
        clear hlst
        cases r with
        | none =>
          clear ho3 hg3
          dsimp only [Option.isSome_none]
          have hlp : Hid (p.length = v.length) := Lib.hid (by rw [P1.out.1.1, HL.out])
          go_wp2_with fail
          go_loopw [10] (fun i wr => ∃ (j : Nat) (zs : List Int), i = .int .i64 j ∧ j ≤ v.length ∧ Hid (zs.length = n ∧ zs.take j = (subk ((k : Int) + 1) p v).take j ∧ zs.drop j = (subk (k : Int) p v).drop j) ∧ Hid (OwnI wr w.heap.size (.slice (some ⟨g, 0, none⟩) v.length c) zs) ∧ Hid (w.grownBy wr none)) (fun i _ => v.length - (intOf i).toNat)
          case atStart => exact ⟨0, _, rfl, Nat.zero_le _, Lib.hid ⟨SL.out, by simp, rfl⟩, O3, G3⟩
          case round =>
            obtain ⟨j, zs, rfl, hj, hz, hoz, hgz⟩ := hrel
            rename World => wj
            by_cases hlt : j < v.length
            · have hltp : j < p.length := by rw [hlp.out]; exact hlt
              have ST := Lib.hid (subk_step P1.out.1.1 HL.out hz.out.1 (by have := HL.out; omega) hz.out.2.1 hz.out.2.2)
              obtain ⟨⟨_, _, hv, _, _, hcp⟩, -, -⟩ := Q1.out.same hgz.out
              simp only [Value.slice.injEq] at hv
              obtain ⟨rfl, -, -⟩ := hv
              obtain ⟨b', off', rfl, hx'⟩ := Ints.at hcp hltp
              obtain ⟨hcell, hfr⟩ := hoz.out.cell j (by have := hz.out.1; have := HL.out; omega)
              have hx3 := hgz.out.cell HX0.out (by simp)
              have hyy := mem_at P1.out.1.2 hltp
              have hyz := mem_at P1.out.2.2 hltp
              have hxx : 0 ≤ zs[j]?.getD 0 ∧ zs[j]?.getD 0 ≤ 64 := by
                rw [ST.out.1]
                have hjl : j < (subk (k : Int) p v).length := by rw [SL.out]; have := HL.out; omega
                exact ⟨mem_at HNN.out hjl, (mem_at SB.out hjl).2⟩
              have h1 : (j : Int) < (p.length : Int) := by omega
              have h2 : (j : Int) < (v.length : Int) := by omega
              have i2 : IntKind.i64.wrap ((j : Int) + 1) = (j : Int) + 1 := IntWalk.i64_in _ (by omega)
              have p1 : (0 : Int) < (qs.length : Int) + 1 := by omega
              clear hcp hltp
              generalize hX : zs[j]?.getD 0 = x at *
              generalize hY : p[j]?.getD 0 = y at *
              have m1 : IntKind.i64.wrap (x - y) = x - y := IntWalk.i64_in _ (by omega)
              have HST := Lib.hid (hoz.out.stored j (x - y))
              clear hX hY hyy hyz hxx
              have hcd : wj.drew.cell? ⟨g, j, none⟩ = some (.int .i64 x) := hcell
              have hfd : wj.drew.frozen? ⟨g, j, none⟩ = false := hfr
              have hxd : wj.drew.cell? ⟨b', off' + j, none⟩ = some (.int .i64 y) := hx'
              have hx3d : wj.drew.cell? ⟨b, off, none⟩ = some (.slice (some ⟨b', off', none⟩) p.length cq) := hx3
              go_wp2_with fail
              go_region
              clear hcell hfr hx' hx3 hcd hfd hxd hx3d m1
              have GS := Lib.hid (grown_trans (grown_set wj ⟨g, j, none⟩ (.int .i64 (x - y))) (grown_drew _ (some g)))
              replace HST := Lib.hid (HST.out.kept (grown_drew _ none) (by simp))
              replace hgz := Lib.hid (grown_then hgz.out GS.out (fun i hi => by cases hi; exact .inl BG.out))
              go_wp2_with fail
              go_roundw
              case rel => exact ⟨j + 1, zs.set j (x - y), by go_num, by omega, Lib.hid ⟨by rw [List.length_set]; exact hz.out.1, ST.out.2.1, ST.out.2.2⟩, HST, hgz⟩
              case measure => (simp [intOf]; try omega)
            · have hq : zs = subk ((k : Int) + 1) p v := by
                have h2 := hz.out.1
                have h3 := HL.out
                have h1 := hz.out.2.1
                rwa [List.take_of_length_le (by omega), List.take_of_length_le (by rw [subk_len P1.out.1.1 HL.out]; omega)] at h1
              subst hq
              have h1 : ¬ (j : Int) < (v.length : Int) := by omega
              go_wp2_with fail
              go_roundw
              case rel => exact ⟨k + 1, by go_num, by omega, hoz, hgz, Lib.hid (hf.out.next HLS.out)⟩
              case measure => (simp [intOf]; try omega)
        | some ks =>
          dsimp only [Option.isSome_some, Option.getD_some] at ho3 ⊢
          have HGD := Lib.hid ho3.good
          obtain ⟨a3, c3, rfl⟩ := ho3.slice
          have KL := Lib.hid (HLS.out.1.le (fun r hr => by obtain ⟨q, hq, rfl⟩ := List.mem_map.1 hr; exact ⟨(PS.out q hq).1, (PS.out q hq).2.1⟩) SL.out (fun x hx => (SB.out x hx).2))
          have KN : Hid (ks.length ≤ 100) := Lib.hid (by have := HLS.out.1.len; rw [List.length_map] at this; have := HM.out; omega)
          have R3 := Lib.hid (ho3.row (fun x hx => by have := KL.out x hx; omega))
          have R4 := Lib.hid (R3.out.same (World.grownBy_alloc w3 (.cells #[.int .i64 (k : Int)] 3) none))
          have OL := Lib.hid (own_lit1 w3 k)
          have G3A := Lib.hid (grown_trans G3.out (World.grownBy_alloc w3 (.cells #[.int .i64 (k : Int)] 3) none))
          clear ho3 hg3
          go_wp2_with (at_builtin; refine app_ints rfl _ _ rfl w3.heap.size _ [(k : Int)] rfl OL.out _ ks rfl R4.out.1 HGD.out (by have := KN.out; simp; omega) (World.grownBy_alloc w3 _ none).size ?_)
          intro v4 w4 ho4 hg4
          have O4 := Lib.hid ho4
          have G4 := Lib.hid (grown_then G3A.out hg4 (fun i hi => .inl (by have h1 := (OL.out.fresh i hi).1; have h2 := G3.out.size; omega)))
          have B3 := Lib.hid G3.out.size
          clear ho4 hg4
          go_wp2_with fail
          go_ret2
          exact ⟨some ((k : Int) :: ks), hf.out.found (by omega) HLS.out, _, rfl, O4.out.mono B3.out, G4.out⟩
      | false =>
        have HNG := Lib.hid (withB_neg (fun x hx => (SB.out x hx).2) hwk)
        have HF := Lib.hid (hf.out.none (ps := qs.map Prod.snd) P1.out.1 (fun r hr => by obtain ⟨q, hq, rfl⟩ := List.mem_map.1 hr; exact (PS.out q hq).1) HL.out HNG.out (by omega))
        clear hwk
        go_wp2_with fail
        go_ret2
        exact ⟨none, HF.out, _, rfl, OwnI.nil _ _, hg.out⟩
end Go.Proofs.Ytoaoheblaidhmaa

namespace Go.Proofs.Ytoaoheblaidhmaa
open Go.RowKit
set_option linter.unusedVariables false

theorem cells_one {w : World} {g : Nat} {x y : Value} {e : TypeId} {f : Nat × Nat} (h : w.heap[g]? = some (.cells #[x, y] e f)) : CellsS w g 0 [(x, y)] := by
  intro i hi
  have : i = 0 := by simpa using hi
  subst this
  exact ⟨by unfold World.cell?; dsimp only; rw [h]; rfl, by unfold World.cell?; dsimp only; rw [h]; rfl⟩
theorem lessL_bd {n : Nat} {v b : List Int} (hv : v.length = n) (hb : b.length = n) (h : withB 64 v = true) (h' : ∀ x ∈ b, 0 ≤ x ∧ x ≤ 16) : ∀ x ∈ lessL v b, -1000 ≤ x ∧ x ≤ 64 := by
  intro z hz
  obtain ⟨x, hx, y, hy, rfl⟩ := mem_zipWith _ v b z hz
  have h1 := withB_iff.1 h x hx
  have h2 := h' y hy
  omega

/-- The world behind a box of a set and a list of it. -/
def Boxed (w : World) (x y : Value) : World := (w.alloc (.cells #[x, y] 26)).alloc (.cells #[x, y] 26)
theorem Boxed.grown (w : World) (x y : Value) : w.grownBy (Boxed w x y) none := grown_after (grown_after (grown_refl _ _))
theorem check_boxed (n : Nat) (b : List Int) (ps : List (List Int)) (x y : Value) (w : World) (h : LinV w (.agg #[x, y]) b ps) (hs : ValidS n b ps) :
    Calls Try.prog 14 #[.int .i64 (n : Int), .slice (some ⟨w.heap.size + 1, 0, none⟩) 1 1] (Boxed w x y) fun e w' => e = .returned (.int .i64 0) ∧ w.grownBy w' none ∧ w'.cell? ⟨w.heap.size, 0, none⟩ = some x ∧ w'.cell? ⟨w.heap.size, 1, none⟩ = some y := by
  have hh : (Boxed w x y).heap[w.heap.size + 1]? = some (.cells #[x, y] 26 (0, 0)) := heap_new _ (by show _ = (w.heap.push _).size; simp)
  have h0 : (Boxed w x y).heap[w.heap.size]? = some (.cells #[x, y] 26 (0, 0)) := heap_old _ (heap_new _ rfl)
  have hb : (Boxed w x y).cell? ⟨w.heap.size, 0, none⟩ = some x ∧ (Boxed w x y).cell? ⟨w.heap.size, 1, none⟩ = some y := ⟨by unfold World.cell?; dsimp only; rw [h0]; rfl, by unfold World.cell?; dsimp only; rw [h0]; rfl⟩
  refine (check_any n hs.1 hs.2.1 [(x, y)] (w.heap.size + 1) 0 1 _ (cells_one hh) (by intro u hu; rw [List.mem_singleton.1 hu]; exact ⟨b, ps, h.same (Boxed.grown _ _ _), hs⟩) (by simp)).mono ?_
  rintro e w' ⟨rfl, hg⟩
  exact ⟨rfl, grown_trans (Boxed.grown _ _ _) hg, hg.cell hb.1 (by simp), hg.cell hb.2 (by simp)⟩

set_option maxRecDepth 100000 in
set_option maxHeartbeats 1500000 in
theorem Times_any (n : Nat) (sv vv : Value) (b v : List Int) (ps : List (List Int)) (w : World) (h : LinV w sv b ps) (hs : ValidS n b ps) (hr : RowOk w (vv, v)) (hvl : v.length = n) (hv64 : withB 64 v = true) :
    Calls Try.prog 17 #[sv, vv] w (GivesT ps (lessL v b) w) := by
  obtain ⟨vb, vp, qs, rfl, hb, hq, hg, rfl⟩ := h
  have hbl := hs.2.2.1
  subst hbl
  have hn1 := hs.1
  have hn4 := hs.2.1
  have HS := Lib.hid hs; have HB := Lib.hid hb; have HQ := Lib.hid hq; have HGd := Lib.hid hg; have HR := Lib.hid hr; have HL := Lib.hid hvl; have H64 := Lib.hid hv64
  obtain ⟨⟨ab, cb, hvb, -, -, -⟩, -, -⟩ := hb
  obtain ⟨⟨av, cv, hvv, -, -, -⟩, -, -⟩ := hr
  dsimp only at hvb hvv
  subst hvb hvv
  obtain ⟨ap, cp, rfl, -, -, -⟩ := hq
  have hd : ((v.length : Int) != (b.length : Int)) = false := by rw [hvl]; simp
  have hd' : (v.length == b.length) = true := by rw [hvl]; simp
  clear hs hg hvl hv64
  go_enter Try.func17, Try.ntmps17
  go_wp2_with fail
  refine (check_boxed _ b (qs.map Prod.snd) _ _ w ⟨_, _, qs, rfl, HB.out, HQ.out, HGd.out, rfl⟩ HS.out).mono ?_
  rintro e w3 ⟨rfl, hg3, c0, c1⟩
  have G3 := Lib.hid hg3; have C0 := Lib.hid c0; have C1 := Lib.hid c1
  clear hg3 c0 c1
  go_wp2_with fail
  refine (within_any _ v _ _ (HR.out.same G3.out).1).mono ?_
  rintro e w9 ⟨rfl, hw9⟩
  subst hw9
  rw [H64.out]
  rename World => w3
  have hlt3 : w.heap.size < w3.heap.size := World.block_lt_of_cell? _ _ C0.out
  go_wp2_with (at_make; refine make_int rfl _ _ rfl b.length rfl rfl (by omega) ?_)
  intro w4 ho4 hg4
  have O4 := Lib.hid ho4; have G4 := Lib.hid (grown_trans G3.out hg4)
  have B4 := G3.out.size
  replace C0 := Lib.hid (hg4.cell C0.out (by simp)); replace C1 := Lib.hid (hg4.cell C1.out (by simp))
  clear ho4 hg4
  have hvb4 : v.length ≤ 4 := by rw [HL.out]; exact hn4
  go_wp2_with fail
  go_loopw [33] (fun i wr => ∃ (k : Nat) (zs : List Int), i = .int .i64 k ∧ k ≤ v.length ∧ Hid (zs.length = b.length ∧ zs.take k = (lessL v b).take k) ∧ Hid (OwnI wr w3.heap.size (.slice (some ⟨w3.heap.size, 0, none⟩) b.length b.length) zs) ∧ Hid (w4.grownBy wr (some w3.heap.size))) (fun i _ => v.length - (intOf i).toNat)
  case atStart => exact ⟨0, _, rfl, Nat.zero_le _, Lib.hid ⟨by simp, by simp⟩, O4, Lib.hid (grown_refl _ _)⟩
  case round =>
    obtain ⟨k, zs, rfl, hk, hz, ho, hg⟩ := hrel
    rename World => wk
    have c0 := hg.out.cell C0.out (by simp; omega)
    have c1 := hg.out.cell C1.out (by simp; omega)
    have GK : Hid (w.grownBy wk none) := Lib.hid (grown_then G4.out hg.out (by rintro j ⟨⟩; exact .inl B4))
    by_cases hlt : k < v.length
    · have hlt' : k < b.length := by rw [HL.out] at hlt; exact hlt
      obtain ⟨⟨_, _, hv, _, _, hc⟩, -, -⟩ := HR.out.same GK.out
      simp only [Value.slice.injEq] at hv
      obtain ⟨rfl, -, -⟩ := hv
      obtain ⟨⟨_, _, hv, _, _, hc'⟩, -, -⟩ := HB.out.same GK.out
      simp only [Value.slice.injEq] at hv
      obtain ⟨rfl, -, -⟩ := hv
      obtain ⟨b1, o1, rfl, hx⟩ := Ints.at hc hlt
      obtain ⟨b2, o2, rfl, hx'⟩ := Ints.at hc' hlt'
      have hbx := mem_at (withB_iff.1 H64.out) hlt
      have hby := mem_at HS.out.2.2.2.1 hlt'
      have HZ : Hid ((lessL v b)[k]?.getD 0 = v[k]?.getD 0 - b[k]?.getD 0) := Lib.hid (zip_at _ v b k hlt hlt')
      obtain ⟨hcell, hfr⟩ := ho.out.cell k (by have := hz.out.1; omega)
      have h1 : (k : Int) < (v.length : Int) := by omega
      have h2 : (k : Int) < (b.length : Int) := by omega
      clear hc hc'
      generalize v[k]?.getD 0 = x at *
      generalize b[k]?.getD 0 = y at *
      go_wp2_with fail
      go_roundw
      case rel => exact ⟨k + 1, zs.set k (x - y), by go_num, by omega, Lib.hid ⟨by rw [List.length_set]; exact hz.out.1, by rw [← HZ.out]; exact set_take zs _ k (by rw [hz.out.1, lessL_len rfl HL.out]) (by rw [lessL_len rfl HL.out]; exact hlt') hz.out.2⟩, Lib.hid (ho.out.stored k _), Lib.hid (grown_trans hg.out (grown_set _ _ _))⟩
      case measure => simp [intOf]; omega
    · have hq : zs = lessL v b := by
        have h3 := hz.out.1
        have h4 := hz.out.2
        have h5 := HL.out
        rwa [List.take_of_length_le (by omega), List.take_of_length_le (by rw [lessL_len rfl HL.out]; omega)] at h4
      subst hq
      have h1 : ¬ (k : Int) < (v.length : Int) := by omega
      have BD := Lib.hid (lessL_bd HL.out rfl H64.out HS.out.2.2.2.1)
      go_wp2_with fail
      refine (times_any b.length hn1 (by omega) qs _ _ (lessL v b) _ (HQ.out.same GK.out) HGd.out (ho.out.row (fun x hx => by have := BD.out x hx; omega)) (lessL_len rfl HL.out) (fun q hq => HS.out.2.2.2.2.1 _ (List.mem_map_of_mem hq)) BD.out (by have := HS.out.2.2.2.2.2.1; rw [List.length_map] at this; omega)).mono ?_
      rintro e w5 ⟨r, hlr, v5, rfl, ho5, hg5⟩
      have LR := Lib.hid hlr; have O5 := Lib.hid ho5; have G5 := Lib.hid (grown_trans GK.out hg5)
      have B5 := GK.out.size
      clear hlr ho5 hg5
      go_wp2_with fail
      go_ret2
      exact ⟨r, LR.out, _, rfl, O5.out.mono B5, G5.out⟩

end Go.Proofs.Ytoaoheblaidhmaa

namespace Go.Proofs.Ytoaoheblaidhmaa
open Go.RowKit
set_option linter.unusedVariables false

def ValidX (b : List Int) (qs : List Row) : Prop := 1 ≤ b.length ∧ b.length ≤ 4 ∧ Fault b.length b qs 0
theorem ValidX.s {b : List Int} {qs : List Row} (h : ValidX b qs) : ValidS b.length b (qs.map Prod.snd) := fault_valid h.1 h.2.1 h.2.2
theorem ValidX.ne {b : List Int} {qs : List Row} (h : ValidX b qs) : ∀ p ∈ qs, 1 ≤ p.2.length := fun p hp => by
  have h1 := h.s.2.2.2.2.1 p.2 (List.mem_map_of_mem hp)
  rw [h1.1.1]; exact h.1
theorem checkF_one {n : Int} {u : SetR} {err : Int} (h : CheckF n [u] err) : err = 0 ↔ (1 ≤ n ∧ n ≤ 4 ∧ Fault n.toNat u.2.1 u.2.2 0) := by
  cases h with
  | dim h => constructor <;> intro h' <;> omega
  | many h1 h2 h3 => simp at h3
  | bad k err hk h1 h2 h3 h4 h5 h6 =>
    obtain rfl : k = 0 := by simpa using hk
    constructor
    · intro h; exact absurd h h6
    · intro h; exact h5.one h.2.2
  | ok h1 h2 h3 h4 => exact ⟨fun _ => ⟨h1, h2, h4 0 (by simp)⟩, fun _ => rfl⟩
theorem checkF_valid {b : List Int} {x y : Value} {qs : List Row} {err : Int} (h : CheckF (b.length : Int) [((x, y), (b, qs))] err) : err = 0 ↔ ValidX b qs := by
  rw [checkF_one h]
  unfold ValidX
  constructor
  · rintro ⟨h1, h2, h3⟩; exact ⟨by omega, by omega, by simpa using h3⟩
  · rintro ⟨h1, h2, h3⟩; exact ⟨by omega, by omega, by simpa using h3⟩
theorem setsX_one {w : World} {g : Nat} {x y : Value} {b : List Int} {qs : List Row} {e : TypeId} {f : Nat × Nat} (h : w.heap[g]? = some (.cells #[x, y] e f)) (hl : LinX w (.agg #[x, y]) b qs) (hq : qs.length ≤ 20) : SetsX w (.slice (some ⟨g, 0, none⟩) 1 1) [((x, y), (b, qs))] :=
  ⟨_, _, rfl, by simp, .inr ⟨g, 0, rfl, cells_one h⟩, fun u hu => by rw [List.mem_singleton.1 hu]; exact ⟨hl, hq⟩⟩
def BoxIs (n : Int) (u : SetR) (w0 : World) (e : Ending) (w' : World) : Prop := ∃ err : Int, e = .returned (.int .i64 err) ∧ CheckF n [u] err ∧ w0.grownBy w' none ∧ w'.cell? ⟨w0.heap.size, 0, none⟩ = some u.1.1 ∧ w'.cell? ⟨w0.heap.size, 1, none⟩ = some u.1.2
theorem check_boxedX (n : Int) (b : List Int) (qs : List Row) (x y : Value) (w : World) (h : LinX w (.agg #[x, y]) b qs) (hq : qs.length ≤ 20) :
    Calls Try.prog 14 #[.int .i64 n, .slice (some ⟨w.heap.size + 1, 0, none⟩) 1 1] (Boxed w x y) (BoxIs n ((x, y), (b, qs)) w) := by
  have hh : (Boxed w x y).heap[w.heap.size + 1]? = some (.cells #[x, y] 26 (0, 0)) := heap_new _ (by show _ = (w.heap.push _).size; simp)
  have h0 : (Boxed w x y).heap[w.heap.size]? = some (.cells #[x, y] 26 (0, 0)) := heap_old _ (heap_new _ rfl)
  have hb : (Boxed w x y).cell? ⟨w.heap.size, 0, none⟩ = some x ∧ (Boxed w x y).cell? ⟨w.heap.size, 1, none⟩ = some y := ⟨by unfold World.cell?; dsimp only; rw [h0]; rfl, by unfold World.cell?; dsimp only; rw [h0]; rfl⟩
  refine (check_is n _ _ _ (setsX_one hh (h.same (Boxed.grown _ _ _)) hq)).mono ?_
  rintro e w' ⟨err, rfl, hc, hg⟩
  exact ⟨err, rfl, hc, grown_trans (Boxed.grown _ _ _) hg, hg.cell hb.1 (by simp), hg.cell hb.2 (by simp)⟩
def ValidTo (b : List Int) (qs : List Row) (w : World) (e : Ending) (w' : World) : Prop := ∃ B : Bool, e = .returned (.bool B) ∧ (B = true ↔ ValidX b qs) ∧ w.grownBy w' none
set_option maxRecDepth 100000 in
set_option maxHeartbeats 1000000 in
theorem rvalid_is (v : Value) (b : List Int) (qs : List Row) (w : World) (h : LinX w v b qs) (hq : qs.length ≤ 20) :
    Calls Try.prog 39 #[v] w (ValidTo b qs w) := by
  have H := Lib.hid h
  obtain ⟨vb, vp, rfl, ⟨⟨ab, cb, hvb, hbm, -⟩, -, -⟩, ⟨ap, cp, rfl, -⟩, -⟩ := h
  dsimp only at hvb
  unfold maxLen at hbm
  subst hvb
  have G0 := Lib.hid (World.grownBy_alloc w (.cells #[.slice ab b.length cb, .slice ap qs.length cp] 26) none)
  by_cases h1 : (1 : Int) ≤ (b.length : Int)
  · by_cases h4 : (b.length : Int) ≤ 4
    · have HF := Lib.hid (rfault_is b.length (by omega) (by omega) _ b qs _ (H.out.same G0.out) hq)
      have d1 : decide ((1 : Int) ≤ (b.length : Int)) = true := by simpa using h1
      have d4 : decide ((b.length : Int) ≤ 4) = true := by simpa using h4
      go_enter Try.func39, Try.ntmps39
      go_wp2_with fail
      refine HF.out.mono ?_
      rintro e w1 ⟨err, rfl, hf, hg⟩
      have HFT := Lib.hid hf; have HG := Lib.hid (grown_trans G0.out hg)
      clear hf hg
      go_wp2_with fail
      go_ret
      refine ⟨err == 0, rfl, ?_, HG.out⟩
      rw [beq_iff_eq]
      constructor
      · intro h; exact ⟨by omega, by omega, h ▸ HFT.out⟩
      · intro h; exact HFT.out.one h.2.2
    · have d1 : decide ((1 : Int) ≤ (b.length : Int)) = true := by simpa using h1
      have d4 : decide ((b.length : Int) ≤ 4) = false := by simpa using h4
      go_enter Try.func39, Try.ntmps39
      go_wp2_with fail
      go_ret
      exact ⟨false, by simp, ⟨fun h => (by cases h), fun h => (by have := h.2.1; omega)⟩, G0.out⟩
  · have d1 : decide ((1 : Int) ≤ (b.length : Int)) = false := by simpa using h1
    go_enter Try.func39, Try.ntmps39
    go_wp2_with fail
    go_ret
    exact ⟨false, by simp, ⟨fun h => (by cases h), fun h => (by have := h.1; omega)⟩, G0.out⟩
end Go.Proofs.Ytoaoheblaidhmaa

namespace Go.Proofs.Ytoaoheblaidhmaa
open Go.RowKit
set_option linter.unusedVariables false

theorem Least.one {ps : List (List Int)} {v : List Int} {r r' : Option (List Int)} (h : Least ps v r) (k : Least ps v r') : r = r' := by
  cases r with
  | none => cases r' with
    | none => rfl
    | some ks => exact absurd k.1 (h ks)
  | some ks => cases r' with
    | none => exact absurd h.1 (k ks)
    | some js =>
      have h1 := h.2 js k.1
      have h2 := k.2 ks h.1
      have hl : ks.length = js.length := by rw [h.1.len, k.1.len]
      have e1 : compareI ks js = lexI ks js := by unfold compareI; rw [hl]; simp
      have e2 : compareI js ks = lexI js ks := by unfold compareI; rw [hl]; simp
      have h3 := compareI_neg ks js
      rw [(compareI_zero ks js).1 (by omega)]
def LessTo (v b : List Int) (w : World) (e : Ending) (w' : World) : Prop := w.grownBy w' none ∧ ((∃ v', e = .returned (.tuple #[v', .bool true]) ∧ OwnI w' w.heap.size v' (lessL v b) ∧ ∀ x ∈ lessL v b, 0 ≤ x) ∨ (e = .returned (.tuple #[.slice none 0 0, .bool false]) ∧ ∃ x ∈ lessL v b, x < 0))
set_option maxRecDepth 100000 in
set_option maxHeartbeats 1500000 in
theorem rless_any (vv vb : Value) (v b : List Int) (w : World) (h : Ints w vv v) (h' : Ints w vb b) (hl : v.length = b.length) (hb4 : v.length ≤ 1000) (hv : ∀ x ∈ v, 0 ≤ x ∧ x ≤ 64) (hb : ∀ x ∈ b, 0 ≤ x ∧ x ≤ 16) :
    Calls Try.prog 41 #[vv, vb] w (LessTo v b w) := by
  have HV := Lib.hid h; have HB := Lib.hid h'; have HVB := Lib.hid hv; have HBB := Lib.hid hb; have HL := Lib.hid hl
  obtain ⟨av, cv, rfl, -⟩ := h
  obtain ⟨ab, cb, rfl, -⟩ := h'
  have HG0 := Lib.hid (grown_refl w none)
  have HLL : Hid ((lessL v b).length = v.length) := Lib.hid (lessL_len (n := v.length) hl.symm rfl)
  clear hv hb hl
  go_enter Try.func41, Try.ntmps41
  go_wp2_with fail
  go_loopw [7, 6] (fun i o wr => ∃ k : Nat, i = .int .i64 k ∧ k ≤ v.length ∧ Hid (OwnI wr w.heap.size o ((lessL v b).take k)) ∧ Hid (∀ j, j < k → 0 ≤ (lessL v b)[j]?.getD 0) ∧ Hid (w.grownBy wr none)) (fun i _ _ => v.length - (intOf i).toNat)
  case atStart => exact ⟨0, rfl, Nat.zero_le _, Lib.hid (by simpa using OwnI.nil _ _), Lib.hid (fun j h => by omega), HG0⟩
  case round =>
    clear HG0
    obtain ⟨k, rfl, hk, HO, HN, HG⟩ := hrel
    rename World => wk
    by_cases hlt : k < v.length
    · have hltb : k < b.length := by rw [← HL.out]; exact hlt
      obtain ⟨_, _, hvv, -, -, hc⟩ := HV.out.same HG.out
      simp only [Value.slice.injEq] at hvv
      obtain ⟨rfl, -, rfl⟩ := hvv
      obtain ⟨_, _, hvv, -, -, hc'⟩ := HB.out.same HG.out
      simp only [Value.slice.injEq] at hvv
      obtain ⟨rfl, -, rfl⟩ := hvv
      obtain ⟨b1, o1, rfl, hx⟩ := Ints.at hc hlt
      obtain ⟨b2, o2, rfl, hy⟩ := Ints.at hc' hltb
      have hbx := mem_at HVB.out hlt
      have hby := mem_at HBB.out hltb
      have HZ : Hid ((lessL v b)[k]?.getD 0 = v[k]?.getD 0 - b[k]?.getD 0) := Lib.hid (zip_at _ v b k hlt hltb)
      have HSN : Hid ((lessL v b).take k ++ [v[k]?.getD 0 - b[k]?.getD 0] = (lessL v b).take (k + 1)) := Lib.hid (by
        have hkl : k < (lessL v b).length := by rw [HLL.out]; exact hlt
        rw [take_snoc' _ k hkl, HZ.out])
      have HMEM : Hid (v[k]?.getD 0 - b[k]?.getD 0 < 0 → ∃ x ∈ lessL v b, x < 0) := Lib.hid (fun h => by
        have hkl : k < (lessL v b).length := by rw [HLL.out]; exact hlt
        refine ⟨(lessL v b)[k], List.getElem_mem hkl, ?_⟩
        have := HZ.out
        rw [List.getElem?_eq_getElem hkl] at this
        simp only [Option.getD_some] at this
        omega)
      have HNN : Hid (0 ≤ v[k]?.getD 0 - b[k]?.getD 0 → ∀ j, j < k + 1 → 0 ≤ (lessL v b)[j]?.getD 0) := Lib.hid (fun h j hj => by
        by_cases e : j = k
        · subst e; rw [HZ.out]; exact h
        · exact HN.out j (by omega))
      have h1 : (k : Int) < (v.length : Int) := by omega
      have h2 : (k : Int) < (b.length : Int) := by omega
      have i1 : IntKind.i64.wrap ((k : Int) + 1) = (k : Int) + 1 := IntWalk.i64_in _ (by omega)
      have HKL : Hid (((lessL v b).take k).length ≤ 1000000000000) := Lib.hid (by rw [List.length_take]; omega)
      clear hc hc' hltb
      generalize v[k]?.getD 0 = x at *
      generalize b[k]?.getD 0 = y at *
      by_cases hxy : x < y
      · have d1 : decide (x < y) = true := by simpa using hxy
        have HE := Lib.hid (HMEM.out (by omega))
        go_wp2_with fail
        go_big_quiet (fail)
        have HGN := Lib.hid (grown_trans HG.out (grown_drewN wk nq none))
        generalize wk.drewN nq = wd at *
        go_wp2_with fail
        go_ret2
        exact ⟨HGN.out, .inr ⟨rfl, HE.out⟩⟩
      · have d1 : decide (x < y) = false := by simpa using hxy
        have HN2 := Lib.hid (HNN.out (by omega))
        have m1 : IntKind.i64.wrap (x - y) = x - y := IntWalk.i64_in _ (by omega)
        go_wp2_with fail
        go_big_quiet (fail)
        have HGN := Lib.hid (grown_trans HG.out (grown_drewN wk nq none))
        have HON := Lib.hid (HO.out.kept (grown_drewN wk nq none) (by simp))
        have hxn : (wk.drewN nq).cell? ⟨b1, o1 + k, none⟩ = some (.int .i64 x) := (grown_drewN wk nq none).cell hx (by simp)
        have hyn : (wk.drewN nq).cell? ⟨b2, o2 + k, none⟩ = some (.int .i64 y) := (grown_drewN wk nq none).cell hy (by simp)
        clear hx hy HG HO
        generalize wk.drewN nq = wd at *
        have hxd : wd.drew.cell? ⟨b1, o1 + k, none⟩ = some (.int .i64 x) := hxn
        have hyd : wd.drew.cell? ⟨b2, o2 + k, none⟩ = some (.int .i64 y) := hyn
        go_wp2_with fail
        go_region_law (refine step_app_int rfl _ _ rfl w.heap.size _ _ rfl (HON.out.kept (grown_trans (grown_drew _ none) (World.grownBy_alloc _ _ none)) (by simp)) wd.heap.size (x - y) rfl (cell_new rfl) HKL.out (by have := HGN.out.size; simp; omega) ?_; intro v' w9 ho2 hg2; rw [HSN.out] at ho2; have HO9 := Lib.hid ho2; have HG9 := Lib.hid (grown_then (grown_trans HGN.out (grown_trans (grown_drew _ none) (World.grownBy_alloc _ _ none))) hg2 (fun j hj => .inl (HON.out.fresh j hj).1)); clear ho2 hg2)
        all_goals
          go_wp2_with fail
          go_roundw
          case rel => exact ⟨k + 1, by go_num, by omega, HO9, HN2, HG9⟩
          case measure => (simp [intOf]; try omega)
    · obtain rfl : k = v.length := by omega
      have h1 : ¬ (v.length : Int) < (v.length : Int) := by omega
      have hO := HO.out
      rw [List.take_of_length_le (by rw [HLL.out]; exact Nat.le_refl _)] at hO
      have HO2 := Lib.hid hO
      have HP : Hid (∀ x ∈ lessL v b, 0 ≤ x) := Lib.hid (fun x hx => by
        obtain ⟨j, hj, rfl⟩ := List.getElem_of_mem hx
        have := HN.out j (by rw [← HLL.out]; exact hj)
        rw [List.getElem?_eq_getElem hj] at this
        exact this)
      clear hO HO
      go_wp2_with fail
      go_ret2
      exact ⟨HG.out, .inl ⟨_, rfl, HO2.out, HP.out⟩⟩
end Go.Proofs.Ytoaoheblaidhmaa
