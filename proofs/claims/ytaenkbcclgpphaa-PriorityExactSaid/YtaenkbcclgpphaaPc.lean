/- Contracts of package priority: endings. -/
import Derived.Test.YtaenkbcclgpphaaPb
namespace Go.Proofs.Ytaenkbcclgpphaa
open Go.RowKit
set_option linter.unusedVariables false

theorem drew_cell {w w' : World} {a : Addr} {v : Value} (h : Drew w w') (hc : w.cell? a = some v) : w'.cell? a = some v := by obtain ⟨n, rfl⟩ := h; exact hc
def cellOf (w : World) (a : Addr) : Value := (w.cell? a).getD undef
theorem cell_of {w : World} {a : Addr} {v : Value} (h : w.cell? a = some v) : w.cell? a = some (cellOf w a) := by unfold cellOf; rw [h]; rfl
theorem set_far {w : World} {E i g j : Nat} {u v : Value} (hE : E ≠ g) (h : w.cell? ⟨E, i, none⟩ = some u) : (w.setCell ⟨g, j, none⟩ v).cell? ⟨E, i, none⟩ = some u := (grown_set w ⟨g, j, none⟩ v).cell h (by simp only [ne_eq, Option.some.injEq]; exact hE)
theorem set_own {w : World} {a : Addr} {u v : Value} (h : w.cell? a = some u) : (w.setCell a v).cell? a = some (cellOf (w.setCell a v) a) := by
  obtain ⟨v', hv⟩ := cell?_setCell_some (w := w) (p := a) (x := v) (q := a) (v := u) h
  exact cell_of hv
theorem set_free {w : World} {a b : Addr} {v : Value} (h : w.frozen? b = false) : (w.setCell a v).frozen? b = false := by simpa using h
theorem drew_free {w w' : World} {a : Addr} (h : Drew w w') (hc : w.frozen? a = false) : w'.frozen? a = false := by obtain ⟨n, rfl⟩ := h; exact hc
/-- A row is put into a slice of slices and then written itself. -/
theorem OwnBP.replaced {w1 w3 : World} {base E g n cap : Nat} {ps : List BRow} {i : Nat} {p : BRow} (h : OwnBP w1 base (.slice (some ⟨E, 0, none⟩) n cap) ps)
    (hg : (w1.setCell ⟨E, i, none⟩ p.1).grownBy w3 (some g)) (hE : E ≠ g) (hrow : BOk w3 p) (hvi : p.1.ownBlock = some g) (hne : ∀ q ∈ ps, q.1.ownBlock ≠ some g) :
    OwnBP w3 base (.slice (some ⟨E, 0, none⟩) n cap) (ps.set i p) := by
  have hn : ps.length = n := by
    rcases h.1.2 with ⟨h', _⟩ | ⟨g', cap', cur, h', _⟩
    · simp at h'
    · simp only [Value.slice.injEq] at h'
      exact h'.2.1.symm
  subst hn
  have h1 := (World.ownsRow.stored h.1 i p.1).1
  refine ⟨by rw [List.length_set, List.map_set]; exact World.ownsRow.kept h1 hg (.inr (by simp only [Value.ownBlock, ne_eq, Option.some.injEq]; exact hE)), fun q hq => ?_⟩
  have hgr : w1.grownBy (w1.setCell ⟨E, i, none⟩ p.1) (some E) := grown_set w1 _ _
  rcases List.mem_or_eq_of_mem_set hq with hq | rfl
  · obtain ⟨h2, h3⟩ := h.2 q hq
    refine ⟨(h2.kept hgr (by rintro j ⟨⟩ e; exact h3 _ e rfl)).kept hg (by rintro j ⟨⟩; exact hne q hq), h3⟩
  · refine ⟨hrow, fun j hj e => ?_⟩
    rw [hvi] at hj
    simp only [Value.ownBlock, Option.some.injEq] at e hj
    exact hE (e.trans hj.symm)

def endsAll (rs b a : List Int) : List (List Bool) := (List.range a.length).map (fun i => endL rs b (a.drop i))
def endB (rs b a : List Int) (j : Nat) : Bool := if a = [] then (j + 1 == b.length) else (firstP rs b (endL rs b a) (j + 1)).isSome
theorem endL_eq (rs b : List Int) (x : Int) (a : List Int) : endL rs b (x :: a) = (List.range b.length).map (fun j => (b[j]?.getD 0 == x) && endB rs b a j) := by rw [endL]; rfl
/-- The first marks of a row. -/
def endK (rs b : List Int) (x : Int) (a : List Int) (j : Nat) : List Bool := (List.range j).map (fun j => (b[j]?.getD 0 == x) && endB rs b a j) ++ List.replicate (b.length - j) false
theorem endK_zero (rs b : List Int) (x : Int) (a : List Int) : endK rs b x a 0 = List.replicate b.length false := by unfold endK; simp
theorem endK_all (rs b : List Int) (x : Int) (a : List Int) : endK rs b x a b.length = endL rs b (x :: a) := by unfold endK; rw [endL_eq]; simp
theorem endK_len (rs b : List Int) (x : Int) (a : List Int) (j : Nat) (hj : j ≤ b.length) : (endK rs b x a j).length = b.length := by unfold endK; simp; omega
theorem endK_set (rs b : List Int) (x : Int) (a : List Int) (j : Nat) (hj : j < b.length) : (endK rs b x a j).set j ((b[j]?.getD 0 == x) && endB rs b a j) = endK rs b x a (j + 1) := by
  unfold endK
  rw [List.set_append_right _ _ (by simp), List.length_map, List.length_range, Nat.sub_self, List.range_succ, List.map_append, List.append_assoc]
  congr 1
  obtain ⟨m, hm⟩ : ∃ m, b.length - j = m + 1 := ⟨b.length - j - 1, by omega⟩
  rw [hm, List.replicate_succ, List.set_cons_zero, show b.length - (j + 1) = m by omega]
  rfl
theorem endK_no (rs b : List Int) (x : Int) (a : List Int) (j : Nat) (hj : j < b.length) (h : b[j]?.getD 0 ≠ x) : endK rs b x a (j + 1) = endK rs b x a j := by
  rw [← endK_set rs b x a j hj, beq_eq_false_iff_ne.2 h, Bool.false_and]
  unfold endK
  rw [List.set_append_right _ _ (by simp), List.length_map, List.length_range, Nat.sub_self]
  congr 1
  obtain ⟨m, hm⟩ : ∃ m, b.length - j = m + 1 := ⟨b.length - j - 1, by omega⟩
  rw [hm, List.replicate_succ, List.set_cons_zero]
theorem drop_at (a : List Int) (i : Nat) (h : i < a.length) : a.drop i = a[i]?.getD 0 :: a.drop (i + 1) := by rw [List.drop_eq_getElem_cons h]; simp [h]
theorem optI_ge (o : Option Nat) : decide (0 ≤ optI o) = o.isSome := by
  cases o with
  | none => rfl
  | some j => show decide (0 ≤ (j : Int)) = true; rw [decide_eq_true (by omega)]
theorem set_at {ps : List BRow} {i : Nat} {p : BRow} {k : Nat} (hk : k < ps.length) : (ps.set i p)[k]?.map Prod.snd = if k = i then some p.2 else ps[k]?.map Prod.snd := by
  rw [List.getElem?_set]
  by_cases h : i = k
  · rw [if_pos h, if_pos h.symm]; subst h; simp [hk]
  · rw [if_neg h, if_neg (Ne.symm h)]
theorem rows_all {qs : List BRow} {rs b a : List Int} (hl : qs.length = a.length) (h : ∀ k, k < a.length → qs[k]?.map Prod.snd = some (endL rs b (a.drop k))) : qs.map Prod.snd = endsAll rs b a := by
  apply List.ext_getElem?
  intro k
  unfold endsAll
  rw [List.getElem?_map, List.getElem?_map]
  rcases Nat.lt_or_ge k a.length with hk | hk
  · rw [h k hk, List.getElem?_range hk]; rfl
  · rw [List.getElem?_eq_none (by omega), List.getElem?_eq_none (by simpa using hk)]; rfl

def MadeB (rs : List (List Bool)) (w : World) (e : Ending) (w' : World) : Prop := ∃ v qs, e = .returned v ∧ BRowsP w' v qs ∧ qs.map Prod.snd = rs ∧ w.grownBy w' none

set_option maxRecDepth 100000 in
set_option maxHeartbeats 8000000 in
theorem endings_any (vr va vb : Value) (rs a b : List Int) (w : World) (hr : Ints w vr rs) (ha : RowOk w (va, a)) (hb : RowOk w (vb, b)) (hva : validP rs a = true) (hvb : validP rs b = true) :
    Calls Try.prog 63 #[vr, va, vb] w (MadeB (endsAll rs b a) w) := by
  have HR := Lib.hid hr; have HA := Lib.hid ha; have HB := Lib.hid hb; have HVB := Lib.hid hvb
  have hal := (validP_le hva).2.1
  have hbl := (validP_le hvb).2.1
  obtain ⟨⟨aa, ca, hva', -, -, hca⟩, -, -⟩ := ha
  simp only at hva'
  subst hva'
  obtain ⟨⟨ab, cb, hvb', -, -, hcb⟩, -, -⟩ := hb
  simp only at hvb'
  subst hvb'
  dsimp only at hca hcb
  have HCA := Lib.hid hca; have HCB := Lib.hid hcb
  clear hr hva hvb hca hcb
  go_enter Try.func63, Try.ntmps63
  go_wp2_with (at_make; refine make_brows rfl _ _ rfl a.length rfl rfl (by omega) ?_)
  intro w1 ho1 hg1
  have O1 := Lib.hid ho1; have G1 := Lib.hid hg1
  clear ho1 hg1
  have hw1 : ((a.length : Int) - 1) = ((a.length : Nat) : Int) - 1 := rfl
  have i0 : IntKind.i64.wrap ((a.length : Int) - 1) = (a.length : Int) - 1 := IntWalk.i64_in _ (by omega)
  go_wp2_with fail
  generalize hE : w.heap.size = E at O1 ⊢
  have HE := Lib.hid hE
  clear hE
  go_loopw [8] (fun i wr => ∃ (n : Nat) (qs : List BRow), i = .int .i64 ((n : Int) - 1) ∧ n ≤ a.length ∧ qs.length = a.length ∧ Hid (∀ k, n ≤ k → k < a.length → qs[k]?.map Prod.snd = some (endL rs b (a.drop k))) ∧ Hid (OwnBP wr E (.slice (some ⟨E, 0, none⟩) a.length a.length) qs) ∧ Hid (w.grownBy wr none)) (fun i _ => (intOf i + 1).toNat)
  case atStart => exact ⟨a.length, _, rfl, Nat.le_refl _, by simp, Lib.hid (by omega), O1, G1⟩
  case round =>
    obtain ⟨n, qs, rfl, hn, hql, hq, ho, hg⟩ := hrel
    have HQL := Lib.hid hql
    have hqle : a.length ≤ qs.length := by omega
    clear hql
    rename World => wk
    by_cases hlt : 0 < n
    · obtain ⟨i, rfl⟩ : ∃ i, n = i + 1 := ⟨n - 1, by omega⟩
      have hni : ((i + 1 : Nat) : Int) - 1 = (i : Int) := by omega
      rw [hni]
      have hia : i < a.length := by omega
      have g1 : (0 : Int) ≤ (i : Int) := by omega
      have g1' : (i : Int) < (a.length : Int) := by omega
      have HD := Lib.hid (drop_at a i hia)
      have hEw : E < wk.heap.size := (ho.out.fresh E rfl).2
      go_wp2_with (at_make; refine make_bool rfl _ _ rfl b.length rfl rfl (by omega) ?_)
      intro w2 ho2 hg2
      have O2 := Lib.hid ho2; have G2 := Lib.hid hg2
      have OE := Lib.hid (ho.out.same hg2)
      clear ho2 hg2
      have hc := (OE.out.cell i (by omega)).1
      have hfz := (OE.out.cell i (by omega)).2
      have hne : Hid (∀ q ∈ qs, q.1.ownBlock ≠ some wk.heap.size) := Lib.hid (fun q hq' e => by have := (ho.out.2 q hq').1.2.2 _ e; omega)
      have hEg : E ≠ wk.heap.size := by omega
      go_wp2_with fail
      have HEG := Lib.hid hEg
      generalize hgg : wk.heap.size = g at *
      have HGG := Lib.hid hgg
      clear hgg hEg hc hfz
      have WS : Hid (w2.grownBy (w2.setCell ⟨E, i, none⟩ (.slice (some ⟨g, 0, none⟩) b.length b.length)) (some E)) := Lib.hid (grown_set _ _ _)
      have OR : Hid (OwnB (w2.setCell ⟨E, i, none⟩ (.slice (some ⟨g, 0, none⟩) b.length b.length)) g (.slice (some ⟨g, 0, none⟩) b.length b.length) (endK rs b (a[i]?.getD 0) (a.drop (i + 1)) 0)) := Lib.hid (by
        rw [endK_zero]
        refine World.ownsRow.kept O2.out WS.out (.inr ?_)
        simp only [Value.ownBlock, ne_eq, Option.some.injEq]
        exact Ne.symm HEG.out)
      have CE : Hid ((w2.setCell ⟨E, i, none⟩ (.slice (some ⟨g, 0, none⟩) b.length b.length)).cell? ⟨E, i, none⟩ = some (.slice (some ⟨g, 0, none⟩) b.length b.length)) := Lib.hid (by
        have := (OE.out.stored i (.slice (some ⟨g, 0, none⟩) b.length b.length, List.replicate b.length false) O2.out.row (by intro j hj; simp only [Value.ownBlock, Option.some.injEq] at hj; rw [← hj]; exact Ne.symm HEG.out)).cell i (by rw [List.length_set]; omega)
        rw [this.1]; simp)
      have GW : Hid (w.grownBy (w2.setCell ⟨E, i, none⟩ (.slice (some ⟨g, 0, none⟩) b.length b.length)) none) := Lib.hid (grown_then (grown_trans hg.out G2.out) WS.out (fun k hk => by cases hk; exact .inl (Nat.le_of_eq HE.out)))
      have HWg : Hid (w.heap.size ≤ g) := Lib.hid (by have := hg.out.size; have := HGG.out; omega)
      generalize hW : w2.setCell ⟨E, i, none⟩ (.slice (some ⟨g, 0, none⟩) b.length b.length) = W at *
      have HWW := Lib.hid hW
      clear hW
      have hB3 : W.grownBy W (some g) := grown_refl _ _
      go_loopw [9, 28] (fun jj jx wr => ∃ j : Nat, jx = .int .i64 j ∧ j ≤ b.length ∧ Hid (OwnB wr g (.slice (some ⟨g, 0, none⟩) b.length b.length) (endK rs b (a[i]?.getD 0) (a.drop (i + 1)) j)) ∧ Hid (W.grownBy wr (some g))) (fun _ jx _ => b.length - (intOf jx).toNat)
      case atStart => exact ⟨0, rfl, Nat.zero_le _, OR, Lib.hid hB3⟩
      case round =>
        obtain ⟨j, rfl, hj, hoj, hgj⟩ := hrel
        rename World => wi
        have GI : Hid (w.grownBy wi none) := Lib.hid (grown_then GW.out hgj.out (fun k hk => by cases hk; exact .inl HWg.out))
        have ce := hgj.out.cell CE.out (by simp only [ne_eq, Option.some.injEq]; exact HEG.out)
        by_cases hlj : j < b.length
        · have k1 : (j : Int) < (b.length : Int) := by omega
          have cj := hoj.out.cell j (by rw [endK_len _ _ _ _ _ hj]; exact hlj)
          obtain ⟨cj1, cj2⟩ := cj
          obtain ⟨_, _, hv, _, _, hc⟩ := (HA.out.same GI.out).1
          simp only [Value.slice.injEq] at hv
          obtain ⟨rfl, -, -⟩ := hv
          obtain ⟨b1, o1, rfl, hx⟩ := Ints.at hc hia
          obtain ⟨_, _, hv, _, _, hc'⟩ := (HB.out.same GI.out).1
          simp only [Value.slice.injEq] at hv
          obtain ⟨rfl, -, -⟩ := hv
          obtain ⟨b2, o2, rfl, hy⟩ := Ints.at hc' hlj
          have KS := Lib.hid (endK_set rs b (a[i]?.getD 0) (a.drop (i + 1)) j hlj)
          have KN := Lib.hid (endK_no rs b (a[i]?.getD 0) (a.drop (i + 1)) j hlj)
          clear hc hc'
          generalize a[i]?.getD 0 = x at *
          generalize b[j]?.getD 0 = y at *
          generalize (endK rs b x (a.drop (i + 1)) j)[j]?.getD false = old at *
          by_cases hxy : y = x
          · have q1 : (y != x) = false := by simp [hxy]
            have KB : Hid ((y == x) = true) := Lib.hid (by simp [hxy])
            clear hxy
            have m1 : IntKind.i64.wrap ((a.length : Int) - 1) = (a.length : Int) - 1 := IntWalk.i64_in _ (by omega)
            have m2 : IntKind.i64.wrap ((b.length : Int) - 1) = (b.length : Int) - 1 := IntWalk.i64_in _ (by omega)
            by_cases hlast : i + 1 = a.length
            · have q2 : ((i : Int) == (a.length : Int) - 1) = true := by rw [beq_iff_eq]; omega
              have q3 : ((j : Int) == (b.length : Int) - 1) = endB rs b (a.drop (i + 1)) j := by
                unfold endB
                rw [if_pos (List.drop_eq_nil_of_le (by omega)), Bool.eq_iff_iff, beq_iff_eq, beq_iff_eq]; omega
              have HLA := Lib.hid hlast
              clear hlast
              go_wp2_with fail
              go_big_quiet (fail)
              go_wp2_with fail
              have S1 := Lib.hid ((hoj.out.kept (grown_drewN wi nq none) (by simp)).stored j (endB rs b (a.drop (i + 1)) j))
              go_roundw
              case rel => exact ⟨j + 1, by go_num, by omega, Lib.hid (by have := S1.out; rw [show endB rs b (a.drop (i + 1)) j = ((y == x) && endB rs b (a.drop (i + 1)) j) by rw [KB.out]; rfl, KS.out] at this; rw [KB.out, Bool.true_and] at this; exact this), Lib.hid (grown_trans (grown_trans hgj.out (grown_drewN _ _ _)) (grown_set _ _ _))⟩
              case measure => simp [intOf]; omega
            · have q2 : ((i : Int) == (a.length : Int) - 1) = false := by rw [beq_eq_false_iff_ne]; omega
              have q4 : IntKind.i64.wrap ((i : Int) + 1) = (i : Int) + 1 := IntWalk.i64_in _ (by omega)
              have q5 : IntKind.i64.wrap ((j : Int) + 1) = (j : Int) + 1 := IntWalk.i64_in _ (by omega)
              have q6 : (0 : Int) ≤ (i : Int) + 1 := by omega
              have q7 : ((i : Int) + 1).toNat = i + 1 := by omega
              have q8 : (i : Int) + 1 < (a.length : Int) := by omega
              have hi1 : i + 1 < qs.length := by omega
              have hn1 := (OE.out.cell (i + 1) hi1).1
              have hnb := (OE.out.2 _ (List.getElem_mem hi1)).1
              have hnd := hne.out _ (List.getElem_mem hi1)
              have hns := hq.out (i + 1) (Nat.le_refl _) (by omega)
              rw [List.getElem?_eq_getElem hi1, Option.map_some, Option.some.injEq] at hns
              have hEc := (OE.out.2 _ (List.getElem_mem hi1)).2
              have hgE : w2.grownBy W (some E) := WS.out
              have hEE : ∀ k, some E = some k → (qs[i + 1]).1.ownBlock ≠ some k := by rintro k ⟨⟩ e; exact hEc _ e rfl
              have hgg : ∀ k, some g = some k → (qs[i + 1]).1.ownBlock ≠ some k := by rintro k ⟨⟩; exact hnd
              have NB := Lib.hid ((hnb.kept hgE hEE).kept hgj.out hgg)
              have CN : Hid (W.cell? ⟨E, i + 1, none⟩ = some (qs[i + 1]).1) := Lib.hid (by
                have := (OE.out.stored i (.slice (some ⟨g, 0, none⟩) b.length b.length, List.replicate b.length false) O2.out.row (by intro j hj; simp only [Value.ownBlock, Option.some.injEq] at hj; rw [← hj]; exact Ne.symm HEG.out)).cell (i + 1) (by rw [List.length_set]; omega)
                rw [← HWW.out, this.1, List.getElem_set_ne (by omega)])
              have cn := hgj.out.cell CN.out (by simp only [ne_eq, Option.some.injEq]; exact HEG.out)
              have HNS := Lib.hid hns
              have HIA : Hid (a.drop (i + 1) ≠ []) := Lib.hid (by rw [ne_eq, List.drop_eq_nil_iff]; omega)
              clear hlast hn1 hnb hnd hns hEc hgE hEE hgg
              generalize qs[i + 1] = p at *
              obtain ⟨pv, pm⟩ := p
              have HE2 : Hid (pm.length = b.length) := Lib.hid (by rw [show pm = endL rs b (a.drop (i + 1)) from HNS.out, drop_at a (i + 1) (by omega), endL_len])
              dsimp only at cn
              have q9 : decide (0 ≤ optI (firstP rs b pm (j + 1))) = endB rs b (a.drop (i + 1)) j := by rw [optI_ge]; unfold endB; rw [if_neg HIA.out, show pm = endL rs b (a.drop (i + 1)) from HNS.out]
              go_wp2_with fail
              go_big_quiet (fail)
              go_wp2_with fail
              have D0 : Hid (Drew wi (wi.drewN nq).drew) := Lib.hid ((Drew.mk wi nq).trans ⟨1, rfl⟩)
              go_region_held3 (fun w' => w'.cell? ⟨E, i, none⟩ = some (.slice (some ⟨g, 0, none⟩) b.length b.length) ∧ w'.cell? ⟨E, i + 1, none⟩ = some pv ∧ w'.cell? ⟨g, j, none⟩ = some (cellOf w' ⟨g, j, none⟩) ∧ w'.frozen? ⟨g, j, none⟩ = false) (first | exact ⟨drew_cell D0.out ce, drew_cell D0.out cn, cell_of (drew_cell D0.out cj1), drew_free D0.out cj2⟩ | exact ⟨set_far HEG.out (drew_cell D0.out ce), set_far HEG.out (drew_cell D0.out cn), set_own (drew_cell D0.out cj1), set_free (drew_free D0.out cj2)⟩) (first
                | (refine step_call 70 64 _ _ _ _ _ Try.f64 _ Try.func64 (by kernel_rfl) rfl [vr, .slice (some ⟨b2, o2, none⟩) b.length cb, .int .i64 ((j : Int) + 1), pv] (by kernel_rfl) _ (firstplace_any vr _ pv rs b pm (j + 1) _ (HR.out.same (grown_trans GI.out (D0.out.grown none))) (HB.out.same (grown_trans GI.out (D0.out.grown none))) (NB.out.1.same (D0.out.grown none)) HE2.out HVB.out hlj) ?_; rintro e w70 ⟨rfl, hd⟩; refine ⟨_, rfl, ?_⟩; replace D0 : Hid (Drew wi w70) := Lib.hid (D0.out.trans hd); clear hd))
              go_wp2_with fail
              have S1 := Lib.hid ((hoj.out.kept (D0.out.grown none) (by simp)).stored j (endB rs b (a.drop (i + 1)) j))
              go_roundw
              case rel => exact ⟨j + 1, by go_num, by omega, Lib.hid (by have := S1.out; rw [show endB rs b (a.drop (i + 1)) j = ((y == x) && endB rs b (a.drop (i + 1)) j) by rw [KB.out]; rfl, KS.out] at this; rw [KB.out, Bool.true_and] at this; exact this), Lib.hid (grown_trans (grown_trans hgj.out (D0.out.grown _)) (grown_set _ _ _))⟩
              case measure => simp [intOf]; omega
          · have q1 : (y != x) = true := by simpa using hxy
            have HXY := Lib.hid hxy
            clear hxy
            go_wp2_with fail
            go_big_quiet (fail)
            go_wp2_with fail
            go_roundw
            case rel => exact ⟨j + 1, by go_num, by omega, Lib.hid (by rw [KN.out HXY.out]; exact hoj.out.kept (grown_drewN wi nq none) (by simp)), Lib.hid (grown_trans hgj.out (grown_drewN _ _ _))⟩
            case measure => simp [intOf]; omega
        · have k1 : ¬ (j : Int) < (b.length : Int) := by omega
          have hjb : j = b.length := by omega
          have OX : Hid (OwnB wi g (.slice (some ⟨g, 0, none⟩) b.length b.length) (endL rs b (a.drop i))) := Lib.hid (by have := hoj.out; rw [hjb, endK_all, ← HD.out] at this; exact this)
          have OQ : Hid (OwnBP wi E (.slice (some ⟨E, 0, none⟩) a.length a.length) (qs.set i (.slice (some ⟨g, 0, none⟩) b.length b.length, endL rs b (a.drop i)))) := Lib.hid (OE.out.replaced (by have := hgj.out; rw [← HWW.out] at this; exact this) HEG.out OX.out.row rfl hne.out)
          have QS : Hid (∀ k, i ≤ k → k < a.length → (qs.set i (Value.slice (some ⟨g, 0, none⟩) b.length b.length, endL rs b (a.drop i)))[k]?.map Prod.snd = some (endL rs b (a.drop k))) := Lib.hid (fun k h1 h2 => by
            rw [set_at (by omega)]
            by_cases hki : k = i
            · rw [if_pos hki, hki]
            · rw [if_neg hki]; exact hq.out k (by omega) h2)
          clear hjb
          go_wp2_with fail
          go_roundw
          case rel => exact ⟨i, _, by go_num, by omega, by simpa using HQL.out, QS, OQ, GI⟩
          case measure => simp [intOf]
    · have g1 : ¬ (0 : Int) ≤ (n : Int) - 1 := by omega
      have hn0 : n = 0 := by omega
      have HN0 := Lib.hid hn0
      clear hn0
      go_wp2_with fail
      go_ret
      exact ⟨_, qs, rfl, ho.out.rows, rows_all HQL.out (fun k hk => hq.out k (by rw [HN0.out]; omega) hk), hg.out⟩

end Go.Proofs.Ytaenkbcclgpphaa
