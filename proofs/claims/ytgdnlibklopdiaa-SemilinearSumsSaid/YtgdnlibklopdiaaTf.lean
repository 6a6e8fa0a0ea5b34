/- add, clone.Lists. -/
import Derived.Test.YtgdnlibklopdiaaTe
namespace Go.Proofs.Ytgdnlibklopdiaa
open Go.RowKit
set_option linter.unusedVariables false

def sumL (a b : List Int) : List Int := List.zipWith (fun x y => x + y) a b
theorem sumL_len {n : Nat} {a b : List Int} (ha : a.length = n) (hb : b.length = n) : (sumL a b).length = n := by simp [sumL, ha, hb]

set_option maxRecDepth 100000 in
set_option maxHeartbeats 1000000 in
theorem add_any (va vb : Value) (a b : List Int) (w : World) (ha : RowOk w (va, a)) (hb : RowOk w (vb, b)) (hl : b.length = a.length) (hm : a.length ≤ 1000) (ba : ∀ x ∈ a, 0 ≤ x ∧ x ≤ 1000000) (bb : ∀ x ∈ b, 0 ≤ x ∧ x ≤ 1000000) :
    Calls Try.prog 77 #[va, vb] w (Made (sumL a b) w) := by
  have HA := Lib.hid ha; have HB := Lib.hid hb; have HL := Lib.hid hl; have BA := Lib.hid ba; have BB := Lib.hid bb
  obtain ⟨⟨aa, ca, hva, -, -, -⟩, -, -⟩ := ha
  obtain ⟨⟨ab, cb, hvb, -, -, -⟩, -, -⟩ := hb
  dsimp only at hva hvb
  subst hva hvb
  clear hl ba bb
  go_enter Try.func77, Try.ntmps77
  go_wp2_with (at_make; refine make_int rfl _ _ rfl a.length rfl rfl (by omega) ?_)
  intro w1 ho1 hg1
  have O1 := Lib.hid ho1; have G1 := Lib.hid hg1
  clear ho1 hg1
  go_wp2_with fail
  go_loopw [13] (fun i wr => ∃ (k : Nat) (zs : List Int), i = .int .i64 k ∧ k ≤ a.length ∧ Hid (zs.length = a.length ∧ zs.take k = (sumL a b).take k) ∧ Hid (OwnI wr w.heap.size (.slice (some ⟨w.heap.size, 0, none⟩) a.length a.length) zs) ∧ Hid (w.grownBy wr none)) (fun i _ => a.length - (intOf i).toNat)
  case atStart => exact ⟨0, _, rfl, Nat.zero_le _, Lib.hid ⟨by simp, by simp⟩, O1, G1⟩
  case round =>
    obtain ⟨k, zs, rfl, hk, hz, ho, hg⟩ := hrel
    by_cases hlt : k < a.length
    · have hlt' : k < b.length := by rw [HL.out]; exact hlt
      obtain ⟨⟨_, _, hv, _, _, hc⟩, -, -⟩ := HA.out.same hg.out
      simp only [Value.slice.injEq] at hv
      obtain ⟨rfl, -, -⟩ := hv
      obtain ⟨⟨_, _, hv, _, _, hc'⟩, -, -⟩ := HB.out.same hg.out
      simp only [Value.slice.injEq] at hv
      obtain ⟨rfl, -, -⟩ := hv
      obtain ⟨b1, o1, rfl, hx⟩ := Ints.at hc hlt
      obtain ⟨b2, o2, rfl, hx'⟩ := Ints.at hc' hlt'
      have hbx := mem_at BA.out hlt
      have hby := mem_at BB.out hlt'
      have HZ : Hid ((sumL a b)[k]?.getD 0 = a[k]?.getD 0 + b[k]?.getD 0) := Lib.hid (zip_at _ a b k hlt hlt')
      obtain ⟨hcell, hfr⟩ := ho.out.cell k (by have := hz.out.1; omega)
      have h1 : (k : Int) < (a.length : Int) := by omega
      have h2 : (k : Int) < (b.length : Int) := by omega
      clear hc hc'
      generalize a[k]?.getD 0 = x at *
      generalize b[k]?.getD 0 = y at *
      go_wp2_with fail
      go_roundw
      case rel => exact ⟨k + 1, zs.set k (x + y), by go_num, by omega, Lib.hid ⟨by rw [List.length_set]; exact hz.out.1, by rw [← HZ.out]; exact set_take zs _ k (by rw [hz.out.1, sumL_len rfl HL.out]) (by rw [sumL_len rfl HL.out]; exact hlt) hz.out.2⟩, Lib.hid (ho.out.stored k _), Lib.hid (grown_then hg.out (grown_set _ _ _) (by rintro j ⟨⟩; exact .inl (Nat.le_refl _)))⟩
      case measure => simp [intOf]; omega
    · have hq : zs = sumL a b := by
        have h3 := hz.out.1
        have h4 := hz.out.2
        rwa [List.take_of_length_le (by omega), List.take_of_length_le (by rw [sumL_len rfl HL.out]; omega)] at h4
      have h1 : ¬ (k : Int) < (a.length : Int) := by omega
      go_wp2_with fail
      go_ret
      exact ⟨_, rfl, hq ▸ ho.out, hg.out⟩

theorem make_rows {ops : Array Oper} {rest : List Oper} {o : Oper} {a : Act} {w : World} {Q : Exit → Act → World → Prop} (hgd : o.guard = none) (l c : Operand)
    (hop : o.op = Op.makeSlice 23 l c) (n : Nat) (hl : a.eval l = .int .i64 (n : Int)) (hc : a.eval c = .int .i64 (n : Int)) (hn : n ≤ 1000000000000)
    (h : ∀ w', OwnP w' w.heap.size (.slice (some ⟨w.heap.size, 0, none⟩) n n) (List.replicate n (.slice none 0 0, [])) → w.grownBy w' none → wpList Try.prog ops Q rest (a.put o.dst (.slice (some ⟨w.heap.size, 0, none⟩) n n)) w') :
    wpList Try.prog ops Q (o :: rest) a w := by
  obtain ⟨i, hi, hz0, hz1, hz2⟩ := info_parts info_row
  refine wpList_make_full w hgd l c 23 hop w.heap.size 22 i (.slice none 0 0) 1 Try.underlying23 hi hz0 hz1 .i64 .i64 n n n hl hc rfl rfl (by rw [hz2]; omega) (by unfold maxLen; omega) (Nat.le_refl _) ?_
  intro w' h1 h2
  refine h w' ⟨?_, ?_⟩ h2
  · rw [List.length_replicate, List.map_replicate]
    rw [Nat.mul_one] at h1
    simpa [Value.cells, toList_madeCells_one] using h1
  · intro p hp
    rw [List.eq_of_mem_replicate hp]
    exact ⟨⟨⟨none, 0, rfl, Nat.zero_le _, by simp, .inl rfl⟩, Good.nil, by intro g hg; simp [Value.ownBlock] at hg⟩, by intro g hg; simp [Value.ownBlock] at hg⟩
theorem OwnP.len {w : World} {base : Nat} {a : Option Addr} {n cap : Nat} {ps : List Row} (h : OwnP w base (.slice a n cap) ps) : ps.length = n := by
  rcases h.1.2 with ⟨h', h0⟩ | ⟨g', cap', cur, h', _⟩
  · simp only [Value.slice.injEq] at h'
    omega
  · simp only [Value.slice.injEq] at h'
    exact h'.2.1.symm
theorem OwnP.stored {w : World} {base g n cap : Nat} {ps : List Row} (h : OwnP w base (.slice (some ⟨g, 0, none⟩) n cap) ps) (k : Nat) (p : Row) (hp : RowOk w p) (hd : ∀ j, p.1.ownBlock = some j → j ≠ g) :
    OwnP (w.setCell ⟨g, k, none⟩ p.1) base (.slice (some ⟨g, 0, none⟩) n cap) (ps.set k p) := by
  have hn := h.len
  subst hn
  have h1 := (World.ownsRow.stored h.1 k p.1).1
  refine ⟨by rw [List.length_set, List.map_set]; exact h1, fun q hq => ?_⟩
  have hgr : w.grownBy (w.setCell ⟨g, k, none⟩ p.1) (some g) := grown_set w _ _
  rcases List.mem_or_eq_of_mem_set hq with hq | rfl
  · obtain ⟨h2, h3⟩ := h.2 q hq
    exact ⟨h2.kept hgr (by rintro j ⟨⟩ e; exact h3 _ e rfl), h3⟩
  · exact ⟨hp.kept hgr (by rintro j ⟨⟩ e; exact hd _ e rfl), fun j hj e => by simp only [Value.ownBlock, Option.some.injEq] at e; exact hd j hj e.symm⟩
theorem OwnP.cell {w : World} {base g n cap : Nat} {ps : List Row} (h : OwnP w base (.slice (some ⟨g, 0, none⟩) n cap) ps) (k : Nat) (hk : k < ps.length) :
    w.cell? ⟨g, k, none⟩ = some (ps[k]).1 ∧ w.frozen? ⟨g, k, none⟩ = false := by
  have hn := h.len
  subst hn
  refine ⟨?_, World.ownsRow.frozenAt h.1 k⟩
  rw [World.ownsRow.cellAt h.1 k (by omega)]
  simp [hk]

/-- Rows that are new. -/
def NewR (base : Nat) (v : Value) (qs : List Row) : Prop := (∀ g, v.ownBlock = some g → base ≤ g) ∧ ∀ q ∈ qs, ∀ g, q.1.ownBlock = some g → base ≤ g
def GotN (rs : List (List Int)) (w : World) (e : Ending) (w' : World) : Prop := ∃ v qs, e = .returned v ∧ RowsP w' v qs ∧ Good v ∧ qs.map Prod.snd = rs ∧ w.grownBy w' none ∧ NewR w.heap.size v qs
theorem RowsP.keptR {w w' : World} {v : Value} {ps : List Row} {row : Option Nat} (h : RowsP w v ps) (g : w.grownBy w' row) (hv : ∀ k, row = some k → v.ownBlock ≠ some k) (hr : ∀ p ∈ ps, ∀ k, row = some k → p.1.ownBlock ≠ some k) : RowsP w' v ps := by
  obtain ⟨a, cap, rfl, hl, hc, hp⟩ := h
  refine ⟨a, cap, rfl, hl, ?_, fun p hp' => (hp p hp').kept g (hr p hp')⟩
  rcases hc with hc | ⟨b, off, rfl, hc⟩
  · exact .inl hc
  · exact .inr ⟨b, off, rfl, fun i hi => g.cell (hc i hi) (by intro e; exact hv b e.symm rfl)⟩

set_option maxRecDepth 100000 in
set_option maxHeartbeats 1000000 in
theorem each_any (v : Value) (qs : List Row) (w : World) (h : RowsP w v qs) (hl : qs.length ≤ 1000) (hr : ∀ q ∈ qs, 1 ≤ q.2.length ∧ q.2.length ≤ 1000) :
    Calls Try.prog 105 #[v, .func (.func 72) #[] #[]] w (GotN (qs.map Prod.snd) w) := by
  have H := Lib.hid h; have HR := Lib.hid hr
  obtain ⟨a, cap, rfl, -, -, -⟩ := h
  clear hr
  by_cases h0 : qs.length = 0
  · have e0 : qs = [] := List.eq_nil_of_length_eq_zero h0
    subst e0
    clear hl h0
    go_enter Try.func105, Try.ntmps105
    go_wp2_with fail
    go_ret
    exact ⟨_, [], rfl, ⟨none, 0, rfl, Nat.zero_le _, .inl rfl, by simp⟩, Good.nil, rfl, grown_refl _ _, by intro g h; simp [Value.ownBlock] at h, by simp⟩
  · have h1 : ¬ (qs.length : Int) = 0 := by omega
    go_enter Try.func105, Try.ntmps105
    go_wp2_with (at_make; refine make_rows rfl _ _ rfl qs.length rfl rfl (by omega) ?_)
    intro w1 ho1 hg1
    have O1 := Lib.hid ho1; have G1 := Lib.hid hg1
    clear ho1 hg1
    go_wp2_with fail
    go_loopw [16] (fun i wr => ∃ (k : Nat) (zs : List Row), i = .int .i64 k ∧ k ≤ qs.length ∧ Hid (zs.length = qs.length ∧ (zs.take k).map Prod.snd = (qs.take k).map Prod.snd) ∧ Hid (∀ z ∈ zs, ∀ g, z.1.ownBlock = some g → w.heap.size ≤ g) ∧ Hid (OwnP wr w.heap.size (.slice (some ⟨w.heap.size, 0, none⟩) qs.length qs.length) zs) ∧ Hid (w.grownBy wr none)) (fun i _ => qs.length - (intOf i).toNat)
    case atStart => exact ⟨0, _, rfl, Nat.zero_le _, Lib.hid ⟨by simp, by simp⟩, Lib.hid (by intro z hz g h; rw [List.eq_of_mem_replicate hz] at h; simp [Value.ownBlock] at h), O1, G1⟩
    case round =>
      obtain ⟨k, zs, rfl, hk, hz, hnw, ho, hg⟩ := hrel
      rename World => wk
      by_cases hlt : k < qs.length
      · obtain ⟨_, _, hv, _, hc, hrow⟩ := H.out.same hg.out
        simp only [Value.slice.injEq] at hv
        obtain ⟨rfl, -, -⟩ := hv
        obtain ⟨b1, o1, rfl, hx⟩ := RowsP.at hc hlt
        have HRK := Lib.hid (hrow _ (List.getElem_mem hlt))
        have HLK := Lib.hid (HR.out _ (List.getElem_mem hlt))
        have HSN := Lib.hid (snd_take qs k hlt)
        have h2 : (k : Int) < (qs.length : Int) := by omega
        clear hc hrow
        generalize qs[k] = q at *
        obtain ⟨qv, p⟩ := q
        obtain ⟨⟨ak, ck, hvk, -, -, -⟩, -, -⟩ := HRK.out
        dsimp only at hx hvk HLK HSN
        subst hvk
        go_wp2_with fail
        refine (cloneInts_any _ p _ HRK.out HLK.out.1 (by have := HLK.out.2; omega)).mono ?_
        rintro e w3 ⟨v3, rfl, ho3, hg3⟩
        obtain ⟨a3, c3, rfl⟩ := ownI_open ho3
        have R3 := Lib.hid (ho3.row HRK.out.bdd)
        have F3 : Hid (∀ j, (Value.slice a3 p.length c3).ownBlock = some j → j ≠ w.heap.size) := Lib.hid (fun j hj e => by
          have h3 := (ho3.fresh j hj).1
          have h4 : w.heap.size < wk.heap.size := (ho.out.fresh _ rfl).2
          omega)
        have N3 : Hid (∀ j, (Value.slice a3 p.length c3).ownBlock = some j → w.heap.size ≤ j) := Lib.hid (fun j hj => Nat.le_trans hg.out.size (ho3.fresh j hj).1)
        have O3 := Lib.hid (ho.out.same hg3); have G3 := Lib.hid (grown_trans hg.out hg3)
        obtain ⟨hcell, hfr⟩ := O3.out.cell k (by rw [hz.out.1]; exact hlt)
        clear ho3 hg3
        go_wp2_with fail
        go_roundw
        case rel => exact ⟨k + 1, zs.set k (.slice a3 p.length c3, p), by go_num, by omega, Lib.hid ⟨by rw [List.length_set]; exact hz.out.1, by
          rw [HSN.out, ← hz.out.2]
          have hkz : k < zs.length := by rw [hz.out.1]; exact hlt
          rw [List.take_succ_eq_append_getElem (by rw [List.length_set]; exact hkz), List.map_append, List.take_set_of_le (by omega)]
          simp⟩, Lib.hid (fun z hz' g hg' => by
          rcases List.mem_or_eq_of_mem_set hz' with h | rfl
          · exact hnw.out z h g hg'
          · exact N3.out g hg'), Lib.hid (O3.out.stored k (.slice a3 p.length c3, p) R3.out F3.out), Lib.hid (grown_then G3.out (grown_set _ _ _) (by rintro j ⟨⟩; exact .inl (Nat.le_refl _)))⟩
        case measure => simp [intOf]; omega
      · have h2 : ¬ (k : Int) < (qs.length : Int) := by omega
        have hq : zs.map Prod.snd = qs.map Prod.snd := by
          have h3 := hz.out.1
          have h4 := hz.out.2
          rwa [List.take_of_length_le (by omega), List.take_of_length_le (by omega)] at h4
        have HQ := Lib.hid hq
        clear hq
        go_wp2_with fail
        go_ret
        exact ⟨_, zs, rfl, ho.out.rows, ho.out.good, HQ.out, hg.out, fun g h => (ho.out.fresh g h).1, hnw.out⟩
theorem lists_any (v : Value) (qs : List Row) (w : World) (h : RowsP w v qs) (hl : qs.length ≤ 1000) (hr : ∀ q ∈ qs, 1 ≤ q.2.length ∧ q.2.length ≤ 1000) :
    Calls Try.prog 97 #[v] w (GotN (qs.map Prod.snd) w) := by
  have H := Lib.hid (each_any v qs w h hl hr)
  obtain ⟨a, cap, rfl, -, -, -⟩ := h
  clear hr hl
  go_enter Try.func97, Try.ntmps97
  go_wp2_with fail
  refine H.out.mono ?_
  rintro e w1 ⟨v1, q1, rfl, hr1, hg1, hq1, hw1, hn1⟩
  have N1 := Lib.hid hn1; have R1 := Lib.hid hr1; have GD := Lib.hid hg1; have Q1 := Lib.hid hq1; have G1 := Lib.hid hw1
  clear hr1 hg1 hq1 hw1 H hn1
  go_wp2_with fail
  go_ret
  exact ⟨_, q1, rfl, R1.out, GD.out, Q1.out, G1.out, N1.out⟩

end Go.Proofs.Ytgdnlibklopdiaa
