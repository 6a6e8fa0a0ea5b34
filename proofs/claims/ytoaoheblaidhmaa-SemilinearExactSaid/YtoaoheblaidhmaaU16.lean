/- Texts Tf, Tg in one. -/
import Derived.Test.YtoaoheblaidhmaaU15
import Derived.Laws.ResultCell
import Derived.Deep.RegionHeld3
import Derived.Laws.Rows
namespace Go.Proofs.Ytoaoheblaidhmaa
open Go.RowKit
set_option linter.unusedVariables false

def sumL (a b : List Int) : List Int := List.zipWith (fun x y => x + y) a b
theorem sumL_len {n : Nat} {a b : List Int} (ha : a.length = n) (hb : b.length = n) : (sumL a b).length = n := by simp [sumL, ha, hb]

set_option maxRecDepth 100000 in
set_option maxHeartbeats 1000000 in
theorem add_any (va vb : Value) (a b : List Int) (w : World) (ha : RowOk w (va, a)) (hb : RowOk w (vb, b)) (hl : b.length = a.length) (hm : a.length ≤ 1000) (ba : ∀ x ∈ a, 0 ≤ x ∧ x ≤ 1000000) (bb : ∀ x ∈ b, 0 ≤ x ∧ x ≤ 1000000) :
    Calls Try.prog 48 #[va, vb] w (Made (sumL a b) w) := by
  have HA := Lib.hid ha; have HB := Lib.hid hb; have HL := Lib.hid hl; have BA := Lib.hid ba; have BB := Lib.hid bb
  obtain ⟨⟨aa, ca, hva, -, -, -⟩, -, -⟩ := ha
  obtain ⟨⟨ab, cb, hvb, -, -, -⟩, -, -⟩ := hb
  dsimp only at hva hvb
  subst hva hvb
  clear hl ba bb
  go_enter Try.func48, Try.ntmps48
  go_wp2_with (at_make; refine make_int rfl _ _ rfl a.length rfl rfl (by omega) ?_)
  intro w1 ho1 hg1
  have O1 := Lib.hid ho1; have G1 := Lib.hid hg1
  clear ho1 hg1
  go_wp2_with fail
  go_loopw [13] (fun i wr => ∃ (k : Nat) (zs : List Int), i = .int .i64 k ∧ k ≤ a.length ∧ Hid (zs.length = a.length ∧ zs.take k = (sumL a b).take k) ∧ Hid (OwnI wr w.heap.size (.slice (some ⟨w.heap.size, 0, none⟩) a.length a.length) zs) ∧ Hid (w.grownBy wr none)) (fun i _ => a.length - (intOf i).toNat)
  case atStart => exact ⟨0, _, rfl, Nat.zero_le _, Lib.hid ⟨by simp, by simp⟩, O1, G1⟩
  case round =>
    obtain ⟨k, zs, rfl, hk, hz, ho, hg⟩ := hrel
    by_cases hlt : k < a.length
    · have hlt' : k < b.length := by rw [HL.out]; exact hlt
      obtain ⟨⟨_, _, hv, _, _, hc⟩, -, -⟩ := HA.out.same hg.out
      simp only [Value.slice.injEq] at hv
      obtain ⟨rfl, -, -⟩ := hv
      obtain ⟨⟨_, _, hv, _, _, hc'⟩, -, -⟩ := HB.out.same hg.out
      simp only [Value.slice.injEq] at hv
      obtain ⟨rfl, -, -⟩ := hv
      obtain ⟨b1, o1, rfl, hx⟩ := Ints.at hc hlt
      obtain ⟨b2, o2, rfl, hx'⟩ := Ints.at hc' hlt'
      have hbx := mem_at BA.out hlt
      have hby := mem_at BB.out hlt'
      have HZ : Hid ((sumL a b)[k]?.getD 0 = a[k]?.getD 0 + b[k]?.getD 0) := Lib.hid (zip_at _ a b k hlt hlt')
      obtain ⟨hcell, hfr⟩ := ho.out.cell k (by have := hz.out.1; omega)
      have h1 : (k : Int) < (a.length : Int) := by omega
      have h2 : (k : Int) < (b.length : Int) := by omega
      clear hc hc'
      generalize a[k]?.getD 0 = x at *
      generalize b[k]?.getD 0 = y at *
      go_wp2_with fail
      go_roundw
      case rel => exact ⟨k + 1, zs.set k (x + y), by go_num, by omega, Lib.hid ⟨by rw [List.length_set]; exact hz.out.1, by rw [← HZ.out]; exact set_take zs _ k (by rw [hz.out.1, sumL_len rfl HL.out]) (by rw [sumL_len rfl HL.out]; exact hlt) hz.out.2⟩, Lib.hid (ho.out.stored k _), Lib.hid (grown_then hg.out (grown_set _ _ _) (by rintro j ⟨⟩; exact .inl (Nat.le_refl _)))⟩
      case measure => simp [intOf]; omega
    · have hq : zs = sumL a b := by
        have h3 := hz.out.1
        have h4 := hz.out.2
        rwa [List.take_of_length_le (by omega), List.take_of_length_le (by rw [sumL_len rfl HL.out]; omega)] at h4
      have h1 : ¬ (k : Int) < (a.length : Int) := by omega
      go_wp2_with fail
      go_ret
      exact ⟨_, rfl, hq ▸ ho.out, hg.out⟩

theorem make_rows {ops : Array Oper} {rest : List Oper} {o : Oper} {a : Act} {w : World} {Q : Exit → Act → World → Prop} (hgd : o.guard = none) (l c : Operand)
    (hop : o.op = Op.makeSlice 24 l c) (n : Nat) (hl : a.eval l = .int .i64 (n : Int)) (hc : a.eval c = .int .i64 (n : Int)) (hn : n ≤ 1000000000000)
    (h : ∀ w', OwnP w' w.heap.size (.slice (some ⟨w.heap.size, 0, none⟩) n n) (List.replicate n (.slice none 0 0, [])) → w.grownBy w' none → wpList Try.prog ops Q rest (a.put o.dst (.slice (some ⟨w.heap.size, 0, none⟩) n n)) w') :
    wpList Try.prog ops Q (o :: rest) a w := by
  obtain ⟨i, hi, hz0, hz1, hz2⟩ := info_parts info_row
  refine wpList_make_full w hgd l c 24 hop w.heap.size 22 i (.slice none 0 0) 1 Try.underlying24 hi hz0 hz1 .i64 .i64 n n n hl hc rfl rfl (by rw [hz2]; omega) (by unfold maxLen; omega) (Nat.le_refl _) ?_
  intro w' h1 h2
  refine h w' ⟨?_, ?_⟩ h2
  · rw [List.length_replicate, List.map_replicate]
    rw [Nat.mul_one] at h1
    simpa [Value.cells, toList_madeCells_one] using h1
  · intro p hp
    rw [List.eq_of_mem_replicate hp]
    exact ⟨⟨⟨none, 0, rfl, Nat.zero_le _, by simp, .inl rfl⟩, Good.nil, by intro g hg; simp [Value.ownBlock] at hg⟩, by intro g hg; simp [Value.ownBlock] at hg⟩
theorem OwnP.len {w : World} {base : Nat} {a : Option Addr} {n cap : Nat} {ps : List Row} (h : OwnP w base (.slice a n cap) ps) : ps.length = n := by
  rcases h.1.2 with ⟨h', h0⟩ | ⟨g', cap', cur, h', _⟩
  · simp only [Value.slice.injEq] at h'
    omega
  · simp only [Value.slice.injEq] at h'
    exact h'.2.1.symm
theorem OwnP.stored {w : World} {base g n cap : Nat} {ps : List Row} (h : OwnP w base (.slice (some ⟨g, 0, none⟩) n cap) ps) (k : Nat) (p : Row) (hp : RowOk w p) (hd : ∀ j, p.1.ownBlock = some j → j ≠ g) :
    OwnP (w.setCell ⟨g, k, none⟩ p.1) base (.slice (some ⟨g, 0, none⟩) n cap) (ps.set k p) := by
  have hn := h.len
  subst hn
  have h1 := (World.ownsRow.stored h.1 k p.1).1
  refine ⟨by rw [List.length_set, List.map_set]; exact h1, fun q hq => ?_⟩
  have hgr : w.grownBy (w.setCell ⟨g, k, none⟩ p.1) (some g) := grown_set w _ _
  rcases List.mem_or_eq_of_mem_set hq with hq | rfl
  · obtain ⟨h2, h3⟩ := h.2 q hq
    exact ⟨h2.kept hgr (by rintro j ⟨⟩ e; exact h3 _ e rfl), h3⟩
  · exact ⟨hp.kept hgr (by rintro j ⟨⟩ e; exact hd _ e rfl), fun j hj e => by simp only [Value.ownBlock, Option.some.injEq] at e; exact hd j hj e.symm⟩
theorem OwnP.cell {w : World} {base g n cap : Nat} {ps : List Row} (h : OwnP w base (.slice (some ⟨g, 0, none⟩) n cap) ps) (k : Nat) (hk : k < ps.length) :
    w.cell? ⟨g, k, none⟩ = some (ps[k]).1 ∧ w.frozen? ⟨g, k, none⟩ = false := by
  have hn := h.len
  subst hn
  refine ⟨?_, World.ownsRow.frozenAt h.1 k⟩
  rw [World.ownsRow.cellAt h.1 k (by omega)]
  simp [hk]

/-- Rows that are new. -/
def NewR (base : Nat) (v : Value) (qs : List Row) : Prop := (∀ g, v.ownBlock = some g → base ≤ g) ∧ ∀ q ∈ qs, ∀ g, q.1.ownBlock = some g → base ≤ g
def GotN (rs : List (List Int)) (w : World) (e : Ending) (w' : World) : Prop := ∃ v qs, e = .returned v ∧ RowsP w' v qs ∧ Good v ∧ qs.map Prod.snd = rs ∧ w.grownBy w' none ∧ NewR w.heap.size v qs
theorem RowsP.keptR {w w' : World} {v : Value} {ps : List Row} {row : Option Nat} (h : RowsP w v ps) (g : w.grownBy w' row) (hv : ∀ k, row = some k → v.ownBlock ≠ some k) (hr : ∀ p ∈ ps, ∀ k, row = some k → p.1.ownBlock ≠ some k) : RowsP w' v ps := by
  obtain ⟨a, cap, rfl, hl, hc, hp⟩ := h
  refine ⟨a, cap, rfl, hl, ?_, fun p hp' => (hp p hp').kept g (hr p hp')⟩
  rcases hc with hc | ⟨b, off, rfl, hc⟩
  · exact .inl hc
  · exact .inr ⟨b, off, rfl, fun i hi => g.cell (hc i hi) (by intro e; exact hv b e.symm rfl)⟩

set_option maxRecDepth 100000 in
set_option maxHeartbeats 1000000 in
theorem each_any (v : Value) (qs : List Row) (w : World) (h : RowsP w v qs) (hl : qs.length ≤ 1000) (hr : ∀ q ∈ qs, 1 ≤ q.2.length ∧ q.2.length ≤ 1000) :
    Calls Try.prog 74 #[v, .func (.func 43) #[] #[]] w (GotN (qs.map Prod.snd) w) := by
  have H := Lib.hid h; have HR := Lib.hid hr
  obtain ⟨a, cap, rfl, -, -, -⟩ := h
  clear hr
  by_cases h0 : qs.length = 0
  · have e0 : qs = [] := List.eq_nil_of_length_eq_zero h0
    subst e0
    clear hl h0
    go_enter Try.func74, Try.ntmps74
    go_wp2_with fail
    go_ret
    exact ⟨_, [], rfl, ⟨none, 0, rfl, Nat.zero_le _, .inl rfl, by simp⟩, Good.nil, rfl, grown_refl _ _, by intro g h; simp [Value.ownBlock] at h, by simp⟩
  · have h1 : ¬ (qs.length : Int) = 0 := by omega
    go_enter Try.func74, Try.ntmps74
    go_wp2_with (at_make; refine make_rows rfl _ _ rfl qs.length rfl rfl (by omega) ?_)
    intro w1 ho1 hg1
    have O1 := Lib.hid ho1; have G1 := Lib.hid hg1
    clear ho1 hg1
    go_wp2_with fail
    go_loopw [16] (fun i wr => ∃ (k : Nat) (zs : List Row), i = .int .i64 k ∧ k ≤ qs.length ∧ Hid (zs.length = qs.length ∧ (zs.take k).map Prod.snd = (qs.take k).map Prod.snd) ∧ Hid (∀ z ∈ zs, ∀ g, z.1.ownBlock = some g → w.heap.size ≤ g) ∧ Hid (OwnP wr w.heap.size (.slice (some ⟨w.heap.size, 0, none⟩) qs.length qs.length) zs) ∧ Hid (w.grownBy wr none)) (fun i _ => qs.length - (intOf i).toNat)
    case atStart => exact ⟨0, _, rfl, Nat.zero_le _, Lib.hid ⟨by simp, by simp⟩, Lib.hid (by intro z hz g h; rw [List.eq_of_mem_replicate hz] at h; simp [Value.ownBlock] at h), O1, G1⟩
    case round =>
      obtain ⟨k, zs, rfl, hk, hz, hnw, ho, hg⟩ := hrel
      rename World => wk
      by_cases hlt : k < qs.length
      · obtain ⟨_, _, hv, _, hc, hrow⟩ := H.out.same hg.out
        simp only [Value.slice.injEq] at hv
        obtain ⟨rfl, -, -⟩ := hv
        obtain ⟨b1, o1, rfl, hx⟩ := RowsP.at hc hlt
        have HRK := Lib.hid (hrow _ (List.getElem_mem hlt))
        have HLK := Lib.hid (HR.out _ (List.getElem_mem hlt))
        have HSN := Lib.hid (snd_take qs k hlt)
        have h2 : (k : Int) < (qs.length : Int) := by omega
        clear hc hrow
        generalize qs[k] = q at *
        obtain ⟨qv, p⟩ := q
        obtain ⟨⟨ak, ck, hvk, -, -, -⟩, -, -⟩ := HRK.out
        dsimp only at hx hvk HLK HSN
        subst hvk
        go_wp2_with fail
        refine (cloneInts_any _ p _ HRK.out HLK.out.1 (by have := HLK.out.2; omega)).mono ?_
        rintro e w3 ⟨v3, rfl, ho3, hg3⟩
        obtain ⟨a3, c3, rfl⟩ := ownI_open ho3
        have R3 := Lib.hid (ho3.row HRK.out.bdd)
        have F3 : Hid (∀ j, (Value.slice a3 p.length c3).ownBlock = some j → j ≠ w.heap.size) := Lib.hid (fun j hj e => by
          have h3 := (ho3.fresh j hj).1
          have h4 : w.heap.size < wk.heap.size := (ho.out.fresh _ rfl).2
          omega)
        have N3 : Hid (∀ j, (Value.slice a3 p.length c3).ownBlock = some j → w.heap.size ≤ j) := Lib.hid (fun j hj => Nat.le_trans hg.out.size (ho3.fresh j hj).1)
        have O3 := Lib.hid (ho.out.same hg3); have G3 := Lib.hid (grown_trans hg.out hg3)
        obtain ⟨hcell, hfr⟩ := O3.out.cell k (by rw [hz.out.1]; exact hlt)
        clear ho3 hg3
        go_wp2_with fail
        go_roundw
        case rel => exact ⟨k + 1, zs.set k (.slice a3 p.length c3, p), by go_num, by omega, Lib.hid ⟨by rw [List.length_set]; exact hz.out.1, by
          rw [HSN.out, ← hz.out.2]
          have hkz : k < zs.length := by rw [hz.out.1]; exact hlt
          rw [List.take_succ_eq_append_getElem (by rw [List.length_set]; exact hkz), List.map_append, List.take_set_of_le (by omega)]
          simp⟩, Lib.hid (fun z hz' g hg' => by
          rcases List.mem_or_eq_of_mem_set hz' with h | rfl
          · exact hnw.out z h g hg'
          · exact N3.out g hg'), Lib.hid (O3.out.stored k (.slice a3 p.length c3, p) R3.out F3.out), Lib.hid (grown_then G3.out (grown_set _ _ _) (by rintro j ⟨⟩; exact .inl (Nat.le_refl _)))⟩
        case measure => simp [intOf]; omega
      · have h2 : ¬ (k : Int) < (qs.length : Int) := by omega
        have hq : zs.map Prod.snd = qs.map Prod.snd := by
          have h3 := hz.out.1
          have h4 := hz.out.2
          rwa [List.take_of_length_le (by omega), List.take_of_length_le (by omega)] at h4
        have HQ := Lib.hid hq
        clear hq
        go_wp2_with fail
        go_ret
        exact ⟨_, zs, rfl, ho.out.rows, ho.out.good, HQ.out, hg.out, fun g h => (ho.out.fresh g h).1, hnw.out⟩
theorem lists_any (v : Value) (qs : List Row) (w : World) (h : RowsP w v qs) (hl : qs.length ≤ 1000) (hr : ∀ q ∈ qs, 1 ≤ q.2.length ∧ q.2.length ≤ 1000) :
    Calls Try.prog 66 #[v] w (GotN (qs.map Prod.snd) w) := by
  have H := Lib.hid (each_any v qs w h hl hr)
  obtain ⟨a, cap, rfl, -, -, -⟩ := h
  clear hr hl
  go_enter Try.func66, Try.ntmps66
  go_wp2_with fail
  refine H.out.mono ?_
  rintro e w1 ⟨v1, q1, rfl, hr1, hg1, hq1, hw1, hn1⟩
  have N1 := Lib.hid hn1; have R1 := Lib.hid hr1; have GD := Lib.hid hg1; have Q1 := Lib.hid hq1; have G1 := Lib.hid hw1
  clear hr1 hg1 hq1 hw1 H hn1
  go_wp2_with fail
  go_ret
  exact ⟨_, q1, rfl, R1.out, GD.out, Q1.out, G1.out, N1.out⟩

end Go.Proofs.Ytoaoheblaidhmaa

namespace Go.Proofs.Ytoaoheblaidhmaa
open Go.RowKit
set_option linter.unusedVariables false

/-- A set and no error, that a call returns. -/
def GotL (vb : Value) (ps : List (List Int)) (w : World) (e : Ending) (w' : World) : Prop := ∃ vp qs, e = .returned (.tuple #[.agg #[vb, vp], .int .i64 0]) ∧ RowsP w' vp qs ∧ Good vp ∧ qs.map Prod.snd = ps ∧ w.grownBy w' none ∧ NewR w.heap.size vp qs
def GotS (b : List Int) (ps : List (List Int)) (w : World) (e : Ending) (w' : World) : Prop := ∃ vb vp qs, e = .returned (.tuple #[.agg #[vb, vp], .int .i64 0]) ∧ RowOk w' (vb, b) ∧ RowsP w' vp qs ∧ Good vp ∧ qs.map Prod.snd = ps ∧ w.grownBy w' none ∧ (∀ g, vb.ownBlock = some g → w.heap.size ≤ g) ∧ NewR w.heap.size vp qs

theorem results_set2 {fn : Func} {p u : Tmp} {ty : TypeId} (h : fn.results = #[.cell p ty, .tmp u]) (tmps : Array Value) (w : World) (g : Nat) (t : TypeId) (cs : Array Value) (fr : Nat × Nat) (fs : Array Field)
    (hp : tmps.getD p undef = .pointer (some ⟨g, 0, none⟩)) (hg : w.heap[g]? = some (.cells cs t fr))
    (hu : Try.prog.underlying ty = some (.struct fs)) (hi : (Try.prog.info? ty).map (·.size) = some cs.size) :
    (results fn tmps).run Try.prog w = .ok (.tuple #[.agg cs, tmps.getD u undef]) w := by
  rw [results_cell_tmp h, hp]
  simp [asAddr, run_loadVar_row w g t ty cs fr (.struct fs) hg hu rfl hi, Result.andThen]
/-- A set is put into the cells of a result. -/
theorem put_set {w : World} {g : Nat} {a b x y : Value} {e : TypeId} (h : w.heap[g]? = some (.cells #[a, b] e (0, 0))) :
    ((w.setCell ⟨g, 0, none⟩ x).setCell ⟨g, 1, none⟩ y).heap[g]? = some (.cells #[x, y] e (0, 0)) ∧ w.cell? ⟨g, 0, none⟩ = some a ∧ w.frozen? ⟨g, 0, none⟩ = false ∧ (w.setCell ⟨g, 0, none⟩ x).cell? ⟨g, 1, none⟩ = some b ∧ (w.setCell ⟨g, 0, none⟩ x).frozen? ⟨g, 1, none⟩ = false := by
  have h1 := heap_set (o := 0) h x
  refine ⟨heap_set (o := 1) h1 y, ?_, ?_, ?_, ?_⟩
  · unfold World.cell?; dsimp only; rw [h]; rfl
  · unfold World.frozen?; dsimp only; rw [h]; rfl
  · unfold World.cell?; dsimp only; rw [h1]; rfl
  · unfold World.frozen?; dsimp only; rw [h1]; rfl

set_option maxRecDepth 100000 in
set_option maxHeartbeats 1000000 in
theorem limited_any (vb vp : Value) (b : List Int) (qs : List Row) (w : World) (hb : RowOk w (vb, b)) (hq : RowsP w vp qs) (h1 : 1 ≤ b.length) (h16 : ∀ x ∈ b, x ≤ 16) (hl : qs.length ≤ 3) (hr : ∀ q ∈ qs, 1 ≤ q.2.length ∧ q.2.length ≤ 1000) :
    Calls Try.prog 47 #[vb, vp] w (GotL vb (qs.map Prod.snd) w) := by
  have HB := Lib.hid hb; have HQ := Lib.hid hq; have HR := Lib.hid hr; have H16 := Lib.hid h16
  obtain ⟨⟨ab, cb, hvb, -, -, -⟩, -, -⟩ := hb
  dsimp only at hvb
  subst hvb
  obtain ⟨ap, cp, rfl, -, -, -⟩ := hq
  have hl3 : ¬ (3 : Int) < (qs.length : Int) := by omega
  clear h16 hr
  go_enter Try.func47, Try.ntmps47
  go_wp2_with fail
  have HG1 := Lib.hid (World.grownBy_alloc w (.cells #[.slice none 0 0, .slice none 0 0] 26) none)
  refine (max_any _ b _ (HB.out.same HG1.out).1 h1).mono ?_
  rintro e w2 ⟨m, rfl, hm, rfl⟩
  have hm16 : ¬ (16 : Int) < m := by have := H16.out m hm.1; omega
  clear hm
  go_wp2_with fail
  refine (lists_any _ qs _ (HQ.out.same HG1.out) (by omega) HR.out).mono ?_
  rintro e w3 ⟨v3, q3, rfl, hr3, hgd3, hq3, hg3, hnw⟩
  have hs1 : (w.alloc (.cells #[.slice none 0 0, .slice none 0 0] 26)).heap.size = w.heap.size + 1 := by show (w.heap.push _).size = _; simp
  rw [hs1] at hnw
  have NW := Lib.hid hnw
  clear hs1 hnw
  have hh : w3.heap[w.heap.size]? = some (.cells #[.slice none 0 0, .slice none 0 0] 26 (0, 0)) := (hg3.block w.heap.size (by show _ < (w.heap.push _).size; simp) (by simp)).trans (heap_new _ rfl)
  obtain ⟨p1, p2, p3, p4, p5⟩ := put_set (x := .slice ab b.length cb) (y := v3) hh
  have R3 := Lib.hid hr3; have Q3 := Lib.hid hq3; have GD3 := Lib.hid hgd3
  have G3 := Lib.hid (grown_trans HG1.out hg3)
  obtain ⟨a3, c3, rfl, -, -, -⟩ := hr3
  clear hgd3 hq3 hh
  have P1 := Lib.hid p1
  clear p1
  go_wp2_with fail
  clear p2 p3 p4 p5
  have GW : Hid (w3.grownBy ((w3.setCell ⟨w.heap.size, 0, none⟩ (.slice ab b.length cb)).setCell ⟨w.heap.size, 1, none⟩ (.slice a3 q3.length c3)) (some w.heap.size)) := Lib.hid (grown_trans (grown_set _ _ _) (grown_set _ _ _))
  generalize ((w3.setCell ⟨w.heap.size, 0, none⟩ (.slice ab b.length cb)).setCell ⟨w.heap.size, 1, none⟩ (.slice a3 q3.length c3)) = W at *
  refine bodyPost_ret (results_set2 rfl _ _ w.heap.size _ _ _ _ rfl P1.out Try.underlying26 (by kernel_rfl)) rfl ?_
  exact ⟨_, q3, rfl, R3.out.keptR GW.out (fun k hk e => by cases hk; have := NW.out.1 _ e; omega) (fun p hp k hk e => by cases hk; have := NW.out.2 p hp _ e; omega), GD3.out, Q3.out, grown_then G3.out GW.out (by rintro j ⟨⟩; exact .inl (Nat.le_refl _)), fun g h => by have := NW.out.1 g h; omega, fun q hq g h => by have := NW.out.2 q hq g h; omega⟩

theorem set_two (k : Nat) (w : World) (x y : Value) : w.grownBy ((w.setCell ⟨k + 1, 0, none⟩ x).setCell ⟨k + 1, 1, none⟩ y) (some (k + 1)) := grown_trans (grown_set _ _ _) (grown_set _ _ _)
theorem sumL_lo {a b : List Int} (ha : ∀ x ∈ a, 0 ≤ x) (hb : ∀ x ∈ b, 0 ≤ x) : ∀ x ∈ sumL a b, 0 ≤ x := by
  intro z hz
  obtain ⟨x, hx, y, hy, rfl⟩ := mem_zipWith _ a b z hz
  have := ha x hx
  have := hb y hy
  omega

set_option maxRecDepth 100000 in
set_option maxHeartbeats 1500000 in
theorem Shift_any (n : Nat) (u : SetE) (vv : Value) (v : List Int) (w : World) (h : SetOk w n u) (hr : RowOk w (vv, v)) (hvl : v.length = n) (hv16 : withB 16 v = true) (hs16 : ∀ x ∈ sumL u.2.1 v, x ≤ 16) :
    Calls Try.prog 24 #[.int .i64 (n : Int), .agg #[u.1.1, u.1.2], vv] w (GotS (sumL u.2.1 v) u.2.2 w) := by
  obtain ⟨⟨x, y⟩, b, ps⟩ := u
  dsimp only at h hs16 ⊢
  have H := Lib.hid h; have HR := Lib.hid hr; have H16 := Lib.hid hv16; have HS16 := Lib.hid hs16
  obtain ⟨⟨vb, vp, qs, he, hb, hq, hgd, rfl⟩, hval⟩ := h
  simp only [Value.agg.injEq, Array.mk.injEq, List.cons.injEq, and_true] at he
  obtain ⟨rfl, rfl⟩ := he
  have HB := Lib.hid hb; have HQ := Lib.hid hq; have HV := Lib.hid hval; have HL := Lib.hid hvl
  have hq3 : qs.length ≤ 3 := by have := hval.2.2.2.2.2.1; rwa [List.length_map] at this
  have hn1 := hval.1
  have hn4 := hval.2.1
  obtain ⟨⟨ab, cb, hvb, -, -, -⟩, -, -⟩ := hb
  obtain ⟨⟨av, cv, hvv, -, -, -⟩, -, -⟩ := hr
  dsimp only at hvb hvv
  subst hvb hvv
  obtain ⟨ap, cp, rfl, -, -, -⟩ := hq
  have hd : ((v.length : Int) != (n : Int)) = false := by rw [hvl]; simp
  have hd' : (v.length == n) = true := by rw [hvl]; simp
  clear hval hvl hv16 hs16 hgd
  go_enter Try.func24, Try.ntmps24
  go_wp2_with fail
  obtain ⟨k1, k2, k3⟩ := three_boxes w (.slice ab b.length cb) (.slice ap qs.length cp) (.slice none 0 0) (.slice none 0 0) 26
  have hg3 : w.grownBy (((w.alloc (.cells #[.slice ab b.length cb, .slice ap qs.length cp] 26)).alloc (.cells #[.slice none 0 0, .slice none 0 0] 26)).alloc (.cells #[.slice ab b.length cb, .slice ap qs.length cp] 26)) none := grown_after (grown_after (grown_after (grown_refl _ _)))
  generalize (((w.alloc (.cells #[.slice ab b.length cb, .slice ap qs.length cp] 26)).alloc (.cells #[.slice none 0 0, .slice none 0 0] 26)).alloc (.cells #[.slice ab b.length cb, .slice ap qs.length cp] 26)) = W at *
  refine (check_any n hn1 hn4 [(.slice ab b.length cb, .slice ap qs.length cp)] (w.heap.size + 1 + 1) 0 1 W (cells_one k3) (by intro u hu; rw [List.mem_singleton.1 hu]; exact ⟨_, _, (H.out.same hg3).1, H.out.2⟩) (by simp)).mono ?_
  rintro e w2 ⟨rfl, hg2⟩
  have G2 := Lib.hid (grown_trans hg3 hg2)
  have a0 := hg2.cell (cells_of k1).1 (by simp); have a1 := hg2.cell (cells_of k1).2 (by simp)
  have HH : Hid (w2.heap[w.heap.size + 1]? = some (.cells #[.slice none 0 0, .slice none 0 0] 26 (0, 0))) := Lib.hid ((hg2.block _ (Array.getElem?_eq_some_iff.1 k2).1 (by simp)).trans k2)
  clear k1 k2 k3 hg3 hg2
  have A0 := Lib.hid a0; have A1 := Lib.hid a1
  clear a0 a1
  go_wp2_with fail
  refine (within_any _ v _ _ (HR.out.same G2.out).1).mono ?_
  rintro e w9 ⟨rfl, hw9⟩
  subst hw9
  rw [H16.out]
  rename World => w2
  have hlt2 : w.heap.size + 1 < w2.heap.size := (Array.getElem?_eq_some_iff.1 HH.out).1
  have hnn : ∀ g : Nat, some g ≠ (none : Option Nat) := by intro g; simp
  have G : Hid (w2.grownBy w2.drew none) := Lib.hid (grown_drew _ none)
  go_wp2_with fail
  go_region_held3 (fun w' => w'.cell? ⟨w.heap.size, 0, none⟩ = some (.slice ab b.length cb) ∧ w'.cell? ⟨w.heap.size, 1, none⟩ = some (.slice ap qs.length cp)) (first | exact ⟨G.out.cell A0.out (hnn _), G.out.cell A1.out (hnn _)⟩ | exact ⟨(set_two w.heap.size _ _ _).cell (G.out.cell A0.out (hnn _)) (by simp), (set_two w.heap.size _ _ _).cell (G.out.cell A1.out (hnn _)) (by simp)⟩) (first
    | (refine step_call 32 48 _ _ _ _ _ Try.f48 _ Try.func48 (by kernel_rfl) rfl [.slice ab b.length cb, .slice av v.length cv] (by kernel_rfl) _ (add_any _ _ b v _ (HB.out.same (grown_trans G2.out G.out)) (HR.out.same (grown_trans G2.out G.out)) (by rw [HL.out, HV.out.2.2.1]) (by rw [HV.out.2.2.1]; omega) (fun x hx => by have := HV.out.2.2.2.1 x hx; omega) (fun x hx => by have := withB_iff.1 H16.out x hx; omega)) ?_; rintro e w32 ⟨v32, rfl, ho, hg⟩; obtain ⟨a32, c32, rfl⟩ := ownI_open ho; refine ⟨_, rfl, ?_⟩; have R32 := Lib.hid (ho.row (fun x hx => by have := HS16.out x hx; have := sumL_lo (fun x hx => (HV.out.2.2.2.1 x hx).1) (fun x hx => (withB_iff.1 H16.out x hx).1) x hx; omega)); have F32 := Lib.hid (fun g h => Nat.le_trans G.out.size (ho.fresh g h).1); replace G : Hid (w2.grownBy w32 none) := Lib.hid (grown_trans G.out hg); clear ho hg)
    | (refine step_call 35 47 _ _ _ _ _ Try.f47 _ Try.func47 (by kernel_rfl) rfl [.slice a32 (sumL b v).length c32, .slice ap qs.length cp] (by kernel_rfl) _ (limited_any _ _ (sumL b v) qs _ R32.out (HQ.out.same (grown_trans G2.out G.out)) (by rw [sumL_len HV.out.2.2.1 HL.out]; exact hn1) HS16.out hq3 (fun q hq => by have := (HV.out.2.2.2.2.1 _ (List.mem_map_of_mem hq)).1.1; omega)) ?_; rintro e w35 ⟨v35, q35, rfl, hr, hgd, hm, hg, hnw⟩; refine ⟨_, rfl, ?_⟩; have R35 := Lib.hid hr; have GD35 := Lib.hid hgd; have M35 := Lib.hid hm; have N35 := Lib.hid hnw; have G35 := Lib.hid G.out.size; replace R32 := Lib.hid (R32.out.same hg); replace G : Hid (w2.grownBy w35 none) := Lib.hid (grown_trans G.out hg); obtain ⟨a35, c35, rfl, -, -, -⟩ := hr; obtain ⟨p1, p2, p3, p4, p5⟩ := put_set (x := .slice a32 (sumL b v).length c32) (y := .slice a35 q35.length c35) ((G.out.block _ hlt2 (by simp)).trans HH.out); have P1 := Lib.hid p1; clear hgd hm hg hnw p1))
  all_goals
    go_wp2_with fail
    have GW := Lib.hid (set_two w.heap.size w35 (.slice a32 (sumL b v).length c32) (.slice a35 q35.length c35))
    clear p2 p3 p4 p5
    generalize ((w35.setCell ⟨w.heap.size + 1, 0, none⟩ (.slice a32 (sumL b v).length c32)).setCell ⟨w.heap.size + 1, 1, none⟩ (.slice a35 q35.length c35)) = W at *
    refine bodyPost_ret (results_set2 rfl _ _ (w.heap.size + 1) _ _ _ _ rfl P1.out Try.underlying26 (by kernel_rfl)) rfl ?_
    have hs2 := G2.out.size
    have h35 := G35.out
    exact ⟨_, _, q35, rfl, R32.out.kept GW.out (fun k hk e => by cases hk; have := F32.out _ e; omega), R35.out.keptR GW.out (fun k hk e => by cases hk; have := N35.out.1 _ e; omega) (fun p hp k hk e => by cases hk; have := N35.out.2 p hp _ e; omega), GD35.out, M35.out, grown_then (grown_trans G2.out G.out) GW.out (by rintro j ⟨⟩; exact .inl (by omega)), fun g h => by have := F32.out g h; omega, fun g h => by have := N35.out.1 g h; omega, fun q hq g h => by have := N35.out.2 q hq g h; omega⟩

end Go.Proofs.Ytoaoheblaidhmaa
