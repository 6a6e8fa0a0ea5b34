/- The reference's solutions. -/
import Derived.Test.YtgcfafjgaifmiaaFi
namespace Go.Proofs.Ytgcfafjgaifmiaa
open Go.ChangeShapes Go.WideShapes Go.ChangeAt Go.RowKit
set_option linter.unusedVariables false

def cntF (free : Bool) (x : List Int) : Bool := if free then someB x else true
theorem zeros_same {c : Nat} {x : List Int} (h : VecOk c x) : (x == zerosL c) = !someB x := by
  rw [Bool.eq_iff_iff, beq_iff_eq, Bool.not_eq_true']
  constructor
  · rintro rfl
    unfold someB zerosL
    rw [List.any_eq_false]
    intro z hz
    rw [List.eq_of_mem_replicate hz]
    decide
  · intro hs
    have := zero_of h.nn.2 hs
    rw [h.1] at this
    exact this
theorem filt_keep {α : Type} {P : α → Bool} {l : List α} {k : Nat} (hk : k < l.length) (hp : P l[k] = true) : (l.take (k + 1)).filter P = (l.take k).filter P ++ [l[k]] := by
  rw [List.take_succ_eq_append_getElem hk, List.filter_append, List.filter_cons, if_pos hp]; rfl
theorem filt_drop {α : Type} {P : α → Bool} {l : List α} {k : Nat} (hk : k < l.length) (hp : P l[k] = false) : (l.take (k + 1)).filter P = (l.take k).filter P := by
  rw [List.take_succ_eq_append_getElem hk, List.filter_append, List.filter_cons, if_neg (by rw [hp]; decide), List.filter_nil, List.append_nil]
def lessQ (x y : List Int) : Bool := decide (y ≠ x) && leqI y x
theorem rowsP_nil' (w : World) : RowsP w (.slice none 0 0) [] := ⟨none, 0, rfl, Nat.zero_le _, .inl rfl, by simp⟩
theorem putL_end : ∀ {L : List (List Int)} {x : List Int}, (∀ y ∈ L, compareI y x < 0) → putL L x = L ++ [x]
  | [], _, _ => rfl
  | y :: L, x, h => by
    show (if compareI y x < 0 then y :: putL L x else _) = _
    rw [if_pos (h y (by simp)), putL_end (fun z hz => h z (by simp [hz]))]
    rfl
set_option maxRecDepth 100000 in
set_option maxHeartbeats 4000000 in
theorem rsolutions_any {r c mst : Nat} {ms : List Row} {va vb : Value} {bs : List Int} {w : World} (h : RowsP w va ms) (hm : MatOkP r c ms) (hr : r ≤ 6) (hc : c ≤ 6) (hb : Ints w vb bs) (hbo : RightOk r bs) (hmst : mst ≤ 10) :
    Calls Try.prog 39 #[va, vb, .int .i64 (mst : Int), .bool false] w (GotP (minL (goodB ms bs (cntF false)) (vecs c mst)) w) := by
  have HM := Lib.hid hm; have HA := Lib.hid h; have HB := Lib.hid hb; have HBO := Lib.hid hbo
  have h0 : 0 < ms.length := by have := hm.1; have := hm.2.1; omega
  have hml := hm.1
  have p1 : 0 < (ms.length : Int) := by omega
  obtain ⟨aa, capa, rfl, -⟩ : ∃ a cap, va = .slice a ms.length cap ∧ True := by obtain ⟨a, cap, h, -⟩ := h; exact ⟨a, cap, h, trivial⟩
  obtain ⟨ab, capb, hvb, -⟩ := hb
  subst hvb
  obtain ⟨b, off, a2, c2, rfl, hc0, -, -⟩ := h.row h0
  rw [(hm.2.2.2.2.2.2 _ (List.getElem_mem h0)).1, Nat.add_zero] at hc0
  have HC := Lib.hid hc0
  have hms6 : ms.length ≤ 6 := by omega
  have HCB : Hid (c ≤ 6) := Lib.hid hc
  clear h hm hbo hml
  go_enter Try.func39, Try.ntmps39
  go_wp2_with fail
  clear hc0
  refine (rvectors_any c mst w hc hmst).mono ?_
  rintro e w1 ⟨vq, qs, rfl, ho, hq, hg, hf⟩
  have HQP := Lib.hid ho.rows; have HQ := Lib.hid hq; have HG1 := Lib.hid hg
  have HQB : Hid (∀ q ∈ qs, ∀ g, q.1.ownBlock = some g → g < w1.heap.size) := Lib.hid (fun q hq g e => (rows_rows ho.rows q hq).2.2 g e)
  have HQL : Hid (qs.length ≤ 1771561) := Lib.hid (by rw [← List.length_map (f := Prod.snd), hq]; exact vecs_bd hc hmst)
  have HQV : Hid (∀ q ∈ qs, VecOk c q.2) := Lib.hid (fun q hq' => by
    have h1 := (mem_vecs c mst q.2).1 (HQ.out ▸ List.mem_map_of_mem hq')
    exact ⟨h1.1, fun z hz => ⟨h1.2.1 z hz, by have := le_sumI h1.2.1 hz; omega⟩⟩)
  replace HA := Lib.hid (HA.out.same hg); replace HB := Lib.hid (HB.out.same hg)
  obtain ⟨aq, cq, rfl⟩ := ho.slice
  clear ho hq hg hf
  go_wp2_with fail
  go_loopw [10, 11] (fun o i wr => ∃ (k : Nat) (ts : List Row) (a : Option Addr) (cc : Nat), i = .int .i64 k ∧ o = .slice a ts.length cc ∧ k ≤ qs.length ∧ Hid (OwnP wr w1.heap.size o ts) ∧ Hid (ts.map Prod.snd = ((qs.map Prod.snd).take k).filter (goodB ms bs (cntF false))) ∧ Hid (w1.grownBy wr none)) (fun _ i _ => qs.length - (intOf i).toNat)
  case atStart => exact ⟨0, [], none, 0, rfl, rfl, Nat.zero_le _, Lib.hid (OwnP.nil _ _), Lib.hid rfl, Lib.hid (grown_refl _ _)⟩
  case round =>
    obtain ⟨k, ts, a, cc, rfl, rfl, hk, hO, hT, hG⟩ := hrel
    rename World => wk
    have hql := HQL.out
    have HTL : Hid (ts.length ≤ 1771561) := Lib.hid (by
      rw [← List.length_map (f := Prod.snd), hT.out]
      refine Nat.le_trans (List.length_filter_le _ _) ?_
      rw [List.length_take, List.length_map]
      omega)
    by_cases hkb : k < qs.length
    · have h3 : (k : Int) < (qs.length : Int) := by omega
      have i1 : IntKind.i64.wrap ((k : Int) + 1) = (k : Int) + 1 := IntWalk.i64_in _ (by omega)
      have HQK := Lib.hid (HQP.out.same hG.out)
      obtain ⟨bq, oq, ax, cx, rfl, hcell, hrv, hri⟩ := HQK.out.row hkb
      have HRK : Hid (RowOk wk (.slice ax qs[k].2.length cx, qs[k].2)) := Lib.hid (by rw [← hrv]; exact rows_rows HQK.out _ (List.getElem_mem hkb))
      have HRB : Hid (∀ g, (Value.slice ax qs[k].2.length cx).ownBlock = some g → g < w1.heap.size) := Lib.hid (by rw [← hrv]; exact HQB.out _ (List.getElem_mem hkb))
      have HV := Lib.hid (HQV.out _ (List.getElem_mem hkb))
      have HFK : Hid (goodB ms bs (cntF false) qs[k].2 = true → ((qs.map Prod.snd).take (k + 1)).filter (goodB ms bs (cntF false)) = ((qs.map Prod.snd).take k).filter (goodB ms bs (cntF false)) ++ [qs[k].2]) := Lib.hid (fun e => by
        have hk' : k < (qs.map Prod.snd).length := by simpa using hkb
        have := filt_keep (P := goodB ms bs (cntF false)) hk' (by rw [List.getElem_map]; exact e)
        rwa [List.getElem_map] at this)
      have HFD : Hid (goodB ms bs (cntF false) qs[k].2 = false → ((qs.map Prod.snd).take (k + 1)).filter (goodB ms bs (cntF false)) = ((qs.map Prod.snd).take k).filter (goodB ms bs (cntF false))) := Lib.hid (fun e => by
        have hk' : k < (qs.map Prod.snd).length := by simpa using hkb
        exact filt_drop (P := goodB ms bs (cntF false)) hk' (by rw [List.getElem_map]; exact e))
      obtain ⟨x, hx⟩ : ∃ x, qs[k].2 = x := ⟨_, rfl⟩
      rw [hx] at hcell HRK HRB HV HFK HFD
      have HGB : Hid (goodB ms bs (cntF false) x = (x.all numB && solB ms bs x)) := Lib.hid (by
        have e : x.all numB = true := List.all_eq_true.2 (fun z hz => numB_iff.2 (by have := HV.out.2 z hz; omega))
        unfold goodB cntF
        rw [e]; simp)
      have HCELL := Lib.hid hcell
      have GX : Hid (wk.grownBy wk.drew none) := Lib.hid (grown_drew _ none)
      have hnn : ∀ g : Nat, some g ≠ (none : Option Nat) := by intro g; simp
      clear hrv hri hx hql
      cases hsv : (x.all numB && solB ms bs x) with
      | false =>
        have HSV := Lib.hid hsv
        have HFN := Lib.hid (HFD.out (by rw [HGB.out, hsv]))
        clear hsv
        go_wp2_with fail
        have hcd : wk.drew.cell? ⟨bq, oq + k, none⟩ = some (.slice ax x.length cx) := hcell
        refine wp_region_any (by kernel_rfl) ?_
        change wpAny _ _ _ _ _ _ _ (World.drew _)
        refine wpAny_take (i := 0) (v := .slice (some ⟨b, off, none⟩) ms.length capa) rfl (by kernel_rfl) (by kernel_rfl) (by kernel_rfl) (fun _ _ _ h => h) (Or.inl ⟨by kernel_rfl, fun _ => by kernel_rfl⟩) ?_
        refine wpAny_take (i := 1) (v := .slice ab bs.length capb) rfl (by kernel_rfl) (by kernel_rfl) (by kernel_rfl) (fun _ _ _ h => h) (Or.inl ⟨by kernel_rfl, fun _ => by kernel_rfl⟩) ?_
        refine wpAny_take (i := 2) (v := .slice (some ⟨bq, oq, none⟩) qs.length cq) rfl (by kernel_rfl) (by kernel_rfl) (by kernel_rfl) (fun _ _ _ h => h) (Or.inl ⟨by kernel_rfl, fun _ => by kernel_rfl⟩) ?_
        refine wpAny_take (i := 3) (v := .int .i64 (k : Int)) rfl (by kernel_rfl) (by kernel_rfl) (by kernel_rfl) (fun _ _ _ h => h) (Or.inl ⟨by kernel_rfl, fun _ => by kernel_rfl⟩) ?_
        refine wpAny_take (i := 4) (v := .pointer (some ⟨bq, oq + k, none⟩)) rfl (by kernel_rfl) (by kernel_rfl) (by kernel_rfl) (fun _ _ _ h => h) (Or.inl ⟨by kernel_rfl, fun _ => by go_simp⟩) ?_
        refine wpAny_ready (rs := [5]) (by kernel_rfl) (by simp) (AllReady.cons rfl (fun K hK => ?_) AllReady.nil)
        go_simp
        refine hK _ _ ?_
        clear hK K
        refine wpAny_ready (rs := [6]) (by kernel_rfl) (by simp) (AllReady.cons rfl (fun K hK => ?_) AllReady.nil)
        refine step_call 34 18 _ _ _ _ _ Try.f18 _ Try.func18 (by kernel_rfl) rfl [.slice (some ⟨b, off, none⟩) ms.length capa, .slice ab bs.length capb, .slice ax x.length cx] (by kernel_rfl) _ (rsolves_fit (HA.out.same (grown_trans hG.out GX.out)) HM.out hr hc (HB.out.same (grown_trans hG.out GX.out)) HBO.out (HRK.out.1.same GX.out) HV.out.1) ?_
        rintro e w34 ⟨rfl, hg⟩
        refine ⟨_, rfl, ?_⟩
        rw [HSV.out]
        replace GX : Hid (wk.grownBy w34 none) := Lib.hid (grown_trans GX.out hg)
        clear hg
        refine hK _ _ ?_
        clear hK K
        refine wpAny_take (i := 7) (v := .bool false) rfl (by kernel_rfl) (by kernel_rfl) (by kernel_rfl) (fun _ _ _ h => h) (Or.inl ⟨by kernel_rfl, fun _ => by kernel_rfl⟩) ?_
        refine wpAny_take (i := 8) (v := undef) rfl (by kernel_rfl) (by kernel_rfl) (by kernel_rfl) (fun _ _ _ h => h) (Or.inr ⟨by kernel_rfl, rfl⟩) ?_
        refine wpAny_take (i := 9) (v := undef) rfl (by kernel_rfl) (by kernel_rfl) (by kernel_rfl) (fun _ _ _ h => h) (Or.inr ⟨by kernel_rfl, rfl⟩) ?_
        refine wpAny_take (i := 10) (v := undef) rfl (by kernel_rfl) (by kernel_rfl) (by kernel_rfl) (fun _ _ _ h => h) (Or.inr ⟨by kernel_rfl, rfl⟩) ?_
        refine wpAny_take (i := 11) (v := undef) rfl (by kernel_rfl) (by kernel_rfl) (by kernel_rfl) (fun _ _ _ h => h) (Or.inr ⟨by kernel_rfl, rfl⟩) ?_
        refine wpAny_take (i := 12) (v := undef) rfl (by kernel_rfl) (by kernel_rfl) (by kernel_rfl) (fun _ _ _ h => h) (Or.inr ⟨by kernel_rfl, rfl⟩) ?_
        refine wpAny_take (i := 13) (v := undef) rfl (by kernel_rfl) (by kernel_rfl) (by kernel_rfl) (fun _ _ _ h => h) (Or.inr ⟨by kernel_rfl, rfl⟩) ?_
        refine wpAny_take (i := 14) (v := undef) rfl (by kernel_rfl) (by kernel_rfl) (by kernel_rfl) (fun _ _ _ h => h) (Or.inr ⟨by kernel_rfl, rfl⟩) ?_
        refine wpAny_take (i := 15) (v := undef) rfl (by kernel_rfl) (by kernel_rfl) (by kernel_rfl) (fun _ _ _ h => h) (Or.inr ⟨by kernel_rfl, rfl⟩) ?_
        refine wpAny_take (i := 16) (v := undef) rfl (by kernel_rfl) (by kernel_rfl) (by kernel_rfl) (fun _ _ _ h => h) (Or.inr ⟨by kernel_rfl, rfl⟩) ?_
        refine wpAny_take (i := 17) (v := undef) rfl (by kernel_rfl) (by kernel_rfl) (by kernel_rfl) (fun _ _ _ h => h) (Or.inr ⟨by kernel_rfl, rfl⟩) ?_
        refine wpAny_take (i := 18) (v := undef) rfl (by kernel_rfl) (by kernel_rfl) (by kernel_rfl) (fun _ _ _ h => h) (Or.inr ⟨by kernel_rfl, rfl⟩) ?_
        refine wpAny_take (i := 19) (v := undef) rfl (by kernel_rfl) (by kernel_rfl) (by kernel_rfl) (fun _ _ _ h => h) (Or.inr ⟨by kernel_rfl, rfl⟩) ?_
        refine wpAny_take (i := 20) (v := undef) rfl (by kernel_rfl) (by kernel_rfl) (by kernel_rfl) (fun _ _ _ h => h) (Or.inr ⟨by kernel_rfl, rfl⟩) ?_
        refine wpAny_take (i := 21) (v := undef) rfl (by kernel_rfl) (by kernel_rfl) (by kernel_rfl) (fun _ _ _ h => h) (Or.inr ⟨by kernel_rfl, rfl⟩) ?_
        refine wpAny_ready (rs := [22]) (by kernel_rfl) (by simp) (AllReady.cons rfl (fun K hK => ?_) AllReady.nil)
        go_simp
        refine hK _ _ ?_
        clear hK K
        refine wpAny_done (by kernel_rfl) ?_ _
        all_goals
          have HO2 := Lib.hid (hO.out.same GX.out); have HG2 := Lib.hid (grown_trans hG.out GX.out)
          go_wp2_with fail
          go_roundw
          case rel => exact ⟨k + 1, ts, a, cc, by go_num, rfl, by omega, HO2, Lib.hid (by rw [HFN.out]; exact hT.out), HG2⟩
          case measure => simp [intOf]; omega
      | true =>
        have HSV := Lib.hid hsv
        have HFN := Lib.hid (HFK.out (by rw [HGB.out, hsv]))
        clear hsv
        go_wp2_with fail
        have hcd : wk.drew.cell? ⟨bq, oq + k, none⟩ = some (.slice ax x.length cx) := hcell
        refine wp_region_any (by kernel_rfl) ?_
        change wpAny _ _ _ _ _ _ _ (World.drew _)
        refine wpAny_take (i := 0) (v := .slice (some ⟨b, off, none⟩) ms.length capa) rfl (by kernel_rfl) (by kernel_rfl) (by kernel_rfl) (fun _ _ _ h => h) (Or.inl ⟨by kernel_rfl, fun _ => by kernel_rfl⟩) ?_
        refine wpAny_take (i := 1) (v := .slice ab bs.length capb) rfl (by kernel_rfl) (by kernel_rfl) (by kernel_rfl) (fun _ _ _ h => h) (Or.inl ⟨by kernel_rfl, fun _ => by kernel_rfl⟩) ?_
        refine wpAny_take (i := 2) (v := .slice (some ⟨bq, oq, none⟩) qs.length cq) rfl (by kernel_rfl) (by kernel_rfl) (by kernel_rfl) (fun _ _ _ h => h) (Or.inl ⟨by kernel_rfl, fun _ => by kernel_rfl⟩) ?_
        refine wpAny_take (i := 3) (v := .int .i64 (k : Int)) rfl (by kernel_rfl) (by kernel_rfl) (by kernel_rfl) (fun _ _ _ h => h) (Or.inl ⟨by kernel_rfl, fun _ => by kernel_rfl⟩) ?_
        refine wpAny_take (i := 4) (v := .pointer (some ⟨bq, oq + k, none⟩)) rfl (by kernel_rfl) (by kernel_rfl) (by kernel_rfl) (fun _ _ _ h => h) (Or.inl ⟨by kernel_rfl, fun _ => by go_simp⟩) ?_
        refine wpAny_ready (rs := [5]) (by kernel_rfl) (by simp) (AllReady.cons rfl (fun K hK => ?_) AllReady.nil)
        go_simp
        refine hK _ _ ?_
        clear hK K
        refine wpAny_ready (rs := [6]) (by kernel_rfl) (by simp) (AllReady.cons rfl (fun K hK => ?_) AllReady.nil)
        refine step_call 34 18 _ _ _ _ _ Try.f18 _ Try.func18 (by kernel_rfl) rfl [.slice (some ⟨b, off, none⟩) ms.length capa, .slice ab bs.length capb, .slice ax x.length cx] (by kernel_rfl) _ (rsolves_fit (HA.out.same (grown_trans hG.out GX.out)) HM.out hr hc (HB.out.same (grown_trans hG.out GX.out)) HBO.out (HRK.out.1.same GX.out) HV.out.1) ?_
        rintro e w34 ⟨rfl, hg⟩
        refine ⟨_, rfl, ?_⟩
        rw [HSV.out]
        replace GX : Hid (wk.grownBy w34 none) := Lib.hid (grown_trans GX.out hg)
        clear hg
        refine hK _ _ ?_
        clear hK K
        refine wpAny_take (i := 7) (v := .bool true) rfl (by kernel_rfl) (by kernel_rfl) (by kernel_rfl) (fun _ _ _ h => h) (Or.inl ⟨by kernel_rfl, fun _ => by kernel_rfl⟩) ?_
        refine wpAny_take (i := 8) (v := .bool false) rfl (by kernel_rfl) (by kernel_rfl) (by kernel_rfl) (fun _ _ _ h => h) (Or.inl ⟨by kernel_rfl, fun _ => by kernel_rfl⟩) ?_
        refine wpAny_take (i := 9) (v := .bool false) rfl (by kernel_rfl) (by kernel_rfl) (by kernel_rfl) (fun _ _ _ h => h) (Or.inl ⟨by kernel_rfl, fun _ => by kernel_rfl⟩) ?_
        refine wpAny_take (i := 10) (v := undef) rfl (by kernel_rfl) (by kernel_rfl) (by kernel_rfl) (fun _ _ _ h => h) (Or.inr ⟨by kernel_rfl, rfl⟩) ?_
        refine wpAny_take (i := 11) (v := undef) rfl (by kernel_rfl) (by kernel_rfl) (by kernel_rfl) (fun _ _ _ h => h) (Or.inr ⟨by kernel_rfl, rfl⟩) ?_
        refine wpAny_take (i := 12) (v := undef) rfl (by kernel_rfl) (by kernel_rfl) (by kernel_rfl) (fun _ _ _ h => h) (Or.inr ⟨by kernel_rfl, rfl⟩) ?_
        refine wpAny_take (i := 13) (v := undef) rfl (by kernel_rfl) (by kernel_rfl) (by kernel_rfl) (fun _ _ _ h => h) (Or.inr ⟨by kernel_rfl, rfl⟩) ?_
        refine wpAny_take (i := 14) (v := undef) rfl (by kernel_rfl) (by kernel_rfl) (by kernel_rfl) (fun _ _ _ h => h) (Or.inr ⟨by kernel_rfl, rfl⟩) ?_
        refine wpAny_take (i := 15) (v := undef) rfl (by kernel_rfl) (by kernel_rfl) (by kernel_rfl) (fun _ _ _ h => h) (Or.inr ⟨by kernel_rfl, rfl⟩) ?_
        refine wpAny_take (i := 16) (v := undef) rfl (by kernel_rfl) (by kernel_rfl) (by kernel_rfl) (fun _ _ _ h => h) (Or.inr ⟨by kernel_rfl, rfl⟩) ?_
        refine wpAny_take (i := 17) (v := undef) rfl (by kernel_rfl) (by kernel_rfl) (by kernel_rfl) (fun _ _ _ h => h) (Or.inr ⟨by kernel_rfl, rfl⟩) ?_
        refine wpAny_take (i := 18) (v := undef) rfl (by kernel_rfl) (by kernel_rfl) (by kernel_rfl) (fun _ _ _ h => h) (Or.inr ⟨by kernel_rfl, rfl⟩) ?_
        refine wpAny_take (i := 19) (v := undef) rfl (by kernel_rfl) (by kernel_rfl) (by kernel_rfl) (fun _ _ _ h => h) (Or.inr ⟨by kernel_rfl, rfl⟩) ?_
        refine wpAny_take (i := 20) (v := .bool false) rfl (by kernel_rfl) (by kernel_rfl) (by kernel_rfl) (fun _ _ _ h => h) (Or.inl ⟨by kernel_rfl, fun _ => by kernel_rfl⟩) ?_
        refine wpAny_take (i := 21) (v := .bool true) rfl (by kernel_rfl) (by kernel_rfl) (by kernel_rfl) (fun _ _ _ h => h) (Or.inl ⟨by kernel_rfl, fun _ => by kernel_rfl⟩) ?_
        refine wpAny_ready (rs := [22]) (by kernel_rfl) (by simp) (AllReady.cons rfl (fun K hK => ?_) AllReady.nil)
        go_simp
        refine hK _ _ ?_
        clear hK K
        refine wpAny_done (by kernel_rfl) ?_ _
        all_goals
          have HO2 := Lib.hid (hO.out.same GX.out); have HG2 := Lib.hid (grown_trans hG.out GX.out)
          have HRK2 := Lib.hid (HRK.out.same GX.out)
          have hcell2 := GX.out.cell HCELL.out (hnn _)
          have HW1 := Lib.hid hG.out.size
          go_wp2_with (at_builtin; refine app_row rfl _ _ rfl w1.heap.size _ ts rfl (HO2.out.same (World.grownBy_alloc _ _ none)) w34.heap.size (.slice ax x.length cx, x) rfl (cell_new rfl) (HRK2.out.same (World.grownBy_alloc _ _ none)) (fun g e e2 => by have h1 := HRB.out g e; have h2 := (HO2.out.fresh g e2).1; omega) (by have := HTL.out; omega) (Nat.le_trans HG2.out.size (World.grownBy_alloc _ _ none).size) ?_)
          intro v' w' ho hg
          obtain ⟨ts', hts'⟩ : ∃ ts', ts' = ts ++ [(.slice ax x.length cx, x)] := ⟨_, rfl⟩
          rw [← hts'] at ho
          have HN1 := Lib.hid ho
          have HN2 : Hid (ts'.map Prod.snd = ((qs.map Prod.snd).take (k + 1)).filter (goodB ms bs (cntF false))) := Lib.hid (by rw [HFN.out, hts', List.map_append, hT.out]; rfl)
          have HN3 := Lib.hid (grown_then (grown_trans HG2.out (World.grownBy_alloc w34 _ none)) hg (fun j hj => .inl (HO2.out.fresh j hj).1))
          obtain ⟨a', c', rfl⟩ := ho.slice
          clear ho hg hts' hcell2
          go_wp2_with fail
          go_roundw
          case rel => exact ⟨k + 1, ts', a', c', by go_num, rfl, by omega, HN1, HN2, HN3⟩
          case measure => simp [intOf]; omega
    · obtain rfl : k = qs.length := by omega
      have h3 : ¬ (qs.length : Int) < (qs.length : Int) := by omega
      have HFE : Hid (ts.map Prod.snd = (vecs c mst).filter (goodB ms bs (cntF false))) := Lib.hid (by rw [hT.out, List.take_of_length_le (by rw [List.length_map]; exact Nat.le_refl _), HQ.out])
      have HASC : Hid (Asc (ts.map Prod.snd)) := Lib.hid (by rw [HFE.out]; exact (vecs_asc c mst).sublist List.filter_sublist)
      have HTV : Hid (∀ q ∈ ts, VecOk c q.2) := Lib.hid (fun q hq => by
        have h1 : q.2 ∈ (vecs c mst).filter (goodB ms bs (cntF false)) := HFE.out ▸ List.mem_map_of_mem hq
        have h2 := (mem_vecs c mst q.2).1 (List.mem_filter.1 h1).1
        exact ⟨h2.1, fun z hz => ⟨h2.2.1 z hz, by have := le_sumI h2.2.1 hz; omega⟩⟩)
      have HFP := Lib.hid hO.out.rows
      clear hql hT hO hk hkb
      go_wp2_with fail
      have HG0 := Lib.hid (grown_refl wk none)
      go_loopw [12, 13] (fun o i wr => ∃ (k : Nat) (os : List Row) (a' : Option Addr) (c' : Nat), i = .int .i64 k ∧ o = .slice a' os.length c' ∧ k ≤ ts.length ∧ Hid (RowsP wr o os) ∧ Hid (Good o) ∧ Hid (os.map Prod.snd = ((ts.map Prod.snd).take k).filter (fun x => !((ts.map Prod.snd).any (lessQ x)))) ∧ Hid (wk.grownBy wr none)) (fun _ i _ => ts.length - (intOf i).toNat)
      case atStart => exact ⟨0, [], none, 0, rfl, rfl, Nat.zero_le _, Lib.hid (rowsP_nil' _), Lib.hid Good.nil, Lib.hid rfl, HG0⟩
      case round =>
        obtain ⟨k, os, a', c', rfl, rfl, hk, hO, hGd, hT, hG2⟩ := hrel
        rename World => wm
        have htl := HTL.out
        by_cases hkb : k < ts.length
        · have h4 : (k : Int) < (ts.length : Int) := by omega
          have i2 : IntKind.i64.wrap ((k : Int) + 1) = (k : Int) + 1 := IntWalk.i64_in _ (by omega)
          have HF2 := Lib.hid (HFP.out.same hG2.out)
          obtain ⟨bf, of, ax, cx, rfl, hck, hrv, hri⟩ := HF2.out.row hkb
          have HRX := Lib.hid hri
          have HXV := Lib.hid (HTV.out _ (List.getElem_mem hkb))
          have HRO : Hid (RowOk wm (.slice ax ts[k].2.length cx, ts[k].2)) := Lib.hid (by rw [← hrv]; exact rows_rows HF2.out _ (List.getElem_mem hkb))
          have HNE : Hid (∀ j, (hj : j < ts.length) → k ≠ j → ts[j].2 ≠ ts[k].2) := Lib.hid (fun j hj hne => by
            have := asc_get HASC.out (i := j) (k := k) (by simpa using hj) (by simpa using hkb) (fun e => hne e.symm)
            rwa [List.getElem_map, List.getElem_map] at this)
          have HKP : Hid ((!((ts.map Prod.snd).any (lessQ ts[k].2))) = true → ((ts.map Prod.snd).take (k + 1)).filter (fun x => !((ts.map Prod.snd).any (lessQ x))) = ((ts.map Prod.snd).take k).filter (fun x => !((ts.map Prod.snd).any (lessQ x))) ++ [ts[k].2]) := Lib.hid (fun e => by
            have hk' : k < (ts.map Prod.snd).length := by simpa using hkb
            have := filt_keep (P := fun x => !((ts.map Prod.snd).any (lessQ x))) hk' (by rw [List.getElem_map]; exact e)
            rwa [List.getElem_map] at this)
          have HKD : Hid ((!((ts.map Prod.snd).any (lessQ ts[k].2))) = false → ((ts.map Prod.snd).take (k + 1)).filter (fun x => !((ts.map Prod.snd).any (lessQ x))) = ((ts.map Prod.snd).take k).filter (fun x => !((ts.map Prod.snd).any (lessQ x)))) := Lib.hid (fun e => by
            have hk' : k < (ts.map Prod.snd).length := by simpa using hkb
            exact filt_drop (P := fun x => !((ts.map Prod.snd).any (lessQ x))) hk' (by rw [List.getElem_map]; exact e))
          have HLT : Hid (∀ y ∈ os.map Prod.snd, compareI y ts[k].2 < 0) := Lib.hid (fun y hy => by
            rw [hT.out] at hy
            have h5 := (List.mem_filter.1 hy).1
            obtain ⟨j, hj, rfl⟩ := List.getElem_of_mem h5
            rw [List.length_take, List.length_map] at hj
            rw [List.getElem_take, List.getElem_map]
            have h6 := List.pairwise_iff_getElem.1 HASC.out j k (by rw [List.length_map]; omega) (by simpa using hkb) (by omega)
            rw [List.getElem_map, List.getElem_map] at h6
            have l1 := (HTV.out _ (List.getElem_mem (show j < ts.length by omega))).1
            have l2 := HXV.out.1
            unfold compareI
            rw [if_neg (by omega), if_neg (by omega), h6]
            decide)
          obtain ⟨x, hx⟩ : ∃ x, ts[k].2 = x := ⟨_, rfl⟩
          rw [hx] at hck HRX HXV HRO HKP HKD HLT
          replace HNE : Hid (∀ j, (hj : j < ts.length) → k ≠ j → ts[j].2 ≠ x) := Lib.hid (by rw [← hx]; exact HNE.out)
          have HXK := Lib.hid hx
          clear hrv hri hx
          have HCK := Lib.hid hck
          go_wp2_with fail
          go_loopw [14, 15] (fun l i wr => ∃ (j n : Nat), i = .int .i64 j ∧ j ≤ ts.length ∧ l = .bool (!(((ts.map Prod.snd).take j).any (lessQ x))) ∧ wr = wm.drewN n) (fun _ i _ => ts.length - (intOf i).toNat)
          case atStart => exact ⟨0, 0, rfl, Nat.zero_le _, rfl, rfl⟩
          case round =>
            obtain ⟨j, n, rfl, hj, rfl, rfl⟩ := hrel
            by_cases hjb : j < ts.length
            · have h5 : (j : Int) < (ts.length : Int) := by omega
              have i3 : IntKind.i64.wrap ((j : Int) + 1) = (j : Int) + 1 := IntWalk.i64_in _ (by omega)
              obtain ⟨_, _, ay, cy, e9, hcj, -, hrj⟩ := HF2.out.row hjb
              cases e9
              have HRJ := Lib.hid hrj
              have HYV := Lib.hid (HTV.out _ (List.getElem_mem hjb))
              have HSN : Hid (((ts.map Prod.snd).take (j + 1)).any (lessQ x) = (((ts.map Prod.snd).take j).any (lessQ x) || lessQ x ts[j].2)) := Lib.hid (by
                rw [List.take_succ_eq_append_getElem (by simpa using hjb), List.any_append, List.getElem_map]; simp)
              have HNJ := Lib.hid (HNE.out j hjb)
              have HSE : Hid (k = j → lessQ x ts[j].2 = false) := Lib.hid (fun e => by
                subst e
                rw [HXK.out]
                unfold lessQ; simp)
              obtain ⟨y, hy⟩ : ∃ y, ts[j].2 = y := ⟨_, rfl⟩
              rw [hy] at hcj HRJ HYV HSN HNJ HSE
              clear hrj hy
              have hcj2 : (wm.drewN n).drew.cell? ⟨bf, of + j, none⟩ = some (.slice ay y.length cy) := hcj
              have hck2 : (wm.drewN n).drew.cell? ⟨bf, of + k, none⟩ = some (.slice ax x.length cx) := hck
              by_cases hne : k = j
              · have q1 : ((k : Int) != (j : Int)) = false := by simp; omega
                have HQ0 := Lib.hid (HSE.out hne)
                clear hne
                go_wp2_with fail
                go_big_quiet (fail)
                go_wp2_with fail
                go_roundw
                case rel => exact ⟨j + 1, _, by go_num, by omega, by rw [HSN.out, HQ0.out, Bool.or_false], rfl⟩
                case measure => simp [intOf]; omega
              · have q1 : ((k : Int) != (j : Int)) = true := by simp; omega
                have HQ1 : Hid (lessQ x y = leqI y x) := Lib.hid (by unfold lessQ; rw [decide_eq_true (HNJ.out hne), Bool.true_and])
                have HYX : Hid (y.length = x.length) := Lib.hid (by rw [HYV.out.1, HXV.out.1])
                clear hne
                cases hle : leqI y x with
                | true =>
                  have HLE := Lib.hid hle
                  go_wp2_with fail
                  go_big_quiet ((go_at_call 57; exact (r12leq_any _ _ _ _ _ (HRJ.out.same (grown_drewN _ _ none)) (HRX.out.same (grown_drewN _ _ none)) HYX.out).mono (fun _ _ ⟨he, hd⟩ => ⟨he, by obtain ⟨m, rfl⟩ := hd; exact ⟨_ + m, by simp [Nat.add_assoc]; rfl⟩⟩)))
                  go_wp2_with fail
                  go_roundw
                  case rel => exact ⟨j + 1, _, by go_num, by omega, by rw [HSN.out, HQ1.out, HLE.out, Bool.or_true]; rfl, rfl⟩
                  case measure => simp [intOf]; omega
                | false =>
                  have HLE := Lib.hid hle
                  go_wp2_with fail
                  go_big_quiet ((go_at_call 57; exact (r12leq_any _ _ _ _ _ (HRJ.out.same (grown_drewN _ _ none)) (HRX.out.same (grown_drewN _ _ none)) HYX.out).mono (fun _ _ ⟨he, hd⟩ => ⟨he, by obtain ⟨m, rfl⟩ := hd; exact ⟨_ + m, by simp [Nat.add_assoc]; rfl⟩⟩)))
                  go_wp2_with fail
                  go_roundw
                  case rel => exact ⟨j + 1, _, by go_num, by omega, by rw [HSN.out, HQ1.out, HLE.out, Bool.or_false], rfl⟩
                  case measure => simp [intOf]; omega
            · obtain rfl : j = ts.length := by omega
              have h5 : ¬ (ts.length : Int) < (ts.length : Int) := by omega
              have e1 : (ts.map Prod.snd).take ts.length = ts.map Prod.snd := List.take_of_length_le (by rw [List.length_map]; exact Nat.le_refl _)
              rw [e1]
              have HOL : Hid (os.length ≤ 2000000) := Lib.hid (by
                rw [← List.length_map (f := Prod.snd), hT.out]
                refine Nat.le_trans (List.length_filter_le _ _) ?_
                rw [List.length_take, List.length_map]
                omega)
              clear e1
              cases hb : !((ts.map Prod.snd).any (lessQ x)) with
              | true =>
                have HN := Lib.hid (HKP.out hb)
                clear hb
                go_wp2_with fail
                refine (put_any _ _ os x _ (hO.out.same (grown_drewN _ _ none)) hGd.out (HRO.out.same (grown_drewN _ _ none)) HOL.out (by have := HXV.out.1; have := HCB.out; omega)).mono ?_
                rintro e w9 ⟨v9, zs, rfl, hr, hgd, hz, hg⟩
                rw [putL_end HLT.out] at hz
                have HR9 := Lib.hid hr; have HD9 := Lib.hid hgd
                have HZ9 : Hid (zs.map Prod.snd = ((ts.map Prod.snd).take (k + 1)).filter (fun x => !((ts.map Prod.snd).any (lessQ x)))) := Lib.hid (by rw [HN.out, hz, hT.out])
                have HG9 := Lib.hid (grown_trans hG2.out (grown_trans (grown_drewN _ _ none) hg))
                obtain ⟨a9, c9, rfl, -⟩ : ∃ a cap, v9 = .slice a zs.length cap ∧ True := by obtain ⟨a, cap, h, -⟩ := hr; exact ⟨a, cap, h, trivial⟩
                clear hr hgd hz hg
                go_wp2_with fail
                go_roundw
                case rel => exact ⟨k + 1, zs, a9, c9, by go_num, rfl, by omega, HR9, HD9, HZ9, HG9⟩
                case measure => simp [intOf]; omega
              | false =>
                have HN := Lib.hid (HKD.out hb)
                have HR9 := Lib.hid (hO.out.same (grown_drewN wm n none)); have HG9 := Lib.hid (grown_trans hG2.out (grown_drewN wm n none))
                clear hb
                go_wp2_with fail
                go_roundw
                case rel => exact ⟨k + 1, os, a', c', by go_num, rfl, by omega, HR9, hGd, Lib.hid (by rw [HN.out, hT.out]), HG9⟩
                case measure => simp [intOf]; omega
        · obtain rfl : k = ts.length := by omega
          have h4 : ¬ (ts.length : Int) < (ts.length : Int) := by omega
          have HEND : Hid (os.map Prod.snd = minL (goodB ms bs (cntF false)) (vecs c mst)) := Lib.hid (by
            rw [hT.out, List.take_of_length_le (by rw [List.length_map]; exact Nat.le_refl _), HFE.out]
            exact least_is)
          clear htl
          go_wp2_with fail
          go_ret
          exact ⟨_, os, rfl, hO.out, hGd.out, HEND.out, grown_trans HG1.out (grown_trans hG.out hG2.out)⟩
end Go.Proofs.Ytgcfafjgaifmiaa
