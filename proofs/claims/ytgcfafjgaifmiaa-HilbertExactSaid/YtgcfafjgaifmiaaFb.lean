/- The reference's vectors: all of them, in their order. -/
import Derived.Test.YtgcfafjgaifmiaaFa
namespace Go.Proofs.Ytgcfafjgaifmiaa
open Go.RowKit
set_option linter.unusedVariables false

/-- What lies behind the first x of the outer loop. -/
def preV (n m x : Nat) : List (List Int) := (List.range x).flatMap (fun x => (vecs n (m - x)).map (fun v => (x : Int) :: v))
theorem preV_next (n m x : Nat) : preV n m (x + 1) = preV n m x ++ (vecs n (m - x)).map (fun v => (x : Int) :: v) := by
  unfold preV
  rw [List.range_succ, List.flatMap_append]
  simp
theorem preV_all (n m : Nat) : preV n m (m + 1) = vecs (n + 1) m := rfl
theorem preV_len (n m x y : Nat) (h : x ≤ y) : (preV n m x).length ≤ (preV n m y).length := by
  induction y with
  | zero => obtain rfl : x = 0 := by omega
            exact Nat.le_refl _
  | succ y ih =>
    by_cases e : x = y + 1
    · subst e; exact Nat.le_refl _
    · have := ih (by omega)
      rw [preV_next, List.length_append]
      omega
theorem vecs_bd {n m : Nat} (hn : n ≤ 6) (hm : m ≤ 10) : (vecs n m).length ≤ 1771561 := by
  have h8 := vecs_len n m
  have h9 : (m + 1) ^ n ≤ 11 ^ 6 := Nat.le_trans (Nat.pow_le_pow_left (by omega) _) (Nat.pow_le_pow_right (by omega) hn)
  have h10 : (11 : Nat) ^ 6 = 1771561 := by decide
  omega
def VecsTo (w : World) (L : List (List Int)) (e : Ending) (w' : World) : Prop := ∃ v qs, e = .returned v ∧ OwnP w' w.heap.size v qs ∧ qs.map Prod.snd = L ∧ w.grownBy w' none ∧ ∀ q ∈ qs, ∀ g, q.1.ownBlock = some g → w.heap.size ≤ g
theorem own_lit1 (w : World) (x : Nat) : OwnI (w.alloc (.cells #[.int .i64 (x : Int)] 3)) w.heap.size (.slice (some ⟨w.heap.size, 0, none⟩) 1 1) [(x : Int)] := by
  refine ⟨rfl, .inr ⟨w.heap.size, 1, _, rfl, Nat.le_refl _, heap_new _ rfl, Nat.le_refl _, by unfold maxLen; omega, rfl, rfl⟩⟩
theorem own_one (w : World) {q : Row} {o : Obj} (ho : o = .cells #[q.1] 22) (hq : RowOk w q) : OwnP (w.alloc o) w.heap.size (.slice (some ⟨w.heap.size, 0, none⟩) 1 1) [q] := by
  subst ho
  refine ⟨⟨rfl, .inr ⟨w.heap.size, 1, _, rfl, Nat.le_refl _, heap_new _ rfl, Nat.le_refl _, by unfold maxLen; omega, rfl, rfl⟩⟩, fun r hr => ?_⟩
  rw [List.mem_singleton.1 hr]
  refine ⟨hq.same (World.grownBy_alloc _ _ none), fun g e e2 => ?_⟩
  simp only [Value.ownBlock, Option.some.injEq] at e2
  have := hq.2.2 g e
  omega
set_option maxRecDepth 100000 in
set_option maxHeartbeats 4000000 in
theorem rvectors_any : ∀ (n m : Nat) (w : World), n ≤ 6 → m ≤ 10 → Calls Try.prog 56 #[.int .i64 (n : Int), .int .i64 (m : Int)] w (VecsTo w (vecs n m)) := by
  intro n
  induction n with
  | zero =>
    intro m w _ hm
    have e0 : ((((0 : Nat) : Int)) == 0) = true := rfl
    go_enter Try.func56, Try.ntmps56
    go_wp2_with fail
    go_ret
    exact ⟨_, [(.slice none 0 0, [])], rfl, own_one w (by rfl) ⟨⟨none, 0, rfl, Nat.zero_le _, (by simp), .inl rfl⟩, Good.nil, (by intro g hg; cases hg)⟩, rfl, World.grownBy_alloc _ _ _, fun q hq g hg => by rw [List.mem_singleton.1 hq] at hg; cases hg⟩
  | succ n ih =>
    intro m w hn hm
    have IH := Lib.hid ih
    clear ih
    obtain ⟨n1, hn1⟩ : ∃ n1 : Int, ((n + 1 : Nat) : Int) = n1 := ⟨_, rfl⟩
    rw [hn1]
    have e0 : (n1 == 0) = false := beq_eq_false_iff_ne.2 (by omega)
    have i0 : IntKind.i64.wrap (n1 - 1) = (n : Int) := by rw [show n1 - 1 = (n : Int) by omega]; exact IntWalk.i64_in _ (by omega)
    clear hn1
    go_enter Try.func56, Try.ntmps56
    go_wp2_with fail
    go_loopw [5, 6] (fun o i wr => ∃ (x : Nat) (qs : List Row) (a : Option Addr) (c : Nat), i = .int .i64 x ∧ o = .slice a qs.length c ∧ x ≤ m + 1 ∧ Hid (OwnP wr w.heap.size o qs) ∧ Hid (qs.map Prod.snd = preV n m x) ∧ Hid (w.grownBy wr none) ∧ Hid (∀ q ∈ qs, ∀ g, q.1.ownBlock = some g → w.heap.size ≤ g)) (fun _ i _ => m + 1 - (intOf i).toNat)
    case atStart => exact ⟨0, [], none, 0, rfl, rfl, Nat.zero_le _, Lib.hid (OwnP.nil _ _), Lib.hid rfl, Lib.hid (grown_refl _ _), Lib.hid (by simp)⟩
    case round =>
      obtain ⟨x, qs, a, c, rfl, rfl, hx, hO, hQ, hG, hF⟩ := hrel
      rename World => wk
      by_cases hxm : x ≤ m
      · have h1 : (x : Int) ≤ (m : Int) := by omega
        have i1 : IntKind.i64.wrap ((x : Int) + 1) = (x : Int) + 1 := IntWalk.i64_in _ (by omega)
        obtain ⟨m', hm'⟩ : ∃ m' : Nat, m' = m - x := ⟨_, rfl⟩
        have i2 : IntKind.i64.wrap ((m : Int) - (x : Int)) = (m' : Int) := by rw [show (m : Int) - (x : Int) = (m' : Int) by omega]; exact IntWalk.i64_in _ (by omega)
        have hm2 : m' ≤ 10 := by omega
        have HM := Lib.hid hm'
        clear hm'
        go_wp2_with fail
        refine (IH.out m' wk (by omega) hm2).mono ?_
        rintro e w1 ⟨vr, rs, rfl, ho, hq, hg, hrf⟩
        have HR := Lib.hid ho; have HRQ := Lib.hid hq
        have HBO : Hid (∀ g, (Value.slice a qs.length c).ownBlock = some g → g < wk.heap.size ∨ w1.heap.size ≤ g) := Lib.hid (fun g e => .inl (hO.out.fresh g e).2)
        have HBR : Hid (wk.heap.size ≤ w1.heap.size ∧ (∀ g, vr.ownBlock = some g → wk.heap.size ≤ g ∧ g < w1.heap.size) ∧ ∀ q ∈ rs, ∀ g, q.1.ownBlock = some g → wk.heap.size ≤ g ∧ g < w1.heap.size) := Lib.hid ⟨hg.size, fun g e => ho.fresh g e, fun q hq' g e => ⟨hrf q hq' g e, (rows_rows ho.rows q hq').2.2 g e⟩⟩
        replace hO := Lib.hid (hO.out.same hg); replace hG := Lib.hid (grown_trans hG.out hg)
        obtain ⟨ar, cr, rfl⟩ := HR.out.slice
        have HRL : Hid (rs.length ≤ 1771561) := Lib.hid (by rw [← List.length_map (f := Prod.snd), HRQ.out]; exact vecs_bd (by omega) hm2)
        have HQL : Hid (qs.length ≤ 1771561) := Lib.hid (by
          rw [← List.length_map (f := Prod.snd), hQ.out]
          refine Nat.le_trans (preV_len n m x (m + 1) (by omega)) ?_
          rw [preV_all]
          exact vecs_bd hn hm)
        have HWK : Hid (w.heap.size ≤ w1.heap.size) := Lib.hid hG.out.size
        have HRP := Lib.hid HR.out.rows
        have HV := Lib.hid (show ∀ q ∈ rs, ∀ z ∈ q.2, 0 ≤ z ∧ z ≤ 10 ∧ q.2.length ≤ 6 from fun q hq' z hz => by
          have h1 := (mem_vecs n m' q.2).1 (HRQ.out ▸ List.mem_map_of_mem hq')
          have h2 := le_sumI h1.2.1 hz
          have h3 := h1.2.1 z hz
          have h4 := h1.2.2
          omega)
        have HVL : Hid (∀ q ∈ rs, q.2.length = n) := Lib.hid (fun q hq' => ((mem_vecs n m' q.2).1 (HRQ.out ▸ List.mem_map_of_mem hq')).1)
        clear ho hq hg i2 hrf HR
        go_wp2_with fail
        go_loopw [5, 8] (fun o i wr => ∃ (k : Nat) (ts : List Row) (a : Option Addr) (c : Nat), i = .int .i64 k ∧ o = .slice a ts.length c ∧ k ≤ rs.length ∧ Hid (OwnP wr w.heap.size o ts) ∧ Hid (ts.map Prod.snd = qs.map Prod.snd ++ ((rs.map Prod.snd).take k).map (fun v => (x : Int) :: v)) ∧ Hid (∀ g, o.ownBlock = some g → g < wk.heap.size ∨ w1.heap.size ≤ g) ∧ Hid (RowsP wr (.slice ar rs.length cr) rs) ∧ Hid (w.grownBy wr none) ∧ Hid (w1.heap.size ≤ wr.heap.size) ∧ Hid (∀ q ∈ ts, ∀ g, q.1.ownBlock = some g → w.heap.size ≤ g)) (fun _ i _ => rs.length - (intOf i).toNat)
        case atStart => exact ⟨0, qs, _, _, rfl, rfl, Nat.zero_le _, hO, Lib.hid (by simp), HBO, HRP, hG, Lib.hid (Nat.le_refl _), hF⟩
        case round =>
          clear hO HBO HRP hG hF
          obtain ⟨k, ts, a, c, rfl, rfl, hk, hO, hT, hB, hR, hG, hS, hF⟩ := hrel
          rename World => wj
          have hrl := HRL.out
          have HTL : Hid (ts.length ≤ 1000000000) := Lib.hid (by
            rw [← List.length_map (f := Prod.snd), hT.out, List.length_append, List.length_map, List.length_map, List.length_take, List.length_map]
            have := HQL.out
            omega)
          by_cases hkb : k < rs.length
          · have h3 : (k : Int) < (rs.length : Int) := by omega
            have i3 : IntKind.i64.wrap ((k : Int) + 1) = (k : Int) + 1 := IntWalk.i64_in _ (by omega)
            obtain ⟨bq, oq, a2, c2, rfl, hcell, hrv, hri⟩ := hR.out.row hkb
            have HRK : Hid (RowOk wj (.slice a2 rs[k].2.length c2, rs[k].2)) := Lib.hid (by rw [← hrv]; exact rows_rows hR.out _ (List.getElem_mem hkb))
            have HVK := Lib.hid (HV.out _ (List.getElem_mem hkb))
            have HVN := Lib.hid (HVL.out _ (List.getElem_mem hkb))
            have HTK : Hid ((rs.map Prod.snd).take (k + 1) = (rs.map Prod.snd).take k ++ [rs[k].2]) := Lib.hid (by rw [List.take_succ_eq_append_getElem (by simpa using hkb), List.getElem_map])
            clear hrv hri hrl
            obtain ⟨y, hy⟩ : ∃ y, rs[k].2 = y := ⟨_, rfl⟩
            rw [hy] at hcell HRK HVK HVN HTK
            clear hy
            have hcell2 : (wj.alloc (.cells #[.int .i64 (x : Int)] 3)).cell? ⟨bq, oq + k, none⟩ = some (.slice a2 y.length c2) := (World.grownBy_alloc wj _ none).cell hcell (by simp)
            go_wp2_with (at_builtin; refine app_ints rfl _ _ rfl wj.heap.size _ [(x : Int)] rfl (own_lit1 wj x) (.slice a2 y.length c2) y rfl (HRK.out.1.same (World.grownBy_alloc _ _ none)) HRK.out.2.1 (by have := HVN.out; simp; omega) (World.grownBy_alloc wj _ none).size ?_)
            intro v36 w36 ho hg
            obtain ⟨xs', hxs'⟩ : ∃ xs', xs' = (x : Int) :: y := ⟨_, rfl⟩
            replace ho : OwnI w36 wj.heap.size v36 ((x : Int) :: y) := ho
            rw [← hxs'] at ho
            have HXS := Lib.hid hxs'
            have hgj : wj.grownBy w36 none := grown_then (World.grownBy_alloc wj _ none) hg (by rintro j hj; exact .inl (by cases hj; exact Nat.le_refl _))
            obtain ⟨a36, c36, rfl⟩ := ownI_open ho
            have HO := Lib.hid (hO.out.same hgj); have HP := Lib.hid (ho.row (fun z hz => by
              rw [hxs'] at hz
              rcases List.mem_cons.1 hz with hz | hz
              · rw [hz]; omega
              · have := HVK.out z hz; omega))
            have HPF : Hid (∀ g, (Value.slice a36 xs'.length c36).ownBlock = some g → wj.heap.size ≤ g) := Lib.hid (fun g e => (ho.fresh g e).1)
            have HOF : Hid (∀ g, (Value.slice a36 xs'.length c36).ownBlock = some g → (Value.slice a ts.length c).ownBlock ≠ some g) := Lib.hid (fun g e e2 => by
              have h4 := (ho.fresh g e).1
              have h5 := (hO.out.fresh g e2).2
              omega)
            have HG36 := Lib.hid (grown_trans hG.out hgj); have HR36 := Lib.hid (hR.out.same hgj); have HS36 : Hid (w1.heap.size ≤ w36.heap.size) := Lib.hid (Nat.le_trans hS.out hgj.size)
            have HWJ : Hid (w.heap.size ≤ wj.heap.size) := Lib.hid hG.out.size
            clear ho hg hgj hxs' hcell hcell2
            go_wp2_with (at_builtin; refine app_row_at rfl _ _ rfl w.heap.size _ ts rfl (HO.out.same (World.grownBy_alloc _ _ none)) w36.heap.size (.slice a36 xs'.length c36, xs') rfl (cell_new rfl) (HP.out.same (World.grownBy_alloc _ _ none)) HOF.out (by have := HTL.out; omega) (Nat.le_trans HG36.out.size (World.grownBy_alloc _ _ none).size) ?_)
            intro a' n' c' w' hn ho hg hb
            obtain ⟨ts', hts'⟩ : ∃ ts', ts' = ts ++ [(.slice a36 xs'.length c36, xs')] := ⟨_, rfl⟩
            rw [← hts'] at ho
            have hn : n' = ts'.length := by rw [hn, hts', List.length_append]; rfl
            subst hn
            have HN1 := Lib.hid ho
            have HN2 : Hid (ts'.map Prod.snd = qs.map Prod.snd ++ ((rs.map Prod.snd).take (k + 1)).map (fun v => (x : Int) :: v)) := Lib.hid (by
              rw [hts', List.map_append, hT.out, HTK.out, List.map_append, List.append_assoc, HXS.out]; rfl)
            have HN3 : Hid (∀ g, (Value.slice a' ts'.length c').ownBlock = some g → g < wk.heap.size ∨ w1.heap.size ≤ g) := Lib.hid (fun g e => by
              rcases hb g e with h | h
              · exact hB.out g h
              · have h7 := HS36.out
                exact .inr (by omega))
            have HN4 := Lib.hid ((HR36.out.same (World.grownBy_alloc w36 (.cells #[.slice a36 xs'.length c36] 22) none)).keptR hg (fun b hb' e => by
              have h5 := HBR.out.2.1 b e
              have h6 := hB.out b hb'
              omega) (fun b hb' p hp e => by
              have h5 := HBR.out.2.2 p hp b e
              have h6 := hB.out b hb'
              omega))
            have HN5 := Lib.hid (grown_then (grown_trans HG36.out (World.grownBy_alloc w36 _ none)) hg (fun j hj => .inl (HO.out.fresh j hj).1))
            have HN6 : Hid (w1.heap.size ≤ w'.heap.size) := Lib.hid (Nat.le_trans HS36.out (Nat.le_trans (World.grownBy_alloc w36 _ none).size hg.size))
            have HN7 : Hid (∀ q ∈ ts', ∀ g, q.1.ownBlock = some g → w.heap.size ≤ g) := Lib.hid (fun q hq g e => by
              rw [hts'] at hq
              rcases List.mem_append.1 hq with hq | hq
              · exact hF.out q hq g e
              · rw [List.mem_singleton.1 hq] at e
                exact Nat.le_trans HWJ.out (HPF.out g e))
            clear ho hg hb hts'
            go_wp2_with fail
            go_roundw
            case rel => exact ⟨k + 1, ts', a', c', by go_num, rfl, by omega, HN1, HN2, HN3, HN4, HN5, HN6, HN7⟩
            case measure => simp [intOf]; omega
          · have h3 : ¬ (k : Int) < (rs.length : Int) := by omega
            have HNQ : Hid (ts.map Prod.snd = preV n m (x + 1)) := Lib.hid (by rw [hT.out, List.take_of_length_le (by rw [List.length_map]; omega), HRQ.out, preV_next, HM.out, hQ.out])
            clear hrl
            go_wp2_with fail
            go_roundw
            case rel => exact ⟨x + 1, ts, a, c, by go_num, rfl, by omega, hO, HNQ, hG, hF⟩
            case measure => simp [intOf]; omega
      · obtain rfl : x = m + 1 := by omega
        have h1 : ¬ ((m + 1 : Nat) : Int) ≤ (m : Int) := by omega
        go_wp2_with fail
        go_ret
        exact ⟨_, qs, rfl, hO.out, by rw [hQ.out]; exact preV_all n m, hG.out, hF.out⟩
end Go.Proofs.Ytgcfafjgaifmiaa
