/- Texts Qb, Qa in one. -/
import Derived.Test.YtpnghgihepnepaaDoorU19
import Derived.Test.YtpnghgihepnepaaDoorU6
import Derived.Test.YtpnghgihepnepaaDoorU13
import Derived.Test.YtpnghgihepnepaaDoorU5
import Derived.Test.YtpnghgihepnepaaDoorU3
import Derived.Deep.RegionHeld3
import Derived.BigRegion
namespace Go.Proofs.YtpnghgihepnepaaDoor
open Go.RowKit
set_option linter.unusedVariables false

theorem far_of {w wc : World} {base : Nat} {v : Value} {ps qs : List Row} (hr : ∀ p ∈ ps, RowOk w p) (h : OwnP wc base v qs) (hb : w.heap.size ≤ base) : ∀ q ∈ ps, ∀ g, q.1.ownBlock = some g → v.ownBlock ≠ some g := by
  intro q hq g h1 h2
  have a1 := (hr q hq).2.2 g h1
  have a2 := (h.fresh g h2).1
  omega

theorem rows_rows {w : World} {v : Value} {ps : List Row} (h : RowsP w v ps) : ∀ p ∈ ps, RowOk w p := by
  obtain ⟨_, _, _, _, _, hr⟩ := h
  exact hr
theorem OwnP.good {w : World} {base : Nat} {v : Value} {ps : List Row} (h : OwnP w base v ps) : Good v := by
  rcases h.1.2 with ⟨rfl, h0⟩ | ⟨g, cap, cur, rfl, _, _, hn, _⟩
  · exact Good.nil
  · exact Good.some _ hn
theorem ownI_open {w : World} {base : Nat} {v : Value} {xs : List Int} (h : OwnI w base v xs) : ∃ a c, v = .slice a xs.length c := by
  rcases h.2 with ⟨hv, h0⟩ | ⟨g, cap, cur, hv, _⟩
  · exact ⟨none, 0, by rw [hv, h0]⟩
  · exact ⟨_, cap, hv⟩
theorem RowOk.bdd {w : World} {v : Value} {xs : List Int} (h : RowOk w (v, xs)) : ∀ x ∈ xs, -9223372036854775808 ≤ x ∧ x ≤ 9223372036854775807 := by
  obtain ⟨⟨_, _, _, _, hb, _⟩, _⟩ := h
  exact hb
/-- One more row, inside a region that draws its order. -/
theorem step_app_row {ops : Array Oper} {o : Oper} {a : Act} {w : World} {K : Act → World → Prop} {Q : Exit → Act → World → Prop} {E : Prop} (hgd : o.guard = none) (s x : Operand)
    (ho : o.op = .call { callee := .builtin .append, args := #[s, x], argTypes := #[23, 23] }) (base : Nat) (v : Value) (ps : List Row) (hs : a.eval s = v)
    (hown : OwnP w base v ps) (b : Nat) (p : Row) (hx : a.eval x = .slice (some ⟨b, 0, none⟩) 1 1) (hnew : w.cell? ⟨b, 0, none⟩ = some p.1) (hp : RowOk w p) (hd : ∀ g, p.1.ownBlock = some g → v.ownBlock ≠ some g)
    (hlen : ps.length ≤ 1000000000000) (hbase : base ≤ w.heap.size)
    (h : ∀ v' w', OwnP w' base v' (ps ++ [p]) → w.grownBy w' v.ownBlock → K (a.put o.dst v') w') : if Region.wanted o (yielded ops a.tmps) = true then Oper.wp Tryd.prog o a w K Q else E := by
  have hw : Region.wanted o (yielded ops a.tmps) = true := by simp [Region.wanted, hgd]
  rw [if_pos hw]
  obtain ⟨i, hi, hz0, hz1, hz2⟩ := info_parts info_row
  refine wp_append_lies w s x 23 ho base 22 i (.slice none 0 0) 1 24 Tryd.underlying23 hi hz0 hz1 hz2 rfl (by decide) v ps.length (ps.map Prod.fst) hs hown.1 ⟨b, 0, none⟩ 1 1 [p.1] hx rfl ?_ ?_ (by decide) ?_ ?_ hbase w.heap.size rfl ?_
  · intro j u hu
    cases j with
    | zero => simp at hu; subst hu; simpa [Addr.add] using hnew
    | succ j => simp at hu
  · intro u hu; simp at hu; subst hu; exact slice_one hp
  · unfold maxLen; omega
  · omega
  · intro g cap w' h1 h2 h3 _
    refine h _ w' ⟨by simpa using h1, ?_⟩ h2
    intro q hq
    have hq' : RowOk w q ∧ ∀ g, q.1.ownBlock = some g → v.ownBlock ≠ some g := by
      rcases List.mem_append.1 hq with hq | hq
      · exact hown.2 q hq
      · rw [List.mem_singleton.1 hq]; exact ⟨hp, hd⟩
    refine ⟨hq'.1.kept h2 (fun k hk e => hq'.2 k e hk), fun g' hg e => ?_⟩
    simp only [Value.ownBlock, Option.some.injEq] at e
    subst e
    rcases h3 with h3 | h3
    · exact hq'.2 _ hg h3
    · have := hq'.1.2.2 _ hg; omega

/-- A list put into an ascending list, if it is not there. -/
def putL : List (List Int) → List Int → List (List Int)
  | [], r => [r]
  | x :: xs, r => if compareI x r < 0 then x :: putL xs r else if x = r then x :: xs else r :: x :: xs
theorem rcopy_any (v : Value) (xs : List Int) (w : World) (h : RowOk w (v, xs)) (hl : xs.length ≤ 1000000) :
    Calls Tryd.prog 53 #[v] w (Made xs w) := by
  have H := Lib.hid h
  obtain ⟨⟨a, cap, hv, -, -, -⟩, -, -⟩ := h
  simp only at hv
  subst hv
  go_enter Tryd.func53, Tryd.ntmps53
  go_wp2_with (at_builtin; refine app_ints rfl _ _ rfl w.heap.size _ [] rfl (OwnI.nil _ _) _ xs rfl H.out.1 H.out.2.1 (by simp; omega) (Nat.le_refl _) ?_)
  intro v' w1 ho hg
  have HO := Lib.hid ho; have HG := Lib.hid hg
  clear ho hg
  go_wp2_with fail
  go_ret
  exact ⟨_, rfl, HO.out, HG.out⟩

/-- Rows that a call returns. -/
def GotP (rs : List (List Int)) (w : World) (e : Ending) (w' : World) : Prop := ∃ v qs, e = .returned v ∧ RowsP w' v qs ∧ Good v ∧ qs.map Prod.snd = rs ∧ w.grownBy w' none

/-- The head and the tail of a slice of slices. -/
theorem rows_head {w : World} {a : Option Addr} {n cap k : Nat} {ps : List Row} (h : RowsP w (.slice a n cap) ps) (hk : k ≤ ps.length) : RowsP w (.slice a k cap) (ps.take k) := by
  obtain ⟨a1, cap1, hv, hl, hc, hr⟩ := h
  simp only [Value.slice.injEq] at hv
  obtain ⟨rfl, rfl, rfl⟩ := hv
  have hlen : (ps.take k).length = k := by rw [List.length_take]; omega
  refine ⟨a, cap, by rw [hlen], by omega, ?_, fun p hp => hr p (List.mem_of_mem_take hp)⟩
  rcases hc with rfl | ⟨b, off, e, hc⟩
  · exact .inl (by simp)
  · refine .inr ⟨b, off, e, fun i hi => ?_⟩
    rw [hlen] at hi
    rw [hc i (by omega), List.getElem?_take, if_pos hi]

set_option maxRecDepth 20000 in
theorem rows_tail {w : World} {a : Option Addr} {n cap k : Nat} {ps : List Row} (h : RowsP w (.slice a n cap) ps) (hg : Good (.slice a n cap)) (hk : k ≤ ps.length) :
    ∃ a' c', (∀ w', (Instr.slice 23 (.slice a n cap) (some (.int .i64 (k : Int))) none none).run Tryd.prog w' = .ok (.slice a' (n - k) c') w') ∧ RowsP w (.slice a' (n - k) c') (ps.drop k) := by
  obtain ⟨i, hi, hz0, hz1, hz2⟩ := info_parts info_row
  have h' := h
  obtain ⟨a1, cap1, hv, hl, hc, hr⟩ := h
  simp only [Value.slice.injEq] at hv
  obtain ⟨rfl, rfl, rfl⟩ := hv
  have hcap := hg.2 _ _ _ rfl
  have hrun : ∀ w', (Instr.slice 23 (.slice a ps.length cap) (some (.int .i64 (k : Int))) none none).run Tryd.prog w' = .ok (.slice (if cap = k then a else a.map (·.add k)) (ps.length - k) (cap - k)) w' := by
    intro w'
    rw [run_slice_l w' 23 a ps.length cap Tryd.underlying23 .i64 (k : Int) (by omega) (by omega)]
    rw [show Tryd.prog.elem 23 = 22 by kernel_rfl]
    simp [sizeOf, typeInfo, hi, hz1, sliced, Result.andThen]
  have hr' : ∀ p ∈ ps.drop k, RowOk w p := fun p hp => hr p (List.mem_of_mem_drop hp)
  have hlen : (ps.drop k).length = ps.length - k := List.length_drop
  refine ⟨_, _, hrun, ?_⟩
  rcases hc with rfl | ⟨b, off, rfl, hc⟩
  · exact ⟨if cap = k then a else a.map (·.add k), cap - k, by simp, by simp, .inl (by simp), by simp⟩
  · by_cases hck : cap = k
    · rw [if_pos hck]
      exact ⟨some ⟨b, off, none⟩, cap - k, by rw [hlen], by omega, .inl (List.drop_eq_nil_of_le (by omega)), hr'⟩
    · rw [if_neg hck]
      have he : (⟨b, off, none⟩ : Addr).add k = ⟨b, off + k, none⟩ := by unfold Addr.add; split <;> simp_all
      simp only [Option.map_some, he]
      refine ⟨some ⟨b, off + k, none⟩, cap - k, by rw [hlen], by omega, .inr ⟨b, off + k, rfl, fun i hi => ?_⟩, hr'⟩
      rw [hlen] at hi
      rw [show off + k + i = off + (k + i) by omega, hc (k + i) (by omega), List.getElem?_drop]

theorem putL_at (r : List Int) : ∀ (l : List (List Int)) (k : Nat), k ≤ l.length → (∀ j, j < k → compareI (l[j]?.getD []) r < 0) → (k < l.length → ¬ compareI (l[k]?.getD []) r < 0) →
    putL l r = if k < l.length ∧ l[k]?.getD [] = r then l else l.take k ++ r :: l.drop k
  | [], k, hk, _, _ => by
    obtain rfl : k = 0 := by simpa using hk
    simp [putL]
  | x :: l, 0, _, _, h => by
    have hn : ¬ compareI x r < 0 := h (by simp)
    unfold putL
    rw [if_neg hn]
    simp
  | x :: l, k + 1, hk, h1, h2 => by
    have hx : compareI x r < 0 := by simpa using h1 0 (by omega)
    have ih := putL_at r l k (by simpa using hk) (fun j hj => by simpa using h1 (j + 1) (by omega)) (fun hlt => by simpa using h2 (by simpa using hlt))
    unfold putL
    rw [if_pos hx, ih]
    simp only [List.length_cons, Nat.add_lt_add_iff_right, List.getElem?_cons_succ, List.take_succ_cons, List.drop_succ_cons, List.cons_append]
    split <;> rfl

theorem snd_at1 (ps : List Row) (k : Nat) (h : k < ps.length) : (ps.map Prod.snd)[k]?.getD [] = (ps[k]).2 := by simp [h]
theorem copy_far {w w' : World} {base : Nat} {u v : Value} {ps : List Row} {xs : List Int} (h : OwnP w base u ps) (h' : OwnI w' w.heap.size v xs) : ∀ g, v.ownBlock = some g → u.ownBlock ≠ some g := by
  intro g h1 h2
  have a1 := (h'.fresh g h1).1
  have a2 := (h.fresh g h2).2
  omega

set_option maxRecDepth 100000 in
set_option maxHeartbeats 4000000 in
theorem put_any (vl vr : Value) (ps : List Row) (r : List Int) (w : World) (h : RowsP w vl ps) (hgl : Good vl) (h' : RowOk w (vr, r)) (hl : ps.length ≤ 2000000) (hlr : r.length ≤ 1000000) :
    Calls Tryd.prog 36 #[vl, vr] w (GotP (putL (ps.map Prod.snd) r) w) := by
  have H := Lib.hid h; have H' := Lib.hid h'; have HGL := Lib.hid hgl
  obtain ⟨a, cap, rfl, -, -, -⟩ := h
  clear h' hgl
  go_enter Tryd.func36, Tryd.ntmps36
  go_wp2_with fail
  go_loopw [5] (fun i wr => ∃ k n : Nat, k ≤ ps.length ∧ i = .int .i64 k ∧ Hid (∀ j, j < k → compareI ((ps.map Prod.snd)[j]?.getD []) r < 0) ∧ wr = w.drewN n) (fun i _ => ps.length - (intOf i).toNat)
  case atStart => exact ⟨0, 0, Nat.zero_le _, rfl, Lib.hid (by omega), rfl⟩
  case round =>
    obtain ⟨k, n, hk, rfl, HA, rfl⟩ := hrel
    by_cases hlt : k < ps.length
    · have h1 : (k : Int) < (ps.length : Int) := by omega
      have h1' : decide (k < ps.length) = true := by simpa using hlt
      obtain ⟨_, _, hv, _, hc, hr⟩ := H.out
      simp only [Value.slice.injEq] at hv
      obtain ⟨rfl, -, -⟩ := hv
      obtain ⟨b, off, rfl, hx⟩ := RowsP.at hc hlt
      have R1 := Lib.hid (hr _ (List.getElem_mem hlt))
      have S1 := Lib.hid (snd_at1 ps k hlt)
      clear hc hr
      generalize ps[k] = p at *
      by_cases hp : compareI p.2 r < 0
      · have h3 : decide (compareI p.2 r < 0) = true := by simpa using hp
        have HP := Lib.hid hp
        clear hp
        go_wp2_with fail
        refine (rcompare_any _ _ _ _ _ (R1.out.same (grown_drewN _ _ none)).1 (H'.out.same (grown_drewN _ _ none)).1).mono ?_
        rintro e w1 ⟨rfl, m, rfl⟩
        go_wp2_with fail
        go_roundw
        case rel => exact ⟨k + 1, n + m, by omega, by go_num, Lib.hid (fun j hj => by
          rcases Nat.lt_or_ge j k with h | h
          · exact HA.out j h
          · obtain rfl : j = k := by omega
            rw [S1.out]; exact HP.out), by simp⟩
        case measure => simp [intOf]; omega
      · have h3 : decide (compareI p.2 r < 0) = false := by simpa using hp
        have HP := Lib.hid (Int.not_lt.1 hp)
        clear hp
        go_wp2_with fail
        refine (rcompare_any _ _ _ _ _ (R1.out.same (grown_drewN _ _ none)).1 (H'.out.same (grown_drewN _ _ none)).1).mono ?_
        rintro e w1 ⟨rfl, m, rfl⟩
        go_wp2_with fail
        by_cases he : p.2 = r
        · have h4 : (p.2 == r) = true := by simp [he]
          have HE := Lib.hid he
          clear he
          refine (same_any _ _ _ _ _ (R1.out.same (grown_drewN _ _ none)).1 (H'.out.same (grown_drewN _ _ none)).1).mono ?_
          rintro e w2 ⟨rfl, m2, rfl⟩
          go_wp2_with fail
          go_ret
          exact ⟨_, ps, rfl, H.out.same (grown_drewN _ _ none), HGL.out, by rw [putL_at r (ps.map Prod.snd) k (by simpa using hk) HA.out (fun _ => by rw [S1.out]; exact Int.not_lt.2 HP.out), if_pos ⟨by simpa using hlt, by rw [S1.out, HE.out]⟩], grown_drewN _ _ none⟩
        · have h4 : (p.2 == r) = false := by simp [he]
          have HE : Hid (putL (ps.map Prod.snd) r = (ps.map Prod.snd).take k ++ r :: (ps.map Prod.snd).drop k) := Lib.hid (by rw [putL_at r (ps.map Prod.snd) k (by simpa using hk) HA.out (fun _ => by rw [S1.out]; exact Int.not_lt.2 HP.out), if_neg (by rw [S1.out]; exact fun h => he h.2)])
          clear he
          refine (same_any _ _ _ _ _ (R1.out.same (grown_drewN _ _ none)).1 (H'.out.same (grown_drewN _ _ none)).1).mono ?_
          rintro e w2 ⟨rfl, m2, rfl⟩
          obtain ⟨at', ct, hrun, hrt⟩ := rows_tail H.out HGL.out hk
          have RT := Lib.hid hrt
          have RH := Lib.hid (rows_head H.out hk)
          have HRW := Lib.hid (rows_rows H.out)
          have G : Hid (w.grownBy (w.drewN (n + m + m2)).drew none) := Lib.hid (grown_trans (grown_drewN _ _ none) (grown_drew _ none))
          have hk9 : ([] : List Row).length + (ps.take k).length ≤ 1000000000000 := by simp; omega
          have hk10 : (ps.take k).length ≤ 1000000000000 := by simp; omega
          have hk11 : ∀ p : Row, ([] ++ ps.take k ++ [p]).length + (ps.drop k).length ≤ 1000000000000 := by intro p; simp; omega
          have j1 : (0 : Int) ≤ (k : Int) := by omega
          have j2 : (k : Int) ≤ (cap : Int) := by have := HGL.out.2 _ _ _ rfl; omega
          clear hrt
          go_wp2_with fail
          go_region_law (first
            | (refine step_app_all rfl (.const (.slice none 0 0)) (.tmp 36) rfl _ (.slice none 0 0) [] (by kernel_rfl) (OwnP.nil _ _) (.slice (some ⟨b, off, none⟩) k cap) (ps.take k) (by kernel_rfl) (RH.out.same (by first | exact G.out | exact grown_after G.out)) (nil_far _) hk9 (Nat.le_refl _) ?_; intro a37 n37 c37 w37 hn37 ho hg; have C37 := Lib.hid ho; replace G : Hid (w.grownBy w37 none) := Lib.hid (grown_trans (by first | exact G.out | exact grown_after G.out) hg); have B37 := G.out.size; clear hn37 ho hg)
            | (refine step_call 39 53 _ _ _ _ _ Tryd.f53 _ Tryd.func53 (by kernel_rfl) rfl [vr] (by kernel_rfl) _ (rcopy_any _ _ _ (H'.out.same (by first | exact G.out | exact grown_after G.out)) hlr) ?_; rintro e w39 ⟨v39, rfl, ho, hg⟩; obtain ⟨a39, c39, rfl⟩ := ownI_open ho; refine ⟨_, rfl, ?_⟩; have F39 := Lib.hid (copy_far C37.out ho); have C39 := Lib.hid (ho.row H'.out.bdd); replace G : Hid (w.grownBy w39 none) := Lib.hid (grown_trans (by first | exact G.out | exact grown_after G.out) hg); replace C37 := Lib.hid (C37.out.same hg); clear ho hg)
            | (refine step_app_row rfl (.tmp 37) (.tmp 40) rfl _ (.slice a37 n37 c37) _ (by kernel_rfl) (C37.out.same (World.grownBy_alloc _ _ none)) w39.heap.size (.slice a39 r.length c39, r) (by kernel_rfl) (cell_new rfl) (C39.out.same (World.grownBy_alloc _ _ none)) F39.out hk10 (Nat.le_trans G.out.size (World.grownBy_alloc w39 _ none).size) ?_; intro v41 w41 ho hg; have C41 := Lib.hid ho; replace G : Hid (w.grownBy w41 none) := Lib.hid (grown_then (by first | exact G.out | exact grown_after G.out) hg (fun j hj => .inl (C37.out.fresh j hj).1)); clear ho hg)
            | (refine step_app_all rfl (.tmp 41) (.tmp 44) rfl _ v41 _ (by kernel_rfl) C41.out (.slice at' (ps.length - k) ct) (ps.drop k) (by kernel_rfl) (RT.out.same G.out) (far_of (fun p hp => HRW.out p (List.mem_of_mem_drop hp)) C41.out (Nat.le_refl _)) (hk11 _) G.out.size ?_; intro a45 n45 c45 w45 hn45 ho hg; have C45 := Lib.hid ho; replace G : Hid (w.grownBy w45 none) := Lib.hid (grown_then G.out hg (fun j hj => .inl (C41.out.fresh j hj).1)); clear hn45 ho hg))
          all_goals
            go_wp2_with fail
            go_ret
            exact ⟨_, _, rfl, C45.out.rows, C45.out.good, by rw [HE.out, ← List.map_take, ← List.map_drop]; simp, G.out⟩
    · have h1 : ¬ (k : Int) < (ps.length : Int) := by omega
      have h1' : decide (k < ps.length) = false := by simpa using hlt
      have HE : Hid (putL (ps.map Prod.snd) r = (ps.map Prod.snd).take k ++ r :: (ps.map Prod.snd).drop k) := Lib.hid (by rw [putL_at r (ps.map Prod.snd) k (by simpa using hk) HA.out (fun h => absurd h (by simpa using hlt)), if_neg (fun h => hlt (by simpa using h.1))])
      go_wp2_with fail
      obtain ⟨at', ct, hrun, hrt⟩ := rows_tail H.out HGL.out hk
      have RT := Lib.hid hrt
      have RH := Lib.hid (rows_head H.out hk)
      have HRW := Lib.hid (rows_rows H.out)
      have G : Hid (w.grownBy (w.drewN n).drew none) := Lib.hid (grown_trans (grown_drewN _ _ none) (grown_drew _ none))
      have hk9 : ([] : List Row).length + (ps.take k).length ≤ 1000000000000 := by simp; omega
      have hk10 : (ps.take k).length ≤ 1000000000000 := by simp; omega
      have hk11 : ∀ p : Row, ([] ++ ps.take k ++ [p]).length + (ps.drop k).length ≤ 1000000000000 := by intro p; simp; omega
      have j1 : (0 : Int) ≤ (k : Int) := by omega
      have j2 : (k : Int) ≤ (cap : Int) := by have := HGL.out.2 _ _ _ rfl; omega
      clear hrt
      go_wp2_with fail
      go_region_law (first
        | (refine step_app_all rfl (.const (.slice none 0 0)) (.tmp 36) rfl _ (.slice none 0 0) [] (by kernel_rfl) (OwnP.nil _ _) (.slice a k cap) (ps.take k) (by kernel_rfl) (RH.out.same (by first | exact G.out | exact grown_after G.out)) (nil_far _) hk9 (Nat.le_refl _) ?_; intro a37 n37 c37 w37 hn37 ho hg; have C37 := Lib.hid ho; replace G : Hid (w.grownBy w37 none) := Lib.hid (grown_trans (by first | exact G.out | exact grown_after G.out) hg); have B37 := G.out.size; clear hn37 ho hg)
        | (refine step_call 39 53 _ _ _ _ _ Tryd.f53 _ Tryd.func53 (by kernel_rfl) rfl [vr] (by kernel_rfl) _ (rcopy_any _ _ _ (H'.out.same (by first | exact G.out | exact grown_after G.out)) hlr) ?_; rintro e w39 ⟨v39, rfl, ho, hg⟩; obtain ⟨a39, c39, rfl⟩ := ownI_open ho; refine ⟨_, rfl, ?_⟩; have F39 := Lib.hid (copy_far C37.out ho); have C39 := Lib.hid (ho.row H'.out.bdd); replace G : Hid (w.grownBy w39 none) := Lib.hid (grown_trans (by first | exact G.out | exact grown_after G.out) hg); replace C37 := Lib.hid (C37.out.same hg); clear ho hg)
        | (refine step_app_row rfl (.tmp 37) (.tmp 40) rfl _ (.slice a37 n37 c37) _ (by kernel_rfl) (C37.out.same (World.grownBy_alloc _ _ none)) w39.heap.size (.slice a39 r.length c39, r) (by kernel_rfl) (cell_new rfl) (C39.out.same (World.grownBy_alloc _ _ none)) F39.out hk10 (Nat.le_trans G.out.size (World.grownBy_alloc w39 _ none).size) ?_; intro v41 w41 ho hg; have C41 := Lib.hid ho; replace G : Hid (w.grownBy w41 none) := Lib.hid (grown_then (by first | exact G.out | exact grown_after G.out) hg (fun j hj => .inl (C37.out.fresh j hj).1)); clear ho hg)
        | (refine step_app_all rfl (.tmp 41) (.tmp 44) rfl _ v41 _ (by kernel_rfl) C41.out (.slice at' (ps.length - k) ct) (ps.drop k) (by kernel_rfl) (RT.out.same G.out) (far_of (fun p hp => HRW.out p (List.mem_of_mem_drop hp)) C41.out (Nat.le_refl _)) (hk11 _) G.out.size ?_; intro a45 n45 c45 w45 hn45 ho hg; have C45 := Lib.hid ho; replace G : Hid (w.grownBy w45 none) := Lib.hid (grown_then G.out hg (fun j hj => .inl (C41.out.fresh j hj).1)); clear hn45 ho hg))
      all_goals
        go_wp2_with fail
        go_ret
        exact ⟨_, _, rfl, C45.out.rows, C45.out.good, by rw [HE.out, ← List.map_take, ← List.map_drop]; simp, G.out⟩





end Go.Proofs.YtpnghgihepnepaaDoor

namespace Go.Proofs.YtpnghgihepnepaaDoor
open Go.RowKit
set_option linter.unusedVariables false

theorem putL_mem {r : List Int} : ∀ {l : List (List Int)} {b : List Int}, b ∈ putL l r → b ∈ l ∨ b = r
  | [], b, h => by unfold putL at h; exact .inr (List.mem_singleton.1 h)
  | x :: l, b, h => by
    unfold putL at h
    split at h
    · rcases List.mem_cons.1 h with rfl | h
      · exact .inl (by simp)
      · rcases putL_mem h with h | h
        · exact .inl (by simp [h])
        · exact .inr h
    · split at h
      · exact .inl h
      · rcases List.mem_cons.1 h with rfl | h
        · exact .inr rfl
        · exact .inl h
theorem putL_perm {r : List Int} : ∀ {l : List (List Int)}, r ∉ l → (putL l r).Perm (l ++ [r])
  | [], _ => by unfold putL; exact List.Perm.refl _
  | x :: l, h => by
    unfold putL
    split
    · exact (putL_perm (fun h2 => h (by simp [h2]))).cons x
    · split
      · rename_i e; exact absurd (by simp [e]) h
      · exact (List.perm_append_singleton r (x :: l)).symm
theorem putL_sorted {r : List Int} : ∀ {l : List (List Int)}, l.Pairwise (fun a b => compareI a b ≤ 0) → (putL l r).Pairwise (fun a b => compareI a b ≤ 0)
  | [], _ => by unfold putL; simp
  | x :: l, h => by
    obtain ⟨h1, h2⟩ := List.pairwise_cons.1 h
    unfold putL
    split
    · rename_i hl
      refine List.pairwise_cons.2 ⟨fun b hb => ?_, putL_sorted h2⟩
      rcases putL_mem hb with hb | rfl
      · exact h1 b hb
      · omega
    · split
      · exact h
      · rename_i hl _
        have hrx : compareI r x ≤ 0 := by have := compareI_neg x r; omega
        refine List.pairwise_cons.2 ⟨fun b hb => ?_, h⟩
        rcases List.mem_cons.1 hb with rfl | hb
        · exact hrx
        · exact cmp_trans _ _ _ hrx (h1 b hb)
theorem OfL.put {C : List (List Int)} {c s n : Nat} {fs : List (List Int)} {y : List Int} (h : OfL C c s fs) (hC : C.length = n) (h6 : n < 7) (h1 : 1 ≤ s) (hs : s < 64) (hsn : s < 2 ^ n) (hy : FlowAt C c (bitB s) y) (hb : ∀ x ∈ y, 0 ≤ x ∧ x ≤ 12079595520) : OfL C c (s + 1) (putL fs y) := by
  have hm := h.more hC h6 h1 hs hsn hy hb
  have hn : y ∉ fs := by
    have := List.nodup_append.1 hm.nodup
    exact fun h2 => this.2.2 _ h2 _ (by simp) rfl
  have hp := putL_perm hn
  exact ⟨fun z hz => hm.all z (hp.mem_iff.1 hz), fun t h2 h3 z hz => hp.mem_iff.2 (hm.got t h2 h3 z hz), hp.nodup_iff.2 hm.nodup⟩
theorem putL_len {r : List Int} : ∀ {l : List (List Int)}, (putL l r).length ≤ l.length + 1
  | [] => by unfold putL; simp
  | x :: l => by
    unfold putL
    split
    · have := putL_len (r := r) (l := l); simp; omega
    · split <;> simp
end Go.Proofs.YtpnghgihepnepaaDoor
