/- Texts Xe, Sa, Sb in one. -/
import Derived.Test.YtoaoheblaidhmaaU6
import Derived.Laws.CopyOwn
namespace Go.Proofs.Ytoaoheblaidhmaa
open Go.RowKit
set_option linter.unusedVariables false

/-- The head and the tail of a slice of slices. -/
theorem rows_head {w : World} {a : Option Addr} {n cap k : Nat} {ps : List Row} (h : RowsP w (.slice a n cap) ps) (hk : k ≤ ps.length) : RowsP w (.slice a k cap) (ps.take k) := by
  obtain ⟨a1, cap1, hv, hl, hc, hr⟩ := h
  simp only [Value.slice.injEq] at hv
  obtain ⟨rfl, rfl, rfl⟩ := hv
  have hlen : (ps.take k).length = k := by rw [List.length_take]; omega
  refine ⟨a, cap, by rw [hlen], by omega, ?_, fun p hp => hr p (List.mem_of_mem_take hp)⟩
  rcases hc with rfl | ⟨b, off, e, hc⟩
  · exact .inl (by simp)
  · refine .inr ⟨b, off, e, fun i hi => ?_⟩
    rw [hlen] at hi
    rw [hc i (by omega), List.getElem?_take, if_pos hi]

set_option maxRecDepth 20000 in
theorem rows_tail {w : World} {a : Option Addr} {n cap k : Nat} {ps : List Row} (h : RowsP w (.slice a n cap) ps) (hg : Good (.slice a n cap)) (hk : k ≤ ps.length) :
    ∃ a' c', (∀ w', (Instr.slice 24 (.slice a n cap) (some (.int .i64 (k : Int))) none none).run Try.prog w' = .ok (.slice a' (n - k) c') w') ∧ RowsP w (.slice a' (n - k) c') (ps.drop k) := by
  obtain ⟨i, hi, hz0, hz1, hz2⟩ := info_parts info_row
  have h' := h
  obtain ⟨a1, cap1, hv, hl, hc, hr⟩ := h
  simp only [Value.slice.injEq] at hv
  obtain ⟨rfl, rfl, rfl⟩ := hv
  have hcap := hg.2 _ _ _ rfl
  have hrun : ∀ w', (Instr.slice 24 (.slice a ps.length cap) (some (.int .i64 (k : Int))) none none).run Try.prog w' = .ok (.slice (if cap = k then a else a.map (·.add k)) (ps.length - k) (cap - k)) w' := by
    intro w'
    rw [run_slice_l w' 24 a ps.length cap Try.underlying24 .i64 (k : Int) (by omega) (by omega)]
    rw [show Try.prog.elem 24 = 22 by kernel_rfl]
    simp [sizeOf, typeInfo, hi, hz1, sliced, Result.andThen]
  have hr' : ∀ p ∈ ps.drop k, RowOk w p := fun p hp => hr p (List.mem_of_mem_drop hp)
  have hlen : (ps.drop k).length = ps.length - k := List.length_drop
  refine ⟨_, _, hrun, ?_⟩
  rcases hc with rfl | ⟨b, off, rfl, hc⟩
  · exact ⟨if cap = k then a else a.map (·.add k), cap - k, by simp, by simp, .inl (by simp), by simp⟩
  · by_cases hck : cap = k
    · rw [if_pos hck]
      exact ⟨some ⟨b, off, none⟩, cap - k, by rw [hlen], by omega, .inl (List.drop_eq_nil_of_le (by omega)), hr'⟩
    · rw [if_neg hck]
      have he : (⟨b, off, none⟩ : Addr).add k = ⟨b, off + k, none⟩ := by unfold Addr.add; split <;> simp_all
      simp only [Option.map_some, he]
      refine ⟨some ⟨b, off + k, none⟩, cap - k, by rw [hlen], by omega, .inr ⟨b, off + k, rfl, fun i hi => ?_⟩, hr'⟩
      rw [hlen] at hi
      rw [show off + k + i = off + (k + i) by omega, hc (k + i) (by omega), List.getElem?_drop]

theorem putL_at (r : List Int) : ∀ (l : List (List Int)) (k : Nat), k ≤ l.length → (∀ j, j < k → compareI (l[j]?.getD []) r < 0) → (k < l.length → ¬ compareI (l[k]?.getD []) r < 0) →
    putL l r = if k < l.length ∧ l[k]?.getD [] = r then l else l.take k ++ r :: l.drop k
  | [], k, hk, _, _ => by
    obtain rfl : k = 0 := by simpa using hk
    simp [putL]
  | x :: l, 0, _, _, h => by
    have hn : ¬ compareI x r < 0 := h (by simp)
    unfold putL
    rw [if_neg hn]
    simp
  | x :: l, k + 1, hk, h1, h2 => by
    have hx : compareI x r < 0 := by simpa using h1 0 (by omega)
    have ih := putL_at r l k (by simpa using hk) (fun j hj => by simpa using h1 (j + 1) (by omega)) (fun hlt => by simpa using h2 (by simpa using hlt))
    unfold putL
    rw [if_pos hx, ih]
    simp only [List.length_cons, Nat.add_lt_add_iff_right, List.getElem?_cons_succ, List.take_succ_cons, List.drop_succ_cons, List.cons_append]
    split <;> rfl

theorem snd_at (ps : List Row) (k : Nat) (h : k < ps.length) : (ps.map Prod.snd)[k]?.getD [] = (ps[k]).2 := by simp [h]
theorem far_of {w wc : World} {base : Nat} {v : Value} {ps qs : List Row} (hr : ∀ p ∈ ps, RowOk w p) (h : OwnP wc base v qs) (hb : w.heap.size ≤ base) : ∀ q ∈ ps, ∀ g, q.1.ownBlock = some g → v.ownBlock ≠ some g := by
  intro q hq g h1 h2
  have a1 := (hr q hq).2.2 g h1
  have a2 := (h.fresh g h2).1
  omega

theorem rows_rows {w : World} {v : Value} {ps : List Row} (h : RowsP w v ps) : ∀ p ∈ ps, RowOk w p := by
  obtain ⟨_, _, _, _, _, hr⟩ := h
  exact hr
theorem OwnP.good {w : World} {base : Nat} {v : Value} {ps : List Row} (h : OwnP w base v ps) : Good v := by
  rcases h.1.2 with ⟨rfl, h0⟩ | ⟨g, cap, cur, rfl, _, _, hn, _⟩
  · exact Good.nil
  · exact Good.some _ hn
theorem ownI_open {w : World} {base : Nat} {v : Value} {xs : List Int} (h : OwnI w base v xs) : ∃ a c, v = .slice a xs.length c := by
  rcases h.2 with ⟨hv, h0⟩ | ⟨g, cap, cur, hv, _⟩
  · exact ⟨none, 0, by rw [hv, h0]⟩
  · exact ⟨_, cap, hv⟩
theorem RowOk.bdd {w : World} {v : Value} {xs : List Int} (h : RowOk w (v, xs)) : ∀ x ∈ xs, -9223372036854775808 ≤ x ∧ x ≤ 9223372036854775807 := by
  obtain ⟨⟨_, _, _, _, hb, _⟩, _⟩ := h
  exact hb
theorem copy_far {w w' : World} {base : Nat} {u v : Value} {ps : List Row} {xs : List Int} (h : OwnP w base u ps) (h' : OwnI w' w.heap.size v xs) : ∀ g, v.ownBlock = some g → u.ownBlock ≠ some g := by
  intro g h1 h2
  have a1 := (h'.fresh g h1).1
  have a2 := (h.fresh g h2).2
  omega

set_option maxRecDepth 100000 in
set_option maxHeartbeats 4000000 in
theorem put_any (vl vr : Value) (ps : List Row) (r : List Int) (w : World) (h : RowsP w vl ps) (hgl : Good vl) (h' : RowOk w (vr, r)) (hl : ps.length ≤ 1000000) (hlr : r.length ≤ 1000000) :
    Calls Try.prog 34 #[vl, vr] w (GotP (putL (ps.map Prod.snd) r) w) := by
  have H := Lib.hid h; have H' := Lib.hid h'; have HGL := Lib.hid hgl
  obtain ⟨a, cap, rfl, -, -, -⟩ := h
  clear h' hgl
  go_enter Try.func34, Try.ntmps34
  go_wp2_with fail
  go_loopw [5] (fun i wr => ∃ k n : Nat, k ≤ ps.length ∧ i = .int .i64 k ∧ Hid (∀ j, j < k → compareI ((ps.map Prod.snd)[j]?.getD []) r < 0) ∧ wr = w.drewN n) (fun i _ => ps.length - (intOf i).toNat)
  case atStart => exact ⟨0, 0, Nat.zero_le _, rfl, Lib.hid (by omega), rfl⟩
  case round =>
    obtain ⟨k, n, hk, rfl, HA, rfl⟩ := hrel
    by_cases hlt : k < ps.length
    · have h1 : (k : Int) < (ps.length : Int) := by omega
      have h1' : decide (k < ps.length) = true := by simpa using hlt
      obtain ⟨_, _, hv, _, hc, hr⟩ := H.out
      simp only [Value.slice.injEq] at hv
      obtain ⟨rfl, -, -⟩ := hv
      obtain ⟨b, off, rfl, hx⟩ := RowsP.at hc hlt
      have R1 := Lib.hid (hr _ (List.getElem_mem hlt))
      have S1 := Lib.hid (snd_at ps k hlt)
      clear hc hr
      generalize ps[k] = p at *
      by_cases hp : compareI p.2 r < 0
      · have h3 : decide (compareI p.2 r < 0) = true := by simpa using hp
        have HP := Lib.hid hp
        clear hp
        go_wp2_with fail
        refine (rcompare_any _ _ _ _ _ (R1.out.same (grown_drewN _ _ none)).1 (H'.out.same (grown_drewN _ _ none)).1).mono ?_
        rintro e w1 ⟨rfl, m, rfl⟩
        go_wp2_with fail
        go_roundw
        case rel => exact ⟨k + 1, n + m, by omega, by go_num, Lib.hid (fun j hj => by
          rcases Nat.lt_or_ge j k with h | h
          · exact HA.out j h
          · obtain rfl : j = k := by omega
            rw [S1.out]; exact HP.out), by simp⟩
        case measure => simp [intOf]; omega
      · have h3 : decide (compareI p.2 r < 0) = false := by simpa using hp
        have HP := Lib.hid (Int.not_lt.1 hp)
        clear hp
        go_wp2_with fail
        refine (rcompare_any _ _ _ _ _ (R1.out.same (grown_drewN _ _ none)).1 (H'.out.same (grown_drewN _ _ none)).1).mono ?_
        rintro e w1 ⟨rfl, m, rfl⟩
        go_wp2_with fail
        by_cases he : p.2 = r
        · have h4 : (p.2 == r) = true := by simp [he]
          have HE := Lib.hid he
          clear he
          refine (same_any _ _ _ _ _ (R1.out.same (grown_drewN _ _ none)).1 (H'.out.same (grown_drewN _ _ none)).1).mono ?_
          rintro e w2 ⟨rfl, m2, rfl⟩
          go_wp2_with fail
          go_ret
          exact ⟨_, ps, rfl, H.out.same (grown_drewN _ _ none), HGL.out, by rw [putL_at r (ps.map Prod.snd) k (by simpa using hk) HA.out (fun _ => by rw [S1.out]; exact Int.not_lt.2 HP.out), if_pos ⟨by simpa using hlt, by rw [S1.out, HE.out]⟩], grown_drewN _ _ none⟩
        · have h4 : (p.2 == r) = false := by simp [he]
          have HE : Hid (putL (ps.map Prod.snd) r = (ps.map Prod.snd).take k ++ r :: (ps.map Prod.snd).drop k) := Lib.hid (by rw [putL_at r (ps.map Prod.snd) k (by simpa using hk) HA.out (fun _ => by rw [S1.out]; exact Int.not_lt.2 HP.out), if_neg (by rw [S1.out]; exact fun h => he h.2)])
          clear he
          refine (same_any _ _ _ _ _ (R1.out.same (grown_drewN _ _ none)).1 (H'.out.same (grown_drewN _ _ none)).1).mono ?_
          rintro e w2 ⟨rfl, m2, rfl⟩
          obtain ⟨at', ct, hrun, hrt⟩ := rows_tail H.out HGL.out hk
          have RT := Lib.hid hrt
          have RH := Lib.hid (rows_head H.out hk)
          have HRW := Lib.hid (rows_rows H.out)
          have G : Hid (w.grownBy (w.drewN (n + m + m2)).drew none) := Lib.hid (grown_trans (grown_drewN _ _ none) (grown_drew _ none))
          have hk9 : ([] : List Row).length + (ps.take k).length ≤ 1000000000000 := by simp; omega
          have hk10 : (ps.take k).length ≤ 1000000000000 := by simp; omega
          have hk11 : ∀ p : Row, ([] ++ ps.take k ++ [p]).length + (ps.drop k).length ≤ 1000000000000 := by intro p; simp; omega
          have j1 : (0 : Int) ≤ (k : Int) := by omega
          have j2 : (k : Int) ≤ (cap : Int) := by have := HGL.out.2 _ _ _ rfl; omega
          clear hrt
          go_wp2_with fail
          go_region_law (first
            | (refine step_app_all rfl (.const (.slice none 0 0)) (.tmp 36) rfl _ (.slice none 0 0) [] (by kernel_rfl) (OwnP.nil _ _) (.slice (some ⟨b, off, none⟩) k cap) (ps.take k) (by kernel_rfl) (RH.out.same (by first | exact G.out | exact grown_after G.out)) (nil_far _) hk9 (Nat.le_refl _) ?_; intro a37 n37 c37 w37 hn37 ho hg; have C37 := Lib.hid ho; replace G : Hid (w.grownBy w37 none) := Lib.hid (grown_trans (by first | exact G.out | exact grown_after G.out) hg); have B37 := G.out.size; clear hn37 ho hg)
            | (refine step_call 39 57 _ _ _ _ _ Try.f57 _ Try.func57 (by kernel_rfl) rfl [vr] (by kernel_rfl) _ (rcopy_any _ _ _ (H'.out.same (by first | exact G.out | exact grown_after G.out)) hlr) ?_; rintro e w39 ⟨v39, rfl, ho, hg⟩; obtain ⟨a39, c39, rfl⟩ := ownI_open ho; refine ⟨_, rfl, ?_⟩; have F39 := Lib.hid (copy_far C37.out ho); have C39 := Lib.hid (ho.row H'.out.bdd); replace G : Hid (w.grownBy w39 none) := Lib.hid (grown_trans (by first | exact G.out | exact grown_after G.out) hg); replace C37 := Lib.hid (C37.out.same hg); clear ho hg)
            | (refine step_app_row rfl (.tmp 37) (.tmp 40) rfl _ (.slice a37 n37 c37) _ (by kernel_rfl) (C37.out.same (World.grownBy_alloc _ _ none)) w39.heap.size (.slice a39 r.length c39, r) (by kernel_rfl) (cell_new rfl) (C39.out.same (World.grownBy_alloc _ _ none)) F39.out hk10 (Nat.le_trans G.out.size (World.grownBy_alloc w39 _ none).size) ?_; intro v41 w41 ho hg; have C41 := Lib.hid ho; replace G : Hid (w.grownBy w41 none) := Lib.hid (grown_then (by first | exact G.out | exact grown_after G.out) hg (fun j hj => .inl (C37.out.fresh j hj).1)); clear ho hg)
            | (refine step_app_all rfl (.tmp 41) (.tmp 44) rfl _ v41 _ (by kernel_rfl) C41.out (.slice at' (ps.length - k) ct) (ps.drop k) (by kernel_rfl) (RT.out.same G.out) (far_of (fun p hp => HRW.out p (List.mem_of_mem_drop hp)) C41.out (Nat.le_refl _)) (hk11 _) G.out.size ?_; intro a45 n45 c45 w45 hn45 ho hg; have C45 := Lib.hid ho; replace G : Hid (w.grownBy w45 none) := Lib.hid (grown_then G.out hg (fun j hj => .inl (C41.out.fresh j hj).1)); clear hn45 ho hg))
          all_goals
            go_wp2_with fail
            go_ret
            exact ⟨_, _, rfl, C45.out.rows, C45.out.good, by rw [HE.out, ← List.map_take, ← List.map_drop]; simp, G.out⟩
    · have h1 : ¬ (k : Int) < (ps.length : Int) := by omega
      have h1' : decide (k < ps.length) = false := by simpa using hlt
      have HE : Hid (putL (ps.map Prod.snd) r = (ps.map Prod.snd).take k ++ r :: (ps.map Prod.snd).drop k) := Lib.hid (by rw [putL_at r (ps.map Prod.snd) k (by simpa using hk) HA.out (fun h => absurd h (by simpa using hlt)), if_neg (fun h => hlt (by simpa using h.1))])
      go_wp2_with fail
      obtain ⟨at', ct, hrun, hrt⟩ := rows_tail H.out HGL.out hk
      have RT := Lib.hid hrt
      have RH := Lib.hid (rows_head H.out hk)
      have HRW := Lib.hid (rows_rows H.out)
      have G : Hid (w.grownBy (w.drewN n).drew none) := Lib.hid (grown_trans (grown_drewN _ _ none) (grown_drew _ none))
      have hk9 : ([] : List Row).length + (ps.take k).length ≤ 1000000000000 := by simp; omega
      have hk10 : (ps.take k).length ≤ 1000000000000 := by simp; omega
      have hk11 : ∀ p : Row, ([] ++ ps.take k ++ [p]).length + (ps.drop k).length ≤ 1000000000000 := by intro p; simp; omega
      have j1 : (0 : Int) ≤ (k : Int) := by omega
      have j2 : (k : Int) ≤ (cap : Int) := by have := HGL.out.2 _ _ _ rfl; omega
      clear hrt
      go_wp2_with fail
      go_region_law (first
        | (refine step_app_all rfl (.const (.slice none 0 0)) (.tmp 36) rfl _ (.slice none 0 0) [] (by kernel_rfl) (OwnP.nil _ _) (.slice a k cap) (ps.take k) (by kernel_rfl) (RH.out.same (by first | exact G.out | exact grown_after G.out)) (nil_far _) hk9 (Nat.le_refl _) ?_; intro a37 n37 c37 w37 hn37 ho hg; have C37 := Lib.hid ho; replace G : Hid (w.grownBy w37 none) := Lib.hid (grown_trans (by first | exact G.out | exact grown_after G.out) hg); have B37 := G.out.size; clear hn37 ho hg)
        | (refine step_call 39 57 _ _ _ _ _ Try.f57 _ Try.func57 (by kernel_rfl) rfl [vr] (by kernel_rfl) _ (rcopy_any _ _ _ (H'.out.same (by first | exact G.out | exact grown_after G.out)) hlr) ?_; rintro e w39 ⟨v39, rfl, ho, hg⟩; obtain ⟨a39, c39, rfl⟩ := ownI_open ho; refine ⟨_, rfl, ?_⟩; have F39 := Lib.hid (copy_far C37.out ho); have C39 := Lib.hid (ho.row H'.out.bdd); replace G : Hid (w.grownBy w39 none) := Lib.hid (grown_trans (by first | exact G.out | exact grown_after G.out) hg); replace C37 := Lib.hid (C37.out.same hg); clear ho hg)
        | (refine step_app_row rfl (.tmp 37) (.tmp 40) rfl _ (.slice a37 n37 c37) _ (by kernel_rfl) (C37.out.same (World.grownBy_alloc _ _ none)) w39.heap.size (.slice a39 r.length c39, r) (by kernel_rfl) (cell_new rfl) (C39.out.same (World.grownBy_alloc _ _ none)) F39.out hk10 (Nat.le_trans G.out.size (World.grownBy_alloc w39 _ none).size) ?_; intro v41 w41 ho hg; have C41 := Lib.hid ho; replace G : Hid (w.grownBy w41 none) := Lib.hid (grown_then (by first | exact G.out | exact grown_after G.out) hg (fun j hj => .inl (C37.out.fresh j hj).1)); clear ho hg)
        | (refine step_app_all rfl (.tmp 41) (.tmp 44) rfl _ v41 _ (by kernel_rfl) C41.out (.slice at' (ps.length - k) ct) (ps.drop k) (by kernel_rfl) (RT.out.same G.out) (far_of (fun p hp => HRW.out p (List.mem_of_mem_drop hp)) C41.out (Nat.le_refl _)) (hk11 _) G.out.size ?_; intro a45 n45 c45 w45 hn45 ho hg; have C45 := Lib.hid ho; replace G : Hid (w.grownBy w45 none) := Lib.hid (grown_then G.out hg (fun j hj => .inl (C41.out.fresh j hj).1)); clear hn45 ho hg))
      all_goals
        go_wp2_with fail
        go_ret
        exact ⟨_, _, rfl, C45.out.rows, C45.out.good, by rw [HE.out, ← List.map_take, ← List.map_drop]; simp, G.out⟩

end Go.Proofs.Ytoaoheblaidhmaa

namespace Go.Proofs.Ytoaoheblaidhmaa
open Go.RowKit
set_option linter.unusedVariables false

/-- v less k times p. -/
def subk (k : Int) (p v : List Int) : List Int := List.zipWith (fun a x => a - k * x) v p
/-- v and k times p. -/
def addk (k : Int) (p v : List Int) : List Int := List.zipWith (fun a x => a + k * x) v p
/-- v less b. -/
def lessL (v b : List Int) : List Int := List.zipWith (fun a x => a - x) v b
def Sol : List (List Int) → List Int → List Int → Prop
  | [], [], v => ∀ x ∈ v, x = 0
  | p :: ps, k :: ks, v => 0 ≤ k ∧ Sol ps ks (subk k p v)
  | _, _, _ => False
def Least (ps : List (List Int)) (v : List Int) : Option (List Int) → Prop
  | some ks => Sol ps ks v ∧ ∀ ks', Sol ps ks' v → lexI ks ks' ≤ 0
  | none => ∀ ks, ¬ Sol ps ks v
/-- Numbers from 0, of one length. -/
def Nat0 (n : Nat) (p : List Int) : Prop := p.length = n ∧ ∀ x ∈ p, 0 ≤ x
def Some1 (p : List Int) : Prop := ∃ x ∈ p, 1 ≤ x

theorem subk_len {n : Nat} {k : Int} {p v : List Int} (hp : p.length = n) (hv : v.length = n) : (subk k p v).length = n := by simp [subk, hp, hv]
theorem addk_len {n : Nat} {k : Int} {p v : List Int} (hp : p.length = n) (hv : v.length = n) : (addk k p v).length = n := by simp [addk, hp, hv]
theorem lessL_len {n : Nat} {p v : List Int} (hp : p.length = n) (hv : v.length = n) : (lessL v p).length = n := by simp [lessL, hp, hv]
theorem subk_at (k : Int) (p v : List Int) (i : Nat) (hp : i < p.length) (hv : i < v.length) : (subk k p v)[i]?.getD 0 = v[i]?.getD 0 - k * p[i]?.getD 0 := zip_at _ v p i hv hp
theorem subk_zero : ∀ (p v : List Int), p.length = v.length → subk 0 p v = v
  | [], [], _ => rfl
  | x :: p, y :: v, h => by
    have := subk_zero p v (by simpa using h)
    simp only [subk, List.zipWith_cons_cons, Int.zero_mul, Int.sub_zero] at this ⊢
    rw [this]
  | [], _ :: _, h => by simp at h
  | _ :: _, [], h => by simp at h
theorem subk_sub (k j : Int) : ∀ (p v : List Int), subk j p (subk k p v) = subk (k + j) p v
  | [], v => by cases v <;> simp [subk]
  | x :: p, [] => by simp [subk]
  | x :: p, y :: v => by
    have := subk_sub k j p v
    simp only [subk, List.zipWith_cons_cons] at this ⊢
    rw [this, Int.add_mul]
    congr 1
    omega
theorem subk_less : ∀ (k : Int) (p v b : List Int), subk k p (lessL v b) = lessL v (addk k p b)
  | k, [], v, b => by cases v <;> cases b <;> simp [subk, lessL, addk]
  | k, x :: p, [], b => by cases b <;> simp [subk, lessL, addk]
  | k, x :: p, y :: v, [] => by simp [subk, lessL, addk]
  | k, x :: p, y :: v, z :: b => by
    have := subk_less k p v b
    simp only [subk, lessL, addk, List.zipWith_cons_cons] at this ⊢
    rw [this]
    congr 1
    omega
theorem subk_comm : ∀ (k j : Int) (p q v : List Int), subk k p (subk j q v) = subk j q (subk k p v)
  | k, j, p, q, [] => by cases p <;> cases q <;> simp [subk]
  | k, j, [], q, x :: v => by cases q <;> simp [subk]
  | k, j, p, [], x :: v => by cases p <;> simp [subk]
  | k, j, y :: p, z :: q, x :: v => by
    have := subk_comm k j p q v
    simp only [subk, List.zipWith_cons_cons] at this ⊢
    rw [this]
    congr 1
    omega

theorem Sol.len : ∀ {ps : List (List Int)} {ks v : List Int}, Sol ps ks v → ks.length = ps.length
  | [], [], _, _ => rfl
  | p :: ps, k :: ks, v, h => by
    have := Sol.len h.2
    simp [this]
  | [], _ :: _, _, h => h.elim
  | _ :: _, [], _, h => h.elim
theorem mem_zipWith_at (f : Int → Int → Int) : ∀ (v p : List Int), v.length = p.length → ∀ x ∈ v, ∃ y ∈ p, f x y ∈ List.zipWith f v p
  | [], _, _, x, h => by simp at h
  | a :: v, [], hl, _, _ => by simp at hl
  | a :: v, b :: p, hl, x, h => by
    rcases List.mem_cons.1 h with rfl | h
    · exact ⟨b, by simp, by simp⟩
    · obtain ⟨y, hy, hm⟩ := mem_zipWith_at f v p (by simpa using hl) x h
      exact ⟨y, by simp [hy], by simp [hm]⟩
theorem mem_zipWith_at' (f : Int → Int → Int) : ∀ (v p : List Int), v.length = p.length → ∀ y ∈ p, ∃ x ∈ v, f x y ∈ List.zipWith f v p
  | [], [], _, y, h => by simp at h
  | [], _ :: _, hl, _, _ => by simp at hl
  | a :: v, [], hl, _, _ => by simp at hl
  | a :: v, b :: p, hl, y, h => by
    rcases List.mem_cons.1 h with rfl | h
    · exact ⟨a, by simp, by simp⟩
    · obtain ⟨x, hx, hm⟩ := mem_zipWith_at' f v p (by simpa using hl) y h
      exact ⟨x, by simp [hx], by simp [hm]⟩
theorem mem_zipWith (f : Int → Int → Int) : ∀ (v p : List Int), ∀ z ∈ List.zipWith f v p, ∃ x ∈ v, ∃ y ∈ p, z = f x y
  | [], _, z, h => by simp at h
  | a :: v, [], z, h => by simp at h
  | a :: v, b :: p, z, h => by
    rcases List.mem_cons.1 (by simpa using h : z ∈ f a b :: List.zipWith f v p) with rfl | h
    · exact ⟨a, by simp, b, by simp, rfl⟩
    · obtain ⟨x, hx, y, hy, e⟩ := mem_zipWith f v p z h
      exact ⟨x, by simp [hx], y, by simp [hy], e⟩
theorem Sol.nonneg : ∀ {ps : List (List Int)} {ks v : List Int} {n : Nat}, (∀ p ∈ ps, Nat0 n p) → v.length = n → Sol ps ks v → ∀ x ∈ v, 0 ≤ x
  | [], [], v, n, _, _, h, x, hx => by have := h x hx; omega
  | p :: ps, k :: ks, v, n, hp, hv, h, x, hx => by
    have hp1 := hp p (by simp)
    have ih := Sol.nonneg (fun q hq => hp q (by simp [hq])) (subk_len hp1.1 hv) h.2
    obtain ⟨y, hy, hm⟩ := mem_zipWith_at (fun a x => a - k * x) v p (by rw [hv, hp1.1]) x hx
    have h1 := ih _ hm
    have h2 := Int.mul_nonneg h.1 (hp1.2 y hy)
    omega
  | [], _ :: _, _, _, _, _, h, _, _ => h.elim
  | _ :: _, [], _, _, _, _, h, _, _ => h.elim
theorem Sol.le : ∀ {ps : List (List Int)} {ks v : List Int} {n : Nat} {M : Int}, (∀ p ∈ ps, Nat0 n p ∧ Some1 p) → v.length = n → (∀ x ∈ v, x ≤ M) → Sol ps ks v → ∀ k ∈ ks, 0 ≤ k ∧ k ≤ M
  | [], [], v, n, M, _, _, _, h, k, hk => by simp at hk
  | p :: ps, k :: ks, v, n, M, hp, hv, hM, h, j, hj => by
    have hp1 := hp p (by simp)
    rcases List.mem_cons.1 hj with rfl | hj
    · obtain ⟨y, hy, h1⟩ := hp1.2
      obtain ⟨x, hx, hm⟩ := mem_zipWith_at' (fun a x => a - j * x) v p (by rw [hv, hp1.1.1]) y hy
      have h2 := Sol.nonneg (fun q hq => (hp q (by simp [hq])).1) (subk_len hp1.1.1 hv) h.2 _ hm
      have h3 := hM x hx
      have h4 := Int.mul_le_mul_of_nonneg_left h1 h.1
      have := h.1
      omega
    · refine Sol.le (fun q hq => hp q (by simp [hq])) (subk_len hp1.1.1 hv) (M := M) ?_ h.2 j hj
      intro z hz
      obtain ⟨x, hx, y, hy, rfl⟩ := mem_zipWith _ v p z hz
      have h3 := hM x hx
      have h4 := Int.mul_nonneg h.1 (hp1.1.2 y hy)
      omega
  | [], _ :: _, _, _, _, _, _, _, h, _, _ => h.elim
  | _ :: _, [], _, _, _, _, _, _, h, _, _ => h.elim

/-- The loop of times: nothing with fewer of the first period. -/
def Fewer (ps : List (List Int)) (p v : List Int) (k : Int) : Prop := ∀ ks j, 0 ≤ j → j < k → ¬ Sol ps ks (subk j p v)
theorem Fewer.zero (ps : List (List Int)) (p v : List Int) : Fewer ps p v 0 := fun _ _ h0 h1 => absurd h0 (by omega)
theorem Fewer.next {ps : List (List Int)} {p v : List Int} {k : Int} (h : Fewer ps p v k) (hn : Least ps (subk k p v) none) : Fewer ps p v (k + 1) := by
  intro ks j h0 h1 hs
  by_cases hj : j = k
  · subst hj; exact hn ks hs
  · exact h ks j h0 (by omega) hs
theorem Fewer.found {ps : List (List Int)} {p v ks : List Int} {k : Int} (h : Fewer ps p v k) (h0 : 0 ≤ k) (hl : Least ps (subk k p v) (some ks)) : Least (p :: ps) v (some (k :: ks)) := by
  refine ⟨⟨h0, hl.1⟩, ?_⟩
  intro ks' hs
  match ks', hs with
  | j :: js, hs =>
    have hj : k ≤ j := Int.not_lt.1 fun hlt => h js j hs.1 hlt hs.2
    unfold lexI
    by_cases he : k < j
    · simp [he]
    · obtain rfl : k = j := by omega
      simpa using hl.2 js hs.2
theorem Fewer.none {ps : List (List Int)} {p v : List Int} {k : Int} {n : Nat} (h : Fewer ps p v k) (hp : Nat0 n p) (hps : ∀ q ∈ ps, Nat0 n q) (hv : v.length = n) (hneg : ∃ x ∈ subk k p v, x < 0) (h0 : 0 ≤ k) : Least (p :: ps) v none := by
  intro ks hs
  match ks, hs with
  | j :: js, hs =>
    have hj : k ≤ j := Int.not_lt.1 fun hlt => h js j hs.1 hlt hs.2
    have hnn := Sol.nonneg hps (subk_len hp.1 hv) hs.2
    obtain ⟨x, hx, hx0⟩ := hneg
    obtain ⟨i, hi, rfl⟩ := List.getElem_of_mem hx
    have hi' : i < n := by rw [subk_len hp.1 hv] at hi; exact hi
    have e1 := subk_at k p v i (by rw [hp.1]; exact hi') (by rw [hv]; exact hi')
    have e2 := subk_at j p v i (by rw [hp.1]; exact hi') (by rw [hv]; exact hi')
    have hi2 : i < (subk j p v).length := by rw [subk_len hp.1 hv]; exact hi'
    rw [List.getElem?_eq_getElem hi] at e1
    rw [List.getElem?_eq_getElem hi2] at e2
    have h3 := hnn _ (List.getElem_mem hi2)
    have hpi : 0 ≤ p[i]?.getD 0 := by
      have hip : i < p.length := by rw [hp.1]; exact hi'
      rw [List.getElem?_eq_getElem hip]
      exact hp.2 _ (List.getElem_mem hip)
    simp only [Option.getD_some] at e1 e2
    have h4 := Int.mul_le_mul_of_nonneg_right hj hpi
    omega

end Go.Proofs.Ytoaoheblaidhmaa

namespace Go.Proofs.Ytoaoheblaidhmaa
open Go.RowKit
set_option linter.unusedVariables false

def withB (most : Int) (xs : List Int) : Bool := xs.all (fun x => decide (0 ≤ x) && decide (x ≤ most))
theorem withB_iff {most : Int} {xs : List Int} : withB most xs = true ↔ ∀ x ∈ xs, 0 ≤ x ∧ x ≤ most := by simp [withB]

theorem within_any (v : Value) (xs : List Int) (most : Int) (w : World) (h : Ints w v xs) :
    Calls Try.prog 37 #[v, .int .i64 most] w fun e w' => e = .returned (.bool (withB most xs)) ∧ w' = w := by
  obtain ⟨a, cap, rfl, hl, hb, hc⟩ := h
  unfold maxLen at hl
  go_enter Try.func37, Try.ntmps37
  go_wp2
  go_loop [9] (fun i => ∃ k : Nat, k ≤ xs.length ∧ i = .int .i64 k ∧ withB most (xs.take k) = true) (fun i => xs.length - (intOf i).toNat)
  case atStart => exact ⟨0, Nat.zero_le _, rfl, by simp [withB]⟩
  case round =>
    obtain ⟨k, hk, rfl, ha⟩ := hrel
    have HA := Lib.hid ha
    clear ha
    by_cases hlt : k < xs.length
    · have HS := Lib.hid (all_snoc (fun x => decide (0 ≤ x) && decide (x ≤ most)) xs k hlt)
      have HF := Lib.hid (all_of_false (fun x => decide (0 ≤ x) && decide (x ≤ most)) xs (k + 1))
      obtain ⟨b, off, rfl, hx⟩ := Ints.at hc hlt
      have h1 : (k : Int) < (xs.length : Int) := by omega
      clear hc
      generalize xs[k]?.getD 0 = x at *
      by_cases h2 : x < 0
      · go_wp2
        go_ret
        exact ⟨ret_bool (by rw [withB, HF.out (by rw [HS.out]; simp; omega)]), rfl⟩
      · by_cases h3 : most < x
        · go_wp2
          go_ret
          exact ⟨ret_bool (by rw [withB, HF.out (by rw [HS.out]; simp; omega)]), rfl⟩
        · go_wp2
          go_round
          case rel => exact ⟨k + 1, by omega, by go_num, by rw [withB, HS.out]; have := HA.out; unfold withB at this; rw [this]; simp; omega⟩
          case measure => simp [intOf]; omega
    · go_wp2
      go_ret
      exact ⟨ret_bool (by have ha := HA.out; rw [List.take_of_length_le (by omega)] at ha; exact ha.symm), rfl⟩

/-- The least number of a list. -/
def IsMin (m : Int) (xs : List Int) : Prop := m ∈ xs ∧ ∀ x ∈ xs, m ≤ x
theorem IsMin.next {m : Int} {xs : List Int} {k : Nat} (h : IsMin m (xs.take k)) (hk : k < xs.length) : IsMin (min m (xs[k]?.getD 0)) (xs.take (k + 1)) := by
  rw [take_snoc' xs k hk]
  refine ⟨?_, ?_⟩
  · rcases Int.le_total m (xs[k]?.getD 0) with h1 | h1
    · rw [Int.min_eq_left h1]; exact List.mem_append_left _ h.1
    · rw [Int.min_eq_right h1]; simp
  · intro x hx
    rcases List.mem_append.1 hx with hx | hx
    · have := h.2 x hx; omega
    · simp at hx; subst hx; omega
def Mins (xs : List Int) (w : World) (e : Ending) (w' : World) : Prop := ∃ m, e = .returned (.int .i64 m) ∧ IsMin m xs ∧ w' = w
theorem min_any (v : Value) (xs : List Int) (w : World) (h : Ints w v xs) (hne : 1 ≤ xs.length) :
    Calls Try.prog 63 #[v] w (Mins xs w) := by
  obtain ⟨a, cap, rfl, hl, hb, hc⟩ := h
  unfold maxLen at hl
  have h0 : ¬ (xs.length : Int) < 1 := by omega
  obtain ⟨b, off, rfl, hx0⟩ := Ints.at hc (show 0 < xs.length by omega)
  rw [Nat.add_zero] at hx0
  go_enter Try.func63, Try.ntmps63
  go_wp2
  go_loopw [3, 4] (fun m i wr => ∃ (k : Nat) (z : Int), 1 ≤ k ∧ k ≤ xs.length ∧ i = .int .i64 k ∧ m = .int .i64 z ∧ Hid (IsMin z (xs.take k)) ∧ wr = w) (fun _ i _ => xs.length - (intOf i).toNat)
  case atStart => exact ⟨1, _, Nat.le_refl _, by omega, rfl, rfl, Lib.hid (by
    rw [take_snoc' xs 0 (by omega)]
    exact ⟨by simp, by simp⟩), rfl⟩
  case round =>
    obtain ⟨k, z, hk1, hk, rfl, rfl, hm, rfl⟩ := hrel
    by_cases hlt : k < xs.length
    · have HN := Lib.hid (hm.out.next hlt)
      obtain ⟨b, off, hb1, hx⟩ := Ints.at hc hlt
      obtain ⟨rfl, rfl⟩ : _ ∧ _ := by simpa using hb1
      have h1 : (k : Int) < (xs.length : Int) := by omega
      clear hc hx0 hb1 hm
      generalize xs[k]?.getD 0 = x at *
      go_wp2
      go_roundw
      case rel => exact ⟨k + 1, _, by omega, by omega, by go_num, rfl, HN, trivial⟩
      case measure => simp [intOf]; omega
    · have h1 : ¬ (k : Int) < (xs.length : Int) := by omega
      go_wp2
      go_ret
      exact ⟨z, rfl, by have := hm.out; rwa [List.take_of_length_le (by omega)] at this, rfl⟩

theorem times1_any (x : Int) (w : World) :
    Calls Try.prog 61 #[.int .i64 x] w fun e w' => e = .returned (.bool (x != 0)) ∧ w' = w := by
  by_cases h : x = 0
  · subst h
    go_enter Try.func61, Try.ntmps61
    go_wp2
    go_ret
    exact ⟨by simp, rfl⟩
  · have h1 : (x != 0) = true := by simp [h]
    go_enter Try.func61, Try.ntmps61
    go_wp2
    go_ret
    exact ⟨by simp [h], rfl⟩

def zeroB (xs : List Int) : Bool := xs.all (fun x => x == 0)
def Idx0 (B : Bool) (w : World) (e : Ending) (w' : World) : Prop := ∃ k : Int, e = .returned (.int .i64 k) ∧ decide (0 ≤ k) = B ∧ w' = w
theorem index0_any (v : Value) (xs : List Int) (w : World) (h : Ints w v xs) :
    Calls Try.prog 72 #[v, .func (.func 61) #[] #[]] w (Idx0 (!zeroB xs) w) := by
  obtain ⟨a, cap, rfl, hl, hb, hc⟩ := h
  unfold maxLen at hl
  go_enter Try.func72, Try.ntmps72
  go_wp2
  go_loop [8] (fun i => ∃ k : Nat, k ≤ xs.length ∧ i = .int .i64 k ∧ Hid (zeroB (xs.take k) = true)) (fun i => xs.length - (intOf i).toNat)
  case atStart => exact ⟨0, Nat.zero_le _, rfl, Lib.hid (by simp [zeroB])⟩
  case round =>
    obtain ⟨k, hk, rfl, HA⟩ := hrel
    by_cases hlt : k < xs.length
    · have HS := Lib.hid (all_snoc (fun x => x == 0) xs k hlt)
      have HF := Lib.hid (all_of_false (fun x => x == 0) xs (k + 1))
      obtain ⟨b, off, rfl, hx⟩ := Ints.at hc hlt
      have h1 : (k : Int) < (xs.length : Int) := by omega
      clear hc
      generalize xs[k]?.getD 0 = x at *
      by_cases h2 : x = 0
      · have h3 : (x != 0) = false := by simp [h2]
        have HX := Lib.hid h2
        clear h2
        go_wp2_with (go_at_call 61; refine (times1_any _ _).mono ?_; rintro e w' ⟨rfl, rfl⟩)
        go_round
        case rel => exact ⟨k + 1, by omega, by go_num, Lib.hid (by rw [zeroB, HS.out, HX.out]; have := HA.out; unfold zeroB at this; rw [this]; rfl)⟩
        case measure => simp [intOf]; omega
      · have h3 : (x != 0) = true := by simp [h2]
        have HX := Lib.hid h2
        clear h2
        go_wp2_with (go_at_call 61; refine (times1_any _ _).mono ?_; rintro e w' ⟨rfl, rfl⟩)
        go_ret
        exact ⟨k, rfl, by rw [zeroB, HF.out (by rw [HS.out]; simp [HX.out])]; simp, rfl⟩
    · go_wp2
      go_ret
      exact ⟨-1, rfl, by have ha := HA.out; rw [List.take_of_length_le (by omega)] at ha; rw [ha]; decide, rfl⟩
theorem contains0_any (v : Value) (xs : List Int) (w : World) (h : Ints w v xs) :
    Calls Try.prog 60 #[v, .func (.func 61) #[] #[]] w fun e w' => e = .returned (.bool (!zeroB xs)) ∧ w' = w := by
  have H := Lib.hid h
  obtain ⟨a, cap, rfl, -⟩ := h
  go_enter Try.func60, Try.ntmps60
  go_wp2_with fail
  refine (index0_any _ _ _ H.out).mono ?_
  rintro e w' ⟨k, rfl, hk, rfl⟩
  have HK := Lib.hid hk
  clear hk
  go_wp2_with fail
  go_ret
  exact ⟨by show Ending.returned (.bool (decide (0 ≤ k))) = _; rw [HK.out], rfl⟩

/-- Copying into a row of the call's own. -/
theorem copied {w : World} {base g n cap : Nat} {zs xs : List Int} (h : OwnI w base (.slice (some ⟨g, 0, none⟩) n cap) zs) (hl : xs.length = n) :
    ∃ cur, w.heap[g]? = some (.cells cur 3 (0, 0)) ∧ n ≤ cur.size ∧ ∀ (W : World), W = w.setRow g (xs.map (Value.int .i64) ++ cur.toList.drop xs.length).toArray →
      OwnI W base (.slice (some ⟨g, 0, none⟩) n cap) xs ∧ w.grownBy W (some g) := by
  rcases h.2 with ⟨h', _⟩ | ⟨g', cap', cur, h', hb, hh, hn, hm, hs, ht⟩
  · simp at h'
  · simp only [Value.slice.injEq, Option.some.injEq, Addr.mk.injEq] at h'
    obtain ⟨⟨rfl, -⟩, h2, rfl⟩ := h'
    have hzl : zs.length = n := h2.symm
    rw [Nat.mul_one] at hs
    refine ⟨cur, hh, by omega, ?_⟩
    rintro W rfl
    refine ⟨⟨by simp, .inr ⟨g, cap, _, by rw [hl], hb, setRow_heap _ _ _ _ _ _ hh, by omega, hm, ?_, ?_⟩⟩, ?_⟩
    · simp <;> omega
    · simp [hl]
    · exact ⟨rfl, rfl, rfl, by simp [World.setRow], fun k _ hk => setRow_other w g k _ (by intro e; exact hk (by rw [e]))⟩

end Go.Proofs.Ytoaoheblaidhmaa
