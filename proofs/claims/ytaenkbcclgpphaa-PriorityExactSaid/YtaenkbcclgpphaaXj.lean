/- Contracts of the reference of words: merged, Merge. -/
import Derived.Test.YtaenkbcclgpphaaXi
namespace Go.Proofs.Ytaenkbcclgpphaa
open Go.RowKit
set_option linter.unusedVariables false

theorem rows_one {w : World} {p : Row} (h : RowOk w p) : RowsP (w.alloc (.cells #[p.1] 22)) (.slice (some ⟨w.heap.size, 0, none⟩) 1 1) [p] :=
  rows_blk [p] 1 1 (heap_new _ rfl) rfl (by decide) rfl (by intro q hq; rw [List.mem_singleton.1 hq]; exact h.same (World.grownBy_alloc _ _ none))
theorem heads_len {x : Int} {ps : List Row} {rs : List (List Int)} {n : Nat} (h : ps.map Prod.snd = rs) (hr : ∀ l ∈ rs, l.length ≤ n) : ∀ p ∈ ps, p.2.length ≤ n := by
  intro p hp
  exact hr p.2 (by rw [← h]; exact List.mem_map.2 ⟨p, hp, rfl⟩)
theorem len_of {ps : List Row} {rs : List (List Int)} {n : Nat} (h : ps.map Prod.snd = rs) (hr : rs.length ≤ n) : ps.length ≤ n := by
  have := congrArg List.length h
  rw [List.length_map] at this
  omega
theorem two_pow {n m : Nat} (h : n ≤ 12) : 2 ^ n ≤ 4096 := Nat.le_trans (Nat.pow_le_pow_right (by decide) h) (by decide)
theorem merged_small {a b : List Int} (h : a.length + b.length ≤ 12) : (mergedL a b).length ≤ 4096 ∧ ∀ l ∈ mergedL a b, l.length ≤ 12 :=
  ⟨Nat.le_trans (mergedL_len _ a b (Nat.le_refl _)) (two_pow (m := 0) h), fun l hl => Nat.le_trans (mergedL_el hl) h⟩

theorem le4 {n : Nat} (h : n ≤ 4096) : n ≤ 100000 := by omega
theorem le12 {n : Nat} (h : n ≤ 12) : n ≤ 100000 := by omega
theorem fresh_far {w : World} {base : Nat} {v : Value} {ps qs : List Row} (h : OwnP w base v ps) (hf : ∀ p ∈ qs, ∀ g, p.1.ownBlock = some g → w.heap.size ≤ g) : ∀ q ∈ qs, ∀ g, q.1.ownBlock = some g → v.ownBlock ≠ some g := by
  intro q hq g h1 h2
  have a1 := hf q hq g h1
  have a2 := (h.fresh g h2).2
  omega
theorem map_len {p q : List Row} {x : Int} {rs : List (List Int)} {n : Nat} (h : p.map Prod.snd = (q.map Prod.snd).map (fun l => x :: l)) (h' : q.map Prod.snd = rs) (hr : rs.length ≤ n) : p.length ≤ n := by
  have e1 := congrArg List.length h
  have e2 := congrArg List.length h'
  simp only [List.length_map] at e1 e2
  omega
theorem len_sum {p1 q1 p2 q2 : List Row} {x y : Int} {r1 r2 : List (List Int)} (h1 : p1.map Prod.snd = (q1.map Prod.snd).map (fun l => x :: l)) (h2 : q1.map Prod.snd = r1) (h3 : p2.map Prod.snd = (q2.map Prod.snd).map (fun l => y :: l)) (h4 : q2.map Prod.snd = r2)
    (h5 : r1.length ≤ 4096) (h6 : r2.length ≤ 4096) : p1.length + p2.length ≤ 1000000000000 := by
  have := map_len h1 h2 h5
  have := map_len h3 h4 h6
  omega
theorem len_sum' {p1 q1 p2 q2 : List Row} {x y : Int} {r1 r2 : List (List Int)} (h1 : p1.map Prod.snd = (q1.map Prod.snd).map (fun l => x :: l)) (h2 : q1.map Prod.snd = r1) (h3 : p2.map Prod.snd = (q2.map Prod.snd).map (fun l => y :: l)) (h4 : q2.map Prod.snd = r2)
    (h5 : r1.length ≤ 4096) (h6 : r2.length ≤ 4096) : (p1 ++ p2).length ≤ 100000 := by
  have := map_len h1 h2 h5
  have := map_len h3 h4 h6
  rw [List.length_append]
  omega
theorem rows_sum {p1 q1 p2 q2 : List Row} {x y : Int} {r1 r2 : List (List Int)} (h1 : p1.map Prod.snd = (q1.map Prod.snd).map (fun l => x :: l)) (h2 : q1.map Prod.snd = r1) (h3 : p2.map Prod.snd = (q2.map Prod.snd).map (fun l => y :: l)) (h4 : q2.map Prod.snd = r2)
    (h5 : ∀ l ∈ r1, l.length ≤ 12) (h6 : ∀ l ∈ r2, l.length ≤ 12) : ∀ p ∈ p1 ++ p2, p.2.length ≤ 1000000 := by
  have one : ∀ {p1 q1 : List Row} {x : Int} {r1 : List (List Int)}, p1.map Prod.snd = (q1.map Prod.snd).map (fun l => x :: l) → q1.map Prod.snd = r1 → (∀ l ∈ r1, l.length ≤ 12) → ∀ p ∈ p1, p.2.length ≤ 1000000 := by
    intro p1 q1 x r1 h1 h2 h5 p hp
    have hm : p.2 ∈ p1.map Prod.snd := List.mem_map.2 ⟨p, hp, rfl⟩
    rw [h1, h2] at hm
    obtain ⟨l, hl, e⟩ := List.mem_map.1 hm
    rw [← e]
    have := h5 l hl
    simp only [List.length_cons]
    omega
  intro p hp
  rcases List.mem_append.1 hp with hp | hp
  · exact one h1 h2 h5 p hp
  · exact one h3 h4 h6 p hp
theorem base_le {w w' : World} {base : Nat} {v : Value} {ps : List Row} {u : World} (hb : base ≤ w'.heap.size) : base ≤ w'.heap.size := hb
theorem own_grown {w w' w'' : World} {base : Nat} {v : Value} {ps : List Row} (g : w.grownBy w' none) (hg : w'.grownBy w'' v.ownBlock) (h : OwnP w' base v ps) (hb : w.heap.size ≤ base) : w.grownBy w'' none :=
  grown_then g hg (fun j hj => .inl (Nat.le_trans hb (h.fresh j hj).1))

set_option maxRecDepth 100000 in
set_option maxHeartbeats 8000000 in
theorem merged_any : ∀ (n : Nat) (va vb : Value) (a b : List Int) (w : World), RowOk w (va, a) → RowOk w (vb, b) → a.length + b.length ≤ n → n ≤ 12 →
    Calls Try.prog 58 #[va, vb] w (GotP (mergedL a b) w) := by
  intro n
  induction n with
  | zero =>
    intro va vb a b w h1 h2 hn _
    have ea : a = [] := List.eq_nil_of_length_eq_zero (by omega)
    subst ea
    have H1 := Lib.hid h1; have H2 := Lib.hid h2
    obtain ⟨⟨a1, c1, hv1, -, -, -⟩, -, -⟩ := h1
    simp only at hv1
    subst hv1
    have hbl : b.length ≤ 1000000 := by omega
    clear h2 hn
    go_enter Try.func58, Try.ntmps58
    go_wp2_with fail
    refine (rcopy_any _ _ _ H2.out hbl).mono ?_
    rintro e w1 ⟨v1, rfl, ho, hg⟩
    obtain ⟨a2, c2, rfl⟩ := ownI_open ho
    have R := Lib.hid (ho.row H2.out.bdd); have G := Lib.hid hg
    clear ho hg
    go_wp2_with fail
    go_ret
    exact ⟨_, [(_, b)], rfl, rows_one R.out, Good.some _ (Nat.le_refl _), by rw [mergedL_left]; rfl, grown_after G.out⟩
  | succ n ih =>
    intro va vb a b w h1 h2 hn hn12
    have H1 := Lib.hid h1; have H2 := Lib.hid h2
    have IH := Lib.hid ih
    clear ih
    obtain ⟨⟨a1, c1, hv1, -, -, -⟩, -, -⟩ := h1
    simp only at hv1
    subst hv1
    obtain ⟨⟨a2, c2, hv2, -, -, -⟩, -, -⟩ := h2
    simp only at hv2
    subst hv2
    have hal : a.length ≤ 1000000 := by omega
    have hbl : b.length ≤ 1000000 := by omega
    by_cases ha : a.length = 0
    · have ea : a = [] := List.eq_nil_of_length_eq_zero ha
      subst ea
      clear hn ha
      go_enter Try.func58, Try.ntmps58
      go_wp2_with fail
      refine (rcopy_any _ _ _ H2.out hbl).mono ?_
      rintro e w1 ⟨v1, rfl, ho, hg⟩
      obtain ⟨a3, c3, rfl⟩ := ownI_open ho
      have R := Lib.hid (ho.row H2.out.bdd); have G := Lib.hid hg
      clear ho hg
      go_wp2_with fail
      go_ret
      exact ⟨_, [(_, b)], rfl, rows_one R.out, Good.some _ (Nat.le_refl _), by rw [mergedL_left]; rfl, grown_after G.out⟩
    have hz1 : ((a.length : Int) == 0) = false := by rw [beq_eq_false_iff_ne]; omega
    by_cases hb : b.length = 0
    · have eb : b = [] := List.eq_nil_of_length_eq_zero hb
      subst eb
      clear hn hb ha
      go_enter Try.func58, Try.ntmps58
      go_wp2_with fail
      refine (rcopy_any _ _ _ H1.out hal).mono ?_
      rintro e w1 ⟨v1, rfl, ho, hg⟩
      obtain ⟨a3, c3, rfl⟩ := ownI_open ho
      have R := Lib.hid (ho.row H1.out.bdd); have G := Lib.hid hg
      clear ho hg
      go_wp2_with fail
      go_ret
      exact ⟨_, [(_, a)], rfl, rows_one R.out, Good.some _ (Nat.le_refl _), by rw [mergedL_right]; rfl, grown_after G.out⟩
    have hz2 : ((b.length : Int) == 0) = false := by rw [beq_eq_false_iff_ne]; omega
    have ha0 : 0 < a.length := by omega
    have hb0 : 0 < b.length := by omega
    clear ha hb
    have HM := Lib.hid (mergedL_step a b ha0 hb0)
    obtain ⟨b1, o1, rfl, hx⟩ : ∃ b o, a1 = some ⟨b, o, none⟩ ∧ w.cell? ⟨b, o, none⟩ = some (.int .i64 (a[0]?.getD 0)) := by
      obtain ⟨⟨_, _, hv, _, _, hc⟩, -⟩ := H1.out
      simp only [Value.slice.injEq] at hv
      obtain ⟨rfl, -, -⟩ := hv
      exact Ints.at hc ha0
    obtain ⟨b2, o2, rfl, hy⟩ : ∃ b' o, a2 = some ⟨b', o, none⟩ ∧ w.cell? ⟨b', o, none⟩ = some (.int .i64 (b[0]?.getD 0)) := by
      obtain ⟨⟨_, _, hv, _, _, hc⟩, -⟩ := H2.out
      simp only [Value.slice.injEq] at hv
      obtain ⟨rfl, -, -⟩ := hv
      exact Ints.at hc hb0
    have BX := Lib.hid (mem_at H1.out.bdd ha0); have BY := Lib.hid (mem_at H2.out.bdd hb0)
    obtain ⟨t1, d1, hr1, ht1, -⟩ := row_tail (k := 1) H1.out ha0
    obtain ⟨t2, d2, hr2, ht2, -⟩ := row_tail (k := 1) H2.out hb0
    rw [show ((1 : Nat) : Int) = 1 from rfl] at hr1 hr2
    have T1 := Lib.hid ht1; have T2 := Lib.hid ht2
    clear ht1 ht2
    generalize a[0]?.getD 0 = x at *
    generalize b[0]?.getD 0 = y at *
    have j1 : (1 : Int) ≤ (a.length : Int) := by omega
    have j2 : (1 : Int) ≤ (b.length : Int) := by omega
    have i1 : (0 : Int) < (a.length : Int) := by omega
    have i2 : (0 : Int) < (b.length : Int) := by omega
    have l1 : (a.drop 1).length + (b.drop 1).length ≤ n := by simp; omega
    have l2 : (a.drop 1).length + b.length ≤ n := by simp; omega
    have l3 : a.length + (b.drop 1).length ≤ n := by simp; omega
    have S1 := Lib.hid (merged_small (a := a.drop 1) (b := b.drop 1) (by omega)); have S2 := Lib.hid (merged_small (a := a.drop 1) (b := b) (by omega)); have S3 := Lib.hid (merged_small (a := a) (b := b.drop 1) (by omega))
    have hn9 : n ≤ 12 := by omega
    have hnn : ∀ g : Nat, some g ≠ (none : Option Nat) := by intro g; simp
    have G0 : Hid (∀ m, w.grownBy (w.drewN m).drew none) := Lib.hid (fun m => grown_trans (grown_drewN w m none) (grown_drew _ none))
    clear hn
    by_cases hxy : x = y
    · have q1 : (x == y) = true := by simpa using hxy
      have HXY := Lib.hid hxy
      clear hxy
      go_enter Try.func58, Try.ntmps58
      go_wp2_with fail
      go_big_quiet (fail)
      go_wp2_with fail
      have G : Hid (w.grownBy (w.drewN nq).drew none) := Lib.hid (G0.out nq)
      go_region_held3 (fun w' => w'.cell? ⟨b1, o1, none⟩ = some (.int .i64 x)) (first | exact G.out.cell hx (hnn _)) (first
        | (refine step_call 31 58 _ _ _ _ _ Try.f58 _ Try.func58 (by kernel_rfl) rfl [.slice t1 (a.length - 1) d1, .slice t2 (b.length - 1) d2] (by kernel_rfl) _ (IH.out _ _ _ _ _ (T1.out.same G.out) (T2.out.same G.out) l1 hn9) ?_; rintro e w31 ⟨v31, p31, rfl, hr, hgd, hm, hg⟩; refine ⟨_, rfl, ?_⟩; have R31 := Lib.hid hr; have M31 := Lib.hid hm; replace G : Hid (w.grownBy w31 none) := Lib.hid (grown_trans G.out hg); clear hr hgd hm hg)
        | (refine step_call 32 78 _ _ _ _ _ Try.f78 _ Try.func78 (by kernel_rfl) rfl [.int .i64 x, v31] (by kernel_rfl) _ (headed_any _ _ _ _ R31.out BX.out (len_of M31.out (le4 S1.out.1)) (heads_len (x := 0) M31.out (fun l hl => le12 (S1.out.2 l hl)))) ?_; rintro e w32 ⟨v32, p32, rfl, ho, hm, hg, hf⟩; refine ⟨_, rfl, ?_⟩; have O32 := Lib.hid ho; have M32 := Lib.hid hm; replace G : Hid (w.grownBy w32 none) := Lib.hid (grown_trans G.out hg); clear ho hm hg hf))
      go_wp2_with fail
      go_ret
      exact ⟨_, p32, rfl, O32.out.rows, O32.out.good, by rw [M32.out, M31.out, HM.out, if_pos HXY.out], G.out⟩
    · have q1 : (x == y) = false := by simpa using hxy
      have HXY := Lib.hid hxy
      clear hxy
      go_enter Try.func58, Try.ntmps58
      go_wp2_with fail
      go_big_quiet (fail)
      go_wp2_with fail
      have G : Hid (w.grownBy (w.drewN nq).drew none) := Lib.hid (G0.out nq)
      go_region_held3 (fun w' => w'.cell? ⟨b1, o1, none⟩ = some (.int .i64 x) ∧ w'.cell? ⟨b2, o2, none⟩ = some (.int .i64 y)) (first | exact ⟨G.out.cell hx (hnn _), G.out.cell hy (hnn _)⟩) (first
        | (refine step_call 39 58 _ _ _ _ _ Try.f58 _ Try.func58 (by kernel_rfl) rfl [.slice t1 (a.length - 1) d1, .slice (some ⟨b2, o2, none⟩) b.length c2] (by kernel_rfl) _ (IH.out _ _ _ _ _ (T1.out.same G.out) (H2.out.same G.out) l2 hn9) ?_; rintro e w39 ⟨v39, p39, rfl, hr, hgd, hm, hg⟩; refine ⟨_, rfl, ?_⟩; have R39 := Lib.hid hr; have M39 := Lib.hid hm; replace G : Hid (w.grownBy w39 none) := Lib.hid (grown_trans G.out hg); clear hr hgd hm hg)
        | (refine step_call 40 78 _ _ _ _ _ Try.f78 _ Try.func78 (by kernel_rfl) rfl [.int .i64 x, v39] (by kernel_rfl) _ (headed_any _ _ _ _ R39.out BX.out (len_of M39.out (le4 S2.out.1)) (heads_len (x := 0) M39.out (fun l hl => le12 (S2.out.2 l hl)))) ?_; rintro e w40 ⟨v40, p40, rfl, ho, hm, hg, hf⟩; obtain ⟨a40, c40, rfl⟩ := ho.slice; refine ⟨_, rfl, ?_⟩; have O40 := Lib.hid ho; have B39 := Lib.hid G.out.size; have M40 := Lib.hid hm; have G40 := Lib.hid hg; replace G : Hid (w.grownBy w40 none) := Lib.hid (grown_trans G.out hg); clear ho hm hg hf)
        | (refine step_call 47 58 _ _ _ _ _ Try.f58 _ Try.func58 (by kernel_rfl) rfl [.slice (some ⟨b1, o1, none⟩) a.length c1, .slice t2 (b.length - 1) d2] (by kernel_rfl) _ (IH.out _ _ _ _ _ (H1.out.same G.out) (T2.out.same G.out) l3 hn9) ?_; rintro e w47 ⟨v47, p47, rfl, hr, hgd, hm, hg⟩; refine ⟨_, rfl, ?_⟩; have R47 := Lib.hid hr; have M47 := Lib.hid hm; replace O40 := Lib.hid (O40.out.same hg); replace G40 := Lib.hid (grown_trans G40.out hg); replace G : Hid (w.grownBy w47 none) := Lib.hid (grown_trans G.out hg); clear hr hgd hm hg)
        | (refine step_call 48 78 _ _ _ _ _ Try.f78 _ Try.func78 (by kernel_rfl) rfl [.int .i64 y, v47] (by kernel_rfl) _ (headed_any _ _ _ _ R47.out BY.out (len_of M47.out (le4 S3.out.1)) (heads_len (x := 0) M47.out (fun l hl => le12 (S3.out.2 l hl)))) ?_; rintro e w48 ⟨v48, p48, rfl, ho, hm, hg, hf⟩; refine ⟨_, rfl, ?_⟩; have O48 := Lib.hid ho; have M48 := Lib.hid hm; have F48 := Lib.hid (fresh_far O40.out hf); replace O40 := Lib.hid (O40.out.same hg); replace G40 := Lib.hid (grown_trans G40.out hg); replace G : Hid (w.grownBy w48 none) := Lib.hid (grown_trans G.out hg); clear ho hm hg hf)
        | (refine step_app_all rfl (.tmp 40) (.tmp 48) rfl _ (.slice a40 p40.length c40) p40 (by kernel_rfl) O40.out v48 p48 (by kernel_rfl) O48.out.rows F48.out (len_sum M40.out M39.out M48.out M47.out S2.out.1 S3.out.1) G40.out.size ?_; intro a49 n49 c49 w49 hn49 ho hg; have O49 := Lib.hid ho; replace G : Hid (w.grownBy w49 none) := Lib.hid (own_grown G.out hg O40.out B39.out); clear hn49 ho hg)
        | (refine step_call 50 57 _ _ _ _ _ Try.f57 _ Try.func57 (by kernel_rfl) rfl [.slice a49 n49 c49] (by kernel_rfl) _ (minimal_any _ _ _ O49.out.rows (len_sum' M40.out M39.out M48.out M47.out S2.out.1 S3.out.1) (rows_sum M40.out M39.out M48.out M47.out S2.out.2 S3.out.2)) ?_; rintro e w50 ⟨v50, p50, rfl, hr, hgd, hm, hg⟩; refine ⟨_, rfl, ?_⟩; have R50 := Lib.hid hr; have D50 := Lib.hid hgd; have M50 := Lib.hid hm; replace G : Hid (w.grownBy w50 none) := Lib.hid (grown_trans G.out hg); clear hr hgd hm hg))
      go_wp2_with fail
      go_ret
      exact ⟨_, p50, rfl, R50.out, D50.out, by rw [M50.out, List.map_append, M40.out, M39.out, M48.out, M47.out, HM.out, if_neg HXY.out], G.out⟩

/-- Rows and a number that a call returns. -/
def GotPE (rs : List (List Int)) (z : Int) (w : World) (e : Ending) (w' : World) : Prop := ∃ v qs, e = .returned (.tuple #[v, .int .i64 z]) ∧ RowsP w' v qs ∧ qs.map Prod.snd = rs ∧ w.grownBy w' none
theorem GotPE.bad {a b : List Int} {z : Int} (w : World) (h : mergeE a b = z) (hz : z ≠ 0) : GotPE (mergeR a b) (mergeE a b) w (.returned (.tuple #[.slice none 0 0, .int .i64 z])) w :=
  ⟨.slice none 0 0, [], by rw [h], ⟨none, 0, rfl, Nat.zero_le _, .inl rfl, by simp⟩, by rw [mergeR, h, if_neg hz]; rfl, grown_refl _ _⟩

set_option maxHeartbeats 2000000 in
theorem rmergeW_any (v1 v2 : Value) (a b : List Int) (w : World) (h1 : RowOk w (v1, a)) (h2 : RowOk w (v2, b)) :
    Calls Try.prog 29 #[v1, v2] w (GotPE (mergeR a b) (mergeE a b) w) := by
  have H1 := Lib.hid h1; have H2 := Lib.hid h2
  obtain ⟨⟨a1, c1, hv1, hm1, -, -⟩, -, -⟩ := h1
  simp only at hv1
  subst hv1
  obtain ⟨⟨a2, c2, hv2, hm2, -, -⟩, -, -⟩ := h2
  simp only at hv2
  subst hv2
  cases c1' : validW a
  · have C1 := Lib.hid c1'
    have E : Hid (mergeE a b = 8) := Lib.hid (by simp [mergeE, c1'])
    clear c1'
    go_enter Try.func29, Try.ntmps29
    go_wp2_with fail
    refine (rvalidW_any _ _ _ H1.out.1).mono ?_; rintro e w' ⟨rfl, rfl⟩
    rw [C1.out]
    go_wp2_with fail
    go_ret2
    exact GotPE.bad _ E.out (by decide)
  cases c2' : validW b
  · have C1 := Lib.hid c1'; have C2 := Lib.hid c2'
    have E : Hid (mergeE a b = 8) := Lib.hid (by simp [mergeE, c2'])
    clear c1' c2'
    go_enter Try.func29, Try.ntmps29
    go_wp2_with fail
    refine (rvalidW_any _ _ _ H1.out.1).mono ?_; rintro e w1 ⟨rfl, rfl⟩
    rw [C1.out]
    go_wp2_with fail
    refine (rvalidW_any _ _ _ H2.out.1).mono ?_; rintro e w' ⟨rfl, rfl⟩
    rw [C2.out]
    go_wp2_with fail
    go_ret2
    exact GotPE.bad _ E.out (by decide)
  have hl1 := (validW_le c1').1
  have hl2 := (validW_le c2').1
  have C1 := Lib.hid c1'; have C2 := Lib.hid c2'
  clear c1' c2'
  by_cases hlen : 8 < a.length + b.length
  · have E : Hid (mergeE a b = 1) := Lib.hid (by simp [mergeE, C1.out, C2.out, hlen])
    have g1 : (8 : Int) < (a.length : Int) + (b.length : Int) := by omega
    clear hlen
    go_enter Try.func29, Try.ntmps29
    go_wp2_with fail
    refine (rvalidW_any _ _ _ H1.out.1).mono ?_; rintro e w1 ⟨rfl, rfl⟩
    rw [C1.out]
    go_wp2_with fail
    refine (rvalidW_any _ _ _ H2.out.1).mono ?_; rintro e w' ⟨rfl, rfl⟩
    rw [C2.out]
    go_wp2_with fail
    go_ret2
    exact GotPE.bad _ E.out (by decide)
  · have E : Hid (mergeE a b = 0) := Lib.hid (by simp [mergeE, C1.out, C2.out, hlen])
    have ER : Hid (mergeR a b = minL (mergedL a b)) := Lib.hid (by rw [mergeR, if_pos E.out, merge_same C1.out C2.out (by omega)]; rfl)
    have g1 : ¬ (8 : Int) < (a.length : Int) + (b.length : Int) := by omega
    have hsm := merged_small (a := a) (b := b) (by omega)
    have SM := Lib.hid hsm
    have hab : a.length + b.length ≤ 12 := by omega
    clear hlen hsm
    go_enter Try.func29, Try.ntmps29
    go_wp2_with fail
    refine (rvalidW_any _ _ _ H1.out.1).mono ?_; rintro e w1 ⟨rfl, rfl⟩
    rw [C1.out]
    go_wp2_with fail
    refine (rvalidW_any _ _ _ H2.out.1).mono ?_; rintro e w' ⟨rfl, rfl⟩
    rw [C2.out]
    go_wp2_with fail
    refine (merged_any 12 _ _ _ _ _ H1.out H2.out hab (Nat.le_refl _)).mono ?_
    rintro e w2 ⟨v, ps, rfl, hr, -, hm, hg⟩
    have R := Lib.hid hr; have M := Lib.hid hm; have G := Lib.hid hg
    clear hr hm hg
    go_wp2_with fail
    refine (minimal_any _ _ _ R.out (len_of M.out (le4 SM.out.1)) (fun p hp => Nat.le_trans (heads_len (x := 0) M.out (fun l hl => le12 (SM.out.2 l hl)) p hp) (by decide))).mono ?_
    rintro e w3 ⟨v3, qs, rfl, hr, -, hm, hg⟩
    have R3 := Lib.hid hr; have M3 := Lib.hid hm; have G3 := Lib.hid (grown_trans G.out hg)
    clear hr hm hg
    go_wp2_with fail
    go_ret2
    rw [E.out]
    exact ⟨_, qs, rfl, R3.out, by rw [M3.out, M.out, ER.out], G3.out⟩

end Go.Proofs.Ytaenkbcclgpphaa
