/- word.merges, at all words. -/
import Derived.Test.YtaenkbcclgpphaaMg
namespace Go.Proofs.Ytaenkbcclgpphaa
open Go.RowKit
set_option linter.unusedVariables false

theorem mergesL_step (f a b : List Int) (ha : 0 < a.length) (hb : 0 < b.length) : mergesL f a b = if a[0]?.getD 0 = b[0]?.getD 0 then mergesL (f ++ [a[0]?.getD 0]) (a.drop 1) (b.drop 1)
    else mergesL (f ++ [a[0]?.getD 0]) (a.drop 1) b ++ mergesL (f ++ [b[0]?.getD 0]) a (b.drop 1) := by
  cases a with
  | nil => simp at ha
  | cons x a =>
    cases b with
    | nil => simp at hb
    | cons y b => rw [mergesL]; rfl

theorem RowOk.cell0 {w : World} {a : Option Addr} {n cap : Nat} {xs : List Int} (h : RowOk w (.slice a n cap, xs)) (h0 : 0 < xs.length) :
    ∃ b off, a = some ⟨b, off, none⟩ ∧ w.cell? ⟨b, off, none⟩ = some (.int .i64 (xs[0]?.getD 0)) ∧ n = xs.length ∧ xs.length ≤ cap := by
  obtain ⟨⟨a', cap', hv, hl, hb, hc⟩, hg, hf⟩ := h
  simp only [Value.slice.injEq] at hv
  obtain ⟨rfl, rfl, rfl⟩ := hv
  have hcap := hg.2 _ _ _ rfl
  rcases hc with rfl | ⟨b, off, e, hc⟩
  · simp at h0
  · exact ⟨b, off, e, by simpa using hc 0 h0, rfl, hcap⟩

theorem far_rows {w2 : World} {base m : Nat} {v : Value} {qs qt : List Row} (hf : ∀ p ∈ qt, ∀ g, p.1.ownBlock = some g → m ≤ g) (ho : OwnP w2 base v qs) (hm : w2.heap.size ≤ m) : ∀ q ∈ qt, ∀ g, q.1.ownBlock = some g → v.ownBlock ≠ some g := by
  intro q hq g hg e
  have h1 := hf q hq g hg
  have h2 := (ho.fresh g e).2
  omega
theorem len_bd {qs : List Row} {f a b : List Int} {n : Nat} (h : qs.map Prod.snd = mergesL f a b) (hn : a.length + b.length ≤ n) (h3 : n ≤ 30) : 0 < qs.length ∧ qs.length ≤ 1073741824 := by
  have h1 := mergesL_len n f a b hn
  have h2 : (2 : Nat) ^ n ≤ 2 ^ 30 := Nat.pow_le_pow_right (by decide) h3
  rw [← h, List.length_map] at h1
  refine ⟨h1.1, Nat.le_trans h1.2 (Nat.le_trans h2 (by decide))⟩
theorem len_two {m k : Nat} (h : m ≤ 1073741824) (h' : k ≤ 1073741824) : m + k ≤ 1000000000000 := by omega
theorem fresh_two {qs qt : List Row} {m m1 m2 : Nat} (h1 : m ≤ m1) (h2 : m ≤ m2) (hf : ∀ p ∈ qs, ∀ g, p.1.ownBlock = some g → m1 ≤ g) (hf2 : ∀ p ∈ qt, ∀ g, p.1.ownBlock = some g → m2 ≤ g) : ∀ p ∈ qs ++ qt, ∀ g, p.1.ownBlock = some g → m ≤ g := by
  intro p hp g hg
  rcases List.mem_append.1 hp with hp | hp
  · exact Nat.le_trans h1 (hf p hp g hg)
  · exact Nat.le_trans h2 (hf2 p hp g hg)

/-- Behind the first letter. -/
theorem RowOk.tail {w : World} {b off n cap : Nat} {xs : List Int} (h : RowOk w (.slice (some ⟨b, off, none⟩) n cap, xs)) (h0 : 0 < xs.length) : RowOk w (.slice (some ⟨b, off + 1, none⟩) (n - 1) (cap - 1), xs.drop 1) :=
  RowOk.drop h h0
theorem RowOk.tail1 {w : World} {b off n : Nat} {xs : List Int} (h : RowOk w (.slice (some ⟨b, off, none⟩) n 1, xs)) (h0 : 0 < xs.length) : RowOk w (.slice (some ⟨b, off, none⟩) 0 0, xs.drop 1) := by
  have hx : xs.length ≤ 1 := by
    obtain ⟨_, _, _, _, _, h2⟩ := h.cell0 h0
    exact h2
  rw [List.drop_eq_nil_of_le hx]
  exact RowOk.none_left h 0

set_option maxRecDepth 100000 in
set_option maxHeartbeats 4000000 in
theorem merges_any : ∀ (n : Nat) (v1 v2 v3 : Value) (f a b : List Int) (w : World), RowOk w (v1, f) → RowOk w (v2, a) → RowOk w (v3, b) → a.length + b.length ≤ n → n ≤ 30 → f.length + n ≤ 100 →
    Calls Try.prog 54 #[v1, v2, v3] w (MadeF (mergesL f a b) w) := by
  intro n
  induction n with
  | zero =>
    intro v1 v2 v3 f a b w h1 h2 h3 hn _ hl
    exact merges_base v1 v2 v3 f a b w h1 h2 h3 (.inl (List.eq_nil_of_length_eq_zero (by omega))) (by omega)
  | succ n ih =>
    intro v1 v2 v3 f a b w h1 h2 h3 hn hn3 hl
    by_cases h0 : a = [] ∨ b = []
    · exact merges_base v1 v2 v3 f a b w h1 h2 h3 h0 (by omega)
    have ha : 0 < a.length := List.length_pos_iff.2 fun e => h0 (.inl e)
    have hb : 0 < b.length := List.length_pos_iff.2 fun e => h0 (.inr e)
    clear h0
    have H1 := Lib.hid h1; have H2 := Lib.hid h2; have H3 := Lib.hid h3
    have HM := Lib.hid (mergesL_step f a b ha hb)
    have IH := Lib.hid ih
    clear ih
    obtain ⟨⟨a1, c1, hv1, -, -, -⟩, -, -⟩ := h1
    obtain ⟨⟨a2, c2, hv2, -, -, -⟩, -, -⟩ := h2
    obtain ⟨⟨a3, c3, hv3, -, -, -⟩, -, -⟩ := h3
    simp only at hv1 hv2 hv3
    subst hv1 hv2 hv3
    obtain ⟨b2, o2, rfl, hx, -, hc2⟩ := H2.out.cell0 ha
    obtain ⟨b3, o3, rfl, hy, -, hc3⟩ := H3.out.cell0 hb
    have bx := mem_at H2.out.bd ha
    have by' := mem_at H3.out.bd hb
    generalize ex : a[0]?.getD 0 = x at *
    generalize ey : b[0]?.getD 0 = y at *
    have BX := Lib.hid bx; have BY := Lib.hid by'
    have hz1 : ((a.length : Int) == 0) = false := by rw [beq_eq_false_iff_ne]; omega
    have hz2 : ((b.length : Int) == 0) = false := by rw [beq_eq_false_iff_ne]; omega
    have i1 : (0 : Int) < (a.length : Int) := by omega
    have i2 : (0 : Int) < (b.length : Int) := by omega
    have j1 : (1 : Int) ≤ (a.length : Int) := by omega
    have j2 : (1 : Int) ≤ (b.length : Int) := by omega
    clear bx by' ex ey
    cases hxy : (x == y)
    · by_cases k2 : c2 = 1
      · subst k2
        have T2 := Lib.hid (RowOk.tail1 H2.out ha)
        by_cases k3 : c3 = 1
        · subst k3
          have T3 := Lib.hid (RowOk.tail1 H3.out hb)
          go_enter Try.func54, Try.ntmps54
          go_wp2_with fail
          go_quiet (fail)
          go_wp2_with fail
          go_region_law? (first | (refine step_with 42 38 41 _ _ _ _ f x rfl rfl (H1.out.same (grown_trans (grown_drewN _ _ none) (grown_drew _ none))) BX.out (by omega) ?_; intro a4 n4 c4 w1 hn4 ho4 hg4; have C4 := Lib.hid ho4; have G4 := Lib.hid (grown_trans (grown_trans (grown_drewN _ _ none) (grown_drew _ none)) hg4); clear hn4 ho4 hg4; have hy1 := G4.out.cell hy (by simp)) | (refine step_merges 46 42 44 45 _ _ _ _ _ _ (mergesL (f ++ [x]) (a.drop 1) b) rfl rfl rfl (IH.out _ _ _ _ _ _ _ (C4.out.row (mem_snoc H1.out.bd BX.out)) (T2.out.same G4.out) (H3.out.same G4.out) (by simp; omega) (by omega) (by simp; omega)) ?_; intro a5 n5 c5 w2 qs hn5 ho5 hq5 hg5 hf5; have C5 := Lib.hid ho5; have Q5 := Lib.hid hq5; have G5 := Lib.hid (grown_trans G4.out hg5); have F5 := Lib.hid hf5; clear hn5 ho5 hq5 hg5 hf5; have hy2 := G5.out.cell hy (by simp)) | (refine step_with 51 47 50 _ _ _ _ f y rfl rfl (H1.out.same G5.out) BY.out (by omega) ?_; intro a6 n6 c6 w3 hn6 ho6 hg6; have C6 := Lib.hid ho6; have G6 := Lib.hid hg6; have G6' := Lib.hid (grown_trans G5.out hg6); clear hn6 ho6 hg6) | (refine step_merges 55 51 52 54 _ _ _ _ _ _ (mergesL (f ++ [y]) a (b.drop 1)) rfl rfl rfl (IH.out _ _ _ _ _ _ _ (C6.out.row (mem_snoc H1.out.bd BY.out)) (H2.out.same G6'.out) (T3.out.same G6'.out) (by simp; omega) (by omega) (by simp; omega)) ?_; intro a7 n7 c7 w4 qt hn7 ho7 hq7 hg7 hf7; have C7 := Lib.hid ho7; have Q7 := Lib.hid hq7; have G7 := Lib.hid (grown_trans G6.out hg7); have F7 := Lib.hid hf7; clear hn7 ho7 hq7 hg7 hf7) | (refine step_app_rows rfl (.tmp 46) (.tmp 55) rfl w.heap.size _ qs rfl ((C5.out.mono G4.out.size).same G7.out) _ qt rfl C7.out.rows (far_rows F7.out C5.out G6.out.size) (len_bd Q7.out (n := n) (by simp; omega) (by omega)).1 (len_two (len_bd Q5.out (n := n) (by simp; omega) (by omega)).2 (len_bd Q7.out (n := n) (by simp; omega) (by omega)).2) (grown_trans G5.out G7.out).size ?_; intro a8 n8 c8 w5 hn8 ho8 hg8; have C8 := Lib.hid ho8; have G8 := Lib.hid (grown_then (grown_trans G5.out G7.out) hg8 (fun j hj => .inl (Nat.le_trans G4.out.size (C5.out.fresh j hj).1))); clear hn8 ho8 hg8))
          all_goals (go_wp2_with fail; go_ret; exact ⟨_, qs ++ qt, rfl, C8.out, by rw [List.map_append, Q5.out, Q7.out, HM.out, if_neg (by simpa using hxy)], G8.out, fresh_two G4.out.size G6'.out.size F5.out F7.out⟩)
        · have T3 := Lib.hid (RowOk.tail H3.out hb)
          go_enter Try.func54, Try.ntmps54
          go_wp2_with fail
          go_quiet (fail)
          go_wp2_with fail
          go_region_law? (first | (refine step_with 42 38 41 _ _ _ _ f x rfl rfl (H1.out.same (grown_trans (grown_drewN _ _ none) (grown_drew _ none))) BX.out (by omega) ?_; intro a4 n4 c4 w1 hn4 ho4 hg4; have C4 := Lib.hid ho4; have G4 := Lib.hid (grown_trans (grown_trans (grown_drewN _ _ none) (grown_drew _ none)) hg4); clear hn4 ho4 hg4; have hy1 := G4.out.cell hy (by simp)) | (refine step_merges 46 42 44 45 _ _ _ _ _ _ (mergesL (f ++ [x]) (a.drop 1) b) rfl rfl rfl (IH.out _ _ _ _ _ _ _ (C4.out.row (mem_snoc H1.out.bd BX.out)) (T2.out.same G4.out) (H3.out.same G4.out) (by simp; omega) (by omega) (by simp; omega)) ?_; intro a5 n5 c5 w2 qs hn5 ho5 hq5 hg5 hf5; have C5 := Lib.hid ho5; have Q5 := Lib.hid hq5; have G5 := Lib.hid (grown_trans G4.out hg5); have F5 := Lib.hid hf5; clear hn5 ho5 hq5 hg5 hf5; have hy2 := G5.out.cell hy (by simp)) | (refine step_with 51 47 50 _ _ _ _ f y rfl rfl (H1.out.same G5.out) BY.out (by omega) ?_; intro a6 n6 c6 w3 hn6 ho6 hg6; have C6 := Lib.hid ho6; have G6 := Lib.hid hg6; have G6' := Lib.hid (grown_trans G5.out hg6); clear hn6 ho6 hg6) | (refine step_merges 55 51 52 54 _ _ _ _ _ _ (mergesL (f ++ [y]) a (b.drop 1)) rfl rfl rfl (IH.out _ _ _ _ _ _ _ (C6.out.row (mem_snoc H1.out.bd BY.out)) (H2.out.same G6'.out) (T3.out.same G6'.out) (by simp; omega) (by omega) (by simp; omega)) ?_; intro a7 n7 c7 w4 qt hn7 ho7 hq7 hg7 hf7; have C7 := Lib.hid ho7; have Q7 := Lib.hid hq7; have G7 := Lib.hid (grown_trans G6.out hg7); have F7 := Lib.hid hf7; clear hn7 ho7 hq7 hg7 hf7) | (refine step_app_rows rfl (.tmp 46) (.tmp 55) rfl w.heap.size _ qs rfl ((C5.out.mono G4.out.size).same G7.out) _ qt rfl C7.out.rows (far_rows F7.out C5.out G6.out.size) (len_bd Q7.out (n := n) (by simp; omega) (by omega)).1 (len_two (len_bd Q5.out (n := n) (by simp; omega) (by omega)).2 (len_bd Q7.out (n := n) (by simp; omega) (by omega)).2) (grown_trans G5.out G7.out).size ?_; intro a8 n8 c8 w5 hn8 ho8 hg8; have C8 := Lib.hid ho8; have G8 := Lib.hid (grown_then (grown_trans G5.out G7.out) hg8 (fun j hj => .inl (Nat.le_trans G4.out.size (C5.out.fresh j hj).1))); clear hn8 ho8 hg8))
          all_goals (go_wp2_with fail; go_ret; exact ⟨_, qs ++ qt, rfl, C8.out, by rw [List.map_append, Q5.out, Q7.out, HM.out, if_neg (by simpa using hxy)], G8.out, fresh_two G4.out.size G6'.out.size F5.out F7.out⟩)
      · have T2 := Lib.hid (RowOk.tail H2.out ha)
        by_cases k3 : c3 = 1
        · subst k3
          have T3 := Lib.hid (RowOk.tail1 H3.out hb)
          go_enter Try.func54, Try.ntmps54
          go_wp2_with fail
          go_quiet (fail)
          go_wp2_with fail
          go_region_law? (first | (refine step_with 42 38 41 _ _ _ _ f x rfl rfl (H1.out.same (grown_trans (grown_drewN _ _ none) (grown_drew _ none))) BX.out (by omega) ?_; intro a4 n4 c4 w1 hn4 ho4 hg4; have C4 := Lib.hid ho4; have G4 := Lib.hid (grown_trans (grown_trans (grown_drewN _ _ none) (grown_drew _ none)) hg4); clear hn4 ho4 hg4; have hy1 := G4.out.cell hy (by simp)) | (refine step_merges 46 42 44 45 _ _ _ _ _ _ (mergesL (f ++ [x]) (a.drop 1) b) rfl rfl rfl (IH.out _ _ _ _ _ _ _ (C4.out.row (mem_snoc H1.out.bd BX.out)) (T2.out.same G4.out) (H3.out.same G4.out) (by simp; omega) (by omega) (by simp; omega)) ?_; intro a5 n5 c5 w2 qs hn5 ho5 hq5 hg5 hf5; have C5 := Lib.hid ho5; have Q5 := Lib.hid hq5; have G5 := Lib.hid (grown_trans G4.out hg5); have F5 := Lib.hid hf5; clear hn5 ho5 hq5 hg5 hf5; have hy2 := G5.out.cell hy (by simp)) | (refine step_with 51 47 50 _ _ _ _ f y rfl rfl (H1.out.same G5.out) BY.out (by omega) ?_; intro a6 n6 c6 w3 hn6 ho6 hg6; have C6 := Lib.hid ho6; have G6 := Lib.hid hg6; have G6' := Lib.hid (grown_trans G5.out hg6); clear hn6 ho6 hg6) | (refine step_merges 55 51 52 54 _ _ _ _ _ _ (mergesL (f ++ [y]) a (b.drop 1)) rfl rfl rfl (IH.out _ _ _ _ _ _ _ (C6.out.row (mem_snoc H1.out.bd BY.out)) (H2.out.same G6'.out) (T3.out.same G6'.out) (by simp; omega) (by omega) (by simp; omega)) ?_; intro a7 n7 c7 w4 qt hn7 ho7 hq7 hg7 hf7; have C7 := Lib.hid ho7; have Q7 := Lib.hid hq7; have G7 := Lib.hid (grown_trans G6.out hg7); have F7 := Lib.hid hf7; clear hn7 ho7 hq7 hg7 hf7) | (refine step_app_rows rfl (.tmp 46) (.tmp 55) rfl w.heap.size _ qs rfl ((C5.out.mono G4.out.size).same G7.out) _ qt rfl C7.out.rows (far_rows F7.out C5.out G6.out.size) (len_bd Q7.out (n := n) (by simp; omega) (by omega)).1 (len_two (len_bd Q5.out (n := n) (by simp; omega) (by omega)).2 (len_bd Q7.out (n := n) (by simp; omega) (by omega)).2) (grown_trans G5.out G7.out).size ?_; intro a8 n8 c8 w5 hn8 ho8 hg8; have C8 := Lib.hid ho8; have G8 := Lib.hid (grown_then (grown_trans G5.out G7.out) hg8 (fun j hj => .inl (Nat.le_trans G4.out.size (C5.out.fresh j hj).1))); clear hn8 ho8 hg8))
          all_goals (go_wp2_with fail; go_ret; exact ⟨_, qs ++ qt, rfl, C8.out, by rw [List.map_append, Q5.out, Q7.out, HM.out, if_neg (by simpa using hxy)], G8.out, fresh_two G4.out.size G6'.out.size F5.out F7.out⟩)
        · have T3 := Lib.hid (RowOk.tail H3.out hb)
          go_enter Try.func54, Try.ntmps54
          go_wp2_with fail
          go_quiet (fail)
          go_wp2_with fail
          go_region_law? (first | (refine step_with 42 38 41 _ _ _ _ f x rfl rfl (H1.out.same (grown_trans (grown_drewN _ _ none) (grown_drew _ none))) BX.out (by omega) ?_; intro a4 n4 c4 w1 hn4 ho4 hg4; have C4 := Lib.hid ho4; have G4 := Lib.hid (grown_trans (grown_trans (grown_drewN _ _ none) (grown_drew _ none)) hg4); clear hn4 ho4 hg4; have hy1 := G4.out.cell hy (by simp)) | (refine step_merges 46 42 44 45 _ _ _ _ _ _ (mergesL (f ++ [x]) (a.drop 1) b) rfl rfl rfl (IH.out _ _ _ _ _ _ _ (C4.out.row (mem_snoc H1.out.bd BX.out)) (T2.out.same G4.out) (H3.out.same G4.out) (by simp; omega) (by omega) (by simp; omega)) ?_; intro a5 n5 c5 w2 qs hn5 ho5 hq5 hg5 hf5; have C5 := Lib.hid ho5; have Q5 := Lib.hid hq5; have G5 := Lib.hid (grown_trans G4.out hg5); have F5 := Lib.hid hf5; clear hn5 ho5 hq5 hg5 hf5; have hy2 := G5.out.cell hy (by simp)) | (refine step_with 51 47 50 _ _ _ _ f y rfl rfl (H1.out.same G5.out) BY.out (by omega) ?_; intro a6 n6 c6 w3 hn6 ho6 hg6; have C6 := Lib.hid ho6; have G6 := Lib.hid hg6; have G6' := Lib.hid (grown_trans G5.out hg6); clear hn6 ho6 hg6) | (refine step_merges 55 51 52 54 _ _ _ _ _ _ (mergesL (f ++ [y]) a (b.drop 1)) rfl rfl rfl (IH.out _ _ _ _ _ _ _ (C6.out.row (mem_snoc H1.out.bd BY.out)) (H2.out.same G6'.out) (T3.out.same G6'.out) (by simp; omega) (by omega) (by simp; omega)) ?_; intro a7 n7 c7 w4 qt hn7 ho7 hq7 hg7 hf7; have C7 := Lib.hid ho7; have Q7 := Lib.hid hq7; have G7 := Lib.hid (grown_trans G6.out hg7); have F7 := Lib.hid hf7; clear hn7 ho7 hq7 hg7 hf7) | (refine step_app_rows rfl (.tmp 46) (.tmp 55) rfl w.heap.size _ qs rfl ((C5.out.mono G4.out.size).same G7.out) _ qt rfl C7.out.rows (far_rows F7.out C5.out G6.out.size) (len_bd Q7.out (n := n) (by simp; omega) (by omega)).1 (len_two (len_bd Q5.out (n := n) (by simp; omega) (by omega)).2 (len_bd Q7.out (n := n) (by simp; omega) (by omega)).2) (grown_trans G5.out G7.out).size ?_; intro a8 n8 c8 w5 hn8 ho8 hg8; have C8 := Lib.hid ho8; have G8 := Lib.hid (grown_then (grown_trans G5.out G7.out) hg8 (fun j hj => .inl (Nat.le_trans G4.out.size (C5.out.fresh j hj).1))); clear hn8 ho8 hg8))
          all_goals (go_wp2_with fail; go_ret; exact ⟨_, qs ++ qt, rfl, C8.out, by rw [List.map_append, Q5.out, Q7.out, HM.out, if_neg (by simpa using hxy)], G8.out, fresh_two G4.out.size G6'.out.size F5.out F7.out⟩)
    · by_cases k2 : c2 = 1
      · subst k2
        have T2 := Lib.hid (RowOk.tail1 H2.out ha)
        by_cases k3 : c3 = 1
        · subst k3
          have T3 := Lib.hid (RowOk.tail1 H3.out hb)
          go_enter Try.func54, Try.ntmps54
          go_wp2_with fail
          go_quiet (fail)
          go_wp2_with fail
          go_region_law? (first | (refine step_with 32 28 31 _ _ _ _ f x rfl rfl (H1.out.same (grown_trans (grown_drewN _ _ none) (grown_drew _ none))) BX.out (by omega) ?_; intro a4 n4 c4 w1 hn4 ho4 hg4; have C4 := Lib.hid ho4; have G4 := Lib.hid (grown_trans (grown_trans (grown_drewN _ _ none) (grown_drew _ none)) hg4); clear hn4 ho4 hg4) | (refine step_merges 37 32 34 36 _ _ _ _ _ _ (mergesL (f ++ [x]) (a.drop 1) (b.drop 1)) rfl rfl rfl (IH.out _ _ _ _ _ _ _ (C4.out.row (mem_snoc H1.out.bd BX.out)) (T2.out.same G4.out) (T3.out.same G4.out) (by simp; omega) (by omega) (by simp; omega)) ?_; intro a5 n5 c5 w2 qs hn5 ho5 hq5 hg5 hf5; have C5 := Lib.hid ho5; have Q5 := Lib.hid hq5; have G5 := Lib.hid hg5; have F5 := Lib.hid hf5; clear hn5 ho5 hq5 hg5 hf5))
          go_wp2_with fail
          go_ret
          refine ⟨_, qs, rfl, C5.out.mono G4.out.size, by rw [Q5.out, HM.out, if_pos (eq_of_beq hxy)], grown_trans G4.out G5.out, fun p hp g hg => Nat.le_trans G4.out.size (F5.out p hp g hg)⟩
        · have T3 := Lib.hid (RowOk.tail H3.out hb)
          go_enter Try.func54, Try.ntmps54
          go_wp2_with fail
          go_quiet (fail)
          go_wp2_with fail
          go_region_law? (first | (refine step_with 32 28 31 _ _ _ _ f x rfl rfl (H1.out.same (grown_trans (grown_drewN _ _ none) (grown_drew _ none))) BX.out (by omega) ?_; intro a4 n4 c4 w1 hn4 ho4 hg4; have C4 := Lib.hid ho4; have G4 := Lib.hid (grown_trans (grown_trans (grown_drewN _ _ none) (grown_drew _ none)) hg4); clear hn4 ho4 hg4) | (refine step_merges 37 32 34 36 _ _ _ _ _ _ (mergesL (f ++ [x]) (a.drop 1) (b.drop 1)) rfl rfl rfl (IH.out _ _ _ _ _ _ _ (C4.out.row (mem_snoc H1.out.bd BX.out)) (T2.out.same G4.out) (T3.out.same G4.out) (by simp; omega) (by omega) (by simp; omega)) ?_; intro a5 n5 c5 w2 qs hn5 ho5 hq5 hg5 hf5; have C5 := Lib.hid ho5; have Q5 := Lib.hid hq5; have G5 := Lib.hid hg5; have F5 := Lib.hid hf5; clear hn5 ho5 hq5 hg5 hf5))
          go_wp2_with fail
          go_ret
          refine ⟨_, qs, rfl, C5.out.mono G4.out.size, by rw [Q5.out, HM.out, if_pos (eq_of_beq hxy)], grown_trans G4.out G5.out, fun p hp g hg => Nat.le_trans G4.out.size (F5.out p hp g hg)⟩
      · have T2 := Lib.hid (RowOk.tail H2.out ha)
        by_cases k3 : c3 = 1
        · subst k3
          have T3 := Lib.hid (RowOk.tail1 H3.out hb)
          go_enter Try.func54, Try.ntmps54
          go_wp2_with fail
          go_quiet (fail)
          go_wp2_with fail
          go_region_law? (first | (refine step_with 32 28 31 _ _ _ _ f x rfl rfl (H1.out.same (grown_trans (grown_drewN _ _ none) (grown_drew _ none))) BX.out (by omega) ?_; intro a4 n4 c4 w1 hn4 ho4 hg4; have C4 := Lib.hid ho4; have G4 := Lib.hid (grown_trans (grown_trans (grown_drewN _ _ none) (grown_drew _ none)) hg4); clear hn4 ho4 hg4) | (refine step_merges 37 32 34 36 _ _ _ _ _ _ (mergesL (f ++ [x]) (a.drop 1) (b.drop 1)) rfl rfl rfl (IH.out _ _ _ _ _ _ _ (C4.out.row (mem_snoc H1.out.bd BX.out)) (T2.out.same G4.out) (T3.out.same G4.out) (by simp; omega) (by omega) (by simp; omega)) ?_; intro a5 n5 c5 w2 qs hn5 ho5 hq5 hg5 hf5; have C5 := Lib.hid ho5; have Q5 := Lib.hid hq5; have G5 := Lib.hid hg5; have F5 := Lib.hid hf5; clear hn5 ho5 hq5 hg5 hf5))
          go_wp2_with fail
          go_ret
          refine ⟨_, qs, rfl, C5.out.mono G4.out.size, by rw [Q5.out, HM.out, if_pos (eq_of_beq hxy)], grown_trans G4.out G5.out, fun p hp g hg => Nat.le_trans G4.out.size (F5.out p hp g hg)⟩
        · have T3 := Lib.hid (RowOk.tail H3.out hb)
          go_enter Try.func54, Try.ntmps54
          go_wp2_with fail
          go_quiet (fail)
          go_wp2_with fail
          go_region_law? (first | (refine step_with 32 28 31 _ _ _ _ f x rfl rfl (H1.out.same (grown_trans (grown_drewN _ _ none) (grown_drew _ none))) BX.out (by omega) ?_; intro a4 n4 c4 w1 hn4 ho4 hg4; have C4 := Lib.hid ho4; have G4 := Lib.hid (grown_trans (grown_trans (grown_drewN _ _ none) (grown_drew _ none)) hg4); clear hn4 ho4 hg4) | (refine step_merges 37 32 34 36 _ _ _ _ _ _ (mergesL (f ++ [x]) (a.drop 1) (b.drop 1)) rfl rfl rfl (IH.out _ _ _ _ _ _ _ (C4.out.row (mem_snoc H1.out.bd BX.out)) (T2.out.same G4.out) (T3.out.same G4.out) (by simp; omega) (by omega) (by simp; omega)) ?_; intro a5 n5 c5 w2 qs hn5 ho5 hq5 hg5 hf5; have C5 := Lib.hid ho5; have Q5 := Lib.hid hq5; have G5 := Lib.hid hg5; have F5 := Lib.hid hf5; clear hn5 ho5 hq5 hg5 hf5))
          go_wp2_with fail
          go_ret
          refine ⟨_, qs, rfl, C5.out.mono G4.out.size, by rw [Q5.out, HM.out, if_pos (eq_of_beq hxy)], grown_trans G4.out G5.out, fun p hp g hg => Nat.le_trans G4.out.size (F5.out p hp g hg)⟩

end Go.Proofs.Ytaenkbcclgpphaa
