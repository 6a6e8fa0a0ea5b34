/- word.Merge. -/
import Derived.Test.YtaenkbcclgpphaaMe
namespace Go.Proofs.Ytaenkbcclgpphaa
open Go.RowKit
set_option linter.unusedVariables false

/-- One more word, if no kept one is below it. -/
def keep1 (out : List (List Int)) (w : List Int) : List (List Int) := if out.any (fun v => leqW v w) then out else out ++ [w]
def keepL (rs : List (List Int)) : List (List Int) := rs.foldl keep1 []
def mergeE (a b : List Int) : Int := if validW a && validW b then if 8 < a.length + b.length then 1 else 0 else 8
def mergeR (a b : List Int) : List (List Int) := if mergeE a b = 0 then keepL (ascL (mergesL [] a b)) else []
theorem keepL_take (rs : List (List Int)) (k : Nat) (h : k < rs.length) : keepL (rs.take (k + 1)) = keep1 (keepL (rs.take k)) (rs[k]) := by
  unfold keepL
  rw [List.take_succ_eq_append_getElem h, List.foldl_append]; rfl
theorem keepL_len (rs : List (List Int)) : (keepL rs).length ≤ rs.length := by
  suffices h : ∀ (rs acc : List (List Int)), (rs.foldl keep1 acc).length ≤ acc.length + rs.length by simpa [keepL] using h rs []
  intro rs
  induction rs with
  | nil => intro acc; simp
  | cons r rs ih =>
    intro acc
    refine Nat.le_trans (ih _) ?_
    unfold keep1
    split
    · simp
    · simp; omega
def MergeP (rs : List (List Int)) (z : Int) (w : World) (e : Ending) (w' : World) : Prop := ∃ v qs, e = .returned (.tuple #[v, .int .i64 z]) ∧ OwnP w' w.heap.size v qs ∧ qs.map Prod.snd = rs ∧ w.grownBy w' none
theorem MergeP.bad {a b : List Int} {z : Int} (w : World) (h : mergeE a b = z) (hz : z ≠ 0) : MergeP (mergeR a b) (mergeE a b) w (.returned (.tuple #[.slice none 0 0, .int .i64 z])) w :=
  ⟨_, [], by rw [h], OwnP.nil _ _, by rw [mergeR, h, if_neg hz]; rfl, grown_refl _ _⟩

theorem keep_snd (os : List Row) (p : Row) : (os.map Prod.snd).any (fun v => leqW v p.2) = os.any (fun q => leqW q.2 p.2) := by
  rw [List.any_map]; rfl

theorem held_new (w : World) (p : Row) (h : RowOk w p) : Held (w.alloc (.cells #[p.1] 22)) w.heap.size p := ⟨cell_new rfl, h.same (World.grownBy_alloc _ _ none)⟩
theorem putL_len (r : List Int) : ∀ l : List (List Int), (putL l r).length ≤ l.length + 1
  | [] => by simp [putL]
  | x :: l => by
    unfold putL
    have := putL_len r l
    split
    · simp; try omega
    · split
      · simp
      · simp
theorem ascL_len (rs : List (List Int)) : (ascL rs).length ≤ rs.length := by
  suffices h : ∀ (rs acc : List (List Int)), (rs.foldl putL acc).length ≤ acc.length + rs.length by simpa [ascL] using h rs []
  intro rs
  induction rs with
  | nil => intro acc; simp
  | cons r rs ih =>
    intro acc
    have h1 := ih (putL acc r)
    have h2 := putL_len r acc
    simp only [List.foldl_cons, List.length_cons]
    omega
theorem far_old {w2 wr : World} {v u : Value} {os : List Row} (h : ∀ g, v.ownBlock = some g → g < w2.heap.size) (ho : OwnP wr w2.heap.size u os) : ∀ g, v.ownBlock = some g → u.ownBlock ≠ some g := by
  intro g h1 h2
  have a1 := h g h1
  have a2 := (ho.fresh g h2).1
  omega
theorem keep_yes {os : List Row} {rs : List (List Int)} {x : List Int} (hm : os.map Prod.snd = rs) (h : os.any (fun q => leqW q.2 x) = true) : os.map Prod.snd = keep1 rs x := by
  have h' : rs.any (fun v => leqW v x) = true := by rw [← hm, List.any_map]; exact h
  rw [keep1, if_pos h', hm]
theorem keep_no {os : List Row} {rs : List (List Int)} {p : Row} (hm : os.map Prod.snd = rs) (h : os.any (fun q => leqW q.2 p.2) = false) : (os ++ [p]).map Prod.snd = keep1 rs p.2 := by
  have h' : rs.any (fun v => leqW v p.2) = false := by rw [← hm, List.any_map]; exact h
  rw [keep1, h', if_neg (by decide), List.map_append, hm]; rfl

set_option maxRecDepth 100000 in
set_option maxHeartbeats 4000000 in
theorem mergeW_any (v1 v2 : Value) (a b : List Int) (w : World) (h1 : RowOk w (v1, a)) (h2 : RowOk w (v2, b)) :
    Calls Try.prog 28 #[v1, v2] w (MergeP (mergeR a b) (mergeE a b) w) := by
  have H1 := Lib.hid h1; have H2 := Lib.hid h2
  obtain ⟨⟨a1, c1, hv1, -, -, -⟩, -, -⟩ := h1
  obtain ⟨⟨a2, c2, hv2, -, -, -⟩, -, -⟩ := h2
  simp only at hv1 hv2
  subst hv1 hv2
  cases hva : validW a
  · have HE : Hid (mergeE a b = 8) := Lib.hid (by simp [mergeE, hva])
    have HA := Lib.hid hva
    clear hva
    go_enter Try.func28, Try.ntmps28
    go_wp2_with fail
    refine (validW_any _ _ _ H1.out.1).mono ?_
    rintro e w' ⟨rfl, rfl⟩
    rw [HA.out]
    go_wp2_with fail
    go_ret2
    exact MergeP.bad _ HE.out (by decide)
  have HA := Lib.hid hva
  cases hvb : validW b
  · have HE : Hid (mergeE a b = 8) := Lib.hid (by simp [mergeE, hvb])
    have HB := Lib.hid hvb
    clear hva hvb
    go_enter Try.func28, Try.ntmps28
    go_wp2_with fail
    refine (validW_any _ _ _ H1.out.1).mono ?_
    rintro e w' ⟨rfl, rfl⟩
    rw [HA.out]
    go_wp2_with fail
    refine (validW_any _ _ _ H2.out.1).mono ?_
    rintro e w' ⟨rfl, rfl⟩
    rw [HB.out]
    go_wp2_with fail
    go_ret2
    exact MergeP.bad _ HE.out (by decide)
  have HB := Lib.hid hvb
  have la := (validW_le hva).1
  have lb := (validW_le hvb).1
  have g1 : IntKind.i64.wrap ((a.length : Int) + (b.length : Int)) = (a.length : Int) + (b.length : Int) := IntWalk.i64_in _ (by omega)
  by_cases h8 : 8 < a.length + b.length
  · have HE : Hid (mergeE a b = 1) := Lib.hid (by simp [mergeE, hva, hvb, h8])
    have h8' : (8 : Int) < (a.length : Int) + (b.length : Int) := by omega
    clear hva hvb
    go_enter Try.func28, Try.ntmps28
    go_wp2_with fail
    refine (validW_any _ _ _ H1.out.1).mono ?_
    rintro e w' ⟨rfl, rfl⟩
    rw [HA.out]
    go_wp2_with fail
    refine (validW_any _ _ _ H2.out.1).mono ?_
    rintro e w' ⟨rfl, rfl⟩
    rw [HB.out]
    go_wp2_with fail
    go_ret2
    exact MergeP.bad _ HE.out (by decide)
  have HE : Hid (mergeE a b = 0) := Lib.hid (by simp [mergeE, hva, hvb, h8])
  have h8' : ¬ (8 : Int) < (a.length : Int) + (b.length : Int) := by omega
  clear hva hvb
  go_enter Try.func28, Try.ntmps28
  go_wp2_with fail
  refine (validW_any _ _ _ H1.out.1).mono ?_
  rintro e w0 ⟨rfl, rfl⟩
  rw [HA.out]
  go_wp2_with fail
  refine (validW_any _ _ _ H2.out.1).mono ?_
  rintro e w0 ⟨rfl, rfl⟩
  rw [HB.out]
  go_wp2_with fail
  refine (merges_any (a.length + b.length) _ _ _ [] a b _ ⟨⟨none, 0, rfl, Nat.zero_le _, by simp, .inl rfl⟩, Good.nil, by intro g hg; cases hg⟩ H1.out H2.out (Nat.le_refl _) (by omega) (by simp; omega)).mono ?_
  rintro e w1 ⟨v3, ps, rfl, ho, hq, hg, hf⟩
  have O1 := Lib.hid ho; have Q1 := Lib.hid hq; have G1 := Lib.hid hg
  clear ho hq hg hf
  go_wp2_with fail
  refine (asc_any _ _ _ _ O1.out (Nat.le_trans (len_bd Q1.out (n := a.length + b.length) (Nat.le_refl _) (by omega)).2 (by decide))).mono ?_
  rintro e w2 ⟨v4, qs, rfl, ho2, hq2, hg2, -⟩
  have O2 := Lib.hid ho2; have Q2 : Hid (qs.map Prod.snd = ascL (mergesL [] a b)) := Lib.hid (by rw [hq2, Q1.out])
  have G2 := Lib.hid (grown_then G1.out hg2 (fun j hj => .inl (O1.out.fresh j hj).1))
  obtain ⟨a4, cap4, rfl⟩ := ho2.slice
  have hql : qs.length ≤ maxLen := by obtain ⟨_, _, _, h, _⟩ := O2.out.rows; exact h
  unfold maxLen at hql
  have hq12 : qs.length ≤ 1073741824 := by
    have k1 := ascL_len (mergesL [] a b)
    rw [← Q2.out, ← Q1.out, List.length_map, List.length_map] at k1
    exact Nat.le_trans k1 (len_bd Q1.out (n := a.length + b.length) (Nat.le_refl _) (by omega)).2
  clear ho2 hq2 hg2
  go_wp2_with fail
  go_loopw [6, 28] (fun v i wr => ∃ (k : Nat) (os : List Row), i = .int .i64 k ∧ k ≤ qs.length ∧ os.length ≤ k ∧ Hid (os.map Prod.snd = keepL ((qs.map Prod.snd).take k)) ∧ Hid (OwnP wr w2.heap.size v os) ∧ Hid (w2.grownBy wr none)) (fun _ i _ => qs.length - (intOf i).toNat)
  case atStart => exact ⟨0, [], rfl, Nat.zero_le _, Nat.le_refl _, Lib.hid rfl, Lib.hid (OwnP.nil _ _), Lib.hid (grown_refl _ _)⟩
  case round =>
    obtain ⟨k, os, rfl, hk, hlo, hm, ho, hg⟩ := hrel
    by_cases hlt : k < qs.length
    · obtain ⟨_, _, hv, _, hc, hrow⟩ := O2.out.rows.same hg.out
      simp only [Value.slice.injEq] at hv
      obtain ⟨rfl, -, -⟩ := hv
      obtain ⟨b4, o4, rfl, hx⟩ := RowsP.at hc hlt
      have hr := hrow _ (List.getElem_mem hlt)
      have hf2 := (O2.out.2 _ (List.getElem_mem hlt)).1.2.2
      have HK := Lib.hid (keepL_take (qs.map Prod.snd) k (by simpa using hlt))
      rw [List.getElem_map] at HK
      have h1 : (k : Int) < (qs.length : Int) := by omega
      clear hc hrow
      generalize (qs[k]) = q at *
      obtain ⟨qv, qx⟩ := q
      have HR := Lib.hid hr; have HF := Lib.hid hf2
      obtain ⟨⟨aq, cq, hvq, -, -, -⟩, -, -⟩ := hr
      dsimp only at hvq hx
      subst hvq
      clear hf2
      go_wp2_with fail
      refine (contains_any _ os _ (.slice aq qx.length cq, qx) _ (ho.out.rows.same (World.grownBy_alloc _ _ none)) (held_new _ _ HR.out)).mono ?_
      rintro e w5 ⟨rfl, hg5⟩
      have hcell := hg5.cell (held_new _ _ HR.out).1 (by simp)
      have G5 := Lib.hid hg5
      have HR5 := Lib.hid (HR.out.same (grown_trans (World.grownBy_alloc wr _ none) hg5))
      clear hg5 hx
      dsimp only at hcell ⊢
      cases hb : os.any (fun q => leqW q.2 qx)
      · have HB := Lib.hid hb
        clear hb
        go_wp2_with (at_builtin; refine app_row rfl _ _ rfl w2.heap.size _ os rfl (ho.out.same (grown_trans (World.grownBy_alloc wr _ none) (grown_trans G5.out (World.grownBy_alloc w5 _ none)))) w5.heap.size (.slice aq qx.length cq, qx) rfl (cell_new rfl) (HR5.out.same (World.grownBy_alloc _ _ none)) (far_old HF.out ho.out) (by omega) (grown_trans hg.out (grown_trans (World.grownBy_alloc wr _ none) (grown_trans G5.out (World.grownBy_alloc w5 _ none)))).size ?_)
        intro v6 w6 ho6 hg6
        have HO6 := Lib.hid ho6
        have HG6 := Lib.hid (grown_then (grown_trans hg.out (grown_trans (World.grownBy_alloc wr _ none) (grown_trans G5.out (World.grownBy_alloc w5 _ none)))) hg6 (fun j hj => .inl (ho.out.fresh j hj).1))
        clear ho6 hg6 hcell
        go_wp2_with fail
        go_roundw
        case rel => exact ⟨k + 1, os ++ [(.slice aq qx.length cq, qx)], by go_num, by omega, by simp; omega, Lib.hid (by rw [HK.out]; exact keep_no hm.out HB.out), HO6, HG6⟩
        case measure => simp [intOf]; omega
      · have HB := Lib.hid hb
        clear hb hcell
        have HG6 := Lib.hid (grown_trans hg.out (grown_trans (World.grownBy_alloc wr _ none) G5.out))
        have HO6 := Lib.hid (ho.out.same (grown_trans (World.grownBy_alloc wr _ none) G5.out))
        go_wp2_with fail
        go_roundw
        case rel => exact ⟨k + 1, os, by go_num, by omega, by omega, Lib.hid (by rw [HK.out]; exact keep_yes hm.out HB.out), HO6, HG6⟩
        case measure => simp [intOf]; omega
    · have HRR : Hid (mergeR a b = keepL (ascL (mergesL [] a b))) := Lib.hid (by rw [mergeR, HE.out, if_pos rfl])
      have HK : Hid (os.map Prod.snd = mergeR a b) := Lib.hid (by rw [hm.out, HRR.out, ← Q2.out, List.take_of_length_le (by simp; omega)])
      go_wp2_with fail
      go_ret2
      rw [HE.out]
      exact ⟨_, os, rfl, ho.out.mono G2.out.size, HK.out, grown_trans G2.out hg.out⟩

end Go.Proofs.Ytaenkbcclgpphaa
