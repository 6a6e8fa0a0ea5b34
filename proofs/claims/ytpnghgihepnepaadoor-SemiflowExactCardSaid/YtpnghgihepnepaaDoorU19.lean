/- Texts Dg in one. -/
import Derived.Test.YtpnghgihepnepaaDoorU18
import Derived.BigQuiet
namespace Go.Proofs.YtpnghgihepnepaaDoor
open Go.RowKit
set_option linter.unusedVariables false

theorem snd_take (ps : List Row) (k : Nat) (h : k < ps.length) : (ps.take (k + 1)).map Prod.snd = (ps.take k).map Prod.snd ++ [(ps[k]).2] := by rw [List.take_succ_eq_append_getElem h, List.map_append]; rfl

theorem sameall_any (va vb : Value) (ps qs : List Row) (w : World) (h : RowsP w va ps) (h' : RowsP w vb qs) :
    Calls Tryd.prog 16 #[va, vb] w fun e w' => e = .returned (.bool (ps.map Prod.snd == qs.map Prod.snd)) ∧ Drew w w' := by
  obtain ⟨a, cap, rfl, hl, hc, hr⟩ := h
  obtain ⟨a', cap', rfl, hl1, hc', hr'⟩ := h'
  unfold maxLen at hl hl1
  have HR := Lib.hid hr; have HR' := Lib.hid hr'
  clear hr hr'
  by_cases h3 : ps.length = qs.length
  · have H3 := Lib.hid h3
    have h4 : ((ps.length : Int) != (qs.length : Int)) = false := by simp [h3]
    have hle : ps.length ≤ qs.length := by omega
    clear h3
    go_enter Tryd.func16, Tryd.ntmps16
    go_wp2_with fail
    go_loopw [5] (fun i wr => ∃ k n : Nat, k ≤ ps.length ∧ i = .int .i64 k ∧ Hid ((ps.take k).map Prod.snd = (qs.take k).map Prod.snd) ∧ wr = w.drewN n) (fun i _ => ps.length - (intOf i).toNat)
    case atStart => exact ⟨0, 0, Nat.zero_le _, rfl, Lib.hid (by simp), rfl⟩
    case round =>
      obtain ⟨k, n, hk, rfl, HA, rfl⟩ := hrel
      by_cases hlt : k < ps.length
      · have hlt' : k < qs.length := by omega
        obtain ⟨b, off, rfl, hx⟩ := RowsP.at hc hlt
        obtain ⟨b', off', rfl, hx'⟩ := RowsP.at hc' hlt'
        have h1 : (k : Int) < (ps.length : Int) := by omega
        have h2 : (k : Int) < (qs.length : Int) := by omega
        have R1 := Lib.hid (HR.out _ (List.getElem_mem hlt)); have R2 := Lib.hid (HR'.out _ (List.getElem_mem hlt'))
        have HX : Hid ((ps.take (k + 1)).map Prod.snd = (ps.take k).map Prod.snd ++ [(ps[k]).2]) := Lib.hid (snd_take ps k hlt)
        have HY : Hid ((qs.take (k + 1)).map Prod.snd = (qs.take k).map Prod.snd ++ [(qs[k]).2]) := Lib.hid (snd_take qs k hlt')
        have HN : Hid ((ps[k]).2 ≠ (qs[k]).2 → (ps.map Prod.snd == qs.map Prod.snd) = false) := Lib.hid (by
          intro hne; rw [beq_eq_false_iff_ne]; intro e
          have := congrArg (fun l => l[k]?) e
          simp only [List.getElem?_map, List.getElem?_eq_getElem hlt, List.getElem?_eq_getElem hlt', Option.map_some, Option.some.injEq] at this
          exact hne this)
        clear hc hc'
        generalize ps[k] = p at *
        generalize qs[k] = q at *
        by_cases hp : p.2 = q.2
        · have h3 : (p.2 == q.2) = true := by simp [hp]
          have HP := Lib.hid hp
          clear hp
          go_wp2_with fail
          go_big_quiet ((go_at_call 37; exact (same_any _ _ _ _ _ (R1.out.same (grown_drewN _ _ none)).1 (R2.out.same (grown_drewN _ _ none)).1).mono (fun _ _ ⟨he, hd⟩ => ⟨he, by obtain ⟨m, rfl⟩ := hd; exact ⟨_ + m, by simp [Nat.add_assoc]; rfl⟩⟩)))
          go_wp2_with fail
          go_roundw
          case rel => exact ⟨k + 1, _, by omega, by go_num, Lib.hid (by rw [HX.out, HY.out, HA.out, HP.out]), rfl⟩
          case measure => simp [intOf]; omega
        · have h3 : (p.2 == q.2) = false := by simp [hp]
          have HP := Lib.hid (HN.out hp)
          clear hp
          go_wp2_with fail
          go_big_quiet ((go_at_call 37; exact (same_any _ _ _ _ _ (R1.out.same (grown_drewN _ _ none)).1 (R2.out.same (grown_drewN _ _ none)).1).mono (fun _ _ ⟨he, hd⟩ => ⟨he, by obtain ⟨m, rfl⟩ := hd; exact ⟨_ + m, by simp [Nat.add_assoc]; rfl⟩⟩)))
          go_wp2_with fail
          go_ret
          exact ⟨ret_bool HP.out.symm, (Drew.mk _ _).trans (Drew.mk _ _)⟩
      · clear hc hc'
        have h1 : ¬ (k : Int) < (ps.length : Int) := by omega
        go_wp2_with fail
        go_ret
        exact ⟨ret_bool (by have ha := HA.out; have h3 := H3.out; rw [List.take_of_length_le (by omega), List.take_of_length_le (by omega)] at ha; rw [ha]; simp), Drew.mk _ _⟩
  · have h4 : ((ps.length : Int) != (qs.length : Int)) = true := by simp; omega
    have HN : Hid ((ps.map Prod.snd == qs.map Prod.snd) = false) := Lib.hid (by
      rw [beq_eq_false_iff_ne]; intro e
      have := congrArg List.length e
      simp at this
      exact h3 this)
    clear hc hc' h3
    go_enter Tryd.func16, Tryd.ntmps16
    go_wp2_with fail
    go_ret
    exact ⟨ret_bool HN.out.symm, Drew.refl _⟩


def backR (row : List Int) : List Int := row.reverse ++ [row[0]?.getD 0]
theorem backR_at {row : List Int} {c j : Nat} (h : row.length = c) (hj : j < c) : (backR row)[j]?.getD 0 = row[c - 1 - j]?.getD 0 := by
  unfold backR
  rw [List.getElem?_append_left (by rw [List.length_reverse]; omega), List.getElem?_reverse (by omega), h]
theorem backR_last {row : List Int} {c : Nat} (h : row.length = c) : (backR row)[c]?.getD 0 = row[0]?.getD 0 := by
  unfold backR
  rw [List.getElem?_append_right (by rw [List.length_reverse]; omega), List.length_reverse, h, Nat.sub_self]; rfl
theorem backR_len {row : List Int} {c : Nat} (h : row.length = c) : (backR row).length = c + 1 := by unfold backR; simp [h]
theorem colI_back {C : List (List Int)} {c j : Nat} (h : ∀ row ∈ C, row.length = c) (hj : j < c) : colI (C.map backR) j = colI C (c - 1 - j) := by
  unfold colI
  rw [List.map_map]
  exact List.map_congr_left (fun row hr => backR_at (h row hr) hj)
theorem colI_last {C : List (List Int)} {c : Nat} (h : ∀ row ∈ C, row.length = c) : colI (C.map backR) c = colI C 0 := by
  unfold colI
  rw [List.map_map]
  exact List.map_congr_left (fun row hr => backR_last (h row hr))
theorem flow_back {C : List (List Int)} {c : Nat} (h : ∀ row ∈ C, row.length = c) (hc : 1 ≤ c) (y : List Int) : Flow (C.map backR) (c + 1) y ↔ Flow C c y := by
  constructor
  · intro hf
    refine ⟨by rw [hf.1, List.length_map], fun j hj => ?_⟩
    have := hf.2 (c - 1 - j) (by omega)
    rw [colI_back h (by omega), show c - 1 - (c - 1 - j) = j by omega] at this
    exact this
  · intro hf
    refine ⟨by rw [hf.1, List.length_map], fun j hj => ?_⟩
    by_cases e : j < c
    · rw [colI_back h e]; exact hf.2 _ (by omega)
    · obtain rfl : j = c := by omega
      rw [colI_last h]; exact hf.2 _ (by omega)
theorem at_back {C : List (List Int)} {c : Nat} (h : ∀ row ∈ C, row.length = c) (hc : 1 ≤ c) (I : Nat → Bool) (y : List Int) : FlowAt (C.map backR) (c + 1) I y ↔ FlowAt C c I y := by
  have hl : (C.map backR).length = C.length := List.length_map ..
  constructor
  · rintro ⟨h1, h2, h3, h4, h5⟩
    exact ⟨(flow_back h hc y).1 h1, fun i hi => h2 i (by rw [hl]; exact hi), fun i hi => h3 i (by rw [hl]; exact hi), h4, fun x hx ho a b ha hb => h5 x ((flow_back h hc x).2 hx) (fun i hi => ho i (by rw [← hl]; exact hi)) a b (by rw [hl]; exact ha) (by rw [hl]; exact hb)⟩
  · rintro ⟨h1, h2, h3, h4, h5⟩
    exact ⟨(flow_back h hc y).2 h1, fun i hi => h2 i (by rw [← hl]; exact hi), fun i hi => h3 i (by rw [← hl]; exact hi), h4, fun x hx ho a b ha hb => h5 x ((flow_back h hc x).1 hx) (fun i hi => ho i (by rw [hl]; exact hi)) a b (by rw [← hl]; exact ha) (by rw [← hl]; exact hb)⟩
theorem OfL.back {C : List (List Int)} {c N : Nat} {fs : List (List Int)} (h : OfL (C.map backR) (c + 1) N fs) (hw : ∀ row ∈ C, row.length = c) (hc : 1 ≤ c) : OfL C c N fs :=
  ⟨fun y hy => by obtain ⟨s, h1, h2, h3, h4⟩ := h.all y hy; exact ⟨s, h1, h2, (at_back hw hc _ _).1 h3, h4⟩, fun s h1 h2 y hy => h.got s h1 h2 y ((at_back hw hc _ _).2 hy), h.nodup⟩
theorem OfL.same {C : List (List Int)} {c N : Nat} {fs gs : List (List Int)} (h : OfL C c N fs) (h' : OfL C c N gs) (s : fs.Pairwise (fun a b => compareI a b ≤ 0)) (s' : gs.Pairwise (fun a b => compareI a b ≤ 0)) : fs = gs := by
  have hp : fs.Perm gs := (List.perm_ext_iff_of_nodup h.nodup h'.nodup).2 (fun y => ⟨fun hy => by
    obtain ⟨t, h1, h2, h3, -⟩ := h.all y hy; exact h'.got t h1 h2 y h3, fun hy => by
    obtain ⟨t, h1, h2, h3, -⟩ := h'.all y hy; exact h.got t h1 h2 y h3⟩)
  refine List.Perm.eq_of_pairwise (le := fun a b => compareI a b ≤ 0) (fun a b _ _ h1 h2 => ?_) s s' hp
  have := compareI_neg a b
  exact (compareI_zero a b).1 (by omega)

/-! ### Rows that grow, one after the other, in an array of the call's own -/
structure CurS (w : World) (T r B i : Nat) (v : Value) (xs : List Int) (ts : List Row) : Prop where
  arr : w.ownsRow T 22 1 (.slice (some ⟨T, 0, none⟩) r r) r ((ts.map Prod.fst).set i v)
  rows : ∀ p ∈ ts, RowOk w p ∧ ∀ g, p.1.ownBlock = some g → T < g ∧ g < B
  cur : OwnI w B v xs
theorem CurS.cell {w : World} {T r B i : Nat} {v : Value} {xs : List Int} {ts : List Row} (h : CurS w T r B i v xs ts) (hl : ts.length = r) (hi : i < r) : w.cell? ⟨T, i, none⟩ = some v ∧ w.frozen? ⟨T, i, none⟩ = false := by
  refine ⟨?_, World.ownsRow.frozenAt h.arr i⟩
  rw [World.ownsRow.cellAt h.arr i (by omega)]
  simp [hl, hi]
theorem CurS.same {w w' : World} {T r B i : Nat} {v : Value} {xs : List Int} {ts : List Row} (h : CurS w T r B i v xs ts) (g : w.grownBy w' none) : CurS w' T r B i v xs ts :=
  ⟨World.ownsRow.kept h.arr g (.inr (by simp [Value.ownBlock])), fun p hp => ⟨(h.rows p hp).1.same g, (h.rows p hp).2⟩, h.cur.kept g (by simp)⟩
theorem CurS.app {w w9 : World} {T r B i : Nat} {v v' : Value} {xs xs' : List Int} {ts : List Row} (h : CurS w T r B i v xs ts) (hTB : T < B) (ho : OwnI w9 B v' xs') (g : w.grownBy w9 v.ownBlock) : CurS (w9.setCell ⟨T, i, none⟩ v') T r B i v' xs' ts := by
  have hgr : w9.grownBy (w9.setCell ⟨T, i, none⟩ v') (some T) := grown_set w9 _ _
  have hv := h.cur.fresh
  refine ⟨?_, fun p hp => ⟨?_, (h.rows p hp).2⟩, ho.kept hgr (by rintro k ⟨⟩; exact hTB)⟩
  · have h1 : w9.ownsRow T 22 1 (.slice (some ⟨T, 0, none⟩) r r) r ((ts.map Prod.fst).set i v) := World.ownsRow.kept h.arr g (.inr (fun e => by
      have := (hv T (by rw [← e]; rfl)).1
      omega))
    have h2 := (World.ownsRow.stored h1 i v').1
    rwa [List.set_set] at h2
  · obtain ⟨h1, h2⟩ := h.rows p hp
    refine (h1.kept g (fun k hk e => ?_)).kept hgr (fun k hk e => ?_)
    · have := (h2 _ e).2; have := (hv k hk).1; omega
    · cases hk; have := (h2 _ e).1; omega
theorem CurS.free {w w9 : World} {T r B i : Nat} {v : Value} {xs : List Int} {ts : List Row} (h : CurS w T r B i v xs ts) (hTB : T < B) (hl : ts.length = r) (hi : i < r) (g : w.grownBy w9 v.ownBlock) : w9.cell? ⟨T, i, none⟩ = some v ∧ w9.frozen? ⟨T, i, none⟩ = false := by
  have hv := h.cur.fresh
  have h1 : w9.ownsRow T 22 1 (.slice (some ⟨T, 0, none⟩) r r) r ((ts.map Prod.fst).set i v) := World.ownsRow.kept h.arr g (.inr (fun e => by
    have := (hv T (by rw [← e]; rfl)).1
    omega))
  refine ⟨?_, World.ownsRow.frozenAt h1 i⟩
  rw [World.ownsRow.cellAt h1 i (by omega)]
  simp [hl, hi]
/-- The array between two rows: the first i rows are there. -/
structure OutS (w : World) (T r i : Nat) (C : List (List Int)) (ts : List Row) : Prop where
  len : ts.length = r
  arr : w.ownsRow T 22 1 (.slice (some ⟨T, 0, none⟩) r r) r (ts.map Prod.fst)
  rows : ∀ p ∈ ts, RowOk w p ∧ ∀ g, p.1.ownBlock = some g → T < g ∧ g < w.heap.size
  done : ∀ t (ht : t < ts.length), (t < i → ts[t].2 = backR (C[t]?.getD [])) ∧ (i ≤ t → ts[t] = (.slice none 0 0, []))
theorem OutS.start {w : World} {T r : Nat} {C : List (List Int)} (h : OwnP w T (.slice (some ⟨T, 0, none⟩) r r) (List.replicate r (.slice none 0 0, []))) : OutS w T r 0 C (List.replicate r (.slice none 0 0, [])) := by
  refine ⟨by simp, by have := h.1; rwa [List.length_replicate] at this, fun p hp => ⟨(h.2 p hp).1, fun g hg => ?_⟩, fun t ht => ⟨fun h => by omega, fun _ => by rw [List.getElem_replicate]⟩⟩
  rw [List.eq_of_mem_replicate hp] at hg; simp [Value.ownBlock] at hg
theorem OutS.begin {w : World} {T r i : Nat} {C : List (List Int)} {ts : List Row} (h : OutS w T r i C ts) (hi : i < r) : CurS w T r w.heap.size i (.slice none 0 0) [] ts := by
  refine ⟨?_, h.rows, OwnI.nil _ _⟩
  have e : (ts.map Prod.fst).set i (.slice none 0 0) = ts.map Prod.fst := by
    apply List.ext_getElem (by simp)
    intro t h1 h2
    rw [List.getElem_set]
    split
    · rename_i e
      subst e
      rw [List.getElem_map, (h.done i (by rw [h.len]; exact hi)).2 (Nat.le_refl _)]
    · rfl
  rw [e]; exact h.arr
theorem OutS.next {w0 w : World} {T r i : Nat} {C : List (List Int)} {v : Value} {xs : List Int} {ts : List Row} (ho : OutS w0 T r i C ts) (h : CurS w T r w0.heap.size i v xs ts) (hi : i < r) (hT : T < w0.heap.size) (hs : w0.heap.size ≤ w.heap.size) (hx : xs = backR (C[i]?.getD [])) (hb : ∀ x ∈ xs, -9223372036854775808 ≤ x ∧ x ≤ 9223372036854775807) :
    OutS w T r (i + 1) C (ts.set i (v, xs)) := by
  refine ⟨by rw [List.length_set]; exact ho.len, by rw [List.map_set]; exact h.arr, fun p hp => ?_, fun t ht => ?_⟩
  · rcases List.mem_or_eq_of_mem_set hp with hp | rfl
    · exact ⟨(h.rows p hp).1, fun g hg => by have := (h.rows p hp).2 g hg; omega⟩
    · exact ⟨h.cur.row hb, fun g hg => by have := h.cur.fresh g hg; omega⟩
  · rw [List.length_set] at ht
    rw [List.getElem_set]
    split
    · rename_i e; subst e
      exact ⟨fun _ => hx, fun h => by omega⟩
    · rename_i e
      exact ⟨fun h => (ho.done t ht).1 (by omega), fun h => (ho.done t ht).2 (by omega)⟩
theorem OutS.own {w : World} {T r : Nat} {C : List (List Int)} {ts : List Row} (h : OutS w T r r C ts) : RowsP w (.slice (some ⟨T, 0, none⟩) r r) ts := by
  have : OwnP w T (.slice (some ⟨T, 0, none⟩) r r) ts := ⟨by rw [h.len]; exact h.arr, fun p hp => ⟨(h.rows p hp).1, fun g hg e => by
    simp only [Value.ownBlock, Option.some.injEq] at e
    have := (h.rows p hp).2 g hg; omega⟩⟩
  exact this.rows
theorem OutS.snd {w : World} {T r : Nat} {C : List (List Int)} {ts : List Row} (h : OutS w T r r C ts) (hC : C.length = r) : ts.map Prod.snd = C.map backR := by
  apply List.ext_getElem (by rw [List.length_map, List.length_map, h.len, hC])
  intro t h1 h2
  have ht : t < ts.length := by simpa using h1
  rw [List.getElem_map, List.getElem_map, (h.done t ht).1 (by rw [← h.len]; exact ht), List.getElem?_eq_getElem (by simpa using h2)]; rfl
theorem back_ok {r c : Nat} {ps ts : List Row} (hm : MatOkP r c ps) (hc : c ≤ 5) (h : ts.map Prod.snd = (ps.map Prod.snd).map backR) : MatOkP r (c + 1) ts := by
  obtain ⟨hl, hr1, hr12, hc1, hc12, h6, hq⟩ := hm
  have hlen : ts.length = r := by have := congrArg List.length h; simpa [hl] using this
  refine ⟨hlen, hr1, hr12, by omega, by omega, by omega, fun q hq' => ?_⟩
  have h1 : q.2 ∈ (ps.map Prod.snd).map backR := by rw [← h]; exact List.mem_map_of_mem hq'
  obtain ⟨row, hrow, e⟩ := List.mem_map.1 h1
  obtain ⟨p, hp, rfl⟩ := List.mem_map.1 hrow
  rw [← e]
  refine ⟨backR_len (hq p hp).1, fun x hx => ?_⟩
  unfold backR at hx
  rcases List.mem_append.1 hx with hx | hx
  · exact (hq p hp).2 x (List.mem_reverse.1 hx)
  · rw [List.mem_singleton.1 hx]
    rw [List.getElem?_eq_getElem (by rw [(hq p hp).1]; omega)]
    exact (hq p hp).2 _ (List.getElem_mem _)
/-- A sum of semiflows. -/
def sum21 (x y : List Int) : List Int := List.zipWith (fun a b => 2 * a + b) x y
theorem sum21_next {u v : List Int} {k : Nat} (h1 : k < u.length) (h2 : k < v.length) : (sum21 u v).take k ++ [2 * u[k]?.getD 0 + v[k]?.getD 0] = (sum21 u v).take (k + 1) := by
  rw [List.take_add_one]
  congr 1
  unfold sum21
  rw [List.getElem?_zipWith, List.getElem?_eq_getElem h1, List.getElem?_eq_getElem h2]; rfl
theorem sum21_at {u v : List Int} (h : u.length = v.length) (i : Nat) : (sum21 u v)[i]?.getD 0 = 2 * u[i]?.getD 0 + 1 * v[i]?.getD 0 := by
  unfold sum21
  rw [List.getElem?_zipWith]
  by_cases h1 : i < u.length
  · rw [List.getElem?_eq_getElem h1, List.getElem?_eq_getElem (show i < v.length by omega)]; simp
  · rw [List.getElem?_eq_none (show u.length ≤ i by omega), List.getElem?_eq_none (show v.length ≤ i by omega)]; simp
theorem sum21_flow {C : List (List Int)} {c : Nat} {x y : List Int} (hx : Flow C c x) (hy : Flow C c y) : Flow C c (sum21 x y) := by
  obtain ⟨z, hz, hat⟩ := flow_lin hx hy 2 1
  have e : sum21 x y = z := by
    have hl : x.length = y.length := by rw [hx.1, hy.1]
    have hsl : (sum21 x y).length = C.length := by unfold sum21; rw [List.length_zipWith, hx.1, hy.1, Nat.min_self]
    apply List.ext_getElem (by rw [hsl, hz.1])
    intro i h1 h2
    have h3 := sum21_at hl i
    rw [← hat i, List.getElem?_eq_getElem h1, List.getElem?_eq_getElem h2] at h3
    exact h3
  rw [e]; exact hz
theorem sum21_bd {u v : List Int} (h1 : ∀ y ∈ u, 0 ≤ y ∧ y ≤ 12079595520) (h2 : ∀ y ∈ v, 0 ≤ y ∧ y ≤ 12079595520) : ∀ y ∈ sum21 u v, 0 ≤ y ∧ y ≤ 1099511627776 := by
  intro y hy
  unfold sum21 at hy
  obtain ⟨i, hi, rfl⟩ := List.getElem_of_mem hy
  have hl : i < u.length ∧ i < v.length := by rw [List.length_zipWith] at hi; omega
  have b1 := h1 _ (List.getElem_mem hl.1)
  have b2 := h2 _ (List.getElem_mem hl.2)
  rw [List.getElem_zipWith]
  omega
/-- What is read of a minimal semiflow. -/
theorem OfL.row {C : List (List Int)} {c r : Nat} {fs : List Row} (h : OfL C c (2 ^ r) (fs.map Prod.snd)) (hC : C.length = r) (h6 : r ≤ 6) {k : Nat} (hk : k < fs.length) : fs[k].2.length = r ∧ Flow C c fs[k].2 ∧ (∀ x ∈ fs[k].2, 0 ≤ x ∧ x ≤ 12079595520) ∧ ∃ p : Nat, 0 < fs[k].2[p]?.getD 0 := by
  obtain ⟨s, h1, h2, h3, h4⟩ := h.all _ (List.mem_map_of_mem (List.getElem_mem hk))
  refine ⟨by rw [h3.flow.1, hC], h3.flow, h4, ?_⟩
  by_cases e : ∃ p, p < C.length ∧ bitB s p = true
  · obtain ⟨p, hp, hI⟩ := e; exact ⟨p, h3.on p hp hI⟩
  · exfalso
    have hpw := pow_6 r (by omega)
    have hz : s = 0 := bit_same (n := r) (by omega) (s := s) (t := 0) (by omega) h2 (by omega) (by omega) (fun p hp => by
      have e0 : bitB 0 p = false := by
        have := bit_zero r (by omega)
        cases e1 : bitB 0 p with
        | false => rfl
        | true => have h5 := idxs_mem hp e1; rw [this] at h5; cases h5
      rw [e0]
      cases e1 : bitB s p with
      | false => rfl
      | true => exact absurd ⟨p, by rw [hC]; exact hp, e1⟩ e)
    omega
theorem drop_back {row : List Int} {k : Nat} (h : k < row.length) : (row.drop (k + 1)).reverse ++ [row[k]?.getD 0] = (row.drop k).reverse := by
  rw [List.drop_eq_getElem_cons h, List.reverse_cons, List.getElem?_eq_getElem h]; rfl
end Go.Proofs.YtpnghgihepnepaaDoor
