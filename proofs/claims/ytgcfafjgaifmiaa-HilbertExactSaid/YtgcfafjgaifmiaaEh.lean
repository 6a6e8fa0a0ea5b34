/- hilbert: a list searched for a vector that is at most another one. -/
import Derived.Test.YtgcfafjgaifmiaaEg
import Derived.Test.YtgcfafjgaifmiaaEv
import Derived.Test.YtgcfafjgaifmiaaEa
import Derived.Test.YtgcfafjgaifmiaaNc
namespace Go.Proofs.Ytgcfafjgaifmiaa
open Go.RowKit
set_option linter.unusedVariables false
theorem same_grown {w w' : World} {p : Prop} (h : p ∧ w' = w) : p ∧ w.grownBy w' none := ⟨h.1, h.2 ▸ grown_refl _ _⟩

/-- What Merge$1 captures: a cell that holds a word. -/
def Held (w : World) (c : Nat) (p : Row) : Prop := w.cell? ⟨c, 0, none⟩ = some p.1 ∧ RowOk w p
theorem Held.same {w w' : World} {c : Nat} {p : Row} (h : Held w c p) (g : w.grownBy w' none) : Held w' c p := ⟨g.cell h.1 (by simp), h.2.same g⟩

theorem pred_any (p q : Row) (c : Nat) (w : World) (h : Held w c p) (hq : RowOk w q) :
    Calls Try.prog 52 #[q.1, .pointer (some ⟨c, 0, none⟩)] w fun e w' => e = .returned (.bool (leqB q.2 p.2)) ∧ w.grownBy w' none := by
  obtain ⟨hc, hp⟩ := h
  have HP := Lib.hid hp; have HQ := Lib.hid hq
  clear hp hq
  obtain ⟨v, xs⟩ := q
  obtain ⟨u, ys⟩ := p
  dsimp only at hc
  go_enter Try.func52, Try.ntmps52
  go_wp2_with fail
  refine ((leq_any _ _ _ _ _ HQ.out.1 HP.out.1).mono fun _ _ h => same_grown h).mono ?_
  rintro e w' ⟨rfl, hg⟩
  have HG := Lib.hid hg
  clear hg
  go_wp2_with fail
  go_ret
  exact ⟨rfl, HG.out⟩

def IdxP (B : Bool) (w : World) (e : Ending) (w' : World) : Prop := ∃ k : Int, e = .returned (.int .i64 k) ∧ decide (0 ≤ k) = B ∧ w.grownBy w' none

theorem any_snoc (P : Row → Bool) (ps : List Row) (k : Nat) (h : k < ps.length) : (ps.take (k + 1)).any P = ((ps.take k).any P || P (ps[k])) := by
  rw [List.take_succ_eq_append_getElem h, List.any_append]; simp
theorem any_hit (P : Row → Bool) (ps : List Row) (k : Nat) (h : k < ps.length) (hp : P (ps[k]) = true) : ps.any P = true := List.any_eq_true.2 ⟨ps[k], List.getElem_mem h, hp⟩

set_option maxHeartbeats 2000000 in
theorem index_any (v : Value) (ps : List Row) (c : Nat) (p : Row) (w : World) (h : RowsP w v ps) (hp : Held w c p) :
    Calls Try.prog 68 #[v, .func (.func 52) #[] #[.pointer (some ⟨c, 0, none⟩)]] w (IdxP (ps.any (fun q => leqB q.2 p.2)) w) := by
  have H := Lib.hid h
  have HP := Lib.hid hp
  clear hp
  obtain ⟨a, cap, rfl, hl, -, -⟩ := h
  unfold maxLen at hl
  go_enter Try.func68, Try.ntmps68
  go_wp2_with fail
  go_loopw [8] (fun i wr => ∃ k : Nat, k ≤ ps.length ∧ i = .int .i64 k ∧ Hid ((ps.take k).any (fun q => leqB q.2 p.2) = false) ∧ Hid (w.grownBy wr none)) (fun i _ => ps.length - (intOf i).toNat)
  case atStart => exact ⟨0, Nat.zero_le _, rfl, Lib.hid (by simp), Lib.hid (grown_refl _ _)⟩
  case round =>
    obtain ⟨k, hk, rfl, hn, hg⟩ := hrel
    by_cases hlt : k < ps.length
    · obtain ⟨_, _, hv, _, hc, hrow⟩ := H.out.same hg.out
      simp only [Value.slice.injEq] at hv
      obtain ⟨rfl, -, -⟩ := hv
      obtain ⟨b, off, rfl, hx⟩ := RowsP.at hc hlt
      have HR := Lib.hid (hrow _ (List.getElem_mem hlt))
      have HS := Lib.hid (any_snoc (fun q => leqB q.2 p.2) ps k hlt)
      have HT := Lib.hid (any_hit (fun q => leqB q.2 p.2) ps k hlt)
      have HC := Lib.hid (HP.out.same hg.out)
      have h1 : (k : Int) < (ps.length : Int) := by omega
      clear hc hrow
      generalize (ps[k]) = q at *
      go_wp2_with fail
      refine (pred_any p q c _ HC.out HR.out).mono ?_
      rintro e w1 ⟨rfl, hg1⟩
      have HG := Lib.hid (grown_trans hg.out hg1)
      clear hg1
      cases hb : leqB q.2 p.2
      · go_wp2_with fail
        go_roundw
        case rel => exact ⟨k + 1, by omega, by go_num, Lib.hid (by rw [HS.out, hn.out, hb]; rfl), HG⟩
        case measure => simp [intOf]; omega
      · go_wp2_with fail
        go_ret
        exact ⟨k, rfl, by rw [HT.out hb]; simp, HG.out⟩
    · have hne : (ps.any (fun q => leqB q.2 p.2)) = false := by have := hn.out; rwa [List.take_of_length_le (by omega)] at this
      have HN := Lib.hid hne
      clear hne
      go_wp2_with fail
      go_ret
      exact ⟨-1, rfl, by rw [HN.out]; rfl, hg.out⟩

theorem contains_any (v : Value) (ps : List Row) (c : Nat) (p : Row) (w : World) (h : RowsP w v ps) (hp : Held w c p) :
    Calls Try.prog 54 #[v, .func (.func 52) #[] #[.pointer (some ⟨c, 0, none⟩)]] w fun e w' => e = .returned (.bool (ps.any (fun q => leqB q.2 p.2))) ∧ w.grownBy w' none := by
  have H := Lib.hid h
  have HP := Lib.hid hp
  clear hp
  obtain ⟨a, cap, rfl, -, -, -⟩ := h
  go_enter Try.func54, Try.ntmps54
  go_wp2_with fail
  refine (index_any _ _ _ _ _ H.out HP.out).mono ?_
  rintro e w' ⟨k, rfl, hk, hg⟩
  have HK := Lib.hid hk; have HG := Lib.hid hg
  clear hk hg
  go_wp2_with fail
  go_ret
  exact ⟨ret_bool HK.out, HG.out⟩




/-! ### Which systems are valid, and what solves them -/
def RightOk (r : Nat) (bs : List Int) : Prop := bs.length = r ∧ ∀ b ∈ bs, -1048576 ≤ b ∧ b ≤ 1048576
set_option maxRecDepth 100000 in
set_option maxHeartbeats 1000000 in
theorem hcheck_any {r c : Nat} {ms : List Row} {va vb : Value} {bs : List Int} {w : World} (h : RowsP w va ms) (hm : MatOkP r c ms) (hr : r ≤ 6) (hc : c ≤ 6) (hb : Ints w vb bs) (hbo : RightOk r bs) :
    Calls Try.prog 15 #[va, vb] w fun e w' => e = .returned (.int .i64 0) ∧ w' = w := by
  have HM := Lib.hid hm
  obtain ⟨hl, hr1, hr12, hc1, hc12, hrc, hq⟩ := hm
  obtain ⟨aa, capa, rfl, -⟩ : ∃ a cap, va = .slice a ms.length cap ∧ True := by obtain ⟨a, cap, h, -⟩ := h; exact ⟨a, cap, h, trivial⟩
  obtain ⟨ab, capb, hvb, hbl, -, hbc⟩ := id hb
  subst hvb
  have h0 : 0 < ms.length := by omega
  obtain ⟨b, off, a2, c2, rfl, hc0, -, -⟩ := h.row h0
  rw [(hq _ (List.getElem_mem h0)).1, Nat.add_zero] at hc0
  have HA := Lib.hid h; have HB := Lib.hid hbo.2
  have p1 : 0 < (ms.length : Int) := by omega
  have p2 : ¬ (6 : Int) < (ms.length : Int) := by omega
  have p3 : ¬ (6 : Int) < (c : Int) := by omega
  have p4 : ((bs.length : Int) != (ms.length : Int)) = false := by have := hbo.1; simp; omega
  have hbn := hbo.1
  have p5 : bs.length ≤ 6 := by omega
  have HBN := Lib.hid hbn; have HL := Lib.hid hl
  clear h hb hq hl hbo hbn hbl
  go_enter Try.func15, Try.ntmps15
  go_wp2_with fail
  refine (Check10_any HA.out HM.out).mono ?_
  rintro e w' ⟨rfl, rfl⟩
  go_wp2_with fail
  clear p4
  go_loop [29] (fun i => ∃ k : Nat, k ≤ bs.length ∧ i = .int .i64 k) (fun i => bs.length - (intOf i).toNat)
  case atStart => exact ⟨0, Nat.zero_le _, rfl⟩
  case round =>
    obtain ⟨k, hk, rfl⟩ := hrel
    by_cases hlt : k < bs.length
    · obtain ⟨bb, ob, rfl, hx⟩ := Ints.at hbc hlt
      have hxb := mem_at HB.out hlt
      have h1 : (k : Int) < (bs.length : Int) := by omega
      have i1 : IntKind.i64.wrap ((k : Int) + 1) = (k : Int) + 1 := IntWalk.i64_in _ (by omega)
      generalize bs[k]?.getD 0 = x at *
      have h2 : ¬ x < -1048576 := by omega
      have h3 : ¬ (1048576 : Int) < x := by omega
      clear hbc
      go_wp2_with fail
      go_round
      case rel => exact ⟨k + 1, by omega, by go_num⟩
      case measure => simp [intOf]; omega
    · have h1 : ¬ (k : Int) < (bs.length : Int) := by omega
      clear hbc
      go_wp2_with fail
      go_ret
      exact ⟨rfl, rfl⟩
/-- Whether a vector solves a system. -/
def solB (ms : List Row) (bs x : List Int) : Bool := ms.map (fun q => dotL q.2 x) == bs
def VecOk (c : Nat) (x : List Int) : Prop := x.length = c ∧ ∀ z ∈ x, 0 ≤ z ∧ z ≤ 1000000
theorem finite_ok {c : Nat} {x : List Int} (hc : c ≤ 6) (h : VecOk c x) : finiteB x = true := by
  unfold finiteB
  simp only [Bool.and_eq_true, decide_eq_true_eq, List.all_eq_true]
  refine ⟨by have := h.1; omega, fun z hz => ?_⟩
  unfold numB
  have := h.2 z hz
  simp only [Bool.and_eq_true, decide_eq_true_eq]; omega
theorem dotS_bd {c : Nat} {row x : List Int} (h : row.length = c) (hr : ∀ y ∈ row, -16 ≤ y ∧ y ≤ 16) (hc : c ≤ 12) (hx : VecOk c x) : -9223372036854775808 ≤ dotL row x ∧ dotL row x ≤ 9223372036854775807 := by
  have := dot_bd (A := 16) (B := 1000000) row x hr (fun y hy => by have := hx.2 y hy; omega) (by decide)
  rw [h] at this
  have h2 : (c : Int) * (16 * 1000000) ≤ 12 * (16 * 1000000) := Int.mul_le_mul_of_nonneg_right (by omega) (by decide)
  omega
set_option maxRecDepth 100000 in
set_option maxHeartbeats 1000000 in
theorem hsolves_any {r c : Nat} {ms : List Row} {va vb vx : Value} {bs x : List Int} {w : World} (h : RowsP w va ms) (hm : MatOkP r c ms) (hr : r ≤ 6) (hc : c ≤ 6) (hb : Ints w vb bs) (hbo : RightOk r bs) (hx : Ints w vx x) (hxo : VecOk c x) :
    Calls Try.prog 17 #[va, vb, vx] w fun e w' => e = .returned (.bool (solB ms bs x)) ∧ w.grownBy w' none := by
  have HM := Lib.hid hm; have HA := Lib.hid h; have HB := Lib.hid hb; have HX := Lib.hid hx; have HBO := Lib.hid hbo; have HXO := Lib.hid hxo
  obtain ⟨aa, capa, rfl, -⟩ : ∃ a cap, va = .slice a ms.length cap ∧ True := by obtain ⟨a, cap, h, -⟩ := h; exact ⟨a, cap, h, trivial⟩
  obtain ⟨ab, capb, hvb, -⟩ := id hb
  obtain ⟨ax, capx, hvx, -⟩ := id hx
  subst hvb hvx
  have HF := Lib.hid (finite_ok hc hxo)
  clear h hb hx hbo hxo hm
  go_enter Try.func17, Try.ntmps17
  go_wp2_with fail
  refine (hcheck_any HA.out HM.out hr hc HB.out HBO.out).mono ?_
  rintro e w' ⟨rfl, rfl⟩
  go_wp2_with fail
  refine (finite_any _ _ _ HX.out).mono ?_
  rintro e w' ⟨rfl, rfl⟩
  rw [HF.out]
  go_wp2_with fail
  refine (Apply_any HA.out HM.out HX.out HXO.out.1 (fun y hy => by have := HXO.out.2 y hy; omega)).mono ?_
  rintro e w1 ⟨v1, rfl, ho, hg⟩
  have HO : Hid (Ints w1 v1 (ms.map (fun q => dotL q.2 x))) := Lib.hid (ho.ints (fun z hz => by
    obtain ⟨q, hq, rfl⟩ := List.mem_map.1 hz
    obtain ⟨h1, h2⟩ := HM.out.2.2.2.2.2.2 q hq
    exact dotS_bd h1 h2 (by omega) HXO.out))
  have HG := Lib.hid hg
  clear ho hg
  go_wp2_with fail
  refine (equal_any _ _ _ _ _ HO.out (HB.out.same HG.out)).mono ?_
  rintro e w2 ⟨rfl, hd⟩
  have HG2 := Lib.hid (grown_trans HG.out (hd.grown none))
  clear hd
  go_wp2_with fail
  go_ret
  exact ⟨rfl, HG2.out⟩

/-- A function value that tells which vectors count. -/
def CntOk (fc : Nat) (cnt : List Int → Bool) (c : Nat) : Prop := ∀ W v x, Ints W v x → VecOk c x → Calls Try.prog fc #[v] W fun e w' => e = .returned (.bool (cnt x)) ∧ w' = W
theorem cnt_all (c : Nat) : CntOk 38 (fun _ => true) c := by
  intro W v x h _
  go_enter Try.func38, Try.ntmps38
  go_wp2_with fail
  go_ret
  exact ⟨rfl, rfl⟩
def someB (x : List Int) : Bool := x.any (fun z => decide (0 < z))
theorem cnt_some (c : Nat) (hc : 1 ≤ c) : CntOk 40 someB c := by
  intro W v x h hx
  have H := Lib.hid h
  go_enter Try.func40, Try.ntmps40
  go_wp2_with fail
  refine (max_any _ _ _ H.out (by rw [hx.1]; exact hc)).mono ?_
  rintro e w' ⟨m, rfl, hm, rfl⟩
  have HM : Hid (decide (0 < m) = someB x) := Lib.hid (by
    unfold someB
    rw [Bool.eq_iff_iff]
    simp only [decide_eq_true_eq, List.any_eq_true]
    exact ⟨fun h => ⟨m, hm.1, h⟩, fun ⟨z, hz, h⟩ => by have := hm.2 z hz; omega⟩)
  clear hm
  go_wp2_with fail
  go_ret
  exact ⟨ret_bool HM.out, rfl⟩
theorem atMost_is : ∀ (x y : List Int), x.length = y.length → atMostB x y = leqI x y
  | [], _, _ => rfl
  | x :: xs, y :: ys, h => by
    show (decide (x ≤ y) && atMostB xs ys) = (decide (x ≤ y) && leqI xs ys)
    rw [atMost_is xs ys (by simpa using h)]
theorem leqB_is {c : Nat} {x y : List Int} (hc : c ≤ 6) (hx : VecOk c x) (hy : VecOk c y) : leqB x y = leqI x y := by
  have v : ∀ {z : List Int}, VecOk c z → validB z = true := fun {z} hz => by
    unfold validB
    simp only [Bool.and_eq_true, decide_eq_true_eq, List.all_eq_true]
    refine ⟨by have := hz.1; omega, fun u hu => ?_⟩
    unfold elemB numB
    have := hz.2 u hu
    simp; omega
  unfold leqB
  rw [v hx, v hy]
  have e : x.length = y.length := by rw [hx.1, hy.1]
  have e2 : (x.length == y.length) = true := by simp [e]
  rw [e2]
  simp only [Bool.true_and]
  exact atMost_is x y e
end Go.Proofs.Ytgcfafjgaifmiaa
