/- Texts Nc, Nd in one. -/
import Derived.Test.YtpnghgihepnepaaDoorU3
import Derived.StillTailTactics
import Derived.BigQuiet
namespace Go.Proofs.YtpnghgihepnepaaDoor
open Go.RowKit
set_option linter.unusedVariables false

/-- The rows of a valid matrix. -/
def MatOkP (r c : Nat) (ps : List Row) : Prop := ps.length = r ∧ 1 ≤ r ∧ r ≤ 12 ∧ 1 ≤ c ∧ c ≤ 12 ∧ (r ≤ 6 ∨ c ≤ 6) ∧ ∀ q ∈ ps, q.2.length = c ∧ ∀ x ∈ q.2, -16 ≤ x ∧ x ≤ 16
theorem matOkP_cons {r c : Nat} {ps : List Row} (h : MatOkP r c ps) : ∃ q qs, ps = q :: qs := by
  obtain ⟨h1, h2, -⟩ := h
  cases ps with
  | nil => simp at h1; omega
  | cons q qs => exact ⟨q, qs, rfl⟩
/-- A row that is read. -/
theorem RowsP.row {w : World} {a : Option Addr} {n cap : Nat} {ps : List Row} (h : RowsP w (.slice a n cap) ps) {k : Nat} (hk : k < ps.length) :
    ∃ b off a2 c2, a = some ⟨b, off, none⟩ ∧ w.cell? ⟨b, off + k, none⟩ = some (.slice a2 ps[k].2.length c2) ∧ ps[k].1 = .slice a2 ps[k].2.length c2 ∧ Ints w (.slice a2 ps[k].2.length c2) ps[k].2 := by
  obtain ⟨a', cap', hv, -, hct, hr⟩ := h
  simp only [Value.slice.injEq] at hv
  obtain ⟨rfl, -, rfl⟩ := hv
  obtain ⟨b, off, rfl, hc⟩ := RowsP.at hct hk
  obtain ⟨hi, -, -⟩ := hr _ (List.getElem_mem hk)
  obtain ⟨a2, c2, h1, h2⟩ := hi
  exact ⟨b, off, a2, c2, rfl, by rw [hc, h1], h1, ⟨a2, c2, rfl, h2⟩⟩
set_option maxRecDepth 100000 in
set_option maxHeartbeats 1500000 in
theorem Check10_any {r c : Nat} {ps : List Row} {v : Value} {w : World} (h : RowsP w v ps) (hm : MatOkP r c ps) :
    Calls Tryd.prog 43 #[v] w fun e w' => e = .returned (.int .i64 0) ∧ w' = w := by
  obtain ⟨hl, hr1, hr12, hc1, hc12, hrc, hq⟩ := hm
  obtain ⟨a, cap, rfl, -⟩ : ∃ a cap, v = .slice a ps.length cap ∧ True := by obtain ⟨a, cap, h, -⟩ := h; exact ⟨a, cap, h, trivial⟩
  have H := Lib.hid h; have HQ := Lib.hid hq; have HL := Lib.hid hl
  have h0 : 0 < ps.length := by omega
  obtain ⟨b, off, a2, c2, rfl, hc0, -, -⟩ := h.row h0
  have hlen0 := (hq _ (List.getElem_mem h0)).1
  rw [hlen0, Nat.add_zero] at hc0
  have e0 : ¬ (ps.length : Int) < 1 := by omega
  have e1 : ¬ (12 : Int) < (ps.length : Int) := by omega
  have e2 : ¬ (c : Int) < 1 := by omega
  have e3 : ¬ (12 : Int) < (c : Int) := by omega
  have e4 : ¬ (6 : Int) < min (ps.length : Int) (c : Int) := by omega
  have hp12 : ps.length ≤ 12 := by omega
  clear h hq hl hlen0 hr1 hr12 hrc
  go_enter Tryd.func43, Tryd.ntmps43
  go_wp2_with fail
  go_loop [35] (fun i => ∃ k : Nat, i = .int .i64 k ∧ k ≤ ps.length) (fun i => ps.length - (intOf i).toNat)
  case atStart => exact ⟨0, rfl, Nat.zero_le _⟩
  case round =>
    obtain ⟨k, rfl, hk⟩ := hrel
    by_cases hkb : k < ps.length
    · have h2 : (k : Int) < (ps.length : Int) := by omega
      have i1 : IntKind.i64.wrap ((k : Int) + 1) = (k : Int) + 1 := IntWalk.i64_in _ (by omega)
      obtain ⟨b', off', ar, cr, hbe, hcr, -, hri⟩ := H.out.row hkb
      simp only [Option.some.injEq, Addr.mk.injEq, and_true] at hbe
      obtain ⟨rfl, rfl⟩ := hbe
      obtain ⟨hlen, hbd⟩ := HQ.out _ (List.getElem_mem hkb)
      have HBD := Lib.hid hbd; have HRI := Lib.hid hri
      generalize hzs : ps[k].2 = zs at *
      subst hlen
      clear hbd hri hzs
      have k1 : ((zs.length : Int) != (zs.length : Int)) = false := by simp
      go_wp2_with fail
      go_loop [45] (fun i => ∃ j : Nat, i = .int .i64 j ∧ j ≤ zs.length) (fun i => zs.length - (intOf i).toNat)
      case atStart => exact ⟨0, rfl, Nat.zero_le _⟩
      case round =>
        obtain ⟨j, rfl, hj⟩ := hrel
        by_cases hjb : j < zs.length
        · have h3 : (j : Int) < (zs.length : Int) := by omega
          have i2 : IntKind.i64.wrap ((j : Int) + 1) = (j : Int) + 1 := IntWalk.i64_in _ (by omega)
          obtain ⟨_, _, hx, -, -, hxc⟩ := HRI.out
          simp only [Value.slice.injEq] at hx
          obtain ⟨rfl, -, rfl⟩ := hx
          obtain ⟨xb, xo, rfl, hcx⟩ := Ints.at hxc hjb
          have hb := mem_at (P := fun x => -16 ≤ x ∧ x ≤ 16) HBD.out hjb
          generalize zs[j]?.getD 0 = x at *
          have f1 : ¬ x < -16 := by omega
          have f2 : ¬ (16 : Int) < x := by omega
          clear hxc
          go_wp2_with fail
          go_round
          case rel => exact ⟨j + 1, by go_num, by omega⟩
          case measure => simp [intOf]; omega
        · obtain rfl : j = zs.length := by omega
          have h3 : ¬ (zs.length : Int) < (zs.length : Int) := by omega
          go_wp2_with fail
          go_round
          case rel => exact ⟨k + 1, by go_num, by omega⟩
          case measure => simp [intOf]; omega
    · obtain rfl : k = ps.length := by omega
      have h2 : ¬ (ps.length : Int) < (ps.length : Int) := by omega
      go_wp2_with fail
      go_ret
      exact ⟨rfl, rfl⟩

/-! ### Products -/
def dotL : List Int → List Int → Int
  | a :: l, b :: m => a * b + dotL l m
  | _, _ => 0
theorem dot_snoc : ∀ (a b : List Int) (j : Nat), j < a.length → j < b.length → dotL (a.take (j + 1)) (b.take (j + 1)) = dotL (a.take j) (b.take j) + a[j]?.getD 0 * b[j]?.getD 0
  | x :: a, y :: b, 0, _, _ => by simp [dotL]
  | x :: a, y :: b, j + 1, ha, hb => by
    rw [List.take_succ_cons, List.take_succ_cons, dotL, dot_snoc a b j (by simpa using ha) (by simpa using hb), List.take_succ_cons, List.take_succ_cons, dotL, List.getElem?_cons_succ, List.getElem?_cons_succ, Int.add_assoc]
theorem mul_bd {x y A B : Int} (hx : -A ≤ x ∧ x ≤ A) (hy : -B ≤ y ∧ y ≤ B) : -(A * B) ≤ x * y ∧ x * y ≤ A * B := by
  have h1 : x.natAbs ≤ A.natAbs := by omega
  have h2 : y.natAbs ≤ B.natAbs := by omega
  have h3 := Nat.mul_le_mul h1 h2
  rw [← Int.natAbs_mul, ← Int.natAbs_mul] at h3
  have h4 : 0 ≤ A * B := Int.mul_nonneg (by omega) (by omega)
  omega
theorem dot_bd {A B : Int} : ∀ (a b : List Int), (∀ x ∈ a, -A ≤ x ∧ x ≤ A) → (∀ y ∈ b, -B ≤ y ∧ y ≤ B) → 0 ≤ A * B → -((a.length : Int) * (A * B)) ≤ dotL a b ∧ dotL a b ≤ (a.length : Int) * (A * B)
  | [], _, _, _, h => by simp [dotL]
  | x :: a, [], _, _, h => by
    have : 0 ≤ ((x :: a).length : Int) * (A * B) := Int.mul_nonneg (by omega) h
    simp only [dotL]; omega
  | x :: a, y :: b, ha, hb, h => by
    have h1 := mul_bd (ha x (by simp)) (hb y (by simp))
    have h2 := dot_bd a b (fun z hz => ha z (by simp [hz])) (fun z hz => hb z (by simp [hz])) h
    have h3 : (((x :: a).length : Nat) : Int) * (A * B) = (a.length : Int) * (A * B) + A * B := by
      rw [List.length_cons, Int.natCast_add, Int.add_mul]; simp
    rw [dotL, h3]; omega
/-- How far the products are. -/
def Prods (ps : List Row) (x : List Int) (i : Nat) (val : Int) (zs : List Int) : Prop := zs.length = ps.length ∧ ∀ t, t < ps.length → zs[t]?.getD 0 = if t < i then dotL ((ps[t]?.map Prod.snd).getD []) x else if t = i then val else 0
theorem Prods.start (ps : List Row) (x : List Int) : Prods ps x 0 0 (List.replicate ps.length 0) := by
  refine ⟨by simp, fun t ht => ?_⟩
  rw [List.getElem?_replicate, if_pos ht]
  simp
theorem Prods.put {ps : List Row} {x : List Int} {i : Nat} {val val' : Int} {zs : List Int} (h : Prods ps x i val zs) : Prods ps x i val' (zs.set i val') := by
  refine ⟨by rw [List.length_set]; exact h.1, fun t ht => ?_⟩
  rw [List.getElem?_set]
  by_cases e : i = t
  · subst e
    rw [if_pos rfl, if_pos (by rw [h.1]; exact ht), if_neg (by omega), if_pos rfl]; rfl
  · rw [if_neg e, h.2 t ht]
    by_cases h1 : t < i
    · rw [if_pos h1, if_pos h1]
    · rw [if_neg h1, if_neg h1, if_neg (fun e2 => e e2.symm), if_neg (fun e2 => e e2.symm)]
theorem Prods.next {ps : List Row} {x : List Int} {i : Nat} {zs : List Int} (hi : i < ps.length) (h : Prods ps x i (dotL ps[i].2 x) zs) : Prods ps x (i + 1) 0 zs := by
  refine ⟨h.1, fun t ht => ?_⟩
  rw [h.2 t ht]
  by_cases h1 : t < i
  · rw [if_pos h1, if_pos (by omega)]
  · by_cases h2 : t = i
    · subst h2
      rw [if_neg h1, if_pos rfl, if_pos (by omega), List.getElem?_eq_getElem hi]; rfl
    · rw [if_neg h1, if_neg h2, if_neg (by omega)]; split <;> rfl
theorem Prods.done {ps : List Row} {x : List Int} {val : Int} {zs : List Int} (h : Prods ps x ps.length val zs) : zs = ps.map (fun q => dotL q.2 x) := by
  apply List.ext_getElem (by rw [List.length_map]; exact h.1)
  intro t h1 h2
  have ht : t < ps.length := by simpa using h2
  have := h.2 t ht
  rw [List.getElem?_eq_getElem h1, if_pos ht, List.getElem?_eq_getElem ht] at this
  simpa using this
theorem Prods.at {ps : List Row} {x : List Int} {i : Nat} {val : Int} {zs : List Int} (h : Prods ps x i val zs) (hi : i < ps.length) : zs[i]?.getD 0 = val := by
  rw [h.2 i hi, if_neg (by omega), if_pos rfl]
def AppTo (ps : List Row) (x : List Int) (w : World) (e : Ending) (w' : World) : Prop := ∃ v, e = .returned (.tuple #[v, .int .i64 0]) ∧ OwnI w' w.heap.size v (ps.map (fun q => dotL q.2 x)) ∧ w.grownBy w' none
end Go.Proofs.YtpnghgihepnepaaDoor

namespace Go.Proofs.YtpnghgihepnepaaDoor
open Go.RowKit
set_option linter.unusedVariables false

theorem cells3 {w : World} {B : Nat} {v0 v1 v2 : Value} {e : TypeId} (h : w.heap[B]? = some (.cells #[v0, v1, v2] e (0, 0))) : w.cell? ⟨B, 0, none⟩ = some v0 ∧ w.cell? ⟨B, 1, none⟩ = some v1 ∧ w.cell? ⟨B, 2, none⟩ = some v2 :=
  ⟨by unfold World.cell?; dsimp only; rw [h]; rfl, by unfold World.cell?; dsimp only; rw [h]; rfl, by unfold World.cell?; dsimp only; rw [h]; rfl⟩
theorem free3 {w : World} {B o : Nat} {v0 v1 v2 : Value} {e : TypeId} (h : w.heap[B]? = some (.cells #[v0, v1, v2] e (0, 0))) : w.frozen? ⟨B, o, none⟩ = false := by
  unfold World.frozen?; dsimp only; rw [h]; simp
structure RedS (W0 w : World) (R : Nat) (v vp : Value) (f : Int) (ps : List Row) (pv : List Int) : Prop where
  blk : w.heap[R]? = some (.cells #[v, vp, .int .i64 f] 66 (0, 0))
  base : W0.heap.size ≤ R
  grow : W0.grownBy w none
  mat : MatO w (R + 1) v ps
  piv : RowBy w (R + 1) vp pv v ps
theorem RedS.same {W0 w w' : World} {R : Nat} {v vp : Value} {f : Int} {ps : List Row} {pv : List Int} (h : RedS W0 w R v vp f ps pv) (g : w.grownBy w' none) : RedS W0 w' R v vp f ps pv :=
  ⟨(g.block R (Array.getElem?_eq_some_iff.1 h.blk).1 (by simp)).trans h.blk, h.base, grown_trans h.grow g, h.mat.same g, h.piv.kept g (by simp)⟩
/-- A number is put into a row. -/
theorem RedS.set {W0 w : World} {R : Nat} {v vp : Value} {f : Int} {ps : List Row} {pv : List Int} (h : RedS W0 w R v vp f ps pv) {i : Nat} (hi : i < ps.length) {b c n : Nat} (hv : ps[i].1 = .slice (some ⟨b, 0, none⟩) n c) (k : Nat) (z : Int) (hz : -9223372036854775808 ≤ z ∧ z ≤ 9223372036854775807) :
    RedS W0 (w.setCell ⟨b, k, none⟩ (.int .i64 z)) R v vp f (ps.set i (ps[i].1, ps[i].2.set k z)) pv := by
  have hgr : w.grownBy (w.setCell ⟨b, k, none⟩ (.int .i64 z)) (some b) := grown_set w _ _
  have hb : R + 1 ≤ b := ((h.mat.rows _ (List.getElem_mem hi)).fresh b (by rw [hv]; rfl)).1
  have hR := (Array.getElem?_eq_some_iff.1 h.blk).1
  refine ⟨(hgr.block R hR (fun e => by cases e; omega)).trans h.blk, h.base, grown_then h.grow hgr (by rintro j ⟨⟩; have := h.base; exact .inl (by omega)), h.mat.set hi hv k z hz, ?_⟩
  have hob : ps[i].1.ownBlock = some b := by rw [hv]; rfl
  refine ⟨h.piv.1.keptB hgr (by rintro j ⟨⟩ e; exact (h.piv.2 _ e).2 _ (List.getElem_mem hi) hob), fun g hg => ⟨(h.piv.2 g hg).1, fun p hp => ?_⟩⟩
  rcases List.mem_or_eq_of_mem_set hp with hp | rfl
  · exact (h.piv.2 g hg).2 p hp
  · have := (h.piv.2 g hg).2 _ (List.getElem_mem hi)
    exact this
/-- A field is put. -/
theorem RedS.fac {W0 w : World} {R : Nat} {v vp : Value} {f : Int} {ps : List Row} {pv : List Int} (h : RedS W0 w R v vp f ps pv) (f' : Int) : RedS W0 (w.setCell ⟨R, 2, none⟩ (.int .i64 f')) R v vp f' ps pv := by
  have hgr : w.grownBy (w.setCell ⟨R, 2, none⟩ (.int .i64 f')) (some R) := grown_set w _ _
  exact ⟨heap_set (o := 2) h.blk _, h.base, grown_then h.grow hgr (by rintro j ⟨⟩; exact .inl h.base), h.mat.kept hgr (by rintro j ⟨⟩; omega), h.piv.kept hgr (by rintro j ⟨⟩; omega)⟩
/-- The pivots are one more. -/
theorem RedS.pivot {W0 w w1 : World} {R : Nat} {v vp v1 : Value} {f y : Int} {ps : List Row} {pv : List Int} (h : RedS W0 w R v vp f ps pv) (ho : w1.ownsRow (R + 1) 3 1 v1 (pv.length + 1) (pv.map (Value.int .i64) ++ [Value.int .i64 y])) (hg : w.grownBy w1 vp.ownBlock) {H : Nat}
    (hb : ∀ g, v1.ownBlock = some g → vp.ownBlock = some g ∨ H ≤ g) (hH : w.heap.size = H) : RedS W0 (w1.setCell ⟨R, 1, none⟩ v1) R v v1 f ps (pv ++ [y]) ∧ w1.heap[R]? = some (.cells #[v, vp, .int .i64 f] 66 (0, 0)) := by
  have hR := (Array.getElem?_eq_some_iff.1 h.blk).1
  have hvb : ∀ j, vp.ownBlock = some j → R + 1 ≤ j := fun j hj => (h.piv.1.fresh j hj).1
  have hb1 : w1.heap[R]? = some (.cells #[v, vp, .int .i64 f] 66 (0, 0)) := (hg.block R hR (fun e => by have := hvb R e.symm; omega)).trans h.blk
  obtain ⟨h1, h2⟩ := RowBy.push h.mat h.piv ho hg hb hH
  have hgr : w1.grownBy (w1.setCell ⟨R, 1, none⟩ v1) (some R) := grown_set w1 _ _
  refine ⟨⟨heap_set (o := 1) hb1 _, h.base, grown_then (grown_then h.grow hg (fun j hj => .inl (by have := hvb j hj; have := h.base; omega))) hgr (by rintro j ⟨⟩; exact .inl h.base), h2.kept hgr (by rintro j ⟨⟩; omega), h1.kept hgr (by rintro j ⟨⟩; omega)⟩, hb1⟩

/-! ### What an elimination does -/
def elimRow (lead x f : Int) (row top : List Int) : List Int := List.zipWith (fun a b => (a * lead - x * b).tdiv f) row top
theorem elimRow_len {lead x f : Int} {row top : List Int} (h : row.length = top.length) : (elimRow lead x f row top).length = row.length := by unfold elimRow; rw [List.length_zipWith]; omega
theorem elimRow_at {lead x f : Int} {row top : List Int} {j : Nat} (h1 : j < row.length) (h2 : j < top.length) : (elimRow lead x f row top)[j]?.getD 0 = (row[j]?.getD 0 * lead - x * top[j]?.getD 0).tdiv f := by
  unfold elimRow
  rw [List.getElem?_zipWith, List.getElem?_eq_getElem h1, List.getElem?_eq_getElem h2]; rfl
/-- A row, new up to place j. -/
def half (new old : List Int) (j : Nat) : List Int := new.take j ++ old.drop j
theorem half_len {new old : List Int} {j : Nat} (h : new.length = old.length) (hj : j ≤ old.length) : (half new old j).length = old.length := by unfold half; simp; omega
theorem half_at {new old : List Int} {j : Nat} (h : new.length = old.length) (hj : j < old.length) : (half new old j)[j]?.getD 0 = old[j]?.getD 0 := by
  unfold half
  rw [List.getElem?_append_right (by simp; omega), List.length_take, Nat.min_eq_left (by omega), Nat.sub_self, List.getElem?_drop]; simp
theorem half_next {new old : List Int} {j : Nat} (h : new.length = old.length) (hj : j < old.length) : (half new old j).set j (new[j]?.getD 0) = half new old (j + 1) := by
  apply List.ext_getElem?
  intro t
  unfold half
  rw [List.getElem?_set]
  simp only [List.length_append, List.length_take, List.length_drop]
  by_cases e : j = t
  · subst e
    rw [if_pos rfl, if_pos (by omega), List.getElem?_append_left (by simp; omega), List.getElem?_take_of_lt (by omega), List.getElem?_eq_getElem (by omega)]; rfl
  · rw [if_neg e]
    by_cases h2 : t < j
    · rw [List.getElem?_append_left (by simp; omega), List.getElem?_append_left (by simp; omega), List.getElem?_take_of_lt h2, List.getElem?_take_of_lt (by omega)]
    · rw [List.getElem?_append_right (by simp; omega), List.getElem?_append_right (by simp; omega), List.length_take, List.length_take, List.getElem?_drop, List.getElem?_drop]
      congr 1; omega
theorem half_full {new old : List Int} (h : new.length = old.length) : half new old old.length = new := by unfold half; rw [List.drop_length, List.append_nil, ← h, List.take_length]
theorem half_zero (new old : List Int) : half new old 0 = old := by simp [half]
/-- The rows, done before row i, and row i up to place j. -/
def rowsE (E : List Int → List Int) (k i j : Nat) (ps : List Row) : List Row := ps.mapIdx (fun t q => (q.1, if t = k then q.2 else if t < i then E q.2 else if t = i then half (E q.2) q.2 j else q.2))
theorem rowsE_len (E : List Int → List Int) (k i j : Nat) (ps : List Row) : (rowsE E k i j ps).length = ps.length := by unfold rowsE; simp
theorem rowsE_at (E : List Int → List Int) (k i j : Nat) (ps : List Row) (t : Nat) (h : t < (rowsE E k i j ps).length) : (rowsE E k i j ps)[t] = ((ps[t]'(by rw [rowsE_len] at h; exact h)).1, if t = k then (ps[t]'(by rw [rowsE_len] at h; exact h)).2 else if t < i then E (ps[t]'(by rw [rowsE_len] at h; exact h)).2 else if t = i then half (E (ps[t]'(by rw [rowsE_len] at h; exact h)).2) (ps[t]'(by rw [rowsE_len] at h; exact h)).2 j else (ps[t]'(by rw [rowsE_len] at h; exact h)).2) := by
  exact List.getElem_mapIdx
theorem rowsE_start (E : List Int → List Int) (k : Nat) (ps : List Row) : rowsE E k 0 0 ps = ps := by
  apply List.ext_getElem (rowsE_len _ _ _ _ _)
  intro t h1 h2
  rw [rowsE_at]
  ext1
  · rfl
  · dsimp only; rw [if_neg (Nat.not_lt_zero t), half_zero]; split <;> (try split) <;> rfl
theorem rowsE_skip (E : List Int → List Int) (k : Nat) (ps : List Row) : rowsE E k (k + 1) 0 ps = rowsE E k k 0 ps := by
  apply List.ext_getElem (by rw [rowsE_len, rowsE_len])
  intro t h1 h2
  rw [rowsE_at, rowsE_at]
  ext1
  · rfl
  · dsimp only
    by_cases e : t = k
    · rw [if_pos e, if_pos e]
    · rw [if_neg e, if_neg e]
      by_cases h3 : t < k
      · rw [if_pos h3, if_pos (by omega)]
      · rw [if_neg h3, if_neg (by omega), half_zero]; simp
theorem rowsE_row {E : List Int → List Int} {k i : Nat} {ps : List Row} (hi : i < ps.length) (hE : (E ps[i].2).length = ps[i].2.length) : rowsE E k (i + 1) 0 ps = rowsE E k i ps[i].2.length ps := by
  apply List.ext_getElem (by rw [rowsE_len, rowsE_len])
  intro t h1 h2
  rw [rowsE_at, rowsE_at]
  ext1
  · rfl
  · dsimp only
    by_cases e : t = k
    · rw [if_pos e, if_pos e]
    · rw [if_neg e, if_neg e]
      by_cases h3 : t < i
      · rw [if_pos h3, if_pos (by omega)]
      · by_cases h4 : t = i
        · subst h4
          rw [if_pos (by omega), if_neg h3, if_pos rfl, half_full hE]
        · rw [if_neg h3, if_neg (by omega), if_neg h4, half_zero]; split <;> rfl
theorem rowsE_cell {E : List Int → List Int} {k i j : Nat} {ps : List Row} (hi : i < ps.length) (hik : i ≠ k) (hE : (E ps[i].2).length = ps[i].2.length) (hj : j < ps[i].2.length) :
    (rowsE E k i j ps).set i (ps[i].1, (half (E ps[i].2) ps[i].2 j).set j ((E ps[i].2)[j]?.getD 0)) = rowsE E k i (j + 1) ps := by
  apply List.ext_getElem (by rw [List.length_set, rowsE_len, rowsE_len])
  intro t h1 h2
  rw [List.getElem_set, rowsE_at]
  split
  · rename_i e
    subst e
    rw [rowsE_at, if_neg hik, if_neg (Nat.lt_irrefl i), if_pos rfl, half_next hE hj]
  · rename_i e
    rw [rowsE_at]
    ext1
    · rfl
    · dsimp only
      by_cases e2 : t = k
      · rw [if_pos e2, if_pos e2]
      · rw [if_neg e2, if_neg e2]
        by_cases e4 : t < i
        · rw [if_pos e4, if_pos e4]
        · rw [if_neg e4, if_neg e4, if_neg (fun e3 => e e3.symm), if_neg (fun e3 => e e3.symm)]
def elimP (lead f : Int) (c k : Nat) (top : List Int) (ps : List Row) : List Row := rowsE (fun row => elimRow lead (row[c]?.getD 0) f row top) k ps.length 0 ps
/-- All numbers of an elimination fit. -/
def FitE (lead f : Int) (c : Nat) (top row : List Int) : Prop := ∀ j, j < row.length → j = c ∨ (-4000000000000000000 ≤ row[j]?.getD 0 * lead ∧ row[j]?.getD 0 * lead ≤ 4000000000000000000) ∧ (-4000000000000000000 ≤ row[c]?.getD 0 * top[j]?.getD 0 ∧ row[c]?.getD 0 * top[j]?.getD 0 ≤ 4000000000000000000)

end Go.Proofs.YtpnghgihepnepaaDoor
