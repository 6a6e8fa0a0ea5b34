/- matrix.Check, matrix.Apply. -/
import Derived.Test.YtgcfafjgaifmiaaNb
import Derived.StillTailTactics
namespace Go.Proofs.Ytgcfafjgaifmiaa
open Go.RowKit
set_option linter.unusedVariables false

/-- The rows of a valid matrix. -/
def MatOkP (r c : Nat) (ps : List Row) : Prop := ps.length = r ∧ 1 ≤ r ∧ r ≤ 12 ∧ 1 ≤ c ∧ c ≤ 12 ∧ (r ≤ 6 ∨ c ≤ 6) ∧ ∀ q ∈ ps, q.2.length = c ∧ ∀ x ∈ q.2, -16 ≤ x ∧ x ≤ 16
theorem matOkP_cons {r c : Nat} {ps : List Row} (h : MatOkP r c ps) : ∃ q qs, ps = q :: qs := by
  obtain ⟨h1, h2, -⟩ := h
  cases ps with
  | nil => simp at h1; omega
  | cons q qs => exact ⟨q, qs, rfl⟩
/-- A row that is read. -/
theorem RowsP.row {w : World} {a : Option Addr} {n cap : Nat} {ps : List Row} (h : RowsP w (.slice a n cap) ps) {k : Nat} (hk : k < ps.length) :
    ∃ b off a2 c2, a = some ⟨b, off, none⟩ ∧ w.cell? ⟨b, off + k, none⟩ = some (.slice a2 ps[k].2.length c2) ∧ ps[k].1 = .slice a2 ps[k].2.length c2 ∧ Ints w (.slice a2 ps[k].2.length c2) ps[k].2 := by
  obtain ⟨a', cap', hv, -, hct, hr⟩ := h
  simp only [Value.slice.injEq] at hv
  obtain ⟨rfl, -, rfl⟩ := hv
  obtain ⟨b, off, rfl, hc⟩ := RowsP.at hct hk
  obtain ⟨hi, -, -⟩ := hr _ (List.getElem_mem hk)
  obtain ⟨a2, c2, h1, h2⟩ := hi
  exact ⟨b, off, a2, c2, rfl, by rw [hc, h1], h1, ⟨a2, c2, rfl, h2⟩⟩
set_option maxRecDepth 100000 in
set_option maxHeartbeats 1500000 in
theorem Check10_any {r c : Nat} {ps : List Row} {v : Value} {w : World} (h : RowsP w v ps) (hm : MatOkP r c ps) :
    Calls Try.prog 31 #[v] w fun e w' => e = .returned (.int .i64 0) ∧ w' = w := by
  obtain ⟨hl, hr1, hr12, hc1, hc12, hrc, hq⟩ := hm
  obtain ⟨a, cap, rfl, -⟩ : ∃ a cap, v = .slice a ps.length cap ∧ True := by obtain ⟨a, cap, h, -⟩ := h; exact ⟨a, cap, h, trivial⟩
  have H := Lib.hid h; have HQ := Lib.hid hq; have HL := Lib.hid hl
  have h0 : 0 < ps.length := by omega
  obtain ⟨b, off, a2, c2, rfl, hc0, -, -⟩ := h.row h0
  have hlen0 := (hq _ (List.getElem_mem h0)).1
  rw [hlen0, Nat.add_zero] at hc0
  have e0 : ¬ (ps.length : Int) < 1 := by omega
  have e1 : ¬ (12 : Int) < (ps.length : Int) := by omega
  have e2 : ¬ (c : Int) < 1 := by omega
  have e3 : ¬ (12 : Int) < (c : Int) := by omega
  have e4 : ¬ (6 : Int) < min (ps.length : Int) (c : Int) := by omega
  have hp12 : ps.length ≤ 12 := by omega
  clear h hq hl hlen0 hr1 hr12 hrc
  go_enter Try.func31, Try.ntmps31
  go_wp2_with fail
  go_loop [35] (fun i => ∃ k : Nat, i = .int .i64 k ∧ k ≤ ps.length) (fun i => ps.length - (intOf i).toNat)
  case atStart => exact ⟨0, rfl, Nat.zero_le _⟩
  case round =>
    obtain ⟨k, rfl, hk⟩ := hrel
    by_cases hkb : k < ps.length
    · have h2 : (k : Int) < (ps.length : Int) := by omega
      have i1 : IntKind.i64.wrap ((k : Int) + 1) = (k : Int) + 1 := IntWalk.i64_in _ (by omega)
      obtain ⟨b', off', ar, cr, hbe, hcr, -, hri⟩ := H.out.row hkb
      simp only [Option.some.injEq, Addr.mk.injEq, and_true] at hbe
      obtain ⟨rfl, rfl⟩ := hbe
      obtain ⟨hlen, hbd⟩ := HQ.out _ (List.getElem_mem hkb)
      have HBD := Lib.hid hbd; have HRI := Lib.hid hri
      generalize hzs : ps[k].2 = zs at *
      subst hlen
      clear hbd hri hzs
      have k1 : ((zs.length : Int) != (zs.length : Int)) = false := by simp
      go_wp2_with fail
      go_loop [45] (fun i => ∃ j : Nat, i = .int .i64 j ∧ j ≤ zs.length) (fun i => zs.length - (intOf i).toNat)
      case atStart => exact ⟨0, rfl, Nat.zero_le _⟩
      case round =>
        obtain ⟨j, rfl, hj⟩ := hrel
        by_cases hjb : j < zs.length
        · have h3 : (j : Int) < (zs.length : Int) := by omega
          have i2 : IntKind.i64.wrap ((j : Int) + 1) = (j : Int) + 1 := IntWalk.i64_in _ (by omega)
          obtain ⟨_, _, hx, -, -, hxc⟩ := HRI.out
          simp only [Value.slice.injEq] at hx
          obtain ⟨rfl, -, rfl⟩ := hx
          obtain ⟨xb, xo, rfl, hcx⟩ := Ints.at hxc hjb
          have hb := mem_at (P := fun x => -16 ≤ x ∧ x ≤ 16) HBD.out hjb
          generalize zs[j]?.getD 0 = x at *
          have f1 : ¬ x < -16 := by omega
          have f2 : ¬ (16 : Int) < x := by omega
          clear hxc
          go_wp2_with fail
          go_round
          case rel => exact ⟨j + 1, by go_num, by omega⟩
          case measure => simp [intOf]; omega
        · obtain rfl : j = zs.length := by omega
          have h3 : ¬ (zs.length : Int) < (zs.length : Int) := by omega
          go_wp2_with fail
          go_round
          case rel => exact ⟨k + 1, by go_num, by omega⟩
          case measure => simp [intOf]; omega
    · obtain rfl : k = ps.length := by omega
      have h2 : ¬ (ps.length : Int) < (ps.length : Int) := by omega
      go_wp2_with fail
      go_ret
      exact ⟨rfl, rfl⟩

/-! ### Products -/
def dotL : List Int → List Int → Int
  | a :: l, b :: m => a * b + dotL l m
  | _, _ => 0
theorem dot_snoc : ∀ (a b : List Int) (j : Nat), j < a.length → j < b.length → dotL (a.take (j + 1)) (b.take (j + 1)) = dotL (a.take j) (b.take j) + a[j]?.getD 0 * b[j]?.getD 0
  | x :: a, y :: b, 0, _, _ => by simp [dotL]
  | x :: a, y :: b, j + 1, ha, hb => by
    rw [List.take_succ_cons, List.take_succ_cons, dotL, dot_snoc a b j (by simpa using ha) (by simpa using hb), List.take_succ_cons, List.take_succ_cons, dotL, List.getElem?_cons_succ, List.getElem?_cons_succ, Int.add_assoc]
theorem mul_bd {x y A B : Int} (hx : -A ≤ x ∧ x ≤ A) (hy : -B ≤ y ∧ y ≤ B) : -(A * B) ≤ x * y ∧ x * y ≤ A * B := by
  have h1 : x.natAbs ≤ A.natAbs := by omega
  have h2 : y.natAbs ≤ B.natAbs := by omega
  have h3 := Nat.mul_le_mul h1 h2
  rw [← Int.natAbs_mul, ← Int.natAbs_mul] at h3
  have h4 : 0 ≤ A * B := Int.mul_nonneg (by omega) (by omega)
  omega
theorem dot_bd {A B : Int} : ∀ (a b : List Int), (∀ x ∈ a, -A ≤ x ∧ x ≤ A) → (∀ y ∈ b, -B ≤ y ∧ y ≤ B) → 0 ≤ A * B → -((a.length : Int) * (A * B)) ≤ dotL a b ∧ dotL a b ≤ (a.length : Int) * (A * B)
  | [], _, _, _, h => by simp [dotL]
  | x :: a, [], _, _, h => by
    have : 0 ≤ ((x :: a).length : Int) * (A * B) := Int.mul_nonneg (by omega) h
    simp only [dotL]; omega
  | x :: a, y :: b, ha, hb, h => by
    have h1 := mul_bd (ha x (by simp)) (hb y (by simp))
    have h2 := dot_bd a b (fun z hz => ha z (by simp [hz])) (fun z hz => hb z (by simp [hz])) h
    have h3 : (((x :: a).length : Nat) : Int) * (A * B) = (a.length : Int) * (A * B) + A * B := by
      rw [List.length_cons, Int.natCast_add, Int.add_mul]; simp
    rw [dotL, h3]; omega
/-- How far the products are. -/
def Prods (ps : List Row) (x : List Int) (i : Nat) (val : Int) (zs : List Int) : Prop := zs.length = ps.length ∧ ∀ t, t < ps.length → zs[t]?.getD 0 = if t < i then dotL ((ps[t]?.map Prod.snd).getD []) x else if t = i then val else 0
theorem Prods.start (ps : List Row) (x : List Int) : Prods ps x 0 0 (List.replicate ps.length 0) := by
  refine ⟨by simp, fun t ht => ?_⟩
  rw [List.getElem?_replicate, if_pos ht]
  simp
theorem Prods.put {ps : List Row} {x : List Int} {i : Nat} {val val' : Int} {zs : List Int} (h : Prods ps x i val zs) : Prods ps x i val' (zs.set i val') := by
  refine ⟨by rw [List.length_set]; exact h.1, fun t ht => ?_⟩
  rw [List.getElem?_set]
  by_cases e : i = t
  · subst e
    rw [if_pos rfl, if_pos (by rw [h.1]; exact ht), if_neg (by omega), if_pos rfl]; rfl
  · rw [if_neg e, h.2 t ht]
    by_cases h1 : t < i
    · rw [if_pos h1, if_pos h1]
    · rw [if_neg h1, if_neg h1, if_neg (fun e2 => e e2.symm), if_neg (fun e2 => e e2.symm)]
theorem Prods.next {ps : List Row} {x : List Int} {i : Nat} {zs : List Int} (hi : i < ps.length) (h : Prods ps x i (dotL ps[i].2 x) zs) : Prods ps x (i + 1) 0 zs := by
  refine ⟨h.1, fun t ht => ?_⟩
  rw [h.2 t ht]
  by_cases h1 : t < i
  · rw [if_pos h1, if_pos (by omega)]
  · by_cases h2 : t = i
    · subst h2
      rw [if_neg h1, if_pos rfl, if_pos (by omega), List.getElem?_eq_getElem hi]; rfl
    · rw [if_neg h1, if_neg h2, if_neg (by omega)]; split <;> rfl
theorem Prods.done {ps : List Row} {x : List Int} {val : Int} {zs : List Int} (h : Prods ps x ps.length val zs) : zs = ps.map (fun q => dotL q.2 x) := by
  apply List.ext_getElem (by rw [List.length_map]; exact h.1)
  intro t h1 h2
  have ht : t < ps.length := by simpa using h2
  have := h.2 t ht
  rw [List.getElem?_eq_getElem h1, if_pos ht, List.getElem?_eq_getElem ht] at this
  simpa using this
theorem Prods.at {ps : List Row} {x : List Int} {i : Nat} {val : Int} {zs : List Int} (h : Prods ps x i val zs) (hi : i < ps.length) : zs[i]?.getD 0 = val := by
  rw [h.2 i hi, if_neg (by omega), if_pos rfl]
def AppTo (ps : List Row) (x : List Int) (w : World) (e : Ending) (w' : World) : Prop := ∃ v, e = .returned (.tuple #[v, .int .i64 0]) ∧ OwnI w' w.heap.size v (ps.map (fun q => dotL q.2 x)) ∧ w.grownBy w' none
set_option maxRecDepth 100000 in
set_option maxHeartbeats 1500000 in
theorem Apply_any {r c : Nat} {ps : List Row} {v vx : Value} {x : List Int} {w : World} (h : RowsP w v ps) (hm : MatOkP r c ps) (hx : Ints w vx x) (hxl : x.length = c) (hxb : ∀ y ∈ x, -1048576 ≤ y ∧ y ≤ 1048576) :
    Calls Try.prog 34 #[v, vx] w (AppTo ps x w) := by
  have HM := Lib.hid hm
  obtain ⟨hl, hr1, hr12, hc1, hc12, hrc, hq⟩ := hm
  obtain ⟨a, cap, rfl, -⟩ : ∃ a cap, v = .slice a ps.length cap ∧ True := by obtain ⟨a, cap, h, -⟩ := h; exact ⟨a, cap, h, trivial⟩
  have H := Lib.hid h; have HQ := Lib.hid hq; have HX := Lib.hid hx; have HXB := Lib.hid hxb
  obtain ⟨ax, cx, rfl, -, -, hxc⟩ := hx
  have HXC := Lib.hid hxc
  have h0 : 0 < ps.length := by omega
  obtain ⟨b, off, a2, c2, rfl, hc0, -, -⟩ := h.row h0
  have hlen0 := (hq _ (List.getElem_mem h0)).1
  rw [hlen0, Nat.add_zero] at hc0
  have hp12 : ps.length ≤ 12 := by omega
  have hx12 : x.length ≤ 12 := by omega
  have k1 : ((x.length : Int) != (c : Int)) = false := by simp; omega
  have HXL := Lib.hid hxl
  clear h hq hl hlen0 hr1 hr12 hrc hxl hxb hxc
  go_enter Try.func34, Try.ntmps34
  go_wp2_with fail
  refine (Check10_any H.out HM.out).mono ?_
  rintro e w' ⟨rfl, hw⟩
  subst hw
  go_wp2_with fail
  clear hc0
  go_loop [28] (fun i => ∃ k : Nat, i = .int .i64 k ∧ k ≤ x.length) (fun i => x.length - (intOf i).toNat)
  case atStart => exact ⟨0, rfl, Nat.zero_le _⟩
  case round =>
    obtain ⟨k, rfl, hk⟩ := hrel
    by_cases hkb : k < x.length
    · have h2 : (k : Int) < (x.length : Int) := by omega
      have i1 : IntKind.i64.wrap ((k : Int) + 1) = (k : Int) + 1 := IntWalk.i64_in _ (by omega)
      obtain ⟨xb, xo, rfl, hcx⟩ := Ints.at HXC.out hkb
      have hb := mem_at (P := fun y => -1048576 ≤ y ∧ y ≤ 1048576) HXB.out hkb
      generalize x[k]?.getD 0 = y at *
      have f1 : ¬ y < -1048576 := by omega
      have f2 : ¬ (1048576 : Int) < y := by omega
      go_wp2_with fail
      go_round
      case rel => exact ⟨k + 1, by go_num, by omega⟩
      case measure => simp [intOf]; omega
    · obtain rfl : k = x.length := by omega
      have h2 : ¬ (x.length : Int) < (x.length : Int) := by omega
      go_wp2_with (at_make; refine make_int rfl _ _ rfl ps.length rfl rfl (by omega) ?_)
      intro w1 ho hg
      have HO := Lib.hid ho; have HG := Lib.hid hg
      clear ho hg
      go_wp2_with fail
      go_loopw [44] (fun i wr => ∃ (k : Nat) (zs : List Int), i = .int .i64 k ∧ k ≤ ps.length ∧ Hid (Prods ps x k 0 zs) ∧ Hid (OwnI wr w'.heap.size (.slice (some ⟨w'.heap.size, 0, none⟩) ps.length ps.length) zs) ∧ Hid (w'.grownBy wr none)) (fun i _ => ps.length - (intOf i).toNat)
      case atStart => exact ⟨0, _, rfl, Nat.zero_le _, Lib.hid (Prods.start ps x), HO, HG⟩
      case round =>
        clear HO HG
        obtain ⟨k, zs, rfl, hk, hP, hO, hG⟩ := hrel
        by_cases hkb : k < ps.length
        · have h3 : (k : Int) < (ps.length : Int) := by omega
          have i1 : IntKind.i64.wrap ((k : Int) + 1) = (k : Int) + 1 := IntWalk.i64_in _ (by omega)
          obtain ⟨b', off', ar, cr, hbe, hcr, -, hri⟩ := H.out.row hkb
          simp only [Option.some.injEq, Addr.mk.injEq, and_true] at hbe
          obtain ⟨rfl, rfl⟩ := hbe
          obtain ⟨hlen, hbd⟩ := HQ.out _ (List.getElem_mem hkb)
          have HBD := Lib.hid hbd; have HRI := Lib.hid hri
          have HDN : Hid (∀ zs, Prods ps x k (dotL ps[k].2 x) zs → Prods ps x (k + 1) 0 zs) := Lib.hid (fun zs h => h.next hkb)
          generalize hzs : ps[k].2 = rs at *
          have hcr1 := hG.out.cell hcr (by simp)
          have hrl : rs.length = x.length := by rw [hlen, HXL.out]
          have HRL := Lib.hid hrl
          have hrl12 : rs.length ≤ 12 := by omega
          clear hbd hri hzs hcr hlen hrl
          go_wp2_with fail
          clear hcr1
          go_loopw [51] (fun i wr => ∃ (j : Nat) (zs : List Int), i = .int .i64 j ∧ j ≤ rs.length ∧ Hid (Prods ps x k (dotL (rs.take j) (x.take j)) zs) ∧ Hid (OwnI wr w'.heap.size (.slice (some ⟨w'.heap.size, 0, none⟩) ps.length ps.length) zs) ∧ Hid (w'.grownBy wr none)) (fun i _ => rs.length - (intOf i).toNat)
          case atStart => exact ⟨0, zs, rfl, Nat.zero_le _, Lib.hid (by simpa [dotL] using hP.out), hO, hG⟩
          case round =>
            clear hP hO hG
            obtain ⟨j, zs, rfl, hj, hP, hO, hG⟩ := hrel
            rename World => wj
            by_cases hjb : j < rs.length
            · have h4 : (j : Int) < (rs.length : Int) := by omega
              have h5 : (j : Int) < (x.length : Int) := by have := HRL.out; omega
              have i2 : IntKind.i64.wrap ((j : Int) + 1) = (j : Int) + 1 := IntWalk.i64_in _ (by omega)
              obtain ⟨_, _, hxv, -, -, hxc⟩ := HRI.out
              simp only [Value.slice.injEq] at hxv
              obtain ⟨rfl, -, rfl⟩ := hxv
              obtain ⟨rb, ro, rfl, hcr⟩ := Ints.at hxc hjb
              obtain ⟨xb, xo, rfl, hcx⟩ := Ints.at HXC.out (show j < x.length by have := HRL.out; omega)
              have b1 := mem_at (P := fun y => -16 ≤ y ∧ y ≤ 16) HBD.out hjb
              have b2 := mem_at (P := fun y => -1048576 ≤ y ∧ y ≤ 1048576) HXB.out (show j < x.length by have := HRL.out; omega)
              have b3 := mul_bd b1 b2
              have hds := dot_snoc rs x j hjb (by have := HRL.out; omega)
              have hdb := dot_bd (A := 16) (B := 1048576) (rs.take j) (x.take j) (fun z hz => HBD.out z (List.mem_of_mem_take hz)) (fun z hz => HXB.out z (List.mem_of_mem_take hz)) (by decide)
              rw [List.length_take, Nat.min_eq_left hj] at hdb
              have HOD := Lib.hid (hO.out.kept (grown_drew wj none) (by simp)); have HGD := Lib.hid (grown_trans hG.out (grown_drew wj none))
              have hcz := (HOD.out.cell k (by rw [hP.out.1]; exact hkb)).1; have hfz := (HOD.out.cell k (by rw [hP.out.1]; exact hkb)).2
              rw [hP.out.at hkb] at hcz
              have hcrw := hG.out.cell hcr (by simp); have hcr2 := HGD.out.cell hcr (by simp); have hcx2 := HGD.out.cell hcx (by simp)
              have HDS := Lib.hid hds
              clear hxc hcr hcx hds
              generalize rs[j]?.getD 0 = y1 at *
              generalize x[j]?.getD 0 = y2 at *
              generalize dotL (rs.take j) (x.take j) = acc at *
              obtain ⟨pr, hpr⟩ : ∃ p, y1 * y2 = p := ⟨_, rfl⟩
              rw [hpr] at b3 HDS
              have m1 : IntKind.i64.wrap (y1 * y2) = pr := by rw [hpr]; exact IntWalk.i64_in _ (by omega)
              have m2 : IntKind.i64.wrap (acc + pr) = acc + pr := IntWalk.i64_in _ (by omega)
              have HPN : Hid (Prods ps x k (dotL (rs.take (j + 1)) (x.take (j + 1))) (zs.set k (acc + pr))) := Lib.hid (by rw [HDS.out]; exact hP.out.put)
              have HON := Lib.hid (HOD.out.stored k (acc + pr))
              have HGN : Hid (w'.grownBy (wj.drew.setCell ⟨w'.heap.size, k, none⟩ (.int .i64 (acc + pr))) none) := Lib.hid (grown_then HGD.out (grown_set wj.drew ⟨w'.heap.size, k, none⟩ (.int .i64 (acc + pr))) (fun j hj => .inl (by cases hj; exact Nat.le_refl _)))
              clear hpr b1 b2 b3 hdb
              go_wp2_with fail
              clear hcrw
              go_still_tail 12, (by kernel_rfl)
              change wpList _ _ _ _ _ wj.drew
              generalize wj.drew = wd at *
              go_wp2_with fail
              clear hcz hfz hcr2 hcx2 m1 m2
              go_roundw
              case rel => exact ⟨j + 1, _, by go_num, by omega, HPN, HON, HGN⟩
              case measure => simp [intOf]; omega
            · obtain rfl : j = rs.length := by omega
              have h4 : ¬ (rs.length : Int) < (rs.length : Int) := by omega
              have HPN := Lib.hid (HDN.out _ (by have := hP.out; rwa [List.take_length, HRL.out, List.take_length] at this))
              go_wp2_with fail
              go_roundw
              case rel => exact ⟨k + 1, zs, by go_num, by omega, HPN, hO, hG⟩
              case measure => simp [intOf]; omega
        · obtain rfl : k = ps.length := by omega
          have h3 : ¬ (ps.length : Int) < (ps.length : Int) := by omega
          have HF := Lib.hid hP.out.done
          go_wp2_with fail
          go_ret2
          exact ⟨_, rfl, by rw [← HF.out]; exact hO.out, hG.out⟩

end Go.Proofs.Ytgcfafjgaifmiaa
