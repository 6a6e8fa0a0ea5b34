/- The reference's products. -/
import Derived.Test.YtpnghgihepnepaaBj
import Derived.BigQuiet
namespace Go.Proofs.Ytpnghgihepnepaa
open Go.RowKit
set_option linter.unusedVariables false

/-- Rows that a call returns, with no error. -/
def GotR (rs : List (List Int)) (w : World) (e : Ending) (w' : World) : Prop := ∃ v qs, e = .returned (.tuple #[v, .int .i64 0]) ∧ RowsP w' v qs ∧ qs.map Prod.snd = rs ∧ w.grownBy w' none
theorem small_dot {bs : List Row} {row : List Int} {c n k j : Nat} (hr : row.length = c) (hrb : ∀ x ∈ row, -16 ≤ x ∧ x ≤ 16) (hc : c ≤ 12) (hbl : bs.length = c) (hw : ∀ q ∈ bs, q.2.length = n ∧ ∀ x ∈ q.2, -16 ≤ x ∧ x ≤ 16) (hk : k < n) :
    -3072 ≤ dotL (row.take j) ((colL bs k).take j) ∧ dotL (row.take j) ((colL bs k).take j) ≤ 3072 := by
  have h1 := dot_bd (A := 16) (B := 16) (row.take j) ((colL bs k).take j) (fun z hz => hrb z (List.mem_of_mem_take hz)) (fun z hz => by
    have hz2 := List.mem_of_mem_take hz
    unfold colL at hz2
    obtain ⟨q, hq, rfl⟩ := List.mem_map.1 hz2
    have := hw q hq
    rw [List.getElem?_eq_getElem (by rw [this.1]; exact hk)]
    exact this.2 _ (List.getElem_mem _)) (by decide)
  have h2 : (row.take j).length ≤ 12 := by rw [List.length_take]; omega
  have h3 : ((row.take j).length : Int) * (16 * 16) ≤ 3072 := by omega
  omega
set_option maxRecDepth 100000 in
set_option maxHeartbeats 2500000 in
theorem rMultiply_any {w : World} {va vb : Value} {ms bs : List Row} {r c n : Nat} (ha : RowsP w va ms) (hma : MatOkP r c ms) (hb : RowsP w vb bs) (hmb : MatOkP c n bs) :
    Calls Try.prog 20 #[va, vb] w (GotR (prodM ms bs n) w) := by
  have HMA := Lib.hid hma; have HMB := Lib.hid hmb
  obtain ⟨hl, hr1, hr12, hc1, hc12, hrc, hq⟩ := hma
  obtain ⟨hlb, -, -, hn1, hn12, hrn, hqb⟩ := hmb
  obtain ⟨aa, capa, rfl, -⟩ : ∃ a cap, va = .slice a ms.length cap ∧ True := by obtain ⟨a, cap, h, -⟩ := ha; exact ⟨a, cap, h, trivial⟩
  obtain ⟨ab, capb, rfl, -⟩ : ∃ a cap, vb = .slice a bs.length cap ∧ True := by obtain ⟨a, cap, h, -⟩ := hb; exact ⟨a, cap, h, trivial⟩
  have HA := Lib.hid ha; have HQ := Lib.hid hq; have HB := Lib.hid hb; have HQB := Lib.hid hqb; have HLB := Lib.hid hlb
  have h0 : 0 < ms.length := by omega
  have h0b : 0 < bs.length := by omega
  obtain ⟨b, off, a2, c2, rfl, hc0, -, -⟩ := ha.row h0
  obtain ⟨bb, offb, a3, c3, rfl, hc0b, -, -⟩ := hb.row h0b
  rw [(hq _ (List.getElem_mem h0)).1, Nat.add_zero] at hc0
  rw [(hqb _ (List.getElem_mem h0b)).1, Nat.add_zero] at hc0b
  have hp12 : ms.length ≤ 12 := by omega
  have hb12 : bs.length ≤ 12 := by omega
  have k1 : ((bs.length : Int) != (c : Int)) = false := by simp; omega
  have p1 : 0 < (ms.length : Int) := by omega
  have p2 : 0 < (bs.length : Int) := by omega
  have HC0 := Lib.hid hc0; have HC0B := Lib.hid hc0b
  clear ha hb hq hqb hl hlb hr1 hr12 hrc hrn hc0b hc0
  go_enter Try.func20, Try.ntmps20
  go_wp2_with fail
  refine (rcheck10_ok HA.out HMA.out).mono ?_
  rintro e w1 ⟨rfl, hg⟩
  have HG1 := Lib.hid hg
  clear hg
  go_wp2_with fail
  refine (rcheck10_ok (HB.out.same HG1.out) HMB.out).mono ?_
  rintro e w2 ⟨rfl, hg⟩
  have HG := Lib.hid (grown_trans HG1.out hg)
  have hc0 := HG.out.cell HC0.out (by simp)
  clear hg HG1
  go_wp2_with fail
  clear k1 hc0
  have HZ := HG
  go_loopw [9, 8] (fun i o wr => ∃ k : Nat, i = .int .i64 k ∧ k ≤ ms.length ∧ Hid (∃ qs, OwnP wr w.heap.size o qs ∧ qs.map Prod.snd = (prodM ms bs n).take k) ∧ Hid (w.grownBy wr none)) (fun i _ _ => ms.length - (intOf i).toNat)
  case atStart => exact ⟨0, rfl, Nat.zero_le _, Lib.hid ⟨[], OwnP.nil _ _, by simp⟩, HG⟩
  case round =>
    clear HG HZ
    obtain ⟨i, rfl, hi, HO, HG⟩ := hrel
    rename World => wk
    by_cases hib : i < ms.length
    · have h3 : (i : Int) < (ms.length : Int) := by omega
      have i1 : IntKind.i64.wrap ((i : Int) + 1) = (i : Int) + 1 := IntWalk.i64_in _ (by omega)
      obtain ⟨b', off', ar, cr, hbe, hcr, -, hri⟩ := HA.out.row hib
      simp only [Option.some.injEq, Addr.mk.injEq, and_true] at hbe
      obtain ⟨rfl, rfl⟩ := hbe
      have hql := HQ.out _ (List.getElem_mem hib)
      have HRI := Lib.hid hri
      have HPM : Hid ((prodM ms bs n).take (i + 1) = (prodM ms bs n).take i ++ [prodR bs n ms[i].2]) := Lib.hid (by
        rw [List.take_add_one]
        congr 1
        unfold prodM
        rw [List.getElem?_map, List.getElem?_eq_getElem hib]; rfl)
      generalize ms[i].2 = row at *
      rw [hql.1] at hcr HRI
      have HQL := Lib.hid hql; have HCR := Lib.hid hcr
      clear hri hcr hql
      go_wp2_with fail
      have HGI := HG
      have HR0 : Hid (OwnI wk wk.heap.size (.slice none 0 0) ((prodR bs n row).take 0)) := Lib.hid (by simpa using OwnI.nil _ _)
      have HS0 := Lib.hid (grown_refl wk none)
      go_loopw [11, 10] (fun k' o wr => ∃ k : Nat, k' = .int .i64 k ∧ k ≤ n ∧ Hid (OwnI wr wk.heap.size o ((prodR bs n row).take k)) ∧ Hid (wk.grownBy wr none)) (fun k' _ _ => n - (intOf k').toNat)
      case atStart => exact ⟨0, rfl, Nat.zero_le _, HR0, HS0⟩
      case round =>
        clear HR0 HS0
        obtain ⟨k, rfl, hk, HR, HS⟩ := hrel
        rename World => wt
        have hcb := (grown_trans HG.out HS.out).cell HC0B.out (by simp)
        by_cases hkb : k < n
        · have h4 : (k : Int) < (n : Int) := by omega
          have i2 : IntKind.i64.wrap ((k : Int) + 1) = (k : Int) + 1 := IntWalk.i64_in _ (by omega)
          have HT0 := Lib.hid (grown_refl wt none)
          go_wp2_with fail
          clear hcb
          go_loopw [13, 12] (fun j' s wr => ∃ j : Nat, j' = .int .i64 j ∧ j ≤ bs.length ∧ s = .int .i64 (dotL (row.take j) ((colL bs k).take j)) ∧ Hid (wt.grownBy wr none)) (fun j' _ _ => bs.length - (intOf j').toNat)
          case atStart => exact ⟨0, rfl, Nat.zero_le _, by simp [dotL], HT0⟩
          case round =>
            clear HT0
            obtain ⟨j, rfl, hj, rfl, HT⟩ := hrel
            rename World => we
            by_cases hjb : j < bs.length
            · have h5 : (j : Int) < (bs.length : Int) := by omega
              have h6 : (j : Int) < (c : Int) := by have := HLB.out; omega
              have i3 : IntKind.i64.wrap ((j : Int) + 1) = (j : Int) + 1 := IntWalk.i64_in _ (by omega)
              have HX := Lib.hid (grown_trans (grown_trans HG.out HS.out) HT.out)
              have hcr2 := HX.out.cell HCR.out (by simp)
              obtain ⟨_, _, hxv, -, -, hxc⟩ := HRI.out
              simp only [Value.slice.injEq] at hxv
              obtain ⟨rfl, -, rfl⟩ := hxv
              obtain ⟨bx, ox, rfl, hcx⟩ := Ints.at hxc (show j < row.length by rw [HQL.out.1, ← HLB.out]; exact hjb)
              obtain ⟨b'', off'', ar2, cr2, hbe, hcs, -, hrj⟩ := HB.out.row hjb
              simp only [Option.some.injEq, Addr.mk.injEq, and_true] at hbe
              obtain ⟨rfl, rfl⟩ := hbe
              have hqj := HQB.out _ (List.getElem_mem hjb)
              obtain ⟨_, _, hxv, -, -, hyc⟩ := hrj
              simp only [Value.slice.injEq] at hxv
              obtain ⟨rfl, -, rfl⟩ := hxv
              obtain ⟨by', oy, rfl, hcy⟩ := Ints.at hyc (show k < bs[j].2.length by rw [hqj.1]; exact hkb)
              rw [hqj.1] at hcs
              have hcs2 := HX.out.cell hcs (by simp); have hcx2 := HX.out.cell hcx (by simp); have hcy2 := HX.out.cell hcy (by simp)
              have b1 := mem_at (P := fun y => -16 ≤ y ∧ y ≤ 16) HQL.out.2 (show j < row.length by rw [HQL.out.1, ← HLB.out]; exact hjb)
              have b2 := mem_at (P := fun y => -16 ≤ y ∧ y ≤ 16) hqj.2 (show k < bs[j].2.length by rw [hqj.1]; exact hkb)
              have b3 := mul_bd b1 b2
              have hds := dot_snoc row (colL bs k) j (by rw [HQL.out.1, ← HLB.out]; exact hjb) (by rw [colL_len]; exact hjb)
              rw [colL_at k hjb] at hds
              have b4 := small_dot (j := j) (k := k) HQL.out.1 HQL.out.2 hc12 HLB.out HQB.out hkb
              have HDS := Lib.hid hds
              clear hxc hyc hcx hcy hcs hds
              generalize row[j]?.getD 0 = x at *
              generalize bs[j].2[k]?.getD 0 = y at *
              generalize dotL (row.take j) ((colL bs k).take j) = acc at *
              obtain ⟨pr, hpr⟩ : ∃ p, x * y = p := ⟨_, rfl⟩
              rw [hpr] at b3 HDS
              have m1 : IntKind.i64.wrap (x * y) = pr := by rw [hpr]; exact IntWalk.i64_in _ (by omega)
              have m2 : IntKind.i64.wrap (acc + pr) = acc + pr := IntWalk.i64_in _ (by omega)
              clear hpr b1 b2 b3 b4
              go_wp2_with fail
              go_big_quiet (fail)
              have HTN := Lib.hid (grown_trans HT.out (grown_drewN we nq none))
              clear hcr2 hcs2 hcx2 hcy2 m1 m2 HX HT
              generalize we.drewN nq = wd at *
              go_wp2_with fail
              go_roundw
              case rel => exact ⟨j + 1, by go_num, by omega, by rw [HDS.out], HTN⟩
              case measure => (simp [intOf]; try omega)
            · obtain rfl : j = bs.length := by omega
              have h5 : ¬ (bs.length : Int) < (bs.length : Int) := by omega
              have e1 : dotL (row.take bs.length) ((colL bs k).take bs.length) = dotL row (colL bs k) := by
                rw [List.take_of_length_le (by rw [HQL.out.1, HLB.out]; exact Nat.le_refl _), List.take_of_length_le (by rw [colL_len]; exact Nat.le_refl _)]
              rw [e1]
              have HN : Hid ((prodR bs n row).take k ++ [dotL row (colL bs k)] = (prodR bs n row).take (k + 1)) := Lib.hid (by
                rw [List.take_add_one]
                congr 1
                unfold prodR
                rw [List.getElem?_map, List.getElem?_range hkb]; rfl)
              have HKL : Hid (((prodR bs n row).take k).length ≤ 1000000000000) := Lib.hid (by rw [List.length_take, prodR_len]; omega)
              have HR2 := Lib.hid (HR.out.kept HT.out (by simp))
              clear e1
              generalize dotL row (colL bs k) = s at *
              go_wp2_with (at_builtin; refine app_int rfl _ _ rfl wk.heap.size _ ((prodR bs n row).take k) rfl (HR2.out.kept (World.grownBy_alloc _ _ none) (by simp)) we.heap.size s rfl (by simp) HKL.out (by have h1 := HS.out.size; have h2 := HT.out.size; simp; omega) ?_)
              intro v' w9 ho hg9
              rw [HN.out] at ho
              have HO9 := Lib.hid ho
              have HS9 : Hid (wk.grownBy w9 none) := Lib.hid (grown_then (grown_trans (grown_trans HS.out HT.out) (World.grownBy_alloc _ _ none)) hg9 (fun j hj => .inl (HR2.out.fresh j hj).1))
              clear ho hg9
              go_wp2_with fail
              go_roundw
              case rel => exact ⟨k + 1, by go_num, by omega, HO9, HS9⟩
              case measure => (simp [intOf]; try omega)
        · obtain rfl : k = n := by omega
          have h4 : ¬ (k : Int) < (k : Int) := by omega
          have hr := HR.out
          rw [List.take_of_length_le (by rw [prodR_len]; exact Nat.le_refl _)] at hr
          obtain ⟨qs, hO, hQ⟩ := HO.out
          have HO1 := Lib.hid (hO.same HS.out); have HQS := Lib.hid hQ
          have hql : qs.length ≤ 12 := by have := congrArg List.length hQ; rw [List.length_map, List.length_take] at this; omega
          have HQ12 := Lib.hid hql
          obtain ⟨ay, cy, rfl⟩ := ownI_sl' hr
          have HYL : Hid ((prodR bs k row).length = k) := Lib.hid (prodR_len _ _ _)
          have HB3 : Hid (∀ x ∈ prodR bs k row, -9223372036854775808 ≤ x ∧ x ≤ 9223372036854775807) := Lib.hid (fun x hx => by
            unfold prodR at hx
            obtain ⟨t, ht, rfl⟩ := List.mem_map.1 hx
            have := small_dot (j := c) (k := t) HQL.out.1 HQL.out.2 hc12 HLB.out HQB.out (by simpa using ht)
            rw [List.take_of_length_le (by rw [HQL.out.1]; exact Nat.le_refl _), List.take_of_length_le (by rw [colL_len, HLB.out]; exact Nat.le_refl _)] at this
            omega)
          have HYR : Hid (RowOk wt (.slice ay k cy, prodR bs k row)) := Lib.hid (by have := hr.row HB3.out; rw [HYL.out] at this; exact this)
          have HYF : Hid (∀ g, (Value.slice ay k cy).ownBlock = some g → wk.heap.size ≤ g) := Lib.hid (fun g hg => by rw [HYL.out] at hr; exact (hr.fresh g hg).1)
          have HOF : Hid (∀ g, u8.ownBlock = some g → g < wk.heap.size) := Lib.hid (fun g hg => (hO.fresh g hg).2)
          rw [HYL.out]
          clear hr hO hQ hql
          go_wp2_with (at_builtin; refine app_row rfl _ _ rfl w.heap.size _ qs rfl (HO1.out.same (World.grownBy_alloc _ _ none)) wt.heap.size (.slice ay k cy, prodR bs k row) rfl (cell_new rfl) (HYR.out.same (World.grownBy_alloc _ _ none)) (fun g hg e => by have h1 := HYF.out g hg; have h2 := HOF.out g e; omega) (by have := HQ12.out; omega) (Nat.le_trans (Nat.le_trans HG.out.size HS.out.size) (World.grownBy_alloc _ _ none).size) ?_)
          intro v9 w9 ho9 hg9
          have HG9 := Lib.hid (grown_then (grown_after (grown_trans HG.out HS.out)) hg9 (fun j hj => .inl (HO1.out.fresh j hj).1))
          have HF9 : Hid (∃ qs, OwnP w9 w.heap.size v9 qs ∧ qs.map Prod.snd = (prodM ms bs k).take (i + 1)) := Lib.hid ⟨_, ho9, by rw [List.map_append, HQS.out, HPM.out]; rfl⟩
          clear ho9 hg9
          go_wp2_with fail
          go_roundw
          case rel => exact ⟨i + 1, by go_num, by omega, HF9, HG9⟩
          case measure => (simp [intOf]; try omega)
    · obtain rfl : i = ms.length := by omega
      have h3 : ¬ (ms.length : Int) < (ms.length : Int) := by omega
      go_wp2_with fail
      go_ret2
      obtain ⟨qs, hO, hQ⟩ := HO.out
      exact ⟨_, qs, rfl, hO.rows, by rw [hQ, List.take_of_length_le (by unfold prodM; rw [List.length_map]; exact Nat.le_refl _)], HG.out⟩
end Go.Proofs.Ytpnghgihepnepaa
