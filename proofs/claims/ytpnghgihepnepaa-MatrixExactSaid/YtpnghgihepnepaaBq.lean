/- The reference's Apply; what both sides answer where lengths or numbers don't fit. -/
import Derived.Test.YtpnghgihepnepaaBk
import Derived.BigRegion
namespace Go.Proofs.Ytpnghgihepnepaa
open Go.RowKit
set_option linter.unusedVariables false

theorem dot20_bd {row xs : List Int} {c j : Nat} (hr : row.length = c) (hrb : ∀ x ∈ row, -16 ≤ x ∧ x ≤ 16) (hc : c ≤ 12) (hx : ∀ x ∈ xs, -1048576 ≤ x ∧ x ≤ 1048576) :
    -201326592 ≤ dotL (row.take j) (xs.take j) ∧ dotL (row.take j) (xs.take j) ≤ 201326592 := by
  have h1 := dot_bd (A := 16) (B := 1048576) (row.take j) (xs.take j) (fun z hz => hrb z (List.mem_of_mem_take hz)) (fun z hz => hx z (List.mem_of_mem_take hz)) (by decide)
  have h2 : (row.take j).length ≤ 12 := by rw [List.length_take]; omega
  have h3 : ((row.take j).length : Int) * (16 * 1048576) ≤ 201326592 := by omega
  omega
set_option maxRecDepth 100000 in
set_option maxHeartbeats 2500000 in
theorem rApply_any {w : World} {va vx : Value} {ms : List Row} {xs : List Int} {r c : Nat} (ha : RowsP w va ms) (hma : MatOkP r c ms) (hx : Ints w vx xs) (hxl : xs.length = c) (hxb : ∀ x ∈ xs, -1048576 ≤ x ∧ x ≤ 1048576) :
    Calls Try.prog 27 #[va, vx] w fun e w' => ∃ v', e = .returned (.tuple #[v', .int .i64 0]) ∧ OwnI w' w.heap.size v' (ms.map (fun q => dotL q.2 xs)) ∧ w.grownBy w' none := by
  have HMA := Lib.hid hma
  obtain ⟨hl, hr1, hr12, hc1, hc12, hrc, hq⟩ := hma
  obtain ⟨aa, capa, rfl, -⟩ : ∃ a cap, va = .slice a ms.length cap ∧ True := by obtain ⟨a, cap, h, -⟩ := ha; exact ⟨a, cap, h, trivial⟩
  have HA := Lib.hid ha; have HQ := Lib.hid hq; have HX := Lib.hid hx; have HXB := Lib.hid hxb
  have h0 : 0 < ms.length := by omega
  obtain ⟨b, off, a2, c2, rfl, hc0, -, -⟩ := ha.row h0
  rw [(hq _ (List.getElem_mem h0)).1, Nat.add_zero] at hc0
  obtain ⟨ax, cx, rfl, -⟩ := hx
  subst hxl
  have hp12 : ms.length ≤ 12 := by omega
  have p1 : 0 < (ms.length : Int) := by omega
  have k1 : ((xs.length : Int) != (xs.length : Int)) = false := by simp
  have HC0 := Lib.hid hc0
  clear ha hq hl hr1 hr12 hrc hc0 hxb
  go_enter Try.func27, Try.ntmps27
  go_wp2_with fail
  refine (rcheck10_ok HA.out HMA.out).mono ?_
  rintro e w1 ⟨rfl, hg⟩
  have HG := Lib.hid hg
  have hc0 := HG.out.cell HC0.out (by simp)
  clear hg
  go_wp2_with fail
  clear k1 hc0
  go_loopw [7] (fun i wr => ∃ k : Nat, i = .int .i64 k ∧ k ≤ xs.length ∧ Hid (w.grownBy wr none)) (fun i _ => xs.length - (intOf i).toNat)
  case atStart => exact ⟨0, rfl, Nat.zero_le _, HG⟩
  case round =>
    clear HG
    obtain ⟨k, rfl, hk, HG⟩ := hrel
    rename World => wk
    by_cases hkb : k < xs.length
    · have h3 : (k : Int) < (xs.length : Int) := by omega
      have i1 : IntKind.i64.wrap ((k : Int) + 1) = (k : Int) + 1 := IntWalk.i64_in _ (by omega)
      obtain ⟨_, _, hxv, -, -, hxc⟩ := HX.out
      simp only [Value.slice.injEq] at hxv
      obtain ⟨rfl, -, rfl⟩ := hxv
      obtain ⟨bx, ox, rfl, hcx⟩ := Ints.at hxc hkb
      have hcx2 := HG.out.cell hcx (by simp)
      have b1 := mem_at (P := fun y => -1048576 ≤ y ∧ y ≤ 1048576) HXB.out hkb
      generalize xs[k]?.getD 0 = x at *
      have f1 : ¬ x < -1048576 := by omega
      have f2 : ¬ (1048576 : Int) < x := by omega
      clear hxc hcx b1
      go_wp2_with fail
      go_roundw
      case rel => exact ⟨k + 1, by go_num, by omega, HG⟩
      case measure => (simp [intOf]; try omega)
    · obtain rfl : k = xs.length := by omega
      have h3 : ¬ (xs.length : Int) < (xs.length : Int) := by omega
      go_wp2_with fail
      go_loopw [9, 8] (fun i o wr => ∃ k : Nat, i = .int .i64 k ∧ k ≤ ms.length ∧ Hid (OwnI wr w.heap.size o ((ms.map (fun q => dotL q.2 xs)).take k)) ∧ Hid (w.grownBy wr none)) (fun i _ _ => ms.length - (intOf i).toNat)
      case atStart => exact ⟨0, rfl, Nat.zero_le _, Lib.hid (by simpa using OwnI.nil _ _), HG⟩
      case round =>
        clear HG
        obtain ⟨i, rfl, hi, HO, HG⟩ := hrel
        rename World => wt
        by_cases hib : i < ms.length
        · have h4 : (i : Int) < (ms.length : Int) := by omega
          have i1 : IntKind.i64.wrap ((i : Int) + 1) = (i : Int) + 1 := IntWalk.i64_in _ (by omega)
          obtain ⟨b', off', ar, cr, hbe, hcr, -, hri⟩ := HA.out.row hib
          simp only [Option.some.injEq, Addr.mk.injEq, and_true] at hbe
          obtain ⟨rfl, rfl⟩ := hbe
          have hql := HQ.out _ (List.getElem_mem hib)
          have HRI := Lib.hid hri
          have HN : Hid ((ms.map (fun q => dotL q.2 xs)).take i ++ [dotL ms[i].2 xs] = (ms.map (fun q => dotL q.2 xs)).take (i + 1)) := Lib.hid (by
            rw [List.take_add_one]
            congr 1
            rw [List.getElem?_map, List.getElem?_eq_getElem hib]; rfl)
          generalize ms[i].2 = row at *
          rw [hql.1] at hcr HRI
          have HQL := Lib.hid hql; have HCR := Lib.hid hcr
          clear hri hcr hql
          go_wp2_with fail
          have HT0 := Lib.hid (grown_refl wt none)
          go_loopw [11, 10] (fun j' s wr => ∃ j : Nat, j' = .int .i64 j ∧ j ≤ xs.length ∧ s = .int .i64 (dotL (row.take j) (xs.take j)) ∧ Hid (wt.grownBy wr none)) (fun j' _ _ => xs.length - (intOf j').toNat)
          case atStart => exact ⟨0, rfl, Nat.zero_le _, by simp [dotL], HT0⟩
          case round =>
            clear HT0
            obtain ⟨j, rfl, hj, rfl, HT⟩ := hrel
            rename World => we
            by_cases hjb : j < xs.length
            · have h5 : (j : Int) < (xs.length : Int) := by omega
              have i3 : IntKind.i64.wrap ((j : Int) + 1) = (j : Int) + 1 := IntWalk.i64_in _ (by omega)
              have HXX := Lib.hid (grown_trans HG.out HT.out)
              have hcr2 := HXX.out.cell HCR.out (by simp)
              obtain ⟨_, _, hxv, -, -, hxc⟩ := HRI.out
              simp only [Value.slice.injEq] at hxv
              obtain ⟨rfl, -, rfl⟩ := hxv
              obtain ⟨bx, ox, rfl, hcx⟩ := Ints.at hxc (show j < row.length by rw [HQL.out.1]; exact hjb)
              obtain ⟨_, _, hxv, -, -, hyc⟩ := HX.out
              simp only [Value.slice.injEq] at hxv
              obtain ⟨rfl, -, rfl⟩ := hxv
              obtain ⟨by', oy, rfl, hcy⟩ := Ints.at hyc hjb
              have hcx2 := HXX.out.cell hcx (by simp); have hcy2 := HXX.out.cell hcy (by simp)
              have b1 := mem_at (P := fun y => -16 ≤ y ∧ y ≤ 16) HQL.out.2 (show j < row.length by rw [HQL.out.1]; exact hjb)
              have b2 := mem_at (P := fun y => -1048576 ≤ y ∧ y ≤ 1048576) HXB.out hjb
              have b3 := mul_bd b1 b2
              have hds := dot_snoc row xs j (by rw [HQL.out.1]; exact hjb) hjb
              have b4 := dot20_bd (j := j) HQL.out.1 HQL.out.2 hc12 HXB.out
              have HDS := Lib.hid hds
              clear hxc hyc hcx hcy hds
              generalize row[j]?.getD 0 = x at *
              generalize xs[j]?.getD 0 = y at *
              generalize dotL (row.take j) (xs.take j) = acc at *
              obtain ⟨pr, hpr⟩ : ∃ p, x * y = p := ⟨_, rfl⟩
              rw [hpr] at b3 HDS
              have m1 : IntKind.i64.wrap (x * y) = pr := by rw [hpr]; exact IntWalk.i64_in _ (by omega)
              have m2 : IntKind.i64.wrap (acc + pr) = acc + pr := IntWalk.i64_in _ (by omega)
              clear hpr b1 b2 b3 b4
              go_wp2_with fail
              go_big_quiet (fail)
              have HTN := Lib.hid (grown_trans HT.out (grown_drewN we nq none))
              clear hcr2 hcx2 hcy2 m1 m2 HXX HT
              generalize we.drewN nq = wd at *
              go_wp2_with fail
              go_roundw
              case rel => exact ⟨j + 1, by go_num, by omega, by rw [HDS.out], HTN⟩
              case measure => (simp [intOf]; try omega)
            · obtain rfl : j = xs.length := by omega
              have h5 : ¬ (xs.length : Int) < (xs.length : Int) := by omega
              have e1 : dotL (row.take xs.length) (xs.take xs.length) = dotL row xs := by
                rw [List.take_of_length_le (by rw [HQL.out.1]; exact Nat.le_refl _), List.take_length]
              rw [e1]
              have HKL : Hid (((ms.map (fun q => dotL q.2 xs)).take i).length ≤ 1000000000000) := Lib.hid (by rw [List.length_take, List.length_map]; omega)
              have HR2 := Lib.hid (HO.out.kept HT.out (by simp))
              clear e1
              generalize dotL row xs = s at *
              go_wp2_with (at_builtin; refine app_int rfl _ _ rfl w.heap.size _ ((ms.map (fun q => dotL q.2 xs)).take i) rfl (HR2.out.kept (World.grownBy_alloc _ _ none) (by simp)) we.heap.size s rfl (by simp) HKL.out (by have h1 := HG.out.size; have h2 := HT.out.size; simp; omega) ?_)
              intro v' w9 ho hg9
              rw [HN.out] at ho
              have HO9 := Lib.hid ho
              have HS9 : Hid (w.grownBy w9 none) := Lib.hid (grown_then (grown_trans (grown_trans HG.out HT.out) (World.grownBy_alloc _ _ none)) hg9 (fun j hj => .inl (HR2.out.fresh j hj).1))
              clear ho hg9
              go_wp2_with fail
              go_roundw
              case rel => exact ⟨i + 1, by go_num, by omega, HO9, HS9⟩
              case measure => (simp [intOf]; try omega)
        · obtain rfl : i = ms.length := by omega
          have h4 : ¬ (ms.length : Int) < (ms.length : Int) := by omega
          have hO := HO.out
          rw [List.take_of_length_le (by rw [List.length_map]; exact Nat.le_refl _)] at hO
          have HO2 := Lib.hid hO
          clear hO HO
          go_wp2_with fail
          go_ret2
          exact ⟨_, rfl, HO2.out, HG.out⟩
end Go.Proofs.Ytpnghgihepnepaa
