/- Texts Qc, Bk, Bl in one. -/
import Derived.Test.YtpnghgihepnepaaDoorU20
import Derived.Test.YtpnghgihepnepaaDoorU22
import Derived.Test.YtpnghgihepnepaaDoorU17
import Derived.BigQuiet
import Derived.BigRegion
namespace Go.Proofs.YtpnghgihepnepaaDoor
open Go.RowKit
set_option linter.unusedVariables false

theorem ret_bool1 {a b : Bool} (h : a = b) : Ending.returned (Value.bool a) = .returned (.bool b) := by rw [h]
def Shape11 (ms : List Row) : Prop := ∃ r c, MatOkP r c ms ∧ r ≤ 6
def nnB (m x : Int) : Bool := decide (0 ≤ x) && decide (x ≤ m)
theorem nnB_iff {m x : Int} : nnB m x = true ↔ 0 ≤ x ∧ x ≤ m := by unfold nnB; simp
theorem all_snoc1 (P : Int → Bool) (xs : List Int) (k : Nat) (h : k < xs.length) : (xs.take (k + 1)).all P = ((xs.take k).all P && P (xs[k]?.getD 0)) := by
  rw [take_snoc' xs k h, List.all_append]; simp
theorem all_no {P : Int → Bool} {xs : List Int} {k : Nat} (h : k < xs.length) (hp : P (xs[k]?.getD 0) = false) : xs.all P = false := by
  cases h2 : xs.all P with
  | false => rfl
  | true =>
    rw [List.all_eq_true] at h2
    have := h2 xs[k] (List.getElem_mem h)
    rw [List.getElem?_eq_getElem h] at hp
    rw [show (some xs[k]).getD 0 = xs[k] from rfl, this] at hp
    cases hp
theorem scheck_no {ms : List Row} {va : Value} {w : World} (h : RowsI w va ms) (hno : ¬ Shape11 ms) :
    Calls Tryd.prog 30 #[va] w fun e w' => e = .returned (.int .i64 10) ∧ w' = w := by
  obtain ⟨aa, capa, rfl, -⟩ : ∃ a cap, va = .slice a ms.length cap ∧ True := by obtain ⟨a, cap, h, -⟩ := h; exact ⟨a, cap, h, trivial⟩
  have H := Lib.hid h
  clear h
  by_cases hex : ∃ r c, MatOkP r c ms
  · obtain ⟨r, c, hm⟩ := hex
    have HM := Lib.hid hm
    have hr12 : ms.length ≤ 12 := by have := hm.1; have := hm.2.2.1; omega
    have h6 : (6 : Int) < (ms.length : Int) := Int.not_le.1 (fun h => hno ⟨r, c, hm, by have := hm.1; omega⟩)
    clear hno hm
    go_enter Tryd.func30, Tryd.ntmps30
    go_wp2_with fail
    refine (Check10_any (H.out.toP HM.out) HM.out).mono ?_
    rintro e w' ⟨rfl, rfl⟩
    go_wp2_with fail
    go_ret
    exact ⟨rfl, rfl⟩
  · go_enter Tryd.func30, Tryd.ntmps30
    go_wp2_with fail
    refine (Check_bad H.out (fun r c hm => hex ⟨r, c, hm⟩)).mono ?_
    rintro e w' ⟨rfl, rfl⟩
    go_wp2_with fail
    go_ret
    exact ⟨rfl, rfl⟩
theorem rcheck11_no {ms : List Row} {va : Value} {w : World} (h : RowsI w va ms) (hno : ¬ Shape11 ms) :
    Calls Tryd.prog 34 #[va] w fun e w' => e = .returned (.int .i64 10) ∧ w.grownBy w' none := by
  obtain ⟨aa, capa, rfl, -⟩ : ∃ a cap, va = .slice a ms.length cap ∧ True := by obtain ⟨a, cap, h, -⟩ := h; exact ⟨a, cap, h, trivial⟩
  have H := Lib.hid h
  clear h
  by_cases hex : ∃ r c, MatOkP r c ms
  · obtain ⟨r, c, hm⟩ := hex
    have HM := Lib.hid hm
    have hr12 : ms.length ≤ 12 := by have := hm.1; have := hm.2.2.1; omega
    have h6 : (6 : Int) < (ms.length : Int) := Int.not_le.1 (fun h => hno ⟨r, c, hm, by have := hm.1; omega⟩)
    clear hno hm
    go_enter Tryd.func34, Tryd.ntmps34
    go_wp2_with fail
    refine (rcheck10_ok (H.out.toP HM.out) HM.out).mono ?_
    rintro e w1 ⟨rfl, hg⟩
    have HG := Lib.hid hg
    clear hg
    go_wp2_with fail
    go_ret
    exact ⟨rfl, HG.out⟩
  · go_enter Tryd.func34, Tryd.ntmps34
    go_wp2_with fail
    refine (rcheck_bad H.out (fun r c hm => hex ⟨r, c, hm⟩)).mono ?_
    rintro e w1 ⟨rfl, hg⟩
    have HG := Lib.hid hg
    clear hg
    go_wp2_with fail
    go_ret
    exact ⟨rfl, HG.out⟩
theorem rcheck11_ok {r c : Nat} {ms : List Row} {va : Value} {w : World} (h : RowsP w va ms) (hm : MatOkP r c ms) (h6 : r ≤ 6) :
    Calls Tryd.prog 34 #[va] w fun e w' => e = .returned (.int .i64 0) ∧ w.grownBy w' none := by
  obtain ⟨aa, capa, rfl, -⟩ : ∃ a cap, va = .slice a ms.length cap ∧ True := by obtain ⟨a, cap, h, -⟩ := h; exact ⟨a, cap, h, trivial⟩
  have H := Lib.hid h; have HM := Lib.hid hm
  have h7 : ¬ (6 : Int) < (ms.length : Int) := by have := hm.1; omega
  clear h hm
  go_enter Tryd.func34, Tryd.ntmps34
  go_wp2_with fail
  refine (rcheck10_ok H.out HM.out).mono ?_
  rintro e w1 ⟨rfl, hg⟩
  have HG := Lib.hid hg
  clear hg
  go_wp2_with fail
  go_ret
  exact ⟨rfl, HG.out⟩
theorem within_is (v : Value) (xs : List Int) (most : Int) (w : World) (h : Ints w v xs) :
    Calls Tryd.prog 38 #[v, .int .i64 most] w fun e w' => e = .returned (.bool (xs.all (nnB most))) ∧ w' = w := by
  obtain ⟨a, cap, rfl, hl, -, hc⟩ := h
  unfold maxLen at hl
  have HC := Lib.hid hc
  clear hc
  go_enter Tryd.func38, Tryd.ntmps38
  go_wp2_with fail
  go_loop [9] (fun i => ∃ k : Nat, i = .int .i64 k ∧ k ≤ xs.length ∧ Hid ((xs.take k).all (nnB most) = true)) (fun i => xs.length - (intOf i).toNat)
  case atStart => exact ⟨0, rfl, Nat.zero_le _, Lib.hid rfl⟩
  case round =>
    obtain ⟨k, rfl, hk, HA⟩ := hrel
    by_cases hkb : k < xs.length
    · have h1 : (k : Int) < (xs.length : Int) := by omega
      have i1 : IntKind.i64.wrap ((k : Int) + 1) = (k : Int) + 1 := IntWalk.i64_in _ (by omega)
      obtain ⟨b, off, rfl, hx⟩ := Ints.at HC.out hkb
      have HN := Lib.hid (all_no (P := nnB most) hkb)
      have HS := Lib.hid (all_snoc1 (nnB most) xs k hkb)
      generalize xs[k]?.getD 0 = x at *
      by_cases f1 : x < 0
      · have HB : Hid (xs.all (nnB most) = false) := Lib.hid (HN.out (by unfold nnB; simp; omega))
        go_wp2_with fail
        go_ret
        rw [HB.out]
        exact ⟨rfl, rfl⟩
      · by_cases f2 : most < x
        · have HB : Hid (xs.all (nnB most) = false) := Lib.hid (HN.out (by unfold nnB; simp; omega))
          go_wp2_with fail
          go_ret
          rw [HB.out]
          exact ⟨rfl, rfl⟩
        · have HA2 : Hid ((xs.take (k + 1)).all (nnB most) = true) := Lib.hid (by rw [HS.out, HA.out]; unfold nnB; simp; omega)
          go_wp2_with fail
          go_round
          case rel => exact ⟨k + 1, by go_num, by omega, HA2⟩
          case measure => simp [intOf]; omega
    · obtain rfl : k = xs.length := by omega
      have h1 : ¬ (xs.length : Int) < (xs.length : Int) := by omega
      go_wp2_with fail
      go_ret
      exact ⟨ret_bool1 (by have := HA.out; rw [List.take_length] at this; rw [this]), rfl⟩
/-- What Value answers to numbers that are not fit. -/
theorem value_bad (vy vx : Value) (ys xs : List Int) (w : World) {err : Int} (h : Ints w vy ys) (h' : Ints w vx xs) (hb : ((ys.length ≠ xs.length ∨ 6 < ys.length) ∧ err = 3) ∨ (ys.length = xs.length ∧ ys.length ≤ 6 ∧ (ys.all (nnB 1099511627776) && xs.all (nnB 1048576)) = false ∧ err = 2)) :
    Calls Tryd.prog 24 #[vy, vx] w fun e w' => e = .returned (.tuple #[.int .i64 0, .int .i64 err]) ∧ w' = w := by
  have HY := Lib.hid h; have HX := Lib.hid h'
  obtain ⟨a, cap, rfl, hl1, -⟩ := h
  obtain ⟨a2, cap2, rfl, hl2, -⟩ := h'
  unfold maxLen at hl1 hl2
  rcases hb with ⟨hb, rfl⟩ | ⟨hl, h6, hb, rfl⟩
  · by_cases hl : ys.length = xs.length
    · have k1 : ((ys.length : Int) != (xs.length : Int)) = false := by simp; omega
      have k2 : (6 : Int) < (ys.length : Int) := by rcases hb with hb | hb <;> omega
      clear hb hl
      go_enter Tryd.func24, Tryd.ntmps24
      go_wp2_with fail
      go_ret2
      exact ⟨rfl, rfl⟩
    · have k1 : ((ys.length : Int) != (xs.length : Int)) = true := by simp; omega
      clear hb hl
      go_enter Tryd.func24, Tryd.ntmps24
      go_wp2_with fail
      go_ret2
      exact ⟨rfl, rfl⟩
  · have k1 : ((ys.length : Int) != (xs.length : Int)) = false := by simp; omega
    have k2 : ¬ (6 : Int) < (ys.length : Int) := by omega
    clear hl h6
    cases hy : ys.all (nnB 1099511627776) with
    | false =>
      have HB := Lib.hid hy
      clear hb hy
      go_enter Tryd.func24, Tryd.ntmps24
      go_wp2_with fail
      refine (within_is _ _ _ _ HY.out).mono ?_
      rintro e w' ⟨rfl, rfl⟩
      rw [HB.out]
      go_wp2_with fail
      go_ret2
      exact ⟨rfl, rfl⟩
    | true =>
      have HB := Lib.hid hy
      have HB2 : Hid (xs.all (nnB 1048576) = false) := Lib.hid (by rw [hy, Bool.true_and] at hb; exact hb)
      clear hb hy
      go_enter Tryd.func24, Tryd.ntmps24
      go_wp2_with fail
      refine (within_is _ _ _ _ HY.out).mono ?_
      rintro e w' ⟨rfl, rfl⟩
      rw [HB.out]
      go_wp2_with fail
      refine (within_is _ _ _ _ HX.out).mono ?_
      rintro e w' ⟨rfl, rfl⟩
      rw [HB2.out]
      go_wp2_with fail
      go_ret2
      exact ⟨rfl, rfl⟩
end Go.Proofs.YtpnghgihepnepaaDoor

namespace Go.Proofs.YtpnghgihepnepaaDoor
open Go.RowKit
set_option linter.unusedVariables false

/-- Rows that a call returns, with no error. -/
def GotR (rs : List (List Int)) (w : World) (e : Ending) (w' : World) : Prop := ∃ v qs, e = .returned (.tuple #[v, .int .i64 0]) ∧ RowsP w' v qs ∧ qs.map Prod.snd = rs ∧ w.grownBy w' none
theorem small_dot {bs : List Row} {row : List Int} {c n k j : Nat} (hr : row.length = c) (hrb : ∀ x ∈ row, -16 ≤ x ∧ x ≤ 16) (hc : c ≤ 12) (hbl : bs.length = c) (hw : ∀ q ∈ bs, q.2.length = n ∧ ∀ x ∈ q.2, -16 ≤ x ∧ x ≤ 16) (hk : k < n) :
    -3072 ≤ dotL (row.take j) ((colL bs k).take j) ∧ dotL (row.take j) ((colL bs k).take j) ≤ 3072 := by
  have h1 := dot_bd (A := 16) (B := 16) (row.take j) ((colL bs k).take j) (fun z hz => hrb z (List.mem_of_mem_take hz)) (fun z hz => by
    have hz2 := List.mem_of_mem_take hz
    unfold colL at hz2
    obtain ⟨q, hq, rfl⟩ := List.mem_map.1 hz2
    have := hw q hq
    rw [List.getElem?_eq_getElem (by rw [this.1]; exact hk)]
    exact this.2 _ (List.getElem_mem _)) (by decide)
  have h2 : (row.take j).length ≤ 12 := by rw [List.length_take]; omega
  have h3 : ((row.take j).length : Int) * (16 * 16) ≤ 3072 := by omega
  omega
end Go.Proofs.YtpnghgihepnepaaDoor

namespace Go.Proofs.YtpnghgihepnepaaDoor
open Go.RowKit
set_option linter.unusedVariables false

set_option maxHeartbeats 1000000 in
theorem rgcd_nat (A B : Nat) (a b : Int) (w : World) (ha : A ≤ 9223372036854775807) (hb : B ≤ 9223372036854775807) (ea : a = (A : Int) ∨ (a = -(A : Int) ∧ 1 ≤ A)) (eb : b = (B : Int) ∨ (b = -(B : Int) ∧ 1 ≤ B)) :
    Calls Tryd.prog 71 #[.int .i64 a, .int .i64 b] w fun e w' => e = .returned (.int .i64 ((Nat.gcd A B : Nat) : Int)) ∧ Drew w w' := by
  rcases ea with rfl | ⟨rfl, ha1⟩
  all_goals rcases eb with rfl | ⟨rfl, hb1⟩
  all_goals
    first
      | (have s1 : -(A : Int) < 0 := by omega
         have s2 : IntKind.i64.wrap (-(-(A : Int))) = (A : Int) := by rw [Int.neg_neg]; exact IntWalk.i64_in _ (by omega)
         have s3 : IntKind.i64.wrap (A : Int) = (A : Int) := IntWalk.i64_in _ (by omega)
         clear ha1)
      | (have s1 : ¬ (A : Int) < 0 := by omega)
    first
      | (have t1 : -(B : Int) < 0 := by omega
         have t2 : IntKind.i64.wrap (-(-(B : Int))) = (B : Int) := by rw [Int.neg_neg]; exact IntWalk.i64_in _ (by omega)
         have t3 : IntKind.i64.wrap (B : Int) = (B : Int) := IntWalk.i64_in _ (by omega)
         clear hb1)
      | (have t1 : ¬ (B : Int) < 0 := by omega)
    go_enter Tryd.func71, Tryd.ntmps71
    go_wp2_with fail
    go_loopw [0, 1] (fun u v wr => ∃ x y : Nat, u = .int .i64 x ∧ v = .int .i64 y ∧ x ≤ 9223372036854775807 ∧ y ≤ 9223372036854775807 ∧ Hid (Nat.gcd x y = Nat.gcd A B) ∧ Hid (Drew w wr)) (fun _ v _ => (intOf v).natAbs)
    case atStart => exact ⟨A, B, rfl, rfl, ha, hb, Lib.hid rfl, Lib.hid (Drew.refl _)⟩
    case round =>
      obtain ⟨x, y, rfl, rfl, hx, hy, HG, HD⟩ := hrel
      rename World => wk
      by_cases hy0 : y = 0
      · subst hy0
        have q0 : (((0 : Nat) : Int) != 0) = false := by decide
        have HA : Hid (x = Nat.gcd A B) := Lib.hid (by rw [← HG.out, Nat.gcd_zero_right])
        go_wp2_with fail
        go_ret
        exact ⟨by rw [← HA.out]; rfl, HD.out⟩
      · have q1 : ((y : Int) != 0) = true := by simpa using hy0
        have q2 : ((y : Int) == 0) = false := by simpa using hy0
        have HMS : Hid (x % y < y) := Lib.hid (Nat.mod_lt _ (by omega))
        have hmb : x % y ≤ 9223372036854775807 := by have := HMS.out; omega
        have i3 : IntKind.i64.wrap ((x : Int).tmod (y : Int)) = ((x % y : Nat) : Int) := by
          have e : (x : Int).tmod (y : Int) = ((x % y : Nat) : Int) := by rw [Int.tmod_eq_emod_of_nonneg (by omega)]; rfl
          rw [e]; exact IntWalk.i64_in _ (by omega)
        have HGN : Hid (Nat.gcd y (x % y) = Nat.gcd A B) := Lib.hid (by rw [← HG.out, Nat.gcd_comm, ← Nat.gcd_rec, Nat.gcd_comm])
        go_wp2_with fail
        go_big_quiet (fail)
        have HDN : Hid (Drew w (wk.drewN nq)) := Lib.hid (HD.out.trans (Drew.mk _ _))
        generalize wk.drewN nq = wd at *
        go_wp2_with fail
        go_roundw
        case rel => exact ⟨y, x % y, rfl, rfl, hy, hmb, HGN, HDN⟩
        case measure => have := HMS.out; (simp [intOf]; try omega)
theorem rgcd_any (a b : Int) (w : World) (ha : a.natAbs ≤ 9223372036854775807) (hb : b.natAbs ≤ 9223372036854775807) :
    Calls Tryd.prog 71 #[.int .i64 a, .int .i64 b] w fun e w' => e = .returned (.int .i64 ((Nat.gcd a.natAbs b.natAbs : Nat) : Int)) ∧ Drew w w' :=
  rgcd_nat a.natAbs b.natAbs a b w ha hb (by omega) (by omega)
set_option maxHeartbeats 1000000 in
theorem rhas_any (v : Value) (l : List Int) (x : Int) (w : World) (h : Ints w v l) :
    Calls Tryd.prog 70 #[v, .int .i64 x] w fun e w' => e = .returned (.bool (decide (x ∈ l))) ∧ Drew w w' := by
  have H := Lib.hid h
  obtain ⟨a, cap, rfl, hm, -⟩ := h
  have hml : l.length ≤ 2 ^ 63 - 1 := hm
  clear hm
  go_enter Tryd.func70, Tryd.ntmps70
  go_wp2_with fail
  go_loopw [5] (fun i wr => ∃ k n : Nat, i = .int .i64 k ∧ k ≤ l.length ∧ Hid (x ∉ l.take k) ∧ wr = w.drewN n) (fun i _ => l.length - (intOf i).toNat)
  case atStart => exact ⟨0, 0, rfl, Nat.zero_le _, Lib.hid (by simp), rfl⟩
  case round =>
    obtain ⟨k, n, rfl, hk, HN, rfl⟩ := hrel
    by_cases hkb : k < l.length
    · have h3 : (k : Int) < (l.length : Int) := by omega
      have i1 : IntKind.i64.wrap ((k : Int) + 1) = (k : Int) + 1 := IntWalk.i64_in _ (by omega)
      obtain ⟨_, _, hxv, -, -, hxc⟩ := H.out
      simp only [Value.slice.injEq] at hxv
      obtain ⟨rfl, -, rfl⟩ := hxv
      obtain ⟨bx, ox, rfl, hcx⟩ := Ints.at hxc hkb
      have HT : Hid (l.take (k + 1) = l.take k ++ [l[k]?.getD 0]) := Lib.hid (by rw [List.take_add_one, List.getElem?_eq_getElem hkb]; rfl)
      have HM : Hid (l[k]?.getD 0 ∈ l) := Lib.hid (by rw [List.getElem?_eq_getElem hkb]; exact List.getElem_mem hkb)
      generalize l[k]?.getD 0 = z at *
      clear hxc
      by_cases e : z = x
      · subst e
        have q1 : (z == z) = true := by simp
        go_wp2_with fail
        go_ret
        exact ⟨ret_bool (by have := HM.out; simp [this]), Drew.mk _ _⟩
      · have q1 : (z == x) = false := by simpa using e
        have HE := Lib.hid e
        clear e
        go_wp2_with fail
        go_roundw
        case rel => exact ⟨k + 1, n, by go_num, by omega, Lib.hid (by rw [HT.out]; intro hh; rcases List.mem_append.1 hh with h1 | h1; exact HN.out h1; exact HE.out (List.mem_singleton.1 h1).symm), rfl⟩
        case measure => (simp [intOf]; try omega)
    · obtain rfl : k = l.length := by omega
      have h3 : ¬ (l.length : Int) < (l.length : Int) := by omega
      go_wp2_with fail
      go_ret
      exact ⟨ret_bool (by have := HN.out; rw [List.take_length] at this; simp [this]), Drew.mk _ _⟩
def timesL (x : Int) (l : List Int) : List Int := l.map (fun y => y * x)
theorem timesL_next {l : List Int} {k : Nat} (x : Int) (h : k < l.length) : (timesL x l).take k ++ [l[k]?.getD 0 * x] = (timesL x l).take (k + 1) := by
  rw [List.take_add_one]
  congr 1
  unfold timesL
  rw [List.getElem?_map, List.getElem?_eq_getElem h]; rfl
set_option maxHeartbeats 1000000 in
theorem rtimes_any (v : Value) (l : List Int) (x : Int) (w : World) (h : Ints w v l) (hl : l.length ≤ 1000) (hb : ∀ y ∈ l, -9223372036854775808 ≤ y * x ∧ y * x ≤ 9223372036854775807) :
    Calls Tryd.prog 80 #[v, .int .i64 x] w fun e w' => ∃ v', e = .returned v' ∧ OwnI w' w.heap.size v' (timesL x l) ∧ w.grownBy w' none := by
  have H := Lib.hid h; have HB := Lib.hid hb
  obtain ⟨a, cap, rfl, -⟩ := h
  have HG8 := Lib.hid (grown_refl w none)
  clear hb
  go_enter Tryd.func80, Tryd.ntmps80
  go_wp2_with fail
  go_loopw [6, 5] (fun i o wr => ∃ (k : Nat), i = .int .i64 k ∧ k ≤ l.length ∧ Hid (OwnI wr w.heap.size o ((timesL x l).take k)) ∧ Hid (w.grownBy wr none)) (fun i _ _ => l.length - (intOf i).toNat)
  case atStart => exact ⟨0, rfl, Nat.zero_le _, Lib.hid (by simpa using OwnI.nil _ _), HG8⟩
  case round =>
    obtain ⟨k, rfl, hk, hO, hG⟩ := hrel
    rename World => wk
    by_cases hkb : k < l.length
    · have h3 : (k : Int) < (l.length : Int) := by omega
      have i1 : IntKind.i64.wrap ((k : Int) + 1) = (k : Int) + 1 := IntWalk.i64_in _ (by omega)
      obtain ⟨_, _, hxv, -, -, hxc⟩ := H.out
      simp only [Value.slice.injEq] at hxv
      obtain ⟨rfl, -, rfl⟩ := hxv
      obtain ⟨bu, ou, rfl, hcu⟩ := Ints.at hxc hkb
      have b1 := HB.out (l[k]?.getD 0) (by rw [List.getElem?_eq_getElem hkb]; exact List.getElem_mem hkb)
      have GD := Lib.hid (grown_trans hG.out (grown_drew wk none))
      have hcu2 := GD.out.cell hcu (by simp); have hcu3 := hG.out.cell hcu (by simp)
      have HN : Hid ((timesL x l).take k ++ [l[k]?.getD 0 * x] = (timesL x l).take (k + 1)) := Lib.hid (timesL_next x hkb)
      generalize l[k]?.getD 0 = y at *
      obtain ⟨pr, hpr⟩ : ∃ p, y * x = p := ⟨_, rfl⟩
      rw [hpr] at b1 HN
      have m1 : IntKind.i64.wrap (y * x) = pr := by rw [hpr]; exact IntWalk.i64_in _ (by omega)
      have HKL : Hid (((timesL x l).take k).length ≤ 1000000000000) := Lib.hid (by have := List.length_take_le k (timesL x l); omega)
      clear hxc hcu b1 hpr
      go_wp2_with (at_builtin; refine app_int rfl _ _ rfl w.heap.size _ ((timesL x l).take k) rfl (hO.out.kept (World.grownBy_alloc _ _ none) (by simp)) wk.heap.size pr rfl (by simp) HKL.out (by have := hG.out.size; simp; omega) ?_)
      intro v' w9 ho2 hg2
      have HO9 := Lib.hid ho2; have HG9 := Lib.hid (grown_then (grown_trans hG.out (World.grownBy_alloc _ _ none)) hg2 (fun j hj => .inl (hO.out.fresh j hj).1)); clear ho2 hg2
      go_wp2_with fail
      go_roundw
      case rel => exact ⟨k + 1, by go_num, by omega, Lib.hid (by rw [← HN.out]; exact HO9.out), HG9⟩
      case measure => (simp [intOf]; try omega)
    · obtain rfl : k = l.length := by omega
      have h3 : ¬ (l.length : Int) < (l.length : Int) := by omega
      have hO2 := hO.out
      rw [List.take_of_length_le (by unfold timesL; rw [List.length_map]; exact Nat.le_refl _)] at hO2
      have HO := Lib.hid hO2
      clear hO hO2
      go_wp2_with fail
      go_ret
      exact ⟨_, rfl, HO.out, hG.out⟩
end Go.Proofs.YtpnghgihepnepaaDoor
