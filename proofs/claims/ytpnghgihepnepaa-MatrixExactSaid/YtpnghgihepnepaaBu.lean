/- What the reference's elimination reckons fits; times with whatever numbers. -/
import Derived.Test.YtpnghgihepnepaaBt
import Derived.BigRegion
namespace Go.Proofs.Ytpnghgihepnepaa
open Go.RowKit
set_option linter.unusedVariables false

theorem tdiv_small (a : Int) (g : Nat) : (a.tdiv (g : Int)).natAbs ≤ a.natAbs := by
  rw [Int.natAbs_tdiv]; exact Nat.div_le_self _ _
theorem combo_fit {c j : Nat} {T R Bt B : List Int} {f : Int} (hT : PropR T Bt) (hR : PropR R B) (hf : FitE (Bt[c]?.getD 0) f c Bt B) (hj : j < B.length) (hjc : j ≠ c) (g : Nat) :
    (-4000000000000000000 ≤ R[j]?.getD 0 * (T[c]?.getD 0).tdiv g ∧ R[j]?.getD 0 * (T[c]?.getD 0).tdiv g ≤ 4000000000000000000) ∧ (-4000000000000000000 ≤ (R[c]?.getD 0).tdiv g * T[j]?.getD 0 ∧ (R[c]?.getD 0).tdiv g * T[j]?.getD 0 ≤ 4000000000000000000) := by
  rcases hf j hj with e | ⟨h1, h2⟩
  · exact absurd e hjc
  · have a1 := hR.bd j
    have a2 := hT.bd c
    have a3 := hR.bd c
    have a4 := hT.bd j
    have b1 := tdiv_small (T[c]?.getD 0) g
    have b2 := tdiv_small (R[c]?.getD 0) g
    have c1 := Nat.mul_le_mul a1 (Nat.le_trans b1 a2)
    have c2 := Nat.mul_le_mul (Nat.le_trans b2 a3) a4
    rw [← Int.natAbs_mul, ← Int.natAbs_mul] at c1 c2
    omega
def timesW (x : Int) (l : List Int) : List Int := l.map (fun y => IntKind.i64.wrap (y * x))
theorem timesW_next {l : List Int} {k : Nat} (x : Int) (h : k < l.length) : (timesW x l).take k ++ [IntKind.i64.wrap (l[k]?.getD 0 * x)] = (timesW x l).take (k + 1) := by
  rw [List.take_add_one]
  congr 1
  unfold timesW
  rw [List.getElem?_map, List.getElem?_eq_getElem h]; rfl
set_option maxHeartbeats 1000000 in
theorem rtimesW_any (v : Value) (l : List Int) (x : Int) (w : World) (h : Ints w v l) (hl : l.length ≤ 1000) :
    Calls Try.prog 41 #[v, .int .i64 x] w fun e w' => ∃ v', e = .returned v' ∧ OwnI w' w.heap.size v' (timesW x l) ∧ w.grownBy w' none := by
  have H := Lib.hid h
  obtain ⟨a, cap, rfl, -⟩ := h
  have HG8 := Lib.hid (grown_refl w none)
  go_enter Try.func41, Try.ntmps41
  go_wp2_with fail
  go_loopw [6, 5] (fun i o wr => ∃ (k : Nat), i = .int .i64 k ∧ k ≤ l.length ∧ Hid (OwnI wr w.heap.size o ((timesW x l).take k)) ∧ Hid (w.grownBy wr none)) (fun i _ _ => l.length - (intOf i).toNat)
  case atStart => exact ⟨0, rfl, Nat.zero_le _, Lib.hid (by simpa using OwnI.nil _ _), HG8⟩
  case round =>
    obtain ⟨k, rfl, hk, hO, hG⟩ := hrel
    rename World => wk
    by_cases hkb : k < l.length
    · have h3 : (k : Int) < (l.length : Int) := by omega
      have i1 : IntKind.i64.wrap ((k : Int) + 1) = (k : Int) + 1 := IntWalk.i64_in _ (by omega)
      obtain ⟨_, _, hxv, -, -, hxc⟩ := H.out
      simp only [Value.slice.injEq] at hxv
      obtain ⟨rfl, -, rfl⟩ := hxv
      obtain ⟨bu, ou, rfl, hcu⟩ := Ints.at hxc hkb
      have hcu3 := hG.out.cell hcu (by simp)
      have HN : Hid ((timesW x l).take k ++ [IntKind.i64.wrap (l[k]?.getD 0 * x)] = (timesW x l).take (k + 1)) := Lib.hid (timesW_next x hkb)
      generalize l[k]?.getD 0 = y at *
      obtain ⟨pr, hpr⟩ : ∃ p, IntKind.i64.wrap (y * x) = p := ⟨_, rfl⟩
      rw [hpr] at HN
      have HKL : Hid (((timesW x l).take k).length ≤ 1000000000000) := Lib.hid (by have := List.length_take_le k (timesW x l); omega)
      clear hxc hcu
      go_wp2_with (at_builtin; refine app_int rfl _ _ rfl w.heap.size _ ((timesW x l).take k) rfl (hO.out.kept (World.grownBy_alloc _ _ none) (by simp)) wk.heap.size pr rfl (by simp) HKL.out (by have := hG.out.size; simp; omega) ?_)
      intro v' w9 ho2 hg2
      have HO9 := Lib.hid ho2; have HG9 := Lib.hid (grown_then (grown_trans hG.out (World.grownBy_alloc _ _ none)) hg2 (fun j hj => .inl (hO.out.fresh j hj).1)); clear ho2 hg2
      go_wp2_with fail
      go_roundw
      case rel => exact ⟨k + 1, by go_num, by omega, Lib.hid (by rw [← HN.out]; exact HO9.out), HG9⟩
      case measure => (simp [intOf]; try omega)
    · obtain rfl : k = l.length := by omega
      have h3 : ¬ (l.length : Int) < (l.length : Int) := by omega
      have hO2 := hO.out
      rw [List.take_of_length_le (by unfold timesW; rw [List.length_map]; exact Nat.le_refl _)] at hO2
      have HO := Lib.hid hO2
      clear hO hO2
      go_wp2_with fail
      go_ret
      exact ⟨_, rfl, HO.out, hG.out⟩
/-- The row under way in the elimination, subtracted up to place k. -/
def SubR (c : Nat) (x y : Int) (row top : List Int) (k : Nat) (L : List Int) : Prop := L.length = row.length ∧ ∀ j, j < row.length → L[j]?.getD 0 = if j < k then row[j]?.getD 0 * x - y * top[j]?.getD 0 else IntKind.i64.wrap (row[j]?.getD 0 * x)
theorem SubR.start (c : Nat) (x y : Int) (row top : List Int) : SubR c x y row top 0 (timesW x row) := ⟨by unfold timesW; rw [List.length_map], fun j hj => by
  rw [if_neg (by omega)]
  unfold timesW
  rw [List.getElem?_map, List.getElem?_eq_getElem hj]; rfl⟩
theorem SubR.put {c : Nat} {x y : Int} {row top L : List Int} {k : Nat} (h : SubR c x y row top k L) (hk : k < row.length) : SubR c x y row top (k + 1) (L.set k (row[k]?.getD 0 * x - y * top[k]?.getD 0)) := by
  refine ⟨by rw [List.length_set]; exact h.1, fun j hj => ?_⟩
  rw [List.getElem?_set]
  by_cases e : k = j
  · subst e
    rw [if_pos rfl, if_pos (by rw [h.1]; exact hk), if_pos (by omega)]; rfl
  · rw [if_neg e, h.2 j hj]
    by_cases e2 : j < k
    · rw [if_pos e2, if_pos (by omega)]
    · rw [if_neg e2, if_neg (by omega)]
theorem SubR.full {c : Nat} {x y : Int} {row top L : List Int} (h : SubR c x y row top row.length L) (hl : row.length = top.length) : L = comboL x y row top := by
  have hcl : (comboL x y row top).length = row.length := by unfold comboL; rw [List.length_zipWith]; omega
  apply List.ext_getElem (by rw [h.1, hcl])
  intro j h1 h2
  have hj : j < row.length := by rw [← h.1]; exact h1
  have h3 := h.2 j hj
  rw [if_pos hj, ← comboL_at hl j, List.getElem?_eq_getElem h1, List.getElem?_eq_getElem h2] at h3
  exact h3
/-- What is reckoned at one place, whatever fits. -/
theorem sub_wrap {c j : Nat} {T R Bt B : List Int} {f : Int} (hT : PropR T Bt) (hR : PropR R B) (hf : FitE (Bt[c]?.getD 0) f c Bt B) (hj : j < B.length) {g : Nat} (hg : g = Nat.gcd (T[c]?.getD 0).natAbs (R[c]?.getD 0).natAbs) (h0 : R[c]?.getD 0 ≠ 0) :
    IntKind.i64.wrap (IntKind.i64.wrap (R[j]?.getD 0 * (T[c]?.getD 0).tdiv g) - IntKind.i64.wrap ((R[c]?.getD 0).tdiv g * T[j]?.getD 0)) = R[j]?.getD 0 * (T[c]?.getD 0).tdiv g - (R[c]?.getD 0).tdiv g * T[j]?.getD 0 := by
  by_cases hjc : j = c
  · subst hjc
    obtain ⟨g', hg0, hge, hx, hy⟩ := gcd_parts (T[j]?.getD 0) (R[j]?.getD 0) h0
    rw [← hg] at hge
    subst hge
    have e : R[j]?.getD 0 * (T[j]?.getD 0).tdiv (g : Int) = (R[j]?.getD 0).tdiv (g : Int) * T[j]?.getD 0 := by
      generalize (T[j]?.getD 0).tdiv (g : Int) = x at *
      generalize (R[j]?.getD 0).tdiv (g : Int) = y at *
      rw [← hx, ← hy]
      grind
    rw [e, Int.sub_self, Int.sub_self]; rfl
  · obtain ⟨⟨a1, a2⟩, a3, a4⟩ := combo_fit hT hR hf hj hjc g
    have w1 : IntKind.i64.wrap (R[j]?.getD 0 * (T[c]?.getD 0).tdiv g) = R[j]?.getD 0 * (T[c]?.getD 0).tdiv g := IntWalk.i64_in _ (by omega)
    have w2 : IntKind.i64.wrap ((R[c]?.getD 0).tdiv g * T[j]?.getD 0) = (R[c]?.getD 0).tdiv g * T[j]?.getD 0 := IntWalk.i64_in _ (by omega)
    rw [w1, w2]
    exact IntWalk.i64_in _ (by omega)
end Go.Proofs.Ytpnghgihepnepaa
