/- Texts Cb in one. -/
import Derived.Test.YtpnghgihepnepaaDoorU11
namespace Go.Proofs.YtpnghgihepnepaaDoor
open Go.RowKit
set_option linter.unusedVariables false
open Bar
def idxs (I : Nat → Bool) (n : Nat) : List Nat := (List.range n).filter I
theorem idxs_lt {I : Nat → Bool} {n i : Nat} (h : i ∈ idxs I n) : i < n ∧ I i = true := by
  unfold idxs at h
  rw [List.mem_filter] at h
  exact ⟨by simpa using h.1, h.2⟩
theorem idxs_mem {I : Nat → Bool} {n i : Nat} (h : i < n) (hI : I i = true) : i ∈ idxs I n := by
  unfold idxs; rw [List.mem_filter]; exact ⟨by simpa using h, hI⟩
theorem idxs_nodup (I : Nat → Bool) (n : Nat) : (idxs I n).Nodup := List.Pairwise.filter _ List.nodup_range
theorem idxs_succ (I : Nat → Bool) (n : Nat) : idxs I (n + 1) = idxs I n ++ (if I n then [n] else []) := by
  unfold idxs
  rw [List.range_succ, List.filter_append]
  congr 1
  rw [List.filter_cons]
  split <;> simp
theorem sum_idxs (I : Nat → Bool) (f : Nat → Int) : ∀ n, (∀ i, i < n → I i = false → f i = 0) → sumN n f = sumN (idxs I n).length (fun s => f ((idxs I n)[s]?.getD 0))
  | 0, _ => rfl
  | n + 1, h => by
    have ih := sum_idxs I f n (fun i hi => h i (by omega))
    show f n + sumN n f = _
    rw [ih, idxs_succ]
    cases hI : I n with
    | false => rw [h n (by omega) hI]; simp
    | true =>
      simp only [if_true, List.length_append, List.length_cons, List.length_nil]
      show _ = f (((idxs I n ++ [n])[(idxs I n).length]?).getD 0) + sumN (idxs I n).length _
      rw [List.getElem?_append_right (Nat.le_refl _), Nat.sub_self]
      simp only [List.getElem?_cons_zero, Option.getD_some]
      congr 1
      refine sumN_congr (fun s hs => ?_)
      rw [List.getElem?_append_left hs]
def spr (L : List Nat) (v : List Int) (n : Nat) : Nat → List Int
  | 0 => List.replicate n 0
  | t + 1 => (spr L v n t).set (L[t]?.getD 0) (v[t]?.getD 0)
theorem spr_len (L : List Nat) (v : List Int) (n : Nat) : ∀ t, (spr L v n t).length = n
  | 0 => by simp [spr]
  | t + 1 => by show ((spr L v n t).set _ _).length = n; rw [List.length_set, spr_len]
theorem nd_inj {L : List Nat} (h : L.Nodup) {a b : Nat} (ha : a < L.length) (hb : b < L.length) (e : L[a]?.getD 0 = L[b]?.getD 0) : a = b := by
  rw [List.getElem?_eq_getElem ha, List.getElem?_eq_getElem hb] at e
  exact (List.getElem_inj h).1 e
theorem spr_off {L : List Nat} {v : List Int} {n : Nat} {i : Nat} : ∀ t, t ≤ L.length → (∀ s, s < t → L[s]?.getD 0 ≠ i) → (spr L v n t)[i]?.getD 0 = 0
  | 0, _, _ => by show ((List.replicate n 0)[i]?).getD 0 = 0; rw [List.getElem?_replicate]; split <;> rfl
  | t + 1, ht, h => by
    show ((spr L v n t).set _ _)[i]?.getD 0 = 0
    rw [List.getElem?_set, if_neg (h t (by omega))]
    exact spr_off t (by omega) (fun s hs => h s (by omega))
theorem spr_on {L : List Nat} {v : List Int} {n : Nat} (hL : L.Nodup) (hn : ∀ i ∈ L, i < n) {s : Nat} : ∀ t, t ≤ L.length → s < t → (spr L v n t)[L[s]?.getD 0]?.getD 0 = v[s]?.getD 0
  | 0, _, h => by omega
  | t + 1, ht, h => by
    show ((spr L v n t).set _ _)[_]?.getD 0 = _
    rw [List.getElem?_set]
    by_cases e : s = t
    · subst e
      have : L[s]?.getD 0 < n := by rw [List.getElem?_eq_getElem (by omega)]; exact hn _ (List.getElem_mem _)
      rw [if_pos rfl, if_pos (by rw [spr_len]; exact this)]; rfl
    · rw [if_neg (fun e' => e (nd_inj hL (by omega) (by omega) e'.symm))]
      exact spr_on hL hn t (by omega) (by omega)
theorem spr_dot {L : List Nat} {v : List Int} {n : Nat} (hL : L.Nodup) (hn : ∀ i ∈ L, i < n) {r : List Int} (hr : r.length = n) : ∀ t, t ≤ L.length → dotL r (spr L v n t) = sumN t (fun s => r[L[s]?.getD 0]?.getD 0 * v[s]?.getD 0)
  | 0, _ => by show dotL r (List.replicate n 0) = 0; exact dot_zero r n
  | t + 1, ht => by
    have hlt : L[t]?.getD 0 < n := by rw [List.getElem?_eq_getElem (by omega)]; exact hn _ (List.getElem_mem _)
    show dotL r ((spr L v n t).set _ _) = r[L[t]?.getD 0]?.getD 0 * v[t]?.getD 0 + sumN t _
    rw [dot_set _ _ _ _ (by omega) (by rw [spr_len]; exact hlt), spr_dot hL hn hr t (by omega), spr_off t (by omega) (fun s hs e => by have := nd_inj hL (by omega) (by omega) e; omega)]
    grind
/-- The rows of a support, turned. -/
def colsOf (C : List (List Int)) (r : Nat) (L : List Nat) : List (List Int) := (List.range r).map (fun j => L.map (fun i => (C[i]?.getD [])[j]?.getD 0))
theorem colI_at {C : List (List Int)} {i : Nat} (j : Nat) (hi : i < C.length) : (colI C j)[i]?.getD 0 = (C[i]?.getD [])[j]?.getD 0 := by
  unfold colI; rw [List.getElem?_map, List.getElem?_eq_getElem hi]; rfl
theorem colI_len (C : List (List Int)) (j : Nat) : (colI C j).length = C.length := by unfold colI; rw [List.length_map]
theorem dot_comm' : ∀ (a b : List Int), dotL a b = dotL b a
  | [], [] => rfl
  | [], _ :: _ => rfl
  | _ :: _, [] => rfl
  | x :: a, y :: b => by
    show x * y + dotL a b = y * x + dotL b a
    rw [dot_comm' a b, Int.mul_comm]
theorem dot_all {a b : List Int} {n : Nat} (ha : a.length = n) (hb : b.length = n) : dotL a b = sumN n (fun i => a[i]?.getD 0 * b[i]?.getD 0) := by
  have := dot_sum a b n (by omega) (by omega)
  rw [List.take_of_length_le (by omega), List.take_of_length_le (by omega)] at this
  exact this
theorem colsOf_row {C : List (List Int)} {r : Nat} {L : List Nat} {q : List Int} (h : q ∈ colsOf C r L) : ∃ j, j < r ∧ q = L.map (fun i => (C[i]?.getD [])[j]?.getD 0) := by
  unfold colsOf at h
  obtain ⟨j, hj, rfl⟩ := List.mem_map.1 h
  exact ⟨j, by simpa using hj, rfl⟩
theorem colsOf_mem (C : List (List Int)) {r : Nat} (L : List Nat) {j : Nat} (h : j < r) : L.map (fun i => (C[i]?.getD [])[j]?.getD 0) ∈ colsOf C r L := List.mem_map.2 ⟨j, by simpa using h, rfl⟩
theorem colsOf_wide {C : List (List Int)} {r : Nat} {L : List Nat} : ∀ q ∈ colsOf C r L, q.length = L.length := by
  intro q hq
  obtain ⟨j, -, rfl⟩ := colsOf_row hq
  simp
/-- A vector of the kernel, spread, is a flow. -/
theorem spr_flow {C : List (List Int)} {r : Nat} {I : Nat → Bool} {v : List Int} (hv : v.length = (idxs I C.length).length) (hk : ∀ q ∈ colsOf C r (idxs I C.length), dotL q v = 0) : Flow C r (spr (idxs I C.length) v C.length (idxs I C.length).length) := by
  refine ⟨spr_len _ _ _ _, fun j hj => ?_⟩
  rw [dot_comm', spr_dot (idxs_nodup _ _) (fun i hi => (idxs_lt hi).1) (colI_len C j) _ (Nat.le_refl _)]
  have h1 := hk _ (colsOf_mem C (idxs I C.length) hj)
  rw [dot_all (n := (idxs I C.length).length) (by simp) hv] at h1
  refine Eq.trans (sumN_congr (fun s hs => ?_)) h1
  congr 1
  rw [List.getElem?_map, List.getElem?_eq_getElem hs]
  show (colI C j)[(idxs I C.length)[s]]?.getD 0 = (C[(idxs I C.length)[s]]?.getD [])[j]?.getD 0
  exact colI_at j (idxs_lt (List.getElem_mem hs)).1
def rst (L : List Nat) (x : List Int) : List Int := L.map (fun i => x[i]?.getD 0)
theorem rst_at {L : List Nat} {x : List Int} {s : Nat} (hs : s < L.length) : (rst L x)[s]?.getD 0 = x[L[s]]?.getD 0 := by
  unfold rst; rw [List.getElem?_map, List.getElem?_eq_getElem hs]; rfl
/-- A flow within a support, restricted to it, is in the kernel. -/
theorem rst_ker {C : List (List Int)} {r : Nat} {I : Nat → Bool} {x : List Int} (hx : Flow C r x) (ho : ∀ i, i < C.length → I i = false → x[i]?.getD 0 = 0) : ∀ q ∈ colsOf C r (idxs I C.length), dotL q (rst (idxs I C.length) x) = 0 := by
  intro q hq
  obtain ⟨j, hj, rfl⟩ := colsOf_row hq
  have h1 := hx.2 j hj
  rw [dot_all (n := C.length) hx.1 (colI_len C j), sum_idxs I _ C.length (fun i hi hI => by rw [ho i hi hI]; simp)] at h1
  rw [dot_all (n := (idxs I C.length).length) (by simp) (by unfold rst; simp)]
  refine Eq.trans (sumN_congr (fun s hs => ?_)) h1
  rw [rst_at hs, List.getElem?_map, List.getElem?_eq_getElem hs]
  show (C[(idxs I C.length)[s]]?.getD [])[j]?.getD 0 * x[(idxs I C.length)[s]]?.getD 0 = x[(idxs I C.length)[s]]?.getD 0 * (colI C j)[(idxs I C.length)[s]]?.getD 0
  rw [colI_at j (idxs_lt (List.getElem_mem hs)).1, Int.mul_comm]
theorem idx_of {I : Nat → Bool} {n i : Nat} (h : i < n) (hI : I i = true) : ∃ s, ∃ hs : s < (idxs I n).length, (idxs I n)[s] = i := by
  obtain ⟨s, hs, e⟩ := List.getElem_of_mem (idxs_mem h hI)
  exact ⟨s, hs, e⟩
/-- What the only vector of a kernel gives. -/
theorem at_of_one {C : List (List Int)} {r : Nat} {I : Nat → Bool} {s : RSt} {os : List (List Int)} {c : Nat → Nat} (h : BInv (colsOf C r (idxs I C.length)) (idxs I C.length).length (idxs I C.length).length s os c) {v : List Int}
    (h1 : kerOf s (idxs I C.length).length = [v]) (hp : ∀ t, t < (idxs I C.length).length → 0 < v[t]?.getD 0) : FlowAt C r I (spr (idxs I C.length) v C.length (idxs I C.length).length) := by
  have hv := ker_vec h colsOf_wide v (by rw [h1]; simp)
  obtain ⟨col, hcol, hc0, hone⟩ := ker_one h colsOf_wide h1
  have hon := fun s (hs : s < (idxs I C.length).length) => spr_on (v := v) (idxs_nodup I C.length) (fun i hi => (idxs_lt hi).1) (s := s) _ (Nat.le_refl _) hs
  have hat : ∀ i, i < C.length → I i = true → ∃ s, ∃ hs : s < (idxs I C.length).length, (idxs I C.length)[s] = i ∧ (spr (idxs I C.length) v C.length (idxs I C.length).length)[i]?.getD 0 = v[s]?.getD 0 := fun i hi hI => by
    obtain ⟨s, hs, e⟩ := idx_of hi hI
    refine ⟨s, hs, e, ?_⟩
    have := hon s hs
    rw [List.getElem?_eq_getElem hs] at this
    simp only [Option.getD_some] at this
    rw [e] at this; exact this
  have hoff : ∀ i, i < C.length → I i = false → (spr (idxs I C.length) v C.length (idxs I C.length).length)[i]?.getD 0 = 0 := fun i hi hI => spr_off _ (Nat.le_refl _) (fun s hs e => by
    rw [List.getElem?_eq_getElem hs] at e
    have := (idxs_lt (List.getElem_mem hs)).2
    simp only [Option.getD_some] at e
    rw [e, hI] at this; cases this)
  refine ⟨spr_flow hv.len hv.kills, fun i hi hI => ?_, hoff, ?_, fun x hx ho a b ha hb => ?_⟩
  · obtain ⟨s, hs, -, e⟩ := hat i hi hI
    rw [e]; exact hp s hs
  · refine Nat.dvd_antisymm ?_ (Nat.one_dvd _)
    rw [← hv.prim, gcdF_dvd]
    refine ⟨Nat.dvd_zero _, fun x hx => ?_⟩
    obtain ⟨t, ht, rfl⟩ := List.getElem_of_mem hx
    have ht2 : t < (idxs I C.length).length := by rw [← hv.len]; exact ht
    have e := hon t ht2
    have hlt : (idxs I C.length)[t] < C.length := (idxs_lt (List.getElem_mem ht2)).1
    rw [List.getElem?_eq_getElem ht2, List.getElem?_eq_getElem ht] at e
    simp only [Option.getD_some] at e
    rw [List.getElem?_eq_getElem (by rw [spr_len]; exact hlt)] at e
    simp only [Option.getD_some] at e
    rw [← e]
    exact ((gcdF_dvd _ _ 0).1 (Nat.dvd_refl _)).2 _ (List.getElem_mem _)
  · have hk := rst_ker hx ho
    have hl : (rst (idxs I C.length) x).length = (idxs I C.length).length := by unfold rst; simp
    have h3 := hone _ hl hk
    -- x is a multiple
    have key : ∀ a, a < C.length → x[a]?.getD 0 * v[col]?.getD 0 = x[(idxs I C.length)[col]]?.getD 0 * (spr (idxs I C.length) v C.length (idxs I C.length).length)[a]?.getD 0 := fun a ha => by
      cases hI : I a with
      | false => rw [ho a ha hI, hoff a ha hI]; simp
      | true =>
        obtain ⟨s, hs, e1, e2⟩ := hat a ha hI
        have := h3 s hs
        rw [rst_at hs, rst_at hcol, e1] at this
        rw [e2]; exact this
    have ka := key a ha
    have kb := key b hb
    generalize (spr (idxs I C.length) v C.length (idxs I C.length).length)[a]?.getD 0 = ya at *
    generalize (spr (idxs I C.length) v C.length (idxs I C.length).length)[b]?.getD 0 = yb at *
    generalize x[a]?.getD 0 = xa at *
    generalize x[b]?.getD 0 = xb at *
    generalize x[(idxs I C.length)[col]]?.getD 0 = k at *
    generalize v[col]?.getD 0 = d at *
    have : d * (xa * yb - xb * ya) = 0 := by grind
    rcases Int.mul_eq_zero.1 this with h4 | h4 <;> omega
theorem no_at {C : List (List Int)} {r : Nat} {I : Nat → Bool} {s : RSt} {os : List (List Int)} {c : Nat → Nat} (h : BInv (colsOf C r (idxs I C.length)) (idxs I C.length).length (idxs I C.length).length s os c)
    (h0 : 0 < (idxs I C.length).length) (hb : ∀ v, kerOf s (idxs I C.length).length = [v] → ∃ t, t < (idxs I C.length).length ∧ v[t]?.getD 0 ≤ 0) (y : List Int) : ¬ FlowAt C r I y := by
  intro hy
  have hk := rst_ker hy.flow hy.out
  have hl : (rst (idxs I C.length) y).length = (idxs I C.length).length := by unfold rst; simp
  have hpos : ∀ s (hs : s < (idxs I C.length).length), 0 < y[(idxs I C.length)[s]]?.getD 0 := fun s hs => hy.on _ (idxs_lt (List.getElem_mem hs)).1 (idxs_lt (List.getElem_mem hs)).2
  -- a vector of the kernel, spread, is a multiple of y
  have mult : ∀ v : List Int, v.length = (idxs I C.length).length → (∀ q ∈ colsOf C r (idxs I C.length), dotL q v = 0) → ∀ a b (ha : a < (idxs I C.length).length) (hb : b < (idxs I C.length).length), v[a]?.getD 0 * y[(idxs I C.length)[b]]?.getD 0 = v[b]?.getD 0 * y[(idxs I C.length)[a]]?.getD 0 := by
    intro v hvl hvk a b ha hb
    have hf := spr_flow hvl hvk
    have hon := fun s (hs : s < (idxs I C.length).length) => spr_on (v := v) (idxs_nodup I C.length) (fun i hi => (idxs_lt hi).1) (s := s) _ (Nat.le_refl _) hs
    have := hy.only _ hf (fun i hi hI => spr_off _ (Nat.le_refl _) (fun s hs e => by
      rw [List.getElem?_eq_getElem hs] at e
      have := (idxs_lt (List.getElem_mem hs)).2
      simp only [Option.getD_some] at e
      rw [e, hI] at this; cases this)) _ _ (idxs_lt (List.getElem_mem ha)).1 (idxs_lt (List.getElem_mem hb)).1
    have ea := hon a ha
    have eb := hon b hb
    rw [List.getElem?_eq_getElem ha] at ea
    rw [List.getElem?_eq_getElem hb] at eb
    simp only [Option.getD_some] at ea eb
    rw [ea, eb] at this; exact this
  match hL : kerOf s (idxs I C.length).length with
  | [] =>
    have := ker_none h colsOf_wide hL hl hk 0 h0
    rw [rst_at h0] at this
    have := hpos 0 h0
    omega
  | [v] =>
    obtain ⟨t, ht, hvt⟩ := hb v hL
    have hv := ker_vec h colsOf_wide v (by rw [hL]; simp)
    obtain ⟨col, hcol, hc0, -⟩ := ker_one h colsOf_wide hL
    have hm := mult v hv.len hv.kills col t hcol ht
    have h1 := hpos t ht
    have h2 := hpos col hcol
    have h3 : 0 < v[col]?.getD 0 * y[(idxs I C.length)[t]]?.getD 0 := Int.mul_pos hc0 h1
    have h4 : v[t]?.getD 0 * y[(idxs I C.length)[col]]?.getD 0 ≤ 0 := Int.mul_nonpos_of_nonpos_of_nonneg hvt (by omega)
    omega
  | u :: w :: t =>
    obtain ⟨v, hvl, hvk, a, b, ha, hb', hva, hvb⟩ := ker_many h colsOf_wide (by rw [hL]; simp)
    have hm := mult v hvl hvk a b ha hb'
    rw [hvb, Int.zero_mul] at hm
    have h1 := hpos b hb'
    rcases Int.mul_eq_zero.1 hm with h2 | h2
    · exact hva h2
    · omega
/-! ### The least supports -/
/-- Within another support, it is the same. -/
theorem at_within {C : List (List Int)} {r : Nat} {I I' : Nat → Bool} {x y : List Int} (hx : FlowAt C r I x) (hy : FlowAt C r I' y) (h0 : ∃ i, i < C.length ∧ I i = true) (hw : ∀ i, i < C.length → I i = true → I' i = true) : ∀ i, i < C.length → I i = I' i := by
  intro i hi
  cases hI : I i with
  | true => exact (hw i hi hI).symm
  | false =>
    cases hI' : I' i with
    | false => rfl
    | true =>
      exfalso
      obtain ⟨a, ha, hIa⟩ := h0
      have := hy.only x hx.flow (fun j hj h => hx.out j hj (by
        cases e : I j with
        | false => rfl
        | true => rw [hw j hj e] at h; cases h)) a i ha hi
      rw [hx.out i hi hI, Int.zero_mul] at this
      have h1 := hx.on a ha hIa
      have h2 := hy.on i hi hI'
      have := Int.mul_pos h1 h2
      omega
theorem flow_lin {C : List (List Int)} {r : Nat} {x y : List Int} (hx : Flow C r x) (hy : Flow C r y) (a b : Int) : ∃ z : List Int, Flow C r z ∧ ∀ i : Nat, z[i]?.getD 0 = a * x[i]?.getD 0 + b * y[i]?.getD 0 := by
  have hxl := hx.1
  have hyl := hy.1
  have hat : ∀ i, (List.zipWith (fun u v => a * u + b * v) x y)[i]?.getD 0 = a * x[i]?.getD 0 + b * y[i]?.getD 0 := fun i => by
    rw [List.getElem?_zipWith]
    by_cases h : i < C.length
    · rw [List.getElem?_eq_getElem (show i < x.length by omega), List.getElem?_eq_getElem (show i < y.length by omega)]; rfl
    · rw [List.getElem?_eq_none (show x.length ≤ i by omega), List.getElem?_eq_none (show y.length ≤ i by omega)]; simp
  refine ⟨_, ⟨by rw [List.length_zipWith]; omega, fun j hj => ?_⟩, hat⟩
  rw [dot_all (n := C.length) (by rw [List.length_zipWith]; omega) (colI_len C j)]
  have h1 := hx.2 j hj
  have h2 := hy.2 j hj
  rw [dot_all (n := C.length) hxl (colI_len C j)] at h1
  rw [dot_all (n := C.length) hyl (colI_len C j)] at h2
  have h3 := sumN_lin a b (fun i => x[i]?.getD 0 * (colI C j)[i]?.getD 0) (fun i => y[i]?.getD 0 * (colI C j)[i]?.getD 0) C.length
  rw [h1, h2] at h3
  rw [sumN_congr (g := fun i => a * (x[i]?.getD 0 * (colI C j)[i]?.getD 0) + b * (y[i]?.getD 0 * (colI C j)[i]?.getD 0)) (fun i hi => by rw [hat]; grind), h3]
  omega
theorem arg_min (t y : Nat → Int) (hy : ∀ i, 0 ≤ y i) : ∀ n, (∃ i, i < n ∧ 0 < t i) → ∃ i, i < n ∧ 0 < t i ∧ ∀ j, j < n → 0 < t j → y i * t j ≤ y j * t i
  | 0, h => by obtain ⟨i, hi, -⟩ := h; omega
  | n + 1, h => by
    by_cases hp : ∃ i, i < n ∧ 0 < t i
    · obtain ⟨i, hi, hti, hm⟩ := arg_min t y hy n hp
      by_cases hn : 0 < t n ∧ y n * t i < y i * t n
      · refine ⟨n, by omega, hn.1, fun j hj htj => ?_⟩
        by_cases e : j = n
        · subst e; omega
        · have h1 := hm j (by omega) htj
          have h2 : (y i * t j) * t n ≤ (y j * t i) * t n := Int.mul_le_mul_of_nonneg_right h1 (by omega)
          have h3 : (y n * t i) * t j ≤ (y i * t n) * t j := Int.mul_le_mul_of_nonneg_right (by omega) (by omega)
          have h4 : (y n * t j) * t i ≤ (y j * t n) * t i := by grind
          exact Int.le_of_mul_le_mul_right h4 hti
      · refine ⟨i, by omega, hti, fun j hj htj => ?_⟩
        by_cases e : j = n
        · subst e
          by_cases h5 : y j * t i < y i * t j
          · exact absurd ⟨htj, h5⟩ hn
          · omega
        · exact hm j (by omega) htj
    · obtain ⟨i, hi, hti⟩ := h
      have : i = n := by
        by_cases e : i = n
        · exact e
        · exact absurd ⟨i, by omega, hti⟩ hp
      subst this
      refine ⟨i, by omega, hti, fun j hj htj => ?_⟩
      by_cases e : j = i
      · subst e; exact Int.le_refl _
      · exact absurd ⟨j, by omega, htj⟩ hp
def supp (y : List Int) (i : Nat) : Bool := decide (0 < y[i]?.getD 0)
def suppN (y : List Int) (n : Nat) : Nat := ((List.range n).filter (supp y)).length
theorem filter_less {α : Type} {p q : α → Bool} {a : α} : ∀ {l : List α}, (∀ x ∈ l, p x = true → q x = true) → a ∈ l → p a = false → q a = true → (l.filter p).length < (l.filter q).length
  | [], _, h, _, _ => by simp at h
  | x :: l, hpq, ha, hpa, hqa => by
    have hle : ∀ {l : List α}, (∀ x ∈ l, p x = true → q x = true) → (l.filter p).length ≤ (l.filter q).length := by
      intro l
      induction l with
      | nil => intro _; exact Nat.le_refl _
      | cons y l ih =>
        intro h
        have := ih (fun x hx => h x (by simp [hx]))
        rw [List.filter_cons, List.filter_cons]
        have hy := h y (by simp)
        cases e1 : p y <;> cases e2 : q y <;> simp_all <;> omega
    rw [List.filter_cons, List.filter_cons]
    rcases List.mem_cons.1 ha with rfl | ha
    · rw [hpa, hqa]
      have := hle (l := l) (fun x hx => hpq x (by simp [hx]))
      simp; omega
    · have := filter_less (l := l) (fun x hx => hpq x (by simp [hx])) ha hpa hqa
      have hx := hpq x (by simp)
      cases e1 : p x <;> cases e2 : q x <;> simp_all <;> omega
/-- Every semiflow has a least one within its support. -/
theorem least_within {C : List (List Int)} {r : Nat} : ∀ (k : Nat) (y : List Int), suppN y C.length ≤ k → Flow C r y → (∀ i : Nat, 0 ≤ y[i]?.getD 0) → (∃ i, i < C.length ∧ 0 < y[i]?.getD 0) →
    ∃ (I : Nat → Bool) (y' : List Int), FlowAt C r I y' ∧ (∀ i, i < C.length → I i = true → 0 < y[i]?.getD 0) ∧ ∃ i, i < C.length ∧ I i = true := by
  intro k
  induction k with
  | zero =>
    intro y hk hy hp h0
    obtain ⟨i, hi, hi0⟩ := h0
    have : i ∈ (List.range C.length).filter (supp y) := by rw [List.mem_filter]; exact ⟨by simpa using hi, by unfold supp; simpa using hi0⟩
    have := List.length_pos_of_mem this
    unfold suppN at hk
    omega
  | succ k ih =>
    intro y hk hy hp h0
    by_cases hall : ∀ x : List Int, Flow C r x → (∀ i, i < C.length → supp y i = false → x[i]?.getD 0 = 0) → ∀ a b, a < C.length → b < C.length → x[a]?.getD 0 * y[b]?.getD 0 = x[b]?.getD 0 * y[a]?.getD 0
    · -- y itself, divided
      obtain ⟨i0, hi0, hy0⟩ := h0
      have hg0 : gcdF 0 y ≠ 0 := by
        intro e
        have := ((gcdF_dvd 0 y 0).1 (by rw [e]; exact Nat.dvd_refl 0)).2 _ (List.getElem_mem (show i0 < y.length by rw [hy.1]; exact hi0))
        rw [List.getElem?_eq_getElem (show i0 < y.length by rw [hy.1]; exact hi0)] at hy0
        simp only [Option.getD_some] at hy0
        have := Nat.eq_zero_of_zero_dvd this
        omega
      obtain ⟨g, hg⟩ : ∃ g : Int, g = (gcdF 0 y : Int) := ⟨_, rfl⟩
      have hgp : 0 < g := by omega
      have hdiv : ∀ x ∈ y, x.tdiv g * g = x := fun x hx => by
        refine Int.tdiv_mul_cancel ?_
        rw [← Int.natAbs_dvd_natAbs, hg, Int.natAbs_natCast]
        exact ((gcdF_dvd _ _ 0).1 (Nat.dvd_refl _)).2 x hx
      have hat : ∀ i, (y.map (fun x => x.tdiv g))[i]?.getD 0 * g = y[i]?.getD 0 := fun i => by
        rw [List.getElem?_map]
        cases hi : y[i]? with
        | none => simp
        | some x => exact hdiv x (List.mem_of_getElem? hi)
      have hback : (y.map (fun x => x.tdiv g)).map (fun x => x * g) = y := by
        rw [List.map_map]
        conv => rhs; rw [← List.map_id y]
        exact List.map_congr_left (fun x hx => hdiv x hx)
      refine ⟨supp y, y.map (fun x => x.tdiv g), ⟨⟨by rw [List.length_map]; exact hy.1, fun j hj => ?_⟩, fun i hi hI => ?_, fun i hi hI => ?_, ?_, fun x hx ho a b ha hb => ?_⟩, fun i hi hI => by unfold supp at hI; simpa using hI, i0, hi0, by unfold supp; simpa using hy0⟩
      · have h1 := dot_mul g (colI C j) (y.map (fun x => x.tdiv g))
        rw [hback, dot_comm', hy.2 j hj] at h1
        rw [dot_comm']
        rcases Int.mul_eq_zero.1 h1.symm with h2 | h2 <;> omega
      · have h1 : 0 < y[i]?.getD 0 := by unfold supp at hI; simpa using hI
        rw [← hat i] at h1
        by_cases h2 : 0 < (y.map (fun x => x.tdiv g))[i]?.getD 0
        · exact h2
        · have := Int.mul_nonpos_of_nonpos_of_nonneg (show (y.map (fun x => x.tdiv g))[i]?.getD 0 ≤ 0 by omega) (show 0 ≤ g by omega)
          omega
      · have h1 : ¬ 0 < y[i]?.getD 0 := by unfold supp at hI; simpa using hI
        have h2 := hp i
        have h3 : (y.map (fun x => x.tdiv g))[i]?.getD 0 * g = 0 := by rw [hat i]; omega
        rcases Int.mul_eq_zero.1 h3 with h4 | h4 <;> omega
      · have h1 := gcdF_scale g (y.map (fun x => x.tdiv g)) 0
        rw [Nat.zero_mul, hback] at h1
        have h2 : g.natAbs = gcdF 0 y := by omega
        rw [h2] at h1
        have h3 : gcdF 0 (y.map (fun x => x.tdiv g)) * gcdF 0 y = 1 * gcdF 0 y := by omega
        exact Nat.eq_of_mul_eq_mul_right (by omega) h3
      · have h1 := hall x hx ho a b ha hb
        have h2 := hat a
        have h3 := hat b
        have h4 : g * (x[a]?.getD 0 * (y.map (fun x => x.tdiv g))[b]?.getD 0 - x[b]?.getD 0 * (y.map (fun x => x.tdiv g))[a]?.getD 0) = 0 := by grind
        rcases Int.mul_eq_zero.1 h4 with h5 | h5 <;> omega
    · -- a smaller support
      obtain ⟨x, hx, ho, a, b, ha, hb, hne⟩ : ∃ x : List Int, Flow C r x ∧ (∀ i, i < C.length → supp y i = false → x[i]?.getD 0 = 0) ∧ ∃ a b, a < C.length ∧ b < C.length ∧ x[a]?.getD 0 * y[b]?.getD 0 ≠ x[b]?.getD 0 * y[a]?.getD 0 := by
        refine Classical.byContradiction (fun h => hall (fun x hx ho a b ha hb => Classical.byContradiction (fun e => h ⟨x, hx, ho, a, b, ha, hb, e⟩)))
      -- with a positive element
      obtain ⟨t, ht, hto, htne, htp⟩ : ∃ t : List Int, Flow C r t ∧ (∀ i, i < C.length → supp y i = false → t[i]?.getD 0 = 0) ∧ t[a]?.getD 0 * y[b]?.getD 0 ≠ t[b]?.getD 0 * y[a]?.getD 0 ∧ ∃ i, i < C.length ∧ 0 < t[i]?.getD 0 := by
        by_cases hpos : ∃ i, i < C.length ∧ 0 < x[i]?.getD 0
        · exact ⟨x, hx, ho, hne, hpos⟩
        · obtain ⟨z, hz, hzat⟩ := flow_lin hx hx (-1) 0
          refine ⟨z, hz, fun i hi hI => by rw [hzat, ho i hi hI]; simp, by rw [hzat, hzat]; intro e; apply hne; grind, ?_⟩
          by_cases e : x[a]?.getD 0 = 0
          · refine ⟨b, hb, ?_⟩
            have h1 : ¬ 0 < x[b]?.getD 0 := fun h => hpos ⟨b, hb, h⟩
            have h2 : x[b]?.getD 0 ≠ 0 := fun h => hne (by rw [e, h]; simp)
            rw [hzat]; omega
          · refine ⟨a, ha, ?_⟩
            have h1 : ¬ 0 < x[a]?.getD 0 := fun h => hpos ⟨a, ha, h⟩
            rw [hzat]; omega
      obtain ⟨i0, hi0, hti0, hmin⟩ := arg_min (fun i => t[i]?.getD 0) (fun i => y[i]?.getD 0) hp C.length htp
      have hy0 : 0 < y[i0]?.getD 0 := by
        by_cases e : supp y i0 = true
        · unfold supp at e; simpa using e
        · have := hto i0 hi0 (by simpa using e); omega
      obtain ⟨z, hz, hzat⟩ := flow_lin hy ht (t[i0]?.getD 0) (-(y[i0]?.getD 0))
      have hzp : ∀ i : Nat, 0 ≤ z[i]?.getD 0 := fun i => by
        by_cases hi : i < C.length
        · rw [hzat]
          by_cases htp : 0 < t[i]?.getD 0
          · have := hmin i hi htp
            grind
          · have h1 := Int.mul_nonneg (show 0 ≤ t[i0]?.getD 0 by omega) (hp i)
            have h2 : 0 ≤ -(y[i0]?.getD 0) * t[i]?.getD 0 := Int.mul_nonneg_of_nonpos_of_nonpos (by omega) (by omega)
            omega
        · rw [List.getElem?_eq_none (by rw [hz.1]; omega)]; simp
      have hsub : ∀ i, i < C.length → 0 < z[i]?.getD 0 → 0 < y[i]?.getD 0 := fun i hi h => by
        by_cases e : supp y i = true
        · unfold supp at e; simpa using e
        · have h1 := hto i hi (by simpa using e)
          have h2 : ¬ 0 < y[i]?.getD 0 := by unfold supp at e; simpa using e
          have h3 : y[i]?.getD 0 = 0 := by have := hp i; omega
          rw [hzat, h1, h3] at h; simp at h
      have hz0 : z[i0]?.getD 0 = 0 := by rw [hzat]; grind
      have hless : suppN z C.length ≤ k := by
        have : suppN z C.length < suppN y C.length := by
          unfold suppN
          refine filter_less (a := i0) (fun i hi h => ?_) (by simpa using hi0) (by unfold supp; rw [hz0]; rfl) (by unfold supp; simpa using hy0)
          unfold supp at h ⊢
          simpa using hsub i (by simpa using hi) (by simpa using h)
        omega
      have hzne : ∃ i, i < C.length ∧ 0 < z[i]?.getD 0 := by
        refine Classical.byContradiction (fun h => ?_)
        have hz1 : ∀ i, i < C.length → z[i]?.getD 0 = 0 := fun i hi => by
          have := hzp i
          by_cases e : 0 < z[i]?.getD 0
          · exact absurd ⟨i, hi, e⟩ h
          · omega
        have ea := hz1 a ha
        have eb := hz1 b hb
        rw [hzat] at ea eb
        have h5 : y[i0]?.getD 0 * (t[a]?.getD 0 * y[b]?.getD 0 - t[b]?.getD 0 * y[a]?.getD 0) = 0 := by grind
        rcases Int.mul_eq_zero.1 h5 with h6 | h6
        · omega
        · exact htne (by omega)
      obtain ⟨I, y', h1, h2, h3⟩ := ih z hless hz hzp hzne
      exact ⟨I, y', h1, fun i hi hI => hsub i hi (h2 i hi hI), h3⟩
end Go.Proofs.YtpnghgihepnepaaDoor
