/- limit: Below, Above. -/
import Derived.Test.YtahffjoehjpfkaaZm
namespace Go.Proofs.Ytahffjoehjpfkaa
open Go.RowKit
set_option linter.unusedVariables false

def escU (xs : List Int) (i : Nat) : List Int := onlyL xs.length 1099511627776 i (xs[i]?.getD 0 - 1)
def escD (xs : List Int) (i : Nat) : List Int := onlyL xs.length 0 i (xs[i]?.getD 0 + 1)
theorem onlyL_bd (n i : Nat) (most x : Int) (hm : -9223372036854775808 ≤ most ∧ most ≤ 9223372036854775807) (hx : -9223372036854775808 ≤ x ∧ x ≤ 9223372036854775807) : BdL (onlyL n most i x) := fun z hz => by
  rcases List.mem_or_eq_of_mem_set hz with h | h
  · rw [List.eq_of_mem_replicate h]; exact hm
  · rw [h]; exact hx
theorem escU_ok (n : Nat) (hn : n ≤ 4) : EscOk 48 escU n := ⟨enters_of Try.func48 (by kernel_rfl) rfl, fun v xs i w h hl hi hx => ⟨esc_up v xs i w h (by omega) (by omega) hx, by simp [escU, onlyL, hl], onlyL_bd _ _ _ _ (by omega) (by omega)⟩⟩
theorem escD_ok (n : Nat) (hn : n ≤ 4) : EscOk 55 escD n := ⟨enters_of Try.func55 (by kernel_rfl) rfl, fun v xs i w h hl hi hx => ⟨esc_down v xs i w h (by omega) (by omega) hx, by simp [escD, onlyL, hl], onlyL_bd _ _ _ _ (by omega) (by omega)⟩⟩
theorem boundU_ok : BoundOk 50 (fun x => x != 0) := ⟨enters_of Try.func50 (by kernel_rfl) rfl, bnd_up⟩
theorem boundD_ok : BoundOk 56 (fun x => x != 1099511627776) := ⟨enters_of Try.func56 (by kernel_rfl) rfl, bnd_down⟩
theorem begU_ok (n : Nat) (h1 : 1 ≤ n) (hn : n ≤ 4) : BegOk 51 (List.replicate n 0) n := ⟨enters_of Try.func51 (by kernel_rfl) rfl, by simp, fun z hz => by rw [List.eq_of_mem_replicate hz]; omega, fun w => beg_up n w (by omega) h1⟩
theorem begD_ok (n : Nat) (h1 : 1 ≤ n) (hn : n ≤ 4) : BegOk 57 (List.replicate n 1099511627776) n := ⟨enters_of Try.func57 (by kernel_rfl) rfl, by simp, fun z hz => by rw [List.eq_of_mem_replicate hz]; omega, fun w => beg_down n w (by omega) h1⟩
theorem mem_getD {xs : List Int} {i : Nat} (h : i < xs.length) : xs[i]?.getD 0 ∈ xs := by rw [List.getElem?_eq_getElem h]; exact List.getElem_mem h
theorem fin_bd (n : Nat) (xs : List Int) (hl : xs.length = n) (h : finiteB xs = true) (i : Nat) (hi : i < n) : 0 ≤ xs[i]?.getD 0 ∧ xs[i]?.getD 0 ≤ 1099511627776 := by
  have := (finiteB_le h).2 _ (mem_getD (by omega : i < xs.length))
  omega
theorem val_bd (n : Nat) (xs : List Int) (hl : xs.length = n) (h : validB xs = true) (i : Nat) (hi : i < n) : 0 ≤ xs[i]?.getD 0 ∧ xs[i]?.getD 0 ≤ 1099511627776 := (validB_le h).2 _ (mem_getD (by omega : i < xs.length))
abbrev BelowTo (n : Nat) := CompTo leqI minV (fun x => x != 0) escU (List.replicate n 1099511627776) n
abbrev AboveC (n : Nat) := Chain (fun a b => leqI b a) maxV (fun x => x != 1099511627776) escD (List.replicate n 0) n
theorem below_any (n : Nat) (v : Value) (ps : List Row) (w : World) (h : RowsP w v ps) (h1 : 1 ≤ n) (h4 : n ≤ 4) (h12 : ps.length ≤ 12) (hn : ∀ p ∈ ps, p.2.length = n ∧ finiteB p.2 = true) :
    Calls Try.prog 12 #[.int .i64 n, v] w (BelowTo n (ps.map Prod.snd) w) := by
  have HB : Hid (∀ w, RowsP w v ps → Calls Try.prog 26 #[.int .i64 n, v, upV, downV] w (BelowTo n (ps.map Prod.snd) w)) := Lib.hid (fun w h =>
    complement_any fits_finite (fin_bd n) boundU_ok (escU_ok n h4) (begD_ok n h1 h4) (within_down_ok n) order_down (overlap_down n (by omega)) (ord_leq n) (cf_down n) v ps w h h1 h4 h12 hn)
  have H := Lib.hid h
  obtain ⟨a, cap, rfl, -, -, -⟩ := h
  clear hn h12 h4 h1
  go_enter Try.func12, Try.ntmps12
  go_wp2_with fail
  refine (up_any _).mono ?_
  rintro e w1 ⟨rfl, hg1⟩
  have G1 := Lib.hid hg1
  clear hg1
  go_wp2_with fail
  refine (down_any _).mono ?_
  rintro e w2 ⟨rfl, hg2⟩
  have G2 := Lib.hid (grown_trans G1.out hg2)
  clear hg2
  go_wp2_with fail
  refine (HB.out _ (H.out.same G2.out)).mono ?_
  rintro e w3 ⟨R, hc, hn, hg3, hcase⟩
  have C3 := Lib.hid hc; have N3 := Lib.hid hn; have G3 := Lib.hid hg3
  have hsz : Hid (w.heap.size ≤ w2.heap.size) := Lib.hid G2.out.size
  clear hc hn hg3
  rcases hcase with ⟨h5, v5, q5, rfl, hr5, hd5, hm5, hw5⟩ | ⟨h5, rfl⟩
  · have X0 := Lib.hid h5; have X1 := Lib.hid hr5; have X2 := Lib.hid hd5; have X3 := Lib.hid hm5; have X5 := Lib.hid hw5
    clear h5 hr5 hd5 hm5 hw5
    go_wp2_with fail
    go_ret2
    exact ⟨R, C3.out, N3.out, grown_trans G2.out G3.out, .inl ⟨X0.out, _, q5, rfl, X1.out, X2.out, X3.out, ⟨fun g hg => Nat.le_trans hsz.out (X5.out.1 g hg), fun q hq g hg => Nat.le_trans hsz.out (X5.out.2 q hq g hg)⟩⟩⟩
  · have X0 := Lib.hid h5
    clear h5
    go_wp2_with fail
    go_ret2
    exact ⟨R, C3.out, N3.out, grown_trans G2.out G3.out, .inr ⟨X0.out, rfl⟩⟩
/-- Above, where what is left is short and valid. -/
theorem above_ok (n : Nat) (v : Value) (ps : List Row) (w : World) (h : RowsP w v ps) (h1 : 1 ≤ n) (h4 : n ≤ 4) (h12 : ps.length ≤ 12) (hn : ∀ p ∈ ps, p.2.length = n ∧ validB p.2 = true) (hok : ∀ R, AboveC n (ps.map Prod.snd) R → R.length ≤ 256 ∧ ∀ x ∈ R, validB x = true) :
    Calls Try.prog 17 #[.int .i64 n, v] w fun e w' => ∃ R v' qs, AboveC n (ps.map Prod.snd) R ∧ (∀ x ∈ R, x.length = n) ∧ e = .returned (.tuple #[v', .int .i64 0]) ∧ RowsP w' v' qs ∧ Good v' ∧ qs.map Prod.snd = R ∧ w.grownBy w' none ∧ NewR w.heap.size v' qs := by
  have HB : Hid (∀ w, RowsP w v ps → Calls Try.prog 26 #[.int .i64 n, v, downV, upV] w (CompTo (fun a b => leqI b a) maxV (fun x => x != 1099511627776) escD (List.replicate n 0) n (ps.map Prod.snd) w)) := Lib.hid (fun w h =>
    complement_any fits_valid (val_bd n) boundD_ok (escD_ok n h4) (begU_ok n h1 h4) (within_up_ok n) order_up (overlap_up n (by omega)) (ord_geq n) (cf_up n) v ps w h h1 h4 h12 hn)
  have H := Lib.hid h; have HOK := Lib.hid hok
  obtain ⟨a, cap, rfl, -, -, -⟩ := h
  clear hn h12 h4 h1 hok
  go_enter Try.func17, Try.ntmps17
  go_wp2_with fail
  refine (down_any _).mono ?_
  rintro e w1 ⟨rfl, hg1⟩
  have G1 := Lib.hid hg1
  clear hg1
  go_wp2_with fail
  refine (up_any _).mono ?_
  rintro e w2 ⟨rfl, hg2⟩
  have G2 := Lib.hid (grown_trans G1.out hg2)
  clear hg2
  go_wp2_with fail
  refine (HB.out _ (H.out.same G2.out)).mono ?_
  rintro e w3 ⟨R, hc, hn, hg3, hcase⟩
  have C3 := Lib.hid hc; have N3 := Lib.hid hn; have G3 := Lib.hid hg3
  have hsz : Hid (w.heap.size ≤ w2.heap.size) := Lib.hid G2.out.size
  rcases hcase with ⟨h5, v5, q5, rfl, hr5, hd5, hm5, hw5⟩ | ⟨h5, rfl⟩
  · have X1 := Lib.hid hr5; have X2 := Lib.hid hd5; have X3 := Lib.hid hm5; have X5 := Lib.hid hw5
    obtain ⟨a5, c5, rfl⟩ : ∃ a c, v5 = .slice a q5.length c := by obtain ⟨a, c, h, -⟩ := hr5; exact ⟨a, c, h⟩
    have HALL : Hid (q5.all (fun q => validB q.2) = true) := Lib.hid (by
      rw [List.all_eq_true]
      intro q hq
      exact (HOK.out R C3.out).2 _ (by rw [← X3.out]; exact List.mem_map_of_mem hq))
    clear hc hn hg3 h5 hr5 hd5 hm5 hw5
    go_wp2_with fail
    refine (all_any fits_valid _ q5 _ X1.out).mono ?_
    rintro e w6 ⟨rfl, hg6⟩
    rw [HALL.out]
    have G6 := Lib.hid hg6
    clear hg6
    go_wp2_with fail
    go_ret2
    exact ⟨R, _, q5, C3.out, N3.out, rfl, X1.out.same G6.out, X2.out, X3.out, grown_trans G2.out (grown_trans G3.out G6.out), ⟨fun g hg => Nat.le_trans hsz.out (X5.out.1 g hg), fun q hq g hg => Nat.le_trans hsz.out (X5.out.2 q hq g hg)⟩⟩
  · have := (HOK.out R hc).1
    omega
theorem Chain.last {f : List Int → List Int → Bool} {g : List Int → List Int → List Int} {P : Int → Bool} {esc : List Int → Nat → List Int} {L : List Int} {n : Nat} {l R : List (List Int)} {v : List Int} (h : Chain f g P esc L n (l ++ [v]) R) :
    ∃ R0, Chain f g P esc L n l R0 ∧ Tops f (meetsL g R0 (outL P esc v n)) R ∧ (∀ x ∈ meetsL g R0 (outL P esc v n), ∃ u, Top f (meetsL g R0 (outL P esc v n)) u ∧ f x u = true) := by
  generalize hX : l ++ [v] = X at h
  cases h with
  | start => simp at hX
  | step h1 h2 h3 =>
    obtain ⟨rfl, e⟩ := List.append_inj' hX rfl
    obtain rfl : v = _ := by simpa using e
    exact ⟨_, h1, h2, h3⟩
theorem Chain.nil {f : List Int → List Int → Bool} {g : List Int → List Int → List Int} {P : Int → Bool} {esc : List Int → Nat → List Int} {L : List Int} {n : Nat} {R : List (List Int)} (h : Chain f g P esc L n [] R) : R = [L] := by
  generalize hX : ([] : List (List Int)) = X at h
  cases h with
  | start => rfl
  | step h1 h2 h3 => simp at hX
theorem tops_self {f : List Int → List Int → Bool} {l : List (List Int)} (ha : Asc l) (hp : l.Pairwise (fun a b => f a b = false ∧ f b a = false)) : Tops f l l := by
  refine ⟨ha, fun v => ⟨fun hv => ⟨hv, fun u hu h => ?_⟩, fun h => h.1⟩⟩
  obtain ⟨i, hi, rfl⟩ := List.getElem_of_mem hv
  obtain ⟨j, hj, rfl⟩ := List.getElem_of_mem hu
  rw [List.pairwise_iff_getElem] at hp
  rcases Nat.lt_trichotomy i j with e | e | e
  · rw [(hp i j hi hj e).1] at h; cases h
  · subst e; rfl
  · rw [(hp j i hj hi e).2] at h; cases h
theorem below21 {R : List (List Int)} (h : Chain leqI minV (fun x => x != 0) escU (List.replicate 2 1099511627776) 2 [[2, 1]] R) : R = [[1, 1099511627776], [1099511627776, 0]] := by
  obtain ⟨R0, h0, h1, -⟩ := Chain.last (l := []) h
  rw [Chain.nil h0] at h1
  have e : meetsL minV [List.replicate 2 1099511627776] (outL (fun x => x != 0) escU [2, 1] 2) = [[1, 1099511627776], [1099511627776, 0]] := by decide
  rw [e] at h1
  exact h1.one (n := 2) (by decide) (tops_self (by unfold Asc; decide) (by decide))
theorem above21 {R : List (List Int)} (h : AboveC 2 [[1, 1099511627776], [1099511627776, 0]] R) : R = [[2, 1]] := by
  obtain ⟨R0, h0, h1, -⟩ := Chain.last (l := [[1, 1099511627776]]) h
  obtain ⟨R1, h2, h3, -⟩ := Chain.last (l := []) h0
  rw [Chain.nil h2] at h3
  have e : meetsL maxV [List.replicate 2 0] (outL (fun x => x != 1099511627776) escD [1, 1099511627776] 2) = [[2, 0]] := by decide
  rw [e] at h3
  have e0 : R0 = [[2, 0]] := h3.one (n := 2) (by decide) (tops_self (by unfold Asc; decide) (by decide))
  rw [e0] at h1
  have e1 : meetsL maxV [[2, 0]] (outL (fun x => x != 1099511627776) escD [1099511627776, 0] 2) = [[2, 1]] := by decide
  rw [e1] at h1
  exact h1.one (n := 2) (by decide) (tops_self (by unfold Asc; decide) (by decide))
end Go.Proofs.Ytahffjoehjpfkaa
