/- The text of a number is one token. -/
import Derived.Test.YthlollnpnangpaaDoorYb
namespace Go.Proofs.YthlollnpnangpaaDoor
set_option linter.unusedVariables false
def valL (l : Bs) : Nat := l.foldl (fun a c => 10 * a + (c.toNat - 48)) 0
theorem valL_snoc (l : Bs) (c : UInt8) : valL (l ++ [c]) = 10 * valL l + (c.toNat - 48) := by unfold valL; simp
theorem val_from : ∀ (l : Bs) (a : Nat), (∀ c ∈ l, 48 ≤ c.toNat ∧ c.toNat ≤ 57) → l.foldl (fun a c => 10 * a + (c.toNat - 48)) a < (a + 1) * 10 ^ l.length
  | [], a, _ => by simp
  | c :: l, a, h => by
    have h1 := h c (by simp)
    have h2 := val_from l (10 * a + (c.toNat - 48)) (fun x hx => h x (by simp [hx]))
    rw [List.foldl_cons, List.length_cons, Nat.pow_succ]
    have h3 : (10 * a + (c.toNat - 48) + 1) * 10 ^ l.length ≤ (10 * (a + 1)) * 10 ^ l.length := Nat.mul_le_mul_right _ (by omega)
    have h4 : 10 * (a + 1) * 10 ^ l.length = (a + 1) * (10 ^ l.length * 10) := by rw [Nat.mul_comm 10 (a + 1), Nat.mul_assoc, Nat.mul_comm 10]
    omega
theorem val_lt {l : Bs} (h : ∀ c ∈ l, 48 ≤ c.toNat ∧ c.toNat ≤ 57) : valL l < 10 ^ l.length := by
  have := val_from l 0 h
  unfold valL
  omega
theorem dig_nat {d : Nat} (h : d < 10) : (UInt8.ofNat (48 + d)).toNat = 48 + d := by
  rw [UInt8.toNat_ofNat']
  omega
theorem digits_ok : ∀ (n u : Nat), u ≤ n → (Lib.decDigits u).all digB = true ∧ valL (Lib.decDigits u) = u ∧ (∀ k, 1 ≤ k → u < 10 ^ k → (Lib.decDigits u).length ≤ k) ∧ (∃ c r, Lib.decDigits u = c :: r ∧ (u = 0 → r = []) ∧ (1 ≤ u → c.toNat ≠ 48))
  | n, u, hn => by
    by_cases h : u < 10
    · rw [Lib.decDigits_one h]
      refine ⟨?_, ?_, fun k hk _ => by simpa using hk, _, _, rfl, fun _ => rfl, fun h1 => ?_⟩
      · simp only [List.all_cons, List.all_nil, Bool.and_true, digB, dig_nat h]
        simp; omega
      · simp only [valL, List.foldl_cons, List.foldl_nil, dig_nat h]; omega
      · rw [dig_nat h]; omega
    · cases n with
      | zero => omega
      | succ n =>
        obtain ⟨i1, i2, i3, c, r, i4, i5, i6⟩ := digits_ok n (u / 10) (by omega)
        have e : Lib.decDigits u = Lib.decDigits (u / 10) ++ [UInt8.ofNat (48 + u % 10)] := by
          conv => lhs; rw [Lib.decDigits]
          rw [dif_neg h]
        have hd : u % 10 < 10 := by omega
        rw [e]
        refine ⟨?_, ?_, fun k hk hu => ?_, c, r ++ [_], by rw [i4]; rfl, fun h0 => by omega, fun _ => i6 (by omega)⟩
        · rw [List.all_append, i1]
          simp only [List.all_cons, List.all_nil, Bool.and_true, digB, dig_nat hd, Bool.true_and]
          simp; omega
        · rw [valL_snoc, i2, dig_nat hd]; omega
        · cases k with
          | zero => omega
          | succ k =>
            rw [List.length_append, List.length_singleton]
            cases k with
            | zero => rw [Nat.zero_add, Nat.pow_one] at hu; omega
            | succ k =>
              have h3 := i3 (k + 1) (by omega) (by rw [Nat.pow_succ] at hu; omega)
              omega
theorem takeWhile_all {p : UInt8 → Bool} : ∀ {s : Bs}, s.all p = true → s.takeWhile p = s
  | [], _ => rfl
  | c :: s, h => by
    simp only [List.all_cons, Bool.and_eq_true] at h
    rw [List.takeWhile_cons, if_pos h.1, takeWhile_all h.2]
theorem trim_none {s : Bs} (h : ∀ c ∈ s, c ≠ 10) : Lib.trimSuffix s [10] = s := by
  unfold Lib.trimSuffix Lib.hasSuffix
  split
  · next h1 =>
    rw [List.isSuffixOf_iff_suffix] at h1
    obtain ⟨t, rfl⟩ := h1
    exact absurd rfl (h 10 (by simp))
  · rfl
theorem toks_nilL : toks [] = some [] := rfl
theorem num_scan {u : Nat} (hu : u < 10000000) : scanL 0 (linesL (Lib.decDigits u)) = .ok [(2, Lib.decDigits u, 1), (4, [], 1)] := by
  obtain ⟨h1, -, h3, c, r, h4, h5, h6⟩ := digits_ok u u (Nat.le_refl _)
  have hlen := h3 7 (by omega) (by simpa using hu)
  have hdig : ∀ x ∈ Lib.decDigits u, digB x = true := List.all_eq_true.1 h1
  have hcr : ∀ x ∈ Lib.decDigits u, 48 ≤ x.toNat ∧ x.toNat ≤ 57 := fun x hx => by
    have := hdig x hx
    unfold digB at this
    simpa using this
  have e10 : ∀ x ∈ Lib.decDigits u, x ≠ 10 := fun x hx e => by
    have := (hcr x hx).1; rw [e] at this; revert this; decide
  have e35 : ∀ x ∈ Lib.decDigits u, x ≠ 35 := fun x hx e => by
    have := (hcr x hx).1; rw [e] at this; revert this; decide
  have eb : ∀ x ∈ Lib.decDigits u, blkB x = false := fun x hx => by
    cases hb : blkB x with
    | false => rfl
    | true =>
      unfold blkB at hb
      simp at hb
      have := (hcr x hx).1
      rcases hb with rfl | rfl <;> revert this <;> decide
  have hne : Lib.decDigits u ≠ [] := by rw [h4]; simp
  have hl : linesL (Lib.decDigits u) = [Lib.decDigits u] := by
    rw [linesL_cons hne, takeWhile_all (List.all_eq_true.2 fun x hx => by simpa using e10 x hx), if_pos rfl]
  have hcon : conL (Lib.decDigits u) = Lib.decDigits u := by
    unfold conL
    rw [trim_none e10, takeWhile_all (List.all_eq_true.2 fun x hx => by simpa using e35 x hx)]
  have hwrd : (Lib.decDigits u).all wrdB = true := List.all_eq_true.2 fun x hx => by unfold wrdB; rw [hdig x hx]; simp
  have hrun : runN (Lib.decDigits u) = (Lib.decDigits u).length := by unfold runN; rw [takeWhile_all hwrd]
  have hpos : 0 < (Lib.decDigits u).length := by rw [h4]; simp
  have hw : isWord (Lib.decDigits u) = false := by
    unfold isWord
    rw [h4]
    have : lettB c = false := by
      have := (hcr c (by rw [h4]; simp)).2
      unfold lettB
      simp; omega
    simp [this]
  have hnum : isNum (Lib.decDigits u) = true := by
    unfold isNum
    rw [h1]
    have hh : decide ((Lib.decDigits u).length ≤ 7) = true := by simpa using hlen
    rw [hh, h4]
    dsimp only
    by_cases h0 : u = 0
    · rw [h5 h0]; simp
    · have := h6 (by omega)
      simp [this]
  have hfirst : firstT (Lib.decDigits u) = some (2, Lib.decDigits u) := by
    unfold firstT
    rw [hrun, if_pos hpos, List.take_length, hw, hnum]
    rfl
  have htok : toks (Lib.decDigits u) = some [(2, Lib.decDigits u)] := by
    have hd : (Lib.decDigits u).dropWhile blkB = c :: r := by
      rw [h4, List.dropWhile_cons, if_neg (by rw [eb c (by rw [h4]; simp)]; simp)]
    rw [toks_cons hd, ← h4, hfirst]
    dsimp only
    rw [List.drop_length, toks_nilL]
    rfl
  rw [hl]
  simp only [scanL, hcon, htok]
  unfold tagL
  rw [if_neg (by simp)]
  rfl
end Go.Proofs.YthlollnpnangpaaDoor
