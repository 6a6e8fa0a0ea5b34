/- token.letter, token.digit, token.run, token.number, token.Word, token.first. -/
import Derived.Test.YthlollnpnangpaaDoorYb
import Derived.Test.YthlollnpnangpaaDoorGt
import Derived.Test.YthlollnpnangpaaDoorSh
import Derived.Lib.Walk
import Derived.Lib.Slices
namespace Go.Proofs.YthlollnpnangpaaDoor
open Go.RowKit
set_option linter.unusedVariables false
abbrev strV (l : Bs) : Value := .string ⟨l.toArray⟩
theorem letter_any (c : UInt8) (w : World) : Calls Tryd.prog 30 #[.int .u8 c.toNat] w fun e w' => e = .returned (.bool (lettB c)) ∧ w' = w := by
  go_enter Tryd.func30, Tryd.ntmps30
  by_cases h1 : (97 : Int) ≤ (c.toNat : Int)
  · by_cases h2 : (c.toNat : Int) ≤ 122
    · go_wp2_with fail
      go_ret
      exact ⟨ret_bool (by unfold lettB; simp; omega), rfl⟩
    · go_wp2_with fail
      go_ret
      exact ⟨ret_bool (by unfold lettB; simp; omega), rfl⟩
  · go_wp2_with fail
    go_ret
    exact ⟨ret_bool (by unfold lettB; simp; omega), rfl⟩
theorem digit_any (c : UInt8) (w : World) : Calls Tryd.prog 49 #[.int .u8 c.toNat] w fun e w' => e = .returned (.bool (digB c)) ∧ w' = w := by
  go_enter Tryd.func49, Tryd.ntmps49
  by_cases h1 : (48 : Int) ≤ (c.toNat : Int)
  · by_cases h2 : (c.toNat : Int) ≤ 57
    · go_wp2_with fail
      go_ret
      exact ⟨ret_bool (by unfold digB; simp; omega), rfl⟩
    · go_wp2_with fail
      go_ret
      exact ⟨ret_bool (by unfold digB; simp; omega), rfl⟩
  · go_wp2_with fail
    go_ret
    exact ⟨ret_bool (by unfold digB; simp; omega), rfl⟩
set_option maxRecDepth 100000 in
set_option maxHeartbeats 1000000 in
theorem run_any (l : Bs) (hl : l.length ≤ 1000000) (w : World) : Calls Tryd.prog 31 #[strV l] w fun e w' => e = .returned (.int .i64 (runN l)) ∧ w' = w := by
  obtain ⟨s, hs⟩ : ∃ s : ByteArray, s = ⟨l.toArray⟩ := ⟨_, rfl⟩
  have hsz : s.size = l.length := by rw [hs]; rfl
  have HS := Lib.hid hs
  rw [show strV l = .string s by rw [hs]]
  clear hs
  go_enter Tryd.func31, Tryd.ntmps31
  go_wp2_with fail
  go_loopw [6] (fun i wr => ∃ k : Nat, i = .int .i64 k ∧ k ≤ l.length ∧ wr = w ∧ Hid ((l.take k).all wrdB = true)) (fun i _ => l.length - (intOf i).toNat)
  case atStart => exact ⟨0, rfl, Nat.zero_le _, rfl, Lib.hid (by simp)⟩
  case round =>
    obtain ⟨k, rfl, hk, rfl, hz⟩ := hrel
    by_cases hlt : k < l.length
    · have h1 : (k : Int) < (l.length : Int) := by omega
      have hks : k < s.size := by omega
      have HC : Hid (s[k] = l[k]) := Lib.hid (by have := HS.out; subst this; rfl)
      generalize hc : s[k] = c at *
      have HW : wrdB c = true → Hid ((l.take (k + 1)).all wrdB = true) := fun h => Lib.hid (by rw [List.take_succ_eq_append_getElem hlt, List.all_append, hz.out, ← HC.out]; simp [h])
      have HN : wrdB c = false → runN l = k := fun h => by
        unfold runN
        have h2 : ∀ (s : Bs) (j : Nat) (hj : j < s.length), (s.take j).all wrdB = true → wrdB s[j] = false → (s.takeWhile wrdB).length = j := fun s => by
          induction s with
          | nil => intro j hj; simp at hj
          | cons a s ih =>
            intro j hj ha hb
            cases j with
            | zero => simp at hb; simp [hb]
            | succ j =>
              simp only [List.take_succ_cons, List.all_cons, Bool.and_eq_true] at ha
              rw [List.takeWhile_cons, if_pos ha.1, List.length_cons, ih j (by simpa using hj) ha.2 (by simpa using hb)]
        exact h2 l k hlt hz.out (by rw [← HC.out]; exact h)
      cases hle : lettB c with
      | true =>
        have hw := HW (by unfold wrdB; simp [hle])
        go_wp2_with (go_at_call 30; refine (letter_any c _).mono ?_; rintro e w' ⟨rfl, rfl⟩; rw [hle])
        go_roundw
        case rel => exact ⟨k + 1, by go_num, by omega, trivial, hw⟩
        case measure => simp [intOf]; omega
      | false =>
        cases hdi : digB c with
        | true =>
          have hw := HW (by unfold wrdB; simp [hdi])
          go_wp2_with (first | (go_at_call 30; refine (letter_any c _).mono ?_; rintro e w' ⟨rfl, rfl⟩; rw [hle]) | (go_at_call 49; refine (digit_any c _).mono ?_; rintro e w' ⟨rfl, rfl⟩; rw [hdi]))
          go_roundw
          case rel => exact ⟨k + 1, by go_num, by omega, trivial, hw⟩
          case measure => simp [intOf]; omega
        | false =>
          by_cases hu : c.toNat = 95
          · have hw := HW (by unfold wrdB; simp [hu])
            have hne : ((c.toNat : Int) != 95) = false := by simp; omega
            clear hu
            go_wp2_with (first | (go_at_call 30; refine (letter_any c _).mono ?_; rintro e w' ⟨rfl, rfl⟩; rw [hle]) | (go_at_call 49; refine (digit_any c _).mono ?_; rintro e w' ⟨rfl, rfl⟩; rw [hdi]))
            go_roundw
            case rel => exact ⟨k + 1, by go_num, by omega, trivial, hw⟩
            case measure => simp [intOf]; omega
          · have hn := HN (by unfold wrdB; simp [hle, hdi, hu])
            have hne : ((c.toNat : Int) != 95) = true := by simp; omega
            clear hu
            go_wp2_with (first | (go_at_call 30; refine (letter_any c _).mono ?_; rintro e w' ⟨rfl, rfl⟩; rw [hle]) | (go_at_call 49; refine (digit_any c _).mono ?_; rintro e w' ⟨rfl, rfl⟩; rw [hdi]))
            go_ret
            exact ⟨ret_int (by first | rfl | rw [hn]), rfl⟩
    · have hn : runN l = l.length := by
        have h2 : ∀ s : Bs, s.all wrdB = true → (s.takeWhile wrdB).length = s.length := fun s => by
          induction s with
          | nil => intro _; rfl
          | cons a s ih => intro h; simp only [List.all_cons, Bool.and_eq_true] at h; rw [List.takeWhile_cons, if_pos h.1, List.length_cons, List.length_cons, ih h.2]
        have h3 := hz.out
        rw [List.take_of_length_le (by omega)] at h3
        exact h2 l h3
      have h1 : ¬ (k : Int) < (l.length : Int) := by omega
      go_wp2_with fail
      go_ret
      exact ⟨ret_int (by first | rfl | rw [hn]), rfl⟩
theorem isWord_eq (l : Bs) : isWord l = (decide (l.length ≤ 12) && (match l with | [] => false | c :: _ => lettB c) && decide (runN l = l.length)) := by
  have h2 : ∀ s : Bs, s.all wrdB = decide ((s.takeWhile wrdB).length = s.length) := fun s => by
    induction s with
    | nil => rfl
    | cons a s ih =>
      rw [List.all_cons, List.takeWhile_cons]
      cases h : wrdB a with
      | true => simp [ih]
      | false => simp
  unfold isWord runN
  rw [h2]
  rfl
set_option maxRecDepth 100000 in
set_option maxHeartbeats 1000000 in
theorem Word_any (l : Bs) (hl : l.length ≤ 1000000) (w : World) : Calls Tryd.prog 16 #[strV l] w fun e w' => e = .returned (.bool (isWord l)) ∧ w' = w := by
  have HR : Hid (∀ W, Calls Tryd.prog 31 #[strV l] W fun e w' => e = .returned (.int .i64 (runN l)) ∧ w' = W) := Lib.hid (run_any l hl)
  have HE := Lib.hid (isWord_eq l)
  go_enter Tryd.func16, Tryd.ntmps16
  cases l with
  | nil =>
    go_wp2_with fail
    go_ret
    exact ⟨ret_bool (by rw [HE.out]; rfl), rfl⟩
  | cons c r =>
    obtain ⟨s, hs⟩ : ∃ s : ByteArray, s = ⟨(c :: r).toArray⟩ := ⟨_, rfl⟩
    have hsz : s.size = r.length + 1 := by rw [hs]; rfl
    have HS := Lib.hid hs
    rw [show strV (c :: r) = .string s by rw [hs]] at HR ⊢
    have h0 : 0 < s.size := by omega
    have hc : s[0] = c := by have := HS.out; subst this; rfl
    have hne : (s.toList == ByteArray.toList ⟨#[]⟩) = false := by rw [hs, Lib.toList_data, Lib.toList_data]; rfl
    have hne' : (s.toList == []) = false := by rw [hs, Lib.toList_data]; rfl
    clear hs
    by_cases h1 : r.length + 1 ≤ 12
    · have hl1 : ((r.length : Int) + 1 ≤ 12) := by omega
      cases h2 : lettB c with
      | true =>
        generalize hn : runN (c :: r) = n at *
        by_cases h3 : n = r.length + 1
        · have h4 : (((n : Int)) == (r.length : Int) + 1) = true := by simp; omega
          go_wp2_with (first | (go_at_call 30; refine (letter_any c _).mono ?_; rintro e w' ⟨rfl, rfl⟩; rw [h2]) | (go_at_call 31; refine (HR.out _).mono ?_; rintro e w' ⟨rfl, rfl⟩))
          go_ret
          exact ⟨ret_bool (by rw [HE.out]; simp [h1, h2, h3]), rfl⟩
        · have h4 : (((n : Int)) == (r.length : Int) + 1) = false := by simp; omega
          go_wp2_with (first | (go_at_call 30; refine (letter_any c _).mono ?_; rintro e w' ⟨rfl, rfl⟩; rw [h2]) | (go_at_call 31; refine (HR.out _).mono ?_; rintro e w' ⟨rfl, rfl⟩))
          go_ret
          exact ⟨ret_bool (by rw [HE.out]; simp [h1, h2, h3]), rfl⟩
      | false =>
        go_wp2_with (first | (go_at_call 30; refine (letter_any c _).mono ?_; rintro e w' ⟨rfl, rfl⟩; rw [h2]))
        go_ret
        exact ⟨ret_bool (by rw [HE.out]; simp [h2]), rfl⟩
    · have hl1 : ¬ ((r.length : Int) + 1 ≤ 12) := by omega
      go_wp2_with fail
      go_ret
      exact ⟨ret_bool (by rw [HE.out]; simp; omega), rfl⟩
set_option maxRecDepth 100000 in
set_option maxHeartbeats 1000000 in
theorem number_any (l : Bs) (hl : l.length ≤ 1000000) (h0 : l ≠ []) (w : World) : Calls Tryd.prog 46 #[strV l] w fun e w' => e = .returned (.bool (isNum l)) ∧ w' = w := by
  obtain ⟨a, r, rfl⟩ : ∃ a r, l = a :: r := by
    cases l with
    | nil => exact absurd rfl h0
    | cons a r => exact ⟨a, r, rfl⟩
  obtain ⟨s, hs⟩ : ∃ s : ByteArray, s = ⟨(a :: r).toArray⟩ := ⟨_, rfl⟩
  have hsz : s.size = r.length + 1 := by rw [hs]; rfl
  have HS := Lib.hid hs
  have hs0 : 0 < s.size := by omega
  have hsa : s[0] = a := by have := HS.out; subst this; rfl
  rw [show strV (a :: r) = .string s by rw [hs]]
  clear hs h0
  rw [List.length_cons] at hl
  go_enter Tryd.func46, Tryd.ntmps46
  go_wp2_with fail
  go_loopw [6] (fun i wr => ∃ k : Nat, i = .int .i64 k ∧ k ≤ r.length + 1 ∧ wr = w ∧ Hid (((a :: r).take k).all digB = true)) (fun i _ => r.length + 1 - (intOf i).toNat)
  case atStart => exact ⟨0, rfl, Nat.zero_le _, rfl, Lib.hid (by simp)⟩
  case round =>
    obtain ⟨k, rfl, hk, rfl, hz⟩ := hrel
    by_cases hlt : k < r.length + 1
    · have h1 : (k : Int) < (r.length : Int) + 1 := by omega
      have hks : k < s.size := by omega
      have hkl : k < (a :: r).length := hlt
      have HC : Hid (s[k] = (a :: r)[k]) := Lib.hid (by have := HS.out; subst this; rfl)
      have HC0 := Lib.hid hsa
      clear hsa
      generalize hc : s[k] = c at *
      have HW : digB c = true → Hid (((a :: r).take (k + 1)).all digB = true) := fun h => Lib.hid (by rw [List.take_succ_eq_append_getElem hkl, List.all_append, hz.out, ← HC.out]; simp [h])
      have HN : digB c = false → Hid (isNum (a :: r) = false) := fun h => Lib.hid (by
        have : (a :: r).all digB = false := by
          rw [← Bool.not_eq_true, List.all_eq_true]
          intro h3
          have h4 := h3 c (by rw [HC.out]; exact List.getElem_mem hkl)
          rw [h] at h4; cases h4
        unfold isNum; rw [this]; rfl)
      cases hd : digB c with
      | true =>
        have hw := HW hd
        go_wp2_with (go_at_call 49; refine (digit_any c _).mono ?_; rintro e w' ⟨rfl, rfl⟩; rw [hd])
        go_roundw
        case rel => exact ⟨k + 1, by go_num, by omega, trivial, hw⟩
        case measure => simp [intOf]; omega
      | false =>
        have hn := HN hd
        go_wp2_with (go_at_call 49; refine (digit_any c _).mono ?_; rintro e w' ⟨rfl, rfl⟩; rw [hd])
        go_ret
        exact ⟨ret_bool hn.out.symm, rfl⟩
    · have h1 : ¬ (k : Int) < (r.length : Int) + 1 := by omega
      have h3 := hz.out
      rw [List.take_of_length_le (by simp; omega)] at h3
      have HD := Lib.hid h3
      clear h3
      by_cases h5 : r.length + 1 ≤ 7
      · have h6 : (r.length : Int) + 1 ≤ 7 := by omega
        by_cases h7 : a.toNat = 48
        · have h8 : ((a.toNat : Int) != 48) = false := by simp; omega
          by_cases h9 : r = []
          · have h10 : ((r.length : Int) + 1 == 1) = true := by simp [h9]
            have HG : Hid (isNum (a :: r) = true) := Lib.hid (by unfold isNum; rw [HD.out]; simp [h9])
            clear h7 h9
            go_wp2_with fail
            go_ret
            exact ⟨ret_bool HG.out.symm, rfl⟩
          · have h10 : ((r.length : Int) + 1 == 1) = false := by simp only [beq_eq_false_iff_ne, ne_eq]; intro h; exact h9 (List.eq_nil_of_length_eq_zero (by omega))
            have HG : Hid (isNum (a :: r) = false) := Lib.hid (by unfold isNum; rw [HD.out]; simp [h9, h7])
            clear h7 h9
            go_wp2_with fail
            go_ret
            exact ⟨ret_bool HG.out.symm, rfl⟩
        · have h8 : ((a.toNat : Int) != 48) = true := by simp; omega
          have HG : Hid (isNum (a :: r) = true) := Lib.hid (by unfold isNum; rw [HD.out]; simp [h7]; omega)
          clear h7
          go_wp2_with fail
          go_ret
          exact ⟨ret_bool HG.out.symm, rfl⟩
      · have h6 : ¬ (r.length : Int) + 1 ≤ 7 := by omega
        have HG : Hid (isNum (a :: r) = false) := Lib.hid (by unfold isNum; simp; intro _ h; omega)
        go_wp2_with fail
        go_ret
        exact ⟨ret_bool HG.out.symm, rfl⟩
end Go.Proofs.YthlollnpnangpaaDoor
