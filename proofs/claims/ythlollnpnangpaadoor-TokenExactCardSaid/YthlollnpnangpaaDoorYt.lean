/- The reference's bytes, names, numbers and its 'one'. -/
import Derived.Test.YthlollnpnangpaaDoorYd
import Derived.Test.YthlollnpnangpaaDoorYq
namespace Go.Proofs.YthlollnpnangpaaDoor
open Go.RowKit
set_option linter.unusedVariables false
theorem beqT {n k : Int} (h : n = k) : (n == k) = true := by simpa using h
theorem beqF {n k : Int} (h : ¬ n = k) : (n == k) = false := by simpa using h
theorem bneT {n k : Int} (h : ¬ n = k) : (n != k) = true := by simpa using h
theorem bneF {n k : Int} (h : n = k) : (n != k) = false := by simpa using h
theorem u8_lit {c : UInt8} {k : Nat} (hk : k < 256) : c = UInt8.ofNat k ↔ c.toNat = k := by
  constructor
  · intro h; rw [h, UInt8.toNat_ofNat']; omega
  · intro h; apply UInt8.toNat_inj.1; rw [UInt8.toNat_ofNat']; omega
set_option maxRecDepth 100000 in
theorem rletter_any (c : UInt8) (w : World) : Calls Tryd.prog 32 #[.int .u8 c.toNat] w fun e w' => e = .returned (.bool (wrdB c)) ∧ w' = w := by
  go_enter Tryd.func32, Tryd.ntmps32
  have HW : Hid (wrdB c = (decide ((97 : Int) ≤ c.toNat) && decide ((c.toNat : Int) ≤ 122) || decide ((48 : Int) ≤ c.toNat) && decide ((c.toNat : Int) ≤ 57) || decide ((c.toNat : Int) = 95))) := Lib.hid (by unfold wrdB lettB digB; rw [Bool.eq_iff_iff]; simp; omega)
  generalize (c.toNat : Int) = n at *
  by_cases h1 : (97 : Int) ≤ n
  · by_cases h2 : n ≤ 122
    · go_wp2_with fail
      go_ret
      exact ⟨ret_bool (by rw [HW.out]; simp; omega), rfl⟩
    · have h3 : (48 : Int) ≤ n := by omega
      have h4 : ¬ n ≤ 57 := by omega
      have h5 : (n == 95) = false := beqF (by omega)
      go_wp2_with fail
      go_ret
      exact ⟨ret_bool (by rw [HW.out]; simp; omega), rfl⟩
  · by_cases h3 : (48 : Int) ≤ n
    · by_cases h4 : n ≤ 57
      · go_wp2_with fail
        go_ret
        exact ⟨ret_bool (by rw [HW.out]; simp; omega), rfl⟩
      · by_cases h6 : n = 95
        · have h5 := beqT h6
          have H6 := Lib.hid h6
          clear h6
          go_wp2_with fail
          go_ret
          exact ⟨ret_bool (by rw [HW.out]; have := H6.out; simp; omega), rfl⟩
        · have h5 := beqF h6
          have H6 := Lib.hid h6
          clear h6
          go_wp2_with fail
          go_ret
          exact ⟨ret_bool (by rw [HW.out]; have := H6.out; simp; omega), rfl⟩
    · have h5 : (n == 95) = false := beqF (by omega)
      go_wp2_with fail
      go_ret
      exact ⟨ret_bool (by rw [HW.out]; simp; omega), rfl⟩
theorem all_takeN {p : UInt8 → Bool} {l : Bs} {k : Nat} (hk : k < l.length) : (l.take (k + 1)).all p = ((l.take k).all p && p l[k]) := by
  rw [List.take_succ_eq_append_getElem hk, List.all_append]
  simp only [List.all_cons, List.all_nil, Bool.and_true]
theorem all_false {p : UInt8 → Bool} {l : Bs} {k : Nat} (hk : k < l.length) (h : p l[k] = false) : l.all p = false := by
  rw [← Bool.not_eq_true, List.all_eq_true]
  intro h3
  rw [h3 _ (List.getElem_mem hk)] at h
  cases h
set_option maxRecDepth 100000 in
set_option maxHeartbeats 1000000 in
theorem rWord_any (l : Bs) (hl : l.length ≤ 1000000) (w : World) : Calls Tryd.prog 17 #[strV l] w fun e w' => e = .returned (.bool (isWord l)) ∧ w' = w := by
  obtain ⟨s, hs⟩ : ∃ s : ByteArray, s = ⟨l.toArray⟩ := ⟨_, rfl⟩
  have hsz : s.size = l.length := by rw [hs]; rfl
  have HS := Lib.hid hs
  rw [show strV l = .string s by rw [hs]]
  clear hs
  go_enter Tryd.func17, Tryd.ntmps17
  go_wp2_with fail
  go_loop [3] (fun i => ∃ k : Nat, i = .int .i64 k ∧ k ≤ l.length ∧ Hid ((l.take k).all wrdB = true)) (fun i => l.length - (intOf i).toNat)
  case atStart => exact ⟨0, rfl, Nat.zero_le _, Lib.hid (by simp)⟩
  case round =>
    obtain ⟨k, rfl, hk, hz⟩ := hrel
    by_cases hlt : k < l.length
    · have h1 : (k : Int) < (l.length : Int) := by omega
      have hks : k < s.size := by omega
      have HC : Hid (s[k] = l[k]) := Lib.hid (by have := HS.out; subst this; rfl)
      have HW : wrdB l[k] = true → Hid ((l.take (k + 1)).all wrdB = true) := fun h => Lib.hid (by rw [all_takeN hlt, hz.out, h]; rfl)
      have HN : wrdB l[k] = false → Hid (isWord l = false) := fun h => Lib.hid (by unfold isWord; rw [all_false hlt h, Bool.and_false])
      generalize hc : s[k] = c at *
      rw [← HC.out] at HW HN
      cases hle : wrdB c with
      | true =>
        have hw := HW hle
        clear HW HN
        go_wp2_with (go_at_call 32; refine (rletter_any c _).mono ?_; rintro e w' ⟨rfl, rfl⟩; rw [hle])
        go_round
        case rel => exact ⟨k + 1, by go_num, by omega, hw⟩
        case measure => simp [intOf]; omega
      | false =>
        have hn := HN hle
        clear HW HN
        go_wp2_with (go_at_call 32; refine (rletter_any c _).mono ?_; rintro e w' ⟨rfl, rfl⟩; rw [hle])
        go_ret
        exact ⟨ret_bool hn.out.symm, rfl⟩
    · have h1 : ¬ (k : Int) < (l.length : Int) := by omega
      have HA : Hid (l.all wrdB = true) := Lib.hid (by have := hz.out; rwa [List.take_of_length_le (by omega)] at this)
      by_cases h0 : 1 ≤ l.length
      · have h0i : (1 : Int) ≤ (l.length : Int) := by omega
        have hs0 : 0 < s.size := by omega
        by_cases h12 : l.length ≤ 12
        · have h12i : (l.length : Int) ≤ 12 := by omega
          have HC : Hid (s[0] = l[0]) := Lib.hid (by have := HS.out; subst this; rfl)
          have HI : Hid (isWord l = lettB l[0]) := Lib.hid (by
            unfold isWord
            rw [HA.out]
            cases l with
            | nil => simp at h0
            | cons a l => simp; intro; simpa using h12)
          generalize hc : s[0] = c at *
          rw [← HC.out] at HI
          have HLB : Hid (lettB c = (decide ((97 : Int) ≤ c.toNat) && decide ((c.toNat : Int) ≤ 122))) := Lib.hid (by unfold lettB; rw [Bool.eq_iff_iff]; simp; omega)
          by_cases h3 : (97 : Int) ≤ (c.toNat : Int)
          · by_cases h4 : (c.toNat : Int) ≤ 122
            · go_wp2_with fail
              go_ret
              exact ⟨ret_bool (by rw [HI.out, HLB.out]; simp; omega), rfl⟩
            · go_wp2_with fail
              go_ret
              exact ⟨ret_bool (by rw [HI.out, HLB.out]; simp; omega), rfl⟩
          · go_wp2_with fail
            go_ret
            exact ⟨ret_bool (by rw [HI.out, HLB.out]; simp; omega), rfl⟩
        · have h12i : ¬ (l.length : Int) ≤ 12 := by omega
          have HI : Hid (isWord l = false) := Lib.hid (by unfold isWord; rw [decide_eq_false h12]; rfl)
          go_wp2_with fail
          go_ret
          exact ⟨ret_bool HI.out.symm, rfl⟩
      · have h0i : ¬ (1 : Int) ≤ (l.length : Int) := by omega
        have HI : Hid (isWord l = false) := Lib.hid (by
          have : l = [] := List.eq_nil_of_length_eq_zero (by omega)
          rw [this]; rfl)
        go_wp2_with fail
        go_ret
        exact ⟨ret_bool HI.out.symm, rfl⟩
set_option maxRecDepth 100000 in
set_option maxHeartbeats 1000000 in
theorem rnumber_any (l : Bs) (hl : l.length ≤ 1000000) (w : World) : Calls Tryd.prog 48 #[strV l] w fun e w' => e = .returned (.bool (isNum l)) ∧ w' = w := by
  obtain ⟨s, hs⟩ : ∃ s : ByteArray, s = ⟨l.toArray⟩ := ⟨_, rfl⟩
  have hsz : s.size = l.length := by rw [hs]; rfl
  have HS := Lib.hid hs
  rw [show strV l = .string s by rw [hs]]
  clear hs
  go_enter Tryd.func48, Tryd.ntmps48
  go_wp2_with fail
  go_loop [3] (fun i => ∃ k : Nat, i = .int .i64 k ∧ k ≤ l.length ∧ Hid ((l.take k).all digB = true)) (fun i => l.length - (intOf i).toNat)
  case atStart => exact ⟨0, rfl, Nat.zero_le _, Lib.hid (by simp)⟩
  case round =>
    obtain ⟨k, rfl, hk, hz⟩ := hrel
    by_cases hlt : k < l.length
    · have h1 : (k : Int) < (l.length : Int) := by omega
      have hks : k < s.size := by omega
      have HC : Hid (s[k] = l[k]) := Lib.hid (by have := HS.out; subst this; rfl)
      have HW : digB l[k] = true → Hid ((l.take (k + 1)).all digB = true) := fun h => Lib.hid (by rw [all_takeN hlt, hz.out, h]; rfl)
      have HN : digB l[k] = false → Hid (isNum l = false) := fun h => Lib.hid (by unfold isNum; rw [all_false hlt h]; rfl)
      generalize hc : s[k] = c at *
      rw [← HC.out] at HW HN
      have HD : Hid (digB c = (decide ((48 : Int) ≤ c.toNat) && decide ((c.toNat : Int) ≤ 57))) := Lib.hid (by unfold digB; rw [Bool.eq_iff_iff]; simp; omega)
      by_cases h3 : (c.toNat : Int) < 48
      · have hn := HN (by rw [HD.out]; simp; omega)
        clear HW HN
        go_wp2_with fail
        go_ret
        exact ⟨ret_bool hn.out.symm, rfl⟩
      · by_cases h4 : (57 : Int) < (c.toNat : Int)
        · have hn := HN (by rw [HD.out]; simp; omega)
          clear HW HN
          go_wp2_with fail
          go_ret
          exact ⟨ret_bool hn.out.symm, rfl⟩
        · have hw := HW (by rw [HD.out]; simp; omega)
          clear HW HN
          go_wp2_with fail
          go_round
          case rel => exact ⟨k + 1, by go_num, by omega, hw⟩
          case measure => simp [intOf]; omega
    · have h1 : ¬ (k : Int) < (l.length : Int) := by omega
      have HA : Hid (l.all digB = true) := Lib.hid (by have := hz.out; rwa [List.take_of_length_le (by omega)] at this)
      cases l with
      | nil =>
        have h0i : ¬ (1 : Int) ≤ (([] : Bs).length : Int) := by simp
        go_wp2_with fail
        go_ret
        exact ⟨rfl, rfl⟩
      | cons a r =>
        have h0i : (1 : Int) ≤ ((a :: r).length : Int) := by simp; omega
        have hs0 : 0 < s.size := by rw [hsz]; simp
        have hsa : s[0] = a := by have := HS.out; subst this; rfl
        rw [List.length_cons] at *
        by_cases h7 : r.length + 1 ≤ 7
        · have h7i : (r.length : Int) + 1 ≤ 7 := by omega
          by_cases h9 : r = []
          · have h10 : ((r.length : Int) + 1 == 1) = true := by simp [h9]
            have HG : Hid (isNum (a :: r) = true) := Lib.hid (by unfold isNum; rw [HA.out]; simp [h9])
            clear h9
            go_wp2_with fail
            go_ret
            exact ⟨ret_bool HG.out.symm, rfl⟩
          · have h10 : ((r.length : Int) + 1 == 1) = false := beqF (by intro h; exact h9 (List.eq_nil_of_length_eq_zero (by omega)))
            by_cases h8 : a.toNat = 48
            · have h11 : ((a.toNat : Int) != 48) = false := bneF (by omega)
              have HG : Hid (isNum (a :: r) = false) := Lib.hid (by unfold isNum; rw [HA.out]; simp [h9, h8])
              clear h9 h8
              go_wp2_with fail
              go_ret
              exact ⟨ret_bool HG.out.symm, rfl⟩
            · have h11 : ((a.toNat : Int) != 48) = true := bneT (by omega)
              have HG : Hid (isNum (a :: r) = true) := Lib.hid (by unfold isNum; rw [HA.out]; simp [h8]; omega)
              clear h9 h8
              go_wp2_with fail
              go_ret
              exact ⟨ret_bool HG.out.symm, rfl⟩
        · have h7i : ¬ (r.length : Int) + 1 ≤ 7 := by omega
          have HG : Hid (isNum (a :: r) = false) := Lib.hid (by unfold isNum; simp; intro _ h; omega)
          go_wp2_with fail
          go_ret
          exact ⟨ret_bool HG.out.symm, rfl⟩
end Go.Proofs.YthlollnpnangpaaDoor
