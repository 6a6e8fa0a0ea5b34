/- The reference's one. -/
import Derived.Test.YthlollnpnangpaaDoorYt
namespace Go.Proofs.YthlollnpnangpaaDoor
open Go.RowKit
set_option linter.unusedVariables false
def oneL (s : Bs) : Nat × Int := match s with
  | [] => (0, 0)
  | c :: r => if blkB c then (1, 0) else if c.toNat = 35 then (((c :: r).takeWhile (· != 10)).length, 0) else match firstT (c :: r) with
    | none => (0, 0)
    | some p => (p.2.length, p.1)
theorem ret_two {a b c d : Int} (h1 : a = c) (h2 : b = d) : Ending.returned (.tuple #[.int .i64 a, .int .i64 b]) = .returned (.tuple #[.int .i64 c, .int .i64 d]) := by rw [h1, h2]
theorem run_stop {l : Bs} {k : Nat} (hk : k < l.length) (ha : (l.take k).all wrdB = true) (hb : wrdB l[k] = false) : runN l = k := by
  have h2 : ∀ (s : Bs) (j : Nat) (hj : j < s.length), (s.take j).all wrdB = true → wrdB s[j] = false → (s.takeWhile wrdB).length = j := fun s => by
    induction s with
    | nil => intro j hj; simp at hj
    | cons a s ih =>
      intro j hj ha hb
      cases j with
      | zero => simp at hb; simp [hb]
      | succ j =>
        simp only [List.take_succ_cons, List.all_cons, Bool.and_eq_true] at ha
        rw [List.takeWhile_cons, if_pos ha.1, List.length_cons, ih j (by simpa using hj) ha.2 (by simpa using hb)]
  exact h2 l k hk ha hb
theorem run_full {l : Bs} {k : Nat} (hk : l.length ≤ k) (ha : (l.take k).all wrdB = true) : runN l = l.length := by
  rw [List.take_of_length_le hk] at ha
  unfold runN
  have : ∀ s : Bs, s.all wrdB = true → (s.takeWhile wrdB).length = s.length := fun s => by
    induction s with
    | nil => intro _; rfl
    | cons a s ih =>
      intro h
      simp only [List.all_cons, Bool.and_eq_true] at h
      rw [List.takeWhile_cons, if_pos h.1, List.length_cons, List.length_cons, ih h.2]
  exact this l ha
theorem tw_stop {l : Bs} {k : Nat} (hk : k < l.length) (ha : (l.take k).all (· != 10) = true) (hb : l[k] = 10) : (l.takeWhile (· != 10)).length = k := by
  have h2 : ∀ (s : Bs) (j : Nat) (hj : j < s.length), (s.take j).all (· != 10) = true → s[j] = 10 → (s.takeWhile (· != 10)).length = j := fun s => by
    induction s with
    | nil => intro j hj; simp at hj
    | cons a s ih =>
      intro j hj ha hb
      cases j with
      | zero => simp at hb; simp [hb]
      | succ j =>
        simp only [List.take_succ_cons, List.all_cons, Bool.and_eq_true] at ha
        rw [List.takeWhile_cons, if_pos ha.1, List.length_cons, ih j (by simpa using hj) ha.2 (by simpa using hb)]
  exact h2 l k hk ha hb
theorem tw_full {l : Bs} {k : Nat} (hk : l.length ≤ k) (ha : (l.take k).all (· != 10) = true) : (l.takeWhile (· != 10)).length = l.length := by
  rw [List.take_of_length_le hk] at ha
  have : ∀ s : Bs, s.all (· != 10) = true → (s.takeWhile (· != 10)).length = s.length := fun s => by
    induction s with
    | nil => intro _; rfl
    | cons a s ih =>
      intro h
      simp only [List.all_cons, Bool.and_eq_true] at h
      rw [List.takeWhile_cons, if_pos h.1, List.length_cons, List.length_cons, ih h.2]
  exact this l ha
/-- No blank, no comment, no mark. -/
def Plain (c : UInt8) (r : Bs) : Prop := blkB c = false ∧ c.toNat ≠ 35 ∧ c.toNat ≠ 43 ∧ c.toNat ≠ 58 ∧ c.toNat ≠ 40 ∧ c.toNat ≠ 41 ∧ ¬ (c.toNat = 45 ∧ r.head? = some 62)
theorem blk_nat (c : UInt8) : blkB c = (decide (c.toNat = 32) || decide (c.toNat = 9)) := by
  unfold blkB
  rw [Bool.eq_iff_iff]
  simp only [List.contains_cons, List.contains_nil, Bool.or_false, Bool.or_eq_true, beq_iff_eq, decide_eq_true_eq]
  rw [show (32 : UInt8) = UInt8.ofNat 32 by rfl, show (9 : UInt8) = UInt8.ofNat 9 by rfl, u8_lit (by decide), u8_lit (by decide)]
theorem first_zero {c : UInt8} {r : Bs} (h : runN (c :: r) = 0) : firstT (c :: r) = if c.toNat = 45 ∧ r.head? = some 62 then some (3, [45, 62]) else if c.toNat = 43 ∨ c.toNat = 58 ∨ c.toNat = 40 ∨ c.toNat = 41 then some (3, [c]) else none := by
  unfold firstT
  rw [h, if_neg (by omega)]
  dsimp only
  have e : ∀ k : Nat, k < 256 → (c = UInt8.ofNat k ↔ c.toNat = k) := fun k hk => u8_lit hk
  have e1 := e 45 (by decide); have e2 := e 43 (by decide); have e3 := e 58 (by decide); have e4 := e 40 (by decide); have e5 := e 41 (by decide)
  simp only [← e1, ← e2, ← e3, ← e4, ← e5]
  rfl
theorem run_zero {c : UInt8} {r : Bs} (h : wrdB c = false) : runN (c :: r) = 0 := by
  unfold runN
  rw [List.takeWhile_cons, if_neg (by rw [h]; simp)]
  rfl
theorem one_blk {c : UInt8} {r : Bs} (h : c.toNat = 32 ∨ c.toNat = 9) : oneL (c :: r) = (1, 0) := by
  have : blkB c = true := by rw [blk_nat]; simpa using h
  simp only [oneL, this, if_true]
theorem blk_no {c : UInt8} (h1 : c.toNat ≠ 32) (h2 : c.toNat ≠ 9) : blkB c = false := by rw [blk_nat]; simp [h1, h2]
theorem one_com {c : UInt8} {r : Bs} (h : c.toNat = 35) : oneL (c :: r) = (((c :: r).takeWhile (· != 10)).length, 0) := by
  simp only [oneL, blk_no (c := c) (by omega) (by omega), if_pos h, Bool.false_eq_true, if_false]
theorem not_wrd {c : UInt8} (h : c.toNat = 43 ∨ c.toNat = 58 ∨ c.toNat = 40 ∨ c.toNat = 41 ∨ c.toNat = 45) : wrdB c = false := by
  unfold wrdB lettB digB
  simp
  omega
theorem one_mark {c : UInt8} {r : Bs} (h : c.toNat = 43 ∨ c.toNat = 58 ∨ c.toNat = 40 ∨ c.toNat = 41) : oneL (c :: r) = (1, 3) := by
  simp only [oneL, blk_no (c := c) (by omega) (by omega), Bool.false_eq_true, if_false]
  rw [if_neg (by omega), first_zero (run_zero (not_wrd (by omega))), if_neg (by omega), if_pos h]
  rfl
theorem one_arrow {c : UInt8} {r : Bs} (h : c.toNat = 45) (h2 : r.head? = some 62) : oneL (c :: r) = (2, 3) := by
  simp only [oneL, blk_no (c := c) (by omega) (by omega), Bool.false_eq_true, if_false]
  rw [if_neg (by omega), first_zero (run_zero (not_wrd (by omega))), if_pos ⟨h, h2⟩]
  rfl
theorem one_else {c : UInt8} {r : Bs} {k : Nat} (hN : Plain c r) (h : runN (c :: r) = k) : (isWord ((c :: r).take k) = true → oneL (c :: r) = (k, 1)) ∧ (isWord ((c :: r).take k) = false → isNum ((c :: r).take k) = true → oneL (c :: r) = (k, 2)) ∧ (isWord ((c :: r).take k) = false → isNum ((c :: r).take k) = false → oneL (c :: r) = (0, 0)) := by
  obtain ⟨h1, h2, h3, h4, h5, h6, h7⟩ := hN
  have hl : ((c :: r).take k).length = k := by rw [List.length_take]; have := runN_le (c :: r); omega
  have e : oneL (c :: r) = match firstT (c :: r) with | none => (0, 0) | some p => (p.2.length, p.1) := by
    simp only [oneL, h1, Bool.false_eq_true, if_false]
    rw [if_neg h2]
  rw [e]
  by_cases h0 : 0 < k
  · have hf : firstT (c :: r) = if isWord ((c :: r).take k) then some (1, (c :: r).take k) else if isNum ((c :: r).take k) then some (2, (c :: r).take k) else none := by
      unfold firstT
      rw [h, if_pos h0]
    rw [hf]
    refine ⟨fun a => ?_, fun a b => ?_, fun a b => ?_⟩
    · rw [if_pos a]; dsimp only; rw [hl]
    · rw [if_neg (by rw [a]; simp), if_pos b]; dsimp only; rw [hl]
    · rw [if_neg (by rw [a]; simp), if_neg (by rw [b]; simp)]
  · have : k = 0 := by omega
    subst this
    have hw : isWord ((c :: r).take 0) = false := rfl
    have hn : isNum ((c :: r).take 0) = false := rfl
    rw [hw, hn, first_zero h, if_neg h7, if_neg (by omega)]
    exact ⟨fun a => by simp at a, fun a b => by simp at b, fun _ _ => rfl⟩
set_option maxRecDepth 100000 in
set_option maxHeartbeats 4000000 in
theorem rone_any (c : UInt8) (r : Bs) (hl : r.length ≤ 100000) (w : World) : Calls Tryd.prog 29 #[strV (c :: r)] w fun e w' => e = .returned (.tuple #[.int .i64 (oneL (c :: r)).1, .int .i64 (oneL (c :: r)).2]) ∧ w' = w := by
  have HL := Lib.hid hl
  obtain ⟨s, hs⟩ : ∃ s : ByteArray, s = ⟨(c :: r).toArray⟩ := ⟨_, rfl⟩
  have hsz : s.size = r.length + 1 := by rw [hs]; rfl
  have HS := Lib.hid hs
  have hs0 : 0 < s.size := by omega
  have hsa : s[0] = c := by have := HS.out; subst this; rfl
  have HX : Hid (∀ k, Value.string (s.extract 0 k) = strV ((c :: r).take k)) := Lib.hid (fun k => by rw [HS.out, str_take])
  rw [show strV (c :: r) = .string s by rw [hs]]
  clear hs
  go_enter Tryd.func29, Tryd.ntmps29
  by_cases n32 : c.toNat = 32
  · have HG := Lib.hid (one_blk (r := r) (.inl n32))
    have e32 : ((c.toNat : Int) == 32) = true := beqT (by omega)
    clear n32
    go_wp2_with fail
    ((try simp only [Exit.inBlock, Exit.then]); refine bodyPost_ret (results_tmp2 rfl _ _ _) rfl ?_)
    exact ⟨ret_two (by rw [HG.out]; rfl) (by rw [HG.out]), rfl⟩
  have e32 : ((c.toNat : Int) == 32) = false := beqF (by omega)
  by_cases n9 : c.toNat = 9
  · have HG := Lib.hid (one_blk (r := r) (.inr n9))
    have e9 : ((c.toNat : Int) == 9) = true := beqT (by omega)
    clear n32 n9
    go_wp2_with fail
    ((try simp only [Exit.inBlock, Exit.then]); refine bodyPost_ret (results_tmp2 rfl _ _ _) rfl ?_)
    exact ⟨ret_two (by rw [HG.out]; rfl) (by rw [HG.out]), rfl⟩
  have e9 : ((c.toNat : Int) == 9) = false := beqF (by omega)
  by_cases n35 : c.toNat = 35
  · have HG := Lib.hid (one_com (r := r) n35)
    have e35 : ((c.toNat : Int) == 35) = true := beqT (by omega)
    clear n32 n9 n35
    go_wp2_with fail
    go_loop [4] (fun i => ∃ k : Nat, i = .int .i64 k ∧ k ≤ r.length + 1 ∧ Hid (((c :: r).take k).all (· != 10) = true)) (fun i => r.length + 1 - (intOf i).toNat)
    case atStart => exact ⟨0, rfl, Nat.zero_le _, Lib.hid (by simp)⟩
    case round =>
      obtain ⟨k, rfl, hk, hz⟩ := hrel
      by_cases hlt : k < r.length + 1
      · have h1 : (k : Int) < (r.length : Int) + 1 := by omega
        have hks : k < s.size := by omega
        have HC : Hid (s[k] = (c :: r)[k]) := Lib.hid (by have := HS.out; subst this; rfl)
        generalize hc : s[k] = d at *
        by_cases hd : d.toNat = 10
        · have h10 : ((d.toNat : Int) != 10) = false := bneF (by omega)
          have HT := Lib.hid (tw_stop (l := c :: r) (k := k) (by simpa using hlt) hz.out (by rw [← HC.out, show (10 : UInt8) = UInt8.ofNat 10 by rfl]; exact (u8_lit (by decide)).2 hd))
          clear hd
          go_wp2_with fail
          ((try simp only [Exit.inBlock, Exit.then]); refine bodyPost_ret (results_tmp2 rfl _ _ _) rfl ?_)
          exact ⟨ret_two (by rw [HG.out, HT.out]) (by rw [HG.out]), rfl⟩
        · have h10 : ((d.toNat : Int) != 10) = true := bneT (by omega)
          have hw : Hid (((c :: r).take (k + 1)).all (· != 10) = true) := Lib.hid (by
            rw [all_takeN (p := (· != 10)) (by simpa using hlt), hz.out, ← HC.out]
            have : d ≠ 10 := fun e => hd (by rw [e]; rfl)
            simpa using this)
          clear hd
          go_wp2_with fail
          go_round
          case rel => exact ⟨k + 1, by go_num, by omega, hw⟩
          case measure => simp [intOf]; omega
      · have h1 : ¬ (k : Int) < (r.length : Int) + 1 := by omega
        have HT := Lib.hid (tw_full (l := c :: r) (k := k) (by simp; omega) hz.out)
        go_wp2_with fail
        ((try simp only [Exit.inBlock, Exit.then]); refine bodyPost_ret (results_tmp2 rfl _ _ _) rfl ?_)
        exact ⟨ret_two (by rw [HG.out, HT.out, List.length_cons]; omega) (by rw [HG.out]), rfl⟩
  have e35 : ((c.toNat : Int) == 35) = false := beqF (by omega)
  by_cases n43 : c.toNat = 43
  · have HG := Lib.hid (one_mark (r := r) (.inl n43))
    have e43 : ((c.toNat : Int) == 43) = true := beqT (by omega)
    clear n32 n9 n35 n43
    go_wp2_with fail
    ((try simp only [Exit.inBlock, Exit.then]); refine bodyPost_ret (results_tmp2 rfl _ _ _) rfl ?_)
    exact ⟨ret_two (by rw [HG.out]; rfl) (by rw [HG.out]), rfl⟩
  have e43 : ((c.toNat : Int) == 43) = false := beqF (by omega)
  by_cases n58 : c.toNat = 58
  · have HG := Lib.hid (one_mark (r := r) (.inr (.inl n58)))
    have e58 : ((c.toNat : Int) == 58) = true := beqT (by omega)
    clear n32 n9 n35 n43 n58
    go_wp2_with fail
    ((try simp only [Exit.inBlock, Exit.then]); refine bodyPost_ret (results_tmp2 rfl _ _ _) rfl ?_)
    exact ⟨ret_two (by rw [HG.out]; rfl) (by rw [HG.out]), rfl⟩
  have e58 : ((c.toNat : Int) == 58) = false := beqF (by omega)
  by_cases n40 : c.toNat = 40
  · have HG := Lib.hid (one_mark (r := r) (.inr (.inr (.inl n40))))
    have e40 : ((c.toNat : Int) == 40) = true := beqT (by omega)
    clear n32 n9 n35 n43 n58 n40
    go_wp2_with fail
    ((try simp only [Exit.inBlock, Exit.then]); refine bodyPost_ret (results_tmp2 rfl _ _ _) rfl ?_)
    exact ⟨ret_two (by rw [HG.out]; rfl) (by rw [HG.out]), rfl⟩
  have e40 : ((c.toNat : Int) == 40) = false := beqF (by omega)
  by_cases n41 : c.toNat = 41
  · have HG := Lib.hid (one_mark (r := r) (.inr (.inr (.inr n41))))
    have e41 : ((c.toNat : Int) == 41) = true := beqT (by omega)
    clear n32 n9 n35 n43 n58 n40 n41
    go_wp2_with fail
    ((try simp only [Exit.inBlock, Exit.then]); refine bodyPost_ret (results_tmp2 rfl _ _ _) rfl ?_)
    exact ⟨ret_two (by rw [HG.out]; rfl) (by rw [HG.out]), rfl⟩
  have e41 : ((c.toNat : Int) == 41) = false := beqF (by omega)
  have HB := Lib.hid (blk_no n32 n9)
  cases r with
  | nil =>
    have HN : Hid (Plain c []) := Lib.hid ⟨HB.out, n35, n43, n58, n40, n41, by simp⟩
    clear n32 n9 n35 n43 n58 n40 n41
    replace hsz : s.size = 1 := hsz
    go_wp2_with fail
    go_loop [4] (fun i => ∃ k : Nat, i = .int .i64 k ∧ k ≤ 1 ∧ Hid (((c :: []).take k).all wrdB = true)) (fun i => 1 - (intOf i).toNat)
    case atStart => exact ⟨0, rfl, Nat.zero_le _, Lib.hid (by simp)⟩
    case round =>
      obtain ⟨k, rfl, hk, hz⟩ := hrel
      have HXk := Lib.hid (HX.out k)
      have HW : Hid (∀ W, Calls Tryd.prog 17 #[.string (s.extract 0 k)] W fun e w' => e = .returned (.bool (isWord ((c :: []).take k))) ∧ w' = W) := Lib.hid (fun W => by rw [HXk.out]; exact rWord_any _ (by rw [List.length_take, List.length_cons]; omega) W)
      have HU : Hid (∀ W, Calls Tryd.prog 48 #[.string (s.extract 0 k)] W fun e w' => e = .returned (.bool (isNum ((c :: []).take k))) ∧ w' = W) := Lib.hid (fun W => by rw [HXk.out]; exact rnumber_any _ (by rw [List.length_take, List.length_cons]; omega) W)
      by_cases hlt : k < 1
      · have h1 : (k : Int) < (1 : Int) := by omega
        have hks : k < s.size := by omega
        have HC : Hid (s[k] = (c :: [])[k]) := Lib.hid (by have := HS.out; subst this; rfl)
        generalize hc : s[k] = d at *
        cases hle : wrdB d with
        | true =>
          have hw : Hid (((c :: []).take (k + 1)).all wrdB = true) := Lib.hid (by rw [all_takeN (by simpa using hlt), hz.out, ← HC.out, hle]; rfl)
          go_wp2_with (go_at_call 32; refine (rletter_any d _).mono ?_; rintro e w' ⟨rfl, rfl⟩; rw [hle])
          go_round
          case rel => exact ⟨k + 1, by go_num, by omega, hw⟩
          case measure => simp [intOf]; omega
        | false =>
          have HG := Lib.hid (one_else HN.out (run_stop (l := c :: []) (by simpa using hlt) hz.out (by rw [← HC.out]; exact hle)))
          have hk2 : (k : Int) ≤ (1 : Int) := by omega
          cases hw : isWord ((c :: []).take k) with
          | true =>
            go_wp2_with (first | (go_at_call 32; refine (rletter_any d _).mono ?_; rintro e w' ⟨rfl, rfl⟩; rw [hle]) | (go_at_call 17; refine (HW.out _).mono ?_; rintro e w' ⟨rfl, rfl⟩; rw [hw]))
            ((try simp only [Exit.inBlock, Exit.then]); refine bodyPost_ret (results_tmp2 rfl _ _ _) rfl ?_)
            exact ⟨ret_two (by rw [HG.out.1 hw] <;> rfl) (by rw [HG.out.1 hw] <;> rfl), rfl⟩
          | false =>
            cases hu : isNum ((c :: []).take k) with
            | true =>
              go_wp2_with (first | (go_at_call 32; refine (rletter_any d _).mono ?_; rintro e w' ⟨rfl, rfl⟩; rw [hle]) | (go_at_call 17; refine (HW.out _).mono ?_; rintro e w' ⟨rfl, rfl⟩; rw [hw]) | (go_at_call 48; refine (HU.out _).mono ?_; rintro e w' ⟨rfl, rfl⟩; rw [hu]))
              ((try simp only [Exit.inBlock, Exit.then]); refine bodyPost_ret (results_tmp2 rfl _ _ _) rfl ?_)
              exact ⟨ret_two (by rw [HG.out.2.1 hw hu] <;> rfl) (by rw [HG.out.2.1 hw hu] <;> rfl), rfl⟩
            | false =>
              go_wp2_with (first | (go_at_call 32; refine (rletter_any d _).mono ?_; rintro e w' ⟨rfl, rfl⟩; rw [hle]) | (go_at_call 17; refine (HW.out _).mono ?_; rintro e w' ⟨rfl, rfl⟩; rw [hw]) | (go_at_call 48; refine (HU.out _).mono ?_; rintro e w' ⟨rfl, rfl⟩; rw [hu]))
              ((try simp only [Exit.inBlock, Exit.then]); refine bodyPost_ret (results_tmp2 rfl _ _ _) rfl ?_)
              exact ⟨ret_two (by rw [HG.out.2.2 hw hu] <;> rfl) (by rw [HG.out.2.2 hw hu] <;> rfl), rfl⟩
      · have h1 : ¬ (k : Int) < (1 : Int) := by omega
        have HG := Lib.hid (one_else (k := k) HN.out ((run_full (l := c :: []) (by simp; omega) hz.out).trans (by simp; omega)))
        have hk2 : (k : Int) ≤ (1 : Int) := by omega
        cases hw : isWord ((c :: []).take k) with
        | true =>
          go_wp2_with (first | (go_at_call 32; refine (rletter_any d _).mono ?_; rintro e w' ⟨rfl, rfl⟩; rw [hle]) | (go_at_call 17; refine (HW.out _).mono ?_; rintro e w' ⟨rfl, rfl⟩; rw [hw]))
          ((try simp only [Exit.inBlock, Exit.then]); refine bodyPost_ret (results_tmp2 rfl _ _ _) rfl ?_)
          exact ⟨ret_two (by rw [HG.out.1 hw] <;> rfl) (by rw [HG.out.1 hw] <;> rfl), rfl⟩
        | false =>
          cases hu : isNum ((c :: []).take k) with
          | true =>
            go_wp2_with (first | (go_at_call 32; refine (rletter_any d _).mono ?_; rintro e w' ⟨rfl, rfl⟩; rw [hle]) | (go_at_call 17; refine (HW.out _).mono ?_; rintro e w' ⟨rfl, rfl⟩; rw [hw]) | (go_at_call 48; refine (HU.out _).mono ?_; rintro e w' ⟨rfl, rfl⟩; rw [hu]))
            ((try simp only [Exit.inBlock, Exit.then]); refine bodyPost_ret (results_tmp2 rfl _ _ _) rfl ?_)
            exact ⟨ret_two (by rw [HG.out.2.1 hw hu] <;> rfl) (by rw [HG.out.2.1 hw hu] <;> rfl), rfl⟩
          | false =>
            go_wp2_with (first | (go_at_call 32; refine (rletter_any d _).mono ?_; rintro e w' ⟨rfl, rfl⟩; rw [hle]) | (go_at_call 17; refine (HW.out _).mono ?_; rintro e w' ⟨rfl, rfl⟩; rw [hw]) | (go_at_call 48; refine (HU.out _).mono ?_; rintro e w' ⟨rfl, rfl⟩; rw [hu]))
            ((try simp only [Exit.inBlock, Exit.then]); refine bodyPost_ret (results_tmp2 rfl _ _ _) rfl ?_)
            exact ⟨ret_two (by rw [HG.out.2.2 hw hu] <;> rfl) (by rw [HG.out.2.2 hw hu] <;> rfl), rfl⟩
  | cons d0 q =>
    rw [List.length_cons] at *
    have hs1 : 1 < s.size := by omega
    have hsb : s[1] = d0 := by have := HS.out; subst this; rfl
    have hl1 : (1 : Int) < (q.length : Int) + 1 + 1 := by omega
    by_cases n45 : c.toNat = 45
    · have e45 : ((c.toNat : Int) == 45) = true := beqT (by omega)
      by_cases n62 : d0.toNat = 62
      · have e62 : ((d0.toNat : Int) == 62) = true := beqT (by omega)
        have HG := Lib.hid (one_arrow (r := d0 :: q) n45 (by simp only [List.head?_cons, Option.some.injEq]; exact (u8_lit (by decide)).2 n62))
        clear n32 n9 n35 n43 n58 n40 n41 n45 n62
        go_wp2_with fail
        ((try simp only [Exit.inBlock, Exit.then]); refine bodyPost_ret (results_tmp2 rfl _ _ _) rfl ?_)
        exact ⟨ret_two (by rw [HG.out]; rfl) (by rw [HG.out]), rfl⟩
      · have e62 : ((d0.toNat : Int) == 62) = false := beqF (by omega)
        have HN : Hid (Plain c (d0 :: q)) := Lib.hid ⟨HB.out, n35, n43, n58, n40, n41, by rintro ⟨_, h⟩; simp only [List.head?_cons, Option.some.injEq] at h; exact n62 (by rw [h]; rfl)⟩
        clear n32 n9 n35 n43 n58 n40 n41 n45 n62
        go_wp2_with fail
        go_loop [4] (fun i => ∃ k : Nat, i = .int .i64 k ∧ k ≤ q.length + 1 + 1 ∧ Hid (((c :: d0 :: q).take k).all wrdB = true)) (fun i => q.length + 1 + 1 - (intOf i).toNat)
        case atStart => exact ⟨0, rfl, Nat.zero_le _, Lib.hid (by simp)⟩
        case round =>
          obtain ⟨k, rfl, hk, hz⟩ := hrel
          have HXk := Lib.hid (HX.out k)
          have HW : Hid (∀ W, Calls Tryd.prog 17 #[.string (s.extract 0 k)] W fun e w' => e = .returned (.bool (isWord ((c :: d0 :: q).take k))) ∧ w' = W) := Lib.hid (fun W => by rw [HXk.out]; exact rWord_any _ (by rw [List.length_take, List.length_cons]; omega) W)
          have HU : Hid (∀ W, Calls Tryd.prog 48 #[.string (s.extract 0 k)] W fun e w' => e = .returned (.bool (isNum ((c :: d0 :: q).take k))) ∧ w' = W) := Lib.hid (fun W => by rw [HXk.out]; exact rnumber_any _ (by rw [List.length_take, List.length_cons]; omega) W)
          by_cases hlt : k < q.length + 1 + 1
          · have h1 : (k : Int) < (q.length : Int) + 1 + 1 := by omega
            have hks : k < s.size := by omega
            have HC : Hid (s[k] = (c :: d0 :: q)[k]) := Lib.hid (by have := HS.out; subst this; rfl)
            generalize hc : s[k] = d at *
            cases hle : wrdB d with
            | true =>
              have hw : Hid (((c :: d0 :: q).take (k + 1)).all wrdB = true) := Lib.hid (by rw [all_takeN (by simpa using hlt), hz.out, ← HC.out, hle]; rfl)
              go_wp2_with (go_at_call 32; refine (rletter_any d _).mono ?_; rintro e w' ⟨rfl, rfl⟩; rw [hle])
              go_round
              case rel => exact ⟨k + 1, by go_num, by omega, hw⟩
              case measure => simp [intOf]; omega
            | false =>
              have HG := Lib.hid (one_else HN.out (run_stop (l := c :: d0 :: q) (by simpa using hlt) hz.out (by rw [← HC.out]; exact hle)))
              have hk2 : (k : Int) ≤ (q.length : Int) + 1 + 1 := by omega
              cases hw : isWord ((c :: d0 :: q).take k) with
              | true =>
                go_wp2_with (first | (go_at_call 32; refine (rletter_any d _).mono ?_; rintro e w' ⟨rfl, rfl⟩; rw [hle]) | (go_at_call 17; refine (HW.out _).mono ?_; rintro e w' ⟨rfl, rfl⟩; rw [hw]))
                ((try simp only [Exit.inBlock, Exit.then]); refine bodyPost_ret (results_tmp2 rfl _ _ _) rfl ?_)
                exact ⟨ret_two (by rw [HG.out.1 hw] <;> rfl) (by rw [HG.out.1 hw] <;> rfl), rfl⟩
              | false =>
                cases hu : isNum ((c :: d0 :: q).take k) with
                | true =>
                  go_wp2_with (first | (go_at_call 32; refine (rletter_any d _).mono ?_; rintro e w' ⟨rfl, rfl⟩; rw [hle]) | (go_at_call 17; refine (HW.out _).mono ?_; rintro e w' ⟨rfl, rfl⟩; rw [hw]) | (go_at_call 48; refine (HU.out _).mono ?_; rintro e w' ⟨rfl, rfl⟩; rw [hu]))
                  ((try simp only [Exit.inBlock, Exit.then]); refine bodyPost_ret (results_tmp2 rfl _ _ _) rfl ?_)
                  exact ⟨ret_two (by rw [HG.out.2.1 hw hu] <;> rfl) (by rw [HG.out.2.1 hw hu] <;> rfl), rfl⟩
                | false =>
                  go_wp2_with (first | (go_at_call 32; refine (rletter_any d _).mono ?_; rintro e w' ⟨rfl, rfl⟩; rw [hle]) | (go_at_call 17; refine (HW.out _).mono ?_; rintro e w' ⟨rfl, rfl⟩; rw [hw]) | (go_at_call 48; refine (HU.out _).mono ?_; rintro e w' ⟨rfl, rfl⟩; rw [hu]))
                  ((try simp only [Exit.inBlock, Exit.then]); refine bodyPost_ret (results_tmp2 rfl _ _ _) rfl ?_)
                  exact ⟨ret_two (by rw [HG.out.2.2 hw hu] <;> rfl) (by rw [HG.out.2.2 hw hu] <;> rfl), rfl⟩
          · have h1 : ¬ (k : Int) < (q.length : Int) + 1 + 1 := by omega
            have HG := Lib.hid (one_else (k := k) HN.out ((run_full (l := c :: d0 :: q) (by simp; omega) hz.out).trans (by simp; omega)))
            have hk2 : (k : Int) ≤ (q.length : Int) + 1 + 1 := by omega
            cases hw : isWord ((c :: d0 :: q).take k) with
            | true =>
              go_wp2_with (first | (go_at_call 32; refine (rletter_any d _).mono ?_; rintro e w' ⟨rfl, rfl⟩; rw [hle]) | (go_at_call 17; refine (HW.out _).mono ?_; rintro e w' ⟨rfl, rfl⟩; rw [hw]))
              ((try simp only [Exit.inBlock, Exit.then]); refine bodyPost_ret (results_tmp2 rfl _ _ _) rfl ?_)
              exact ⟨ret_two (by rw [HG.out.1 hw] <;> rfl) (by rw [HG.out.1 hw] <;> rfl), rfl⟩
            | false =>
              cases hu : isNum ((c :: d0 :: q).take k) with
              | true =>
                go_wp2_with (first | (go_at_call 32; refine (rletter_any d _).mono ?_; rintro e w' ⟨rfl, rfl⟩; rw [hle]) | (go_at_call 17; refine (HW.out _).mono ?_; rintro e w' ⟨rfl, rfl⟩; rw [hw]) | (go_at_call 48; refine (HU.out _).mono ?_; rintro e w' ⟨rfl, rfl⟩; rw [hu]))
                ((try simp only [Exit.inBlock, Exit.then]); refine bodyPost_ret (results_tmp2 rfl _ _ _) rfl ?_)
                exact ⟨ret_two (by rw [HG.out.2.1 hw hu] <;> rfl) (by rw [HG.out.2.1 hw hu] <;> rfl), rfl⟩
              | false =>
                go_wp2_with (first | (go_at_call 32; refine (rletter_any d _).mono ?_; rintro e w' ⟨rfl, rfl⟩; rw [hle]) | (go_at_call 17; refine (HW.out _).mono ?_; rintro e w' ⟨rfl, rfl⟩; rw [hw]) | (go_at_call 48; refine (HU.out _).mono ?_; rintro e w' ⟨rfl, rfl⟩; rw [hu]))
                ((try simp only [Exit.inBlock, Exit.then]); refine bodyPost_ret (results_tmp2 rfl _ _ _) rfl ?_)
                exact ⟨ret_two (by rw [HG.out.2.2 hw hu] <;> rfl) (by rw [HG.out.2.2 hw hu] <;> rfl), rfl⟩
    · have e45 : ((c.toNat : Int) == 45) = false := beqF (by omega)
      have HN : Hid (Plain c (d0 :: q)) := Lib.hid ⟨HB.out, n35, n43, n58, n40, n41, fun h => n45 h.1⟩
      clear n32 n9 n35 n43 n58 n40 n41 n45
      go_wp2_with fail
      go_loop [4] (fun i => ∃ k : Nat, i = .int .i64 k ∧ k ≤ q.length + 1 + 1 ∧ Hid (((c :: d0 :: q).take k).all wrdB = true)) (fun i => q.length + 1 + 1 - (intOf i).toNat)
      case atStart => exact ⟨0, rfl, Nat.zero_le _, Lib.hid (by simp)⟩
      case round =>
        obtain ⟨k, rfl, hk, hz⟩ := hrel
        have HXk := Lib.hid (HX.out k)
        have HW : Hid (∀ W, Calls Tryd.prog 17 #[.string (s.extract 0 k)] W fun e w' => e = .returned (.bool (isWord ((c :: d0 :: q).take k))) ∧ w' = W) := Lib.hid (fun W => by rw [HXk.out]; exact rWord_any _ (by rw [List.length_take, List.length_cons]; omega) W)
        have HU : Hid (∀ W, Calls Tryd.prog 48 #[.string (s.extract 0 k)] W fun e w' => e = .returned (.bool (isNum ((c :: d0 :: q).take k))) ∧ w' = W) := Lib.hid (fun W => by rw [HXk.out]; exact rnumber_any _ (by rw [List.length_take, List.length_cons]; omega) W)
        by_cases hlt : k < q.length + 1 + 1
        · have h1 : (k : Int) < (q.length : Int) + 1 + 1 := by omega
          have hks : k < s.size := by omega
          have HC : Hid (s[k] = (c :: d0 :: q)[k]) := Lib.hid (by have := HS.out; subst this; rfl)
          generalize hc : s[k] = d at *
          cases hle : wrdB d with
          | true =>
            have hw : Hid (((c :: d0 :: q).take (k + 1)).all wrdB = true) := Lib.hid (by rw [all_takeN (by simpa using hlt), hz.out, ← HC.out, hle]; rfl)
            go_wp2_with (go_at_call 32; refine (rletter_any d _).mono ?_; rintro e w' ⟨rfl, rfl⟩; rw [hle])
            go_round
            case rel => exact ⟨k + 1, by go_num, by omega, hw⟩
            case measure => simp [intOf]; omega
          | false =>
            have HG := Lib.hid (one_else HN.out (run_stop (l := c :: d0 :: q) (by simpa using hlt) hz.out (by rw [← HC.out]; exact hle)))
            have hk2 : (k : Int) ≤ (q.length : Int) + 1 + 1 := by omega
            cases hw : isWord ((c :: d0 :: q).take k) with
            | true =>
              go_wp2_with (first | (go_at_call 32; refine (rletter_any d _).mono ?_; rintro e w' ⟨rfl, rfl⟩; rw [hle]) | (go_at_call 17; refine (HW.out _).mono ?_; rintro e w' ⟨rfl, rfl⟩; rw [hw]))
              ((try simp only [Exit.inBlock, Exit.then]); refine bodyPost_ret (results_tmp2 rfl _ _ _) rfl ?_)
              exact ⟨ret_two (by rw [HG.out.1 hw] <;> rfl) (by rw [HG.out.1 hw] <;> rfl), rfl⟩
            | false =>
              cases hu : isNum ((c :: d0 :: q).take k) with
              | true =>
                go_wp2_with (first | (go_at_call 32; refine (rletter_any d _).mono ?_; rintro e w' ⟨rfl, rfl⟩; rw [hle]) | (go_at_call 17; refine (HW.out _).mono ?_; rintro e w' ⟨rfl, rfl⟩; rw [hw]) | (go_at_call 48; refine (HU.out _).mono ?_; rintro e w' ⟨rfl, rfl⟩; rw [hu]))
                ((try simp only [Exit.inBlock, Exit.then]); refine bodyPost_ret (results_tmp2 rfl _ _ _) rfl ?_)
                exact ⟨ret_two (by rw [HG.out.2.1 hw hu] <;> rfl) (by rw [HG.out.2.1 hw hu] <;> rfl), rfl⟩
              | false =>
                go_wp2_with (first | (go_at_call 32; refine (rletter_any d _).mono ?_; rintro e w' ⟨rfl, rfl⟩; rw [hle]) | (go_at_call 17; refine (HW.out _).mono ?_; rintro e w' ⟨rfl, rfl⟩; rw [hw]) | (go_at_call 48; refine (HU.out _).mono ?_; rintro e w' ⟨rfl, rfl⟩; rw [hu]))
                ((try simp only [Exit.inBlock, Exit.then]); refine bodyPost_ret (results_tmp2 rfl _ _ _) rfl ?_)
                exact ⟨ret_two (by rw [HG.out.2.2 hw hu] <;> rfl) (by rw [HG.out.2.2 hw hu] <;> rfl), rfl⟩
        · have h1 : ¬ (k : Int) < (q.length : Int) + 1 + 1 := by omega
          have HG := Lib.hid (one_else (k := k) HN.out ((run_full (l := c :: d0 :: q) (by simp; omega) hz.out).trans (by simp; omega)))
          have hk2 : (k : Int) ≤ (q.length : Int) + 1 + 1 := by omega
          cases hw : isWord ((c :: d0 :: q).take k) with
          | true =>
            go_wp2_with (first | (go_at_call 32; refine (rletter_any d _).mono ?_; rintro e w' ⟨rfl, rfl⟩; rw [hle]) | (go_at_call 17; refine (HW.out _).mono ?_; rintro e w' ⟨rfl, rfl⟩; rw [hw]))
            ((try simp only [Exit.inBlock, Exit.then]); refine bodyPost_ret (results_tmp2 rfl _ _ _) rfl ?_)
            exact ⟨ret_two (by rw [HG.out.1 hw] <;> rfl) (by rw [HG.out.1 hw] <;> rfl), rfl⟩
          | false =>
            cases hu : isNum ((c :: d0 :: q).take k) with
            | true =>
              go_wp2_with (first | (go_at_call 32; refine (rletter_any d _).mono ?_; rintro e w' ⟨rfl, rfl⟩; rw [hle]) | (go_at_call 17; refine (HW.out _).mono ?_; rintro e w' ⟨rfl, rfl⟩; rw [hw]) | (go_at_call 48; refine (HU.out _).mono ?_; rintro e w' ⟨rfl, rfl⟩; rw [hu]))
              ((try simp only [Exit.inBlock, Exit.then]); refine bodyPost_ret (results_tmp2 rfl _ _ _) rfl ?_)
              exact ⟨ret_two (by rw [HG.out.2.1 hw hu] <;> rfl) (by rw [HG.out.2.1 hw hu] <;> rfl), rfl⟩
            | false =>
              go_wp2_with (first | (go_at_call 32; refine (rletter_any d _).mono ?_; rintro e w' ⟨rfl, rfl⟩; rw [hle]) | (go_at_call 17; refine (HW.out _).mono ?_; rintro e w' ⟨rfl, rfl⟩; rw [hw]) | (go_at_call 48; refine (HU.out _).mono ?_; rintro e w' ⟨rfl, rfl⟩; rw [hu]))
              ((try simp only [Exit.inBlock, Exit.then]); refine bodyPost_ret (results_tmp2 rfl _ _ _) rfl ?_)
              exact ⟨ret_two (by rw [HG.out.2.2 hw hu] <;> rfl) (by rw [HG.out.2.2 hw hu] <;> rfl), rfl⟩
end Go.Proofs.YthlollnpnangpaaDoor
