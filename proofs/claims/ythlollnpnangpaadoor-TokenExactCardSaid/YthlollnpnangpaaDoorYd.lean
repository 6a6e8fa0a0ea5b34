/- strings' functions in lists' words; token.first. -/
import Derived.Test.YthlollnpnangpaaDoorYc
import Derived.Deep.RegionHeld3
namespace Go.Proofs.YthlollnpnangpaaDoor
open Go.RowKit
set_option linter.unusedVariables false
theorem strV_inj {a b : Bs} (h : strV a = strV b) : a = b := by
  unfold strV at h
  simpa using h
theorem strV_of (s : ByteArray) : Value.string s = strV s.data.toList := rfl
theorem indexByte_any (l : Bs) (c : UInt8) (w : World) : Calls Tryd.prog 39 #[strV l, .int .u8 c.toNat] w fun e w' => e = .returned (.int .i64 (Lib.indexByte l c)) ∧ w' = w := by
  refine (Tryd.strings_IndexByte ⟨l.toArray⟩ c.toNat w).mono ?_
  rintro e w' ⟨rfl, rfl⟩
  exact ⟨by simp, rfl⟩
theorem trimSuffix_any (l : Bs) (p : Bs) (hl : l.length ≤ 1000000) (w : World) : Calls Tryd.prog 26 #[strV l, strV p] w fun e w' => e = .returned (strV (Lib.trimSuffix l p)) ∧ w' = w :=
  Tryd.strings_TrimSuffix ⟨l.toArray⟩ ⟨p.toArray⟩ w (by show l.length ≤ _; omega)
theorem hasPrefix_any (l : Bs) (p : Bs) (w : World) : Calls Tryd.prog 47 #[strV l, strV p] w fun e w' => e = .returned (.bool (Lib.hasPrefix l p)) ∧ w' = w :=
  Tryd.strings_HasPrefix ⟨l.toArray⟩ ⟨p.toArray⟩ w
theorem grown_of_below {w w' : World} (h : Below w.heap.size w w') : w.grownBy w' none := ⟨h.os, h.tape, h.output, h.size, fun i hi _ => h.block i hi⟩
theorem trimLeft_any (l : Bs) (w : World) : Calls Tryd.prog 27 #[strV l, strV [32, 9]] w fun e w' => e = .returned (strV (l.dropWhile blkB)) ∧ w.grownBy w' none := by
  refine (Tryd.strings_TrimLeft_set ⟨l.toArray⟩ ⟨#[32, 9]⟩ w (by decide) (ascii_of_all (by decide))).mono ?_
  rintro e w' ⟨rfl, h⟩
  exact ⟨rfl, grown_of_below h⟩
def cutTo (l : Bs) : Bs := l.takeWhile (· != 35)
theorem indexByte_take' (c : UInt8) : ∀ s : Bs, Lib.indexByte s c = if (s.takeWhile (· != c)).length = s.length then -1 else ((s.takeWhile (· != c)).length : Int)
  | [] => rfl
  | a :: s => by
    have ih := indexByte_take' c s
    unfold Lib.indexByte
    by_cases h : a = c
    · subst h; simp
    · have h1 : (a == c) = false := by simpa using h
      have h2 : (a != c) = true := by simpa using h
      rw [h1, List.takeWhile_cons, if_pos h2]
      simp only [List.length_cons, Nat.add_right_cancel_iff, Bool.false_eq_true, if_false]
      by_cases h3 : (s.takeWhile (· != c)).length = s.length
      · rw [if_pos h3] at ih ⊢
        rw [ih]; rfl
      · rw [if_neg h3] at ih ⊢
        rw [ih]
        have h4 : ((((s.takeWhile (· != c)).length : Int)) == -1) = false := by simp
        rw [h4]; simp
theorem take_takeWhile {p : UInt8 → Bool} : ∀ t : Bs, t.take (t.takeWhile p).length = t.takeWhile p
  | [] => rfl
  | d :: t => by
    rw [List.takeWhile_cons]
    split
    · simp [take_takeWhile t]
    · rfl
theorem str_take (l : Bs) (k : Nat) : (⟨l.toArray⟩ : ByteArray).extract 0 k = ⟨(l.take k).toArray⟩ := by rw [Lib.extract_eq]; simp
theorem str_drop (l : Bs) (k : Nat) : (⟨l.toArray⟩ : ByteArray).extract k (⟨l.toArray⟩ : ByteArray).size = ⟨(l.drop k).toArray⟩ := by
  rw [Lib.extract_eq]
  have : (⟨l.toArray⟩ : ByteArray).size = l.length := rfl
  rw [this]
  simp only [List.take_of_length_le (Nat.le_of_eq (List.length_drop (i := k) (l := l)))]
def CutR (l : Bs) (e : Ending) : Prop := ∃ a b, e = .returned (.tuple #[strV (l.takeWhile (· != 35)), a, b])
set_option maxRecDepth 100000 in
set_option maxHeartbeats 1000000 in
theorem cut1_any (l : Bs) (hl : l.length ≤ 1000000) (w : World) : Calls Tryd.prog 40 #[strV l, strV [35]] w fun e w' => CutR l e ∧ w.grownBy w' none := by
  have HI : Hid (∀ W, Calls Tryd.prog 53 #[strV l, strV [35]] W fun e w' => e = .returned (.int .i64 (Lib.indexByte l 35)) ∧ w' = W) := Lib.hid (fun W => Tryd.stringslite_Index_one ⟨l.toArray⟩ 35 W)
  have HT := Lib.hid (indexByte_take' 35 l)
  have HK := Lib.hid (take_takeWhile (p := (· != 35)) l)
  have HL := Lib.hid (takeWhile_le' (p := (· != 35)) l)
  go_enter Tryd.func40, Tryd.ntmps40
  obtain ⟨s, hs⟩ : ∃ s : ByteArray, s = ⟨l.toArray⟩ := ⟨_, rfl⟩
  have hsz : s.size = l.length := by rw [hs]; rfl
  have HS := Lib.hid hs
  rw [show strV l = .string s by rw [hs]] at HI ⊢
  clear hs
  by_cases h : (l.takeWhile (· != 35)).length = l.length
  · have hi : Lib.indexByte l 35 = -1 := by rw [HT.out, if_pos h]
    have HG : Hid (CutR l (.returned (.tuple #[.string s, strV [], .bool false]))) := Lib.hid ⟨_, _, by rw [HS.out, ← HK.out, h, List.take_length]⟩
    clear h
    go_wp2_with (go_at_call 53; refine (HI.out _).mono ?_; rintro e w' ⟨rfl, rfl⟩; rw [hi])
    go_ret3
    exact ⟨HG.out, grown_refl _ _⟩
  · have hi : Lib.indexByte l 35 = ((l.takeWhile (· != 35)).length : Int) := by rw [HT.out, if_neg h]
    have HG : Hid (s.extract 0 (l.takeWhile (· != 35)).length = ⟨(l.takeWhile (· != 35)).toArray⟩) := Lib.hid (by rw [HS.out, str_take, HK.out])
    have h1 : (l.takeWhile (· != 35)).length < l.length := by have := HL.out; omega
    clear h
    generalize (l.takeWhile (· != 35)).length = k at *
    have h2 : k + 1 ≤ l.length := h1
    have h3 : (k : Int) + 1 ≤ (l.length : Int) := by omega
    go_wp2_with (go_at_call 53; refine (HI.out _).mono ?_; rintro e w' ⟨rfl, rfl⟩; rw [hi])
    go_quiet (fail)
    go_wp2_with fail
    go_ret3
    exact ⟨⟨_, _, by rw [show strV (l.takeWhile (· != 35)) = .string (s.extract 0 k) by unfold strV; rw [HG.out]]; rfl⟩, by first | exact grown_refl _ _ | exact grown_drewN _ _ _⟩
set_option maxRecDepth 100000 in
theorem cut_any (l : Bs) (hl : l.length ≤ 1000000) (w : World) : Calls Tryd.prog 25 #[strV l, strV [35]] w fun e w' => CutR l e ∧ w.grownBy w' none := by
  go_enter Tryd.func25, Tryd.ntmps25
  go_wp2_with (go_at_call 40; refine (cut1_any l hl _).mono ?_; rintro e w' ⟨⟨a, b, rfl⟩, hg⟩; have HG := Lib.hid hg; clear hg)
  go_ret3
  exact ⟨⟨_, _, rfl⟩, HG.out⟩
theorem results_cell2 {fn : Func} {p u : Tmp} {ty : TypeId} (h : fn.results = #[.cell p ty, .tmp u]) (tmps : Array Value) (w : World) (g : Nat) (t : TypeId) (cs : Array Value) (fr : Nat × Nat) (fs : Array Field)
    (hp : tmps.getD p undef = .pointer (some ⟨g, 0, none⟩)) (hg : w.heap[g]? = some (.cells cs t fr))
    (hu : Tryd.prog.underlying ty = some (.struct fs)) (hi : (Tryd.prog.info? ty).map (·.size) = some cs.size) :
    (results fn tmps).run Tryd.prog w = .ok (.tuple #[.agg cs, tmps.getD u undef]) w := by
  rw [results_cell_tmp h, hp]
  simp [asAddr, run_loadVar_row w g t ty cs fr (.struct fs) hg hu rfl hi, Result.andThen]
def FirstR (l : Bs) (e : Ending) : Prop := match firstT l with
  | some p => e = .returned (.tuple #[.agg #[.int .i64 p.1, strV p.2, .int .i64 0], .bool true])
  | none => ∃ (k : Int) (z : Bs), e = .returned (.tuple #[.agg #[.int .i64 k, strV z, .int .i64 0], .bool false])
theorem FirstR.mk {l : Bs} {p : Int × Bs} (h : firstT l = some p) : FirstR l (.returned (.tuple #[.agg #[.int .i64 p.1, strV p.2, .int .i64 0], .bool true])) := by unfold FirstR; rw [h]
theorem FirstR.no {l : Bs} (h : firstT l = none) (k : Int) (z : Bs) : FirstR l (.returned (.tuple #[.agg #[.int .i64 k, strV z, .int .i64 0], .bool false])) := by unfold FirstR; rw [h]; exact ⟨_, _, rfl⟩
theorem marks_index (c : UInt8) : (0 ≤ Lib.indexByte [43, 58, 40, 41] c) ↔ (c = 43 ∨ c = 58 ∨ c = 40 ∨ c = 41) := by
  have key : ∀ c : Fin 256, (0 ≤ Lib.indexByte [43, 58, 40, 41] (UInt8.ofFin c)) ↔ (UInt8.ofFin c = 43 ∨ UInt8.ofFin c = 58 ∨ UInt8.ofFin c = 40 ∨ UInt8.ofFin c = 41) := by decide +kernel
  exact key c.toFin
theorem prefix_arrow (c : UInt8) (r : Bs) : Lib.hasPrefix (c :: r) [45, 62] = decide (c = 45 ∧ r.head? = some 62) := by
  unfold Lib.hasPrefix
  cases r with
  | nil => simp [List.isPrefixOf]
  | cons d r =>
    simp only [List.isPrefixOf, List.head?_cons, Option.some.injEq, Bool.and_true]
    rw [Bool.eq_iff_iff]
    simp only [Bool.and_eq_true, beq_iff_eq, decide_eq_true_eq]
    exact ⟨fun ⟨h1, h2⟩ => ⟨h1.symm, h2.symm⟩, fun ⟨h1, h2⟩ => ⟨h1.symm, h2.symm⟩⟩
set_option maxRecDepth 100000 in
set_option maxHeartbeats 2000000 in
theorem first_any (c : UInt8) (r : Bs) (hl : r.length ≤ 100000) (w : World) : Calls Tryd.prog 28 #[strV (c :: r)] w fun e w' => FirstR (c :: r) e ∧ w.grownBy w' none := by
  have HR : Hid (∀ W, Calls Tryd.prog 31 #[strV (c :: r)] W fun e w' => e = .returned (.int .i64 (runN (c :: r))) ∧ w' = W) := Lib.hid (run_any (c :: r) (by rw [List.length_cons]; omega))
  have HP : Hid (∀ W, Calls Tryd.prog 47 #[strV (c :: r), strV [45, 62]] W fun e w' => e = .returned (.bool (Lib.hasPrefix (c :: r) [45, 62])) ∧ w' = W) := Lib.hid (hasPrefix_any (c :: r) [45, 62])
  have HF : Hid (firstT (c :: r) = _) := Lib.hid (by conv => lhs; unfold firstT)
  have HRL := Lib.hid (runN_le (c :: r))
  have HPA := Lib.hid (prefix_arrow c r)
  have HM := Lib.hid (marks_index c)
  obtain ⟨s, hs⟩ : ∃ s : ByteArray, s = ⟨(c :: r).toArray⟩ := ⟨_, rfl⟩
  have hsz : s.size = r.length + 1 := by rw [hs]; rfl
  have HS := Lib.hid hs
  have hs0 : 0 < s.size := by omega
  have hsa : s[0] = c := by have := HS.out; subst this; rfl
  have HX : Hid (∀ k, Value.string (s.extract 0 k) = strV ((c :: r).take k)) := Lib.hid (fun k => by rw [HS.out, str_take])
  rw [show strV (c :: r) = .string s by rw [hs]] at HR HP ⊢
  clear hs
  go_enter Tryd.func28, Tryd.ntmps28
  generalize hn : runN (c :: r) = n at *
  by_cases h0 : 0 < n
  · have h1 : (0 : Int) < (n : Int) := by omega
    have h2 : n ≤ r.length + 1 := HRL.out
    have h3 : (n : Int) ≤ (r.length : Int) + 1 := by omega
    have HXn := Lib.hid (HX.out n)
    have hf : firstT (c :: r) = if isWord ((c :: r).take n) then some (1, (c :: r).take n) else if isNum ((c :: r).take n) then some (2, (c :: r).take n) else none := by rw [HF.out, if_pos h0]
    have hlt : ((c :: r).take n).length ≤ 1000000 := by rw [List.length_take, List.length_cons]; omega
    have hne : (c :: r).take n ≠ [] := by intro h; have h5 := congrArg List.length h; rw [List.length_take, List.length_cons] at h5; simp at h5; omega
    have HW : Hid (∀ W, Calls Tryd.prog 16 #[.string (s.extract 0 n)] W fun e w' => e = .returned (.bool (isWord ((c :: r).take n))) ∧ w' = W) := Lib.hid (fun W => by rw [HXn.out]; exact Word_any _ hlt W)
    have HU : Hid (∀ W, Calls Tryd.prog 46 #[.string (s.extract 0 n)] W fun e w' => e = .returned (.bool (isNum ((c :: r).take n))) ∧ w' = W) := Lib.hid (fun W => by rw [HXn.out]; exact number_any _ hlt hne W)
    have HFF := Lib.hid hf
    clear hf hlt hne h0
    cases hw : isWord ((c :: r).take n) with
    | true =>
      have HG := Lib.hid (FirstR.mk (l := c :: r) (p := (1, (c :: r).take n)) (by rw [HFF.out, hw]; rfl))
      go_wp2_with (first | (go_at_call 31; refine (HR.out _).mono ?_; rintro e w' ⟨rfl, rfl⟩) | (go_at_call 16; refine (HW.out _).mono ?_; rintro e w' ⟨rfl, rfl⟩; rw [hw]))
      refine bodyPost_ret (results_cell2 rfl _ _ w.heap.size _ _ _ _ rfl (heap_new _ rfl) Tryd.underlying27 (by kernel_rfl)) rfl ?_
      have e := HG.out; rw [← HXn.out] at e
      exact ⟨e, World.grownBy_alloc _ _ _⟩
    | false =>
      cases hu : isNum ((c :: r).take n) with
      | true =>
        have HG := Lib.hid (FirstR.mk (l := c :: r) (p := (2, (c :: r).take n)) (by rw [HFF.out, hw, hu]; rfl))
        go_wp2_with (first | (go_at_call 31; refine (HR.out _).mono ?_; rintro e w' ⟨rfl, rfl⟩) | (go_at_call 16; refine (HW.out _).mono ?_; rintro e w' ⟨rfl, rfl⟩; rw [hw]) | (go_at_call 46; refine (HU.out _).mono ?_; rintro e w' ⟨rfl, rfl⟩; rw [hu]))
        refine bodyPost_ret (results_cell2 rfl _ _ w.heap.size _ _ _ _ rfl (heap_new _ rfl) Tryd.underlying27 (by kernel_rfl)) rfl ?_
        have e := HG.out; rw [← HXn.out] at e
        exact ⟨e, World.grownBy_alloc _ _ _⟩
      | false =>
        have HG := Lib.hid (FirstR.no (l := c :: r) (by rw [HFF.out, hw, hu]; rfl))
        go_wp2_with (first | (go_at_call 31; refine (HR.out _).mono ?_; rintro e w' ⟨rfl, rfl⟩) | (go_at_call 16; refine (HW.out _).mono ?_; rintro e w' ⟨rfl, rfl⟩; rw [hw]) | (go_at_call 46; refine (HU.out _).mono ?_; rintro e w' ⟨rfl, rfl⟩; rw [hu]))
        refine bodyPost_ret (results_cell2 rfl _ _ w.heap.size _ _ _ _ rfl (heap_new _ rfl) Tryd.underlying27 (by kernel_rfl)) rfl ?_
        exact ⟨HG.out 0 [], World.grownBy_alloc _ _ _⟩
  · have h1 : n = 0 := by omega
    subst h1
    cases hp : Lib.hasPrefix (c :: r) [45, 62] with
    | true =>
      have h2 : c = 45 ∧ r.head? = some 62 := by have := HPA.out; rw [hp] at this; simpa using this.symm
      have HG := Lib.hid (FirstR.mk (l := c :: r) (p := (3, [45, 62])) (by rw [HF.out, if_neg (by omega)]; exact if_pos h2))
      have h3 : 2 ≤ r.length + 1 := by
        cases r with
        | nil => simp at h2
        | cons d r => simp
      have h4 : (2 : Int) ≤ (r.length : Int) + 1 := by omega
      have HX2 : Hid (Value.string (s.extract 0 2) = strV [45, 62]) := Lib.hid (by
        rw [HX.out]
        obtain ⟨rfl, h5⟩ := h2
        cases r with
        | nil => simp at h5
        | cons d r => simp at h5; subst h5; rfl)
      clear h2 h0
      go_wp2_with (first | (go_at_call 31; refine (HR.out _).mono ?_; rintro e w' ⟨rfl, rfl⟩) | (go_at_call 47; refine (HP.out _).mono ?_; rintro e w' ⟨rfl, rfl⟩; rw [hp]))
      refine bodyPost_ret (results_cell2 rfl _ _ w.heap.size _ _ _ _ rfl (heap_new _ rfl) Tryd.underlying27 (by kernel_rfl)) rfl ?_
      have e := HG.out; rw [← HX2.out] at e
      exact ⟨e, World.grownBy_alloc _ _ _⟩
    | false =>
      have h2 : ¬ (c = 45 ∧ r.head? = some 62) := by have := HPA.out; rw [hp] at this; simpa using this.symm
      have HI : Hid (∀ W, Calls Tryd.prog 39 #[strV [43, 58, 40, 41], .int .u8 c.toNat] W fun e w' => e = .returned (.int .i64 (Lib.indexByte [43, 58, 40, 41] c)) ∧ w' = W) := Lib.hid (indexByte_any _ c)
      have HX1 := Lib.hid (HX.out 1)
      have HG : Hid (FirstR (c :: r) (.returned (.tuple #[.agg #[.int .i64 3, .string (s.extract 0 1), .int .i64 0], .bool (decide (0 ≤ Lib.indexByte [43, 58, 40, 41] c))]))) := Lib.hid (by
        by_cases hm : 0 ≤ Lib.indexByte [43, 58, 40, 41] c
        · rw [decide_eq_true hm, HX1.out]
          exact FirstR.mk (l := c :: r) (p := (3, [c])) (by rw [HF.out, if_neg (by omega)]; exact (if_neg h2).trans (if_pos (HM.out.1 hm)))
        · rw [decide_eq_false hm]
          exact FirstR.no (by rw [HF.out, if_neg (by omega)]; exact (if_neg h2).trans (if_neg (fun h => hm (HM.out.2 h)))) _ _)
      clear h2 h0
      generalize Lib.indexByte [43, 58, 40, 41] c = m at *
      have h3 : (1 : Int) ≤ (r.length : Int) + 1 := by omega
      have h4 : 1 ≤ r.length + 1 := by omega
      go_wp2_with (first | (go_at_call 31; refine (HR.out _).mono ?_; rintro e w' ⟨rfl, rfl⟩) | (go_at_call 47; refine (HP.out _).mono ?_; rintro e w' ⟨rfl, rfl⟩; rw [hp]))
      go_region_held3 (fun w' => True) (exact trivial) (first | (go_at_call 39; refine (HI.out _).mono ?_; rintro e w' ⟨rfl, rfl⟩))
      all_goals
        go_wp2_with fail
        refine bodyPost_ret (results_cell2 rfl _ _ w.heap.size _ _ _ _ rfl (by exact heap_new _ rfl) Tryd.underlying27 (by kernel_rfl)) rfl ?_
        exact ⟨HG.out, grown_trans (World.grownBy_alloc w _ none) (grown_drew _ none)⟩
end Go.Proofs.YthlollnpnangpaaDoor
