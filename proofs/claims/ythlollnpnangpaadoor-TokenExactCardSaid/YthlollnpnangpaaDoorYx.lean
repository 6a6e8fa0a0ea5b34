/- The reference's Join, Same and Number. -/
import Derived.Test.YthlollnpnangpaaDoorYj
import Derived.Test.YthlollnpnangpaaDoorYn
import Derived.Test.YthlollnpnangpaaDoorYk
import Derived.Test.YthlollnpnangpaaDoorYt
import Derived.Test.YthlollnpnangpaaDoorLr
import Derived.Lib.ConvBytes
import Derived.Laws.IdiomStrings
namespace Go.Proofs.YthlollnpnangpaaDoor
open Go.RowKit
set_option linter.unusedVariables false
def begL (ts : List Tk) : Nat → Bool
  | 0 => true
  | k + 1 => match ts[k]? with
    | some t => t.1 == 4
    | none => true
theorem beg_succ {ts : List Tk} {k : Nat} (hk : k < ts.length) : begL ts (k + 1) = (ts[k].1 == 4) := by
  simp only [begL, List.getElem?_eq_getElem hk]
theorem rjoin_step {ts : List Tk} {k : Nat} {pre : Bs} (hk : k < ts.length) (h : joinL ts = pre ++ joinF (begL ts k) (ts.drop k)) :
    (ts[k].1 = 4 → joinL ts = (pre ++ [10]) ++ joinF (begL ts (k + 1)) (ts.drop (k + 1))) ∧ (ts[k].1 ≠ 4 → joinL ts = (pre ++ (if begL ts k then [] else [32]) ++ ts[k].2.1) ++ joinF (begL ts (k + 1)) (ts.drop (k + 1))) := by
  refine ⟨fun e => ?_, fun e => ?_⟩
  · rw [h, joinF_drop _ ts k hk, if_pos e, beg_succ hk, e]
    simp
  · rw [h, joinF_drop _ ts k hk, if_neg e, beg_succ hk, beqF e]
    simp
theorem str_app3 (a b c : Bs) : ((⟨a.toArray⟩ ++ ⟨b.toArray⟩ : ByteArray) ++ ⟨c.toArray⟩ : ByteArray) = ⟨(a ++ b ++ c).toArray⟩ := by rw [str_app, str_app]
set_option maxRecDepth 100000 in
set_option maxHeartbeats 2000000 in
theorem rJoin_any (ts : List Tk) (v : Value) (w : World) (h : Toks w v ts) (hl : (joinL ts).length ≤ 1000000) : Calls Tryd.prog 19 #[v] w fun e w' => e = .returned (strV (joinL ts)) ∧ w' = w := by
  have H := Lib.hid h; have HL := Lib.hid hl
  obtain ⟨a, cap, rfl, hml, -⟩ := h
  unfold maxLen at hml
  clear hl
  go_enter Tryd.func19, Tryd.ntmps19
  go_wp2_with fail
  go_loop [4, 3] (fun i j => ∃ (k : Nat) (pre : Bs), i = .int .i64 k ∧ j = strV pre ∧ k ≤ ts.length ∧ Hid (joinL ts = pre ++ joinF (begL ts k) (ts.drop k))) (fun i _ => ts.length - (intOf i).toNat)
  case atStart => exact ⟨0, [], rfl, rfl, Nat.zero_le _, Lib.hid rfl⟩
  case round =>
    obtain ⟨k, pre, rfl, rfl, hk, hj⟩ := hrel
    by_cases hlt : k < ts.length
    · have h1 : (k : Int) < (ts.length : Int) := by omega
      obtain ⟨tb, off, cap', hv, c1, c2, c3⟩ := H.out.at hlt
      simp only [Value.slice.injEq] at hv
      obtain ⟨rfl, -, rfl⟩ := hv
      have HJ := Lib.hid (rjoin_step hlt hj.out)
      have HPL : Hid (pre.length ≤ 1000000) := Lib.hid (by have := HL.out; rw [hj.out, List.length_append] at this; omega)
      by_cases h4 : ts[k].1 = 4
      · have h5 : ((ts[k].1 == 4) = true) := beqT h4
        have HN := Lib.hid (HJ.out.1 h4)
        have hs1 : pre.length + 1 ≤ 9223372036854775807 := by have := HPL.out; omega
        clear h4 HJ
        generalize ts[k].1 = kd at *
        generalize ts[k].2.1 = tx at *
        generalize ts[k].2.2 = ln at *
        go_wp2_with fail
        go_round
        case rel => exact ⟨k + 1, pre ++ [10], by go_num, by show Value.string (⟨pre.toArray⟩ ++ ⟨[10].toArray⟩) = _; rw [str_app], by omega, HN⟩
        case measure => simp [intOf]; omega
      · have h5 : ((ts[k].1 == 4) = false) := beqF h4
        have HN := Lib.hid (HJ.out.2 h4)
        have HTX : Hid (pre.length + 1 + ts[k].2.1.length ≤ 1000001) := Lib.hid (by
          have e1 := HL.out
          rw [HN.out] at e1
          simp only [List.length_append] at e1
          omega)
        clear h4 HJ
        cases k with
        | zero =>
          rw [Nat.zero_mul, Nat.add_zero] at c1 c2 c3
          generalize ts[0].1 = kd at *
          generalize ts[0].2.1 = tx at *
          generalize ts[0].2.2 = ln at *
          have hs1 : pre.length + tx.length ≤ 9223372036854775807 := by have := HTX.out; omega
          go_wp2_with fail
          go_round
          case rel => exact ⟨1, pre ++ tx, by go_num, by rw [str_app], by omega, Lib.hid (by have := HN.out; simpa [begL] using this)⟩
          case measure => simp [intOf]; omega
        | succ k =>
          obtain ⟨tb2, off2, cp2, hv, z1, z2, z3⟩ := H.out.at (k := k) (by omega)
          simp only [Value.slice.injEq, Option.some.injEq, Addr.mk.injEq] at hv
          obtain ⟨⟨rfl, rfl, -⟩, -, rfl⟩ := hv
          have HB := Lib.hid (beg_succ (ts := ts) (k := k) (by omega))
          generalize ts[k + 1].1 = kd at *
          generalize ts[k + 1].2.1 = tx at *
          generalize ts[k + 1].2.2 = ln at *
          generalize ts[k].1 = pk at *
          generalize ts[k].2.1 = pt at *
          generalize ts[k].2.2 = pl at *
          have d3 : decide ((0 : Int) < ((k + 1 : Nat) : Int)) = true := by apply decide_eq_true; omega
          have d3' : decide ((0 : Int) < (k : Int) + 1) = true := by apply decide_eq_true; omega
          have i1 : (1 : Int) ≤ ((k + 1 : Nat) : Int) := by omega
          have i2 : ((k + 1 : Nat) : Int) - 1 < (ts.length : Int) := by omega
          have i3 : (((k + 1 : Nat) : Int) - 1).toNat = k := by omega
          have i4 : ((k + 1 : Nat) : Int) - 1 = (k : Int) := by omega
          have i6 : (k : Int) < (ts.length : Int) := by omega
          have i7 : (k : Int) + 1 - 1 = (k : Int) := by omega
          have i8 : IntKind.i64.wrap ((k : Int) + 1 - 1) = (k : Int) := by rw [i7]; exact IntWalk.i64_in _ (by omega)
          have i9 : IntKind.i64.wrap (((k + 1 : Nat) : Int) - 1) = (k : Int) := by rw [i4]; exact IntWalk.i64_in _ (by omega)
          have i5 : IntKind.i64.wrap ((k : Int)) = (k : Int) := IntWalk.i64_in _ (by omega)
          by_cases h6 : pk = 4
          · have d6 : (pk != 4) = false := bneF h6
            have hs1 : pre.length + tx.length ≤ 9223372036854775807 := by have := HTX.out; omega
            have HN2 : Hid (joinL ts = pre ++ tx ++ joinF (begL ts (k + 1 + 1)) (ts.drop (k + 1 + 1))) := Lib.hid (by have := HN.out; rw [HB.out, beqT h6] at this; simpa using this)
            clear h6 HN HB
            go_wp2_with fail
            go_round
            case rel => exact ⟨k + 1 + 1, pre ++ tx, by go_num, by rw [str_app], by omega, HN2⟩
            case measure => simp [intOf]; omega
          · have d6 : (pk != 4) = true := bneT h6
            have hs1 : pre.length + 1 ≤ 9223372036854775807 := by have := HTX.out; omega
            have hs2 : pre.length + 1 + tx.length ≤ 9223372036854775807 := by have := HTX.out; omega
            have HN2 : Hid (joinL ts = pre ++ [32] ++ tx ++ joinF (begL ts (k + 1 + 1)) (ts.drop (k + 1 + 1))) := Lib.hid (by have := HN.out; rw [HB.out, beqF h6] at this; simpa using this)
            clear h6 HN HB
            go_wp2_with fail
            go_round
            case rel => exact ⟨k + 1 + 1, pre ++ [32] ++ tx, by go_num, by show Value.string (⟨pre.toArray⟩ ++ ⟨[32].toArray⟩ ++ ⟨tx.toArray⟩) = _; rw [str_app3], by omega, HN2⟩
            case measure => simp [intOf]; omega
    · have h1 : ¬ (k : Int) < (ts.length : Int) := by omega
      have HE : Hid (joinL ts = pre) := Lib.hid (by rw [hj.out, List.drop_of_length_le (by omega)]; simp [joinF])
      go_wp2_with fail
      go_ret
      exact ⟨by rw [HE.out]; rfl, rfl⟩
set_option maxRecDepth 100000 in
set_option maxHeartbeats 2000000 in
theorem rSame_any (ts : List Tk) (va vb : Value) (w : World) (ha : Toks w va ts) (hb : Toks w vb ts) : Calls Tryd.prog 15 #[va, vb] w fun e w' => e = .returned (.bool true) ∧ w.grownBy w' none := by
  have HA := Lib.hid ha; have HB := Lib.hid hb
  obtain ⟨a, cap, rfl, hml, -⟩ := ha
  obtain ⟨b, capb, rfl, -, -⟩ := hb
  unfold maxLen at hml
  go_enter Tryd.func15, Tryd.ntmps15
  go_wp2_with fail
  go_loopw [5] (fun i wr => ∃ k : Nat, i = .int .i64 k ∧ k ≤ ts.length ∧ Hid (w.grownBy wr none)) (fun i _ => ts.length - (intOf i).toNat)
  case atStart => exact ⟨0, rfl, Nat.zero_le _, Lib.hid (grown_refl _ _)⟩
  case round =>
    obtain ⟨k, rfl, hk, hgr⟩ := hrel
    by_cases hlt : k < ts.length
    · have h1 : (k : Int) < (ts.length : Int) := by omega
      obtain ⟨tb, off, cap', hv, c1, c2, c3⟩ := (HA.out.same hgr.out).at hlt
      simp only [Value.slice.injEq] at hv
      obtain ⟨rfl, -, rfl⟩ := hv
      obtain ⟨tb2, off2, cap2', hv, z1, z2, z3⟩ := (HB.out.same hgr.out).at hlt
      simp only [Value.slice.injEq] at hv
      obtain ⟨rfl, -, rfl⟩ := hv
      generalize ts[k].1 = kd at *
      generalize ts[k].2.1 = tx at *
      generalize ts[k].2.2 = ln at *
      obtain ⟨s, hs⟩ : ∃ s : ByteArray, s = ⟨tx.toArray⟩ := ⟨_, rfl⟩
      rw [show strV tx = .string s by rw [hs]] at c2 z2
      clear hs
      go_wp2_with fail
      go_quiet (fail)
      go_wp2_with fail
      go_roundw
      case rel => exact ⟨k + 1, by go_num, by omega, Lib.hid (grown_trans hgr.out (grown_drewN _ _ _))⟩
      case measure => simp [intOf]; omega
    · have h1 : ¬ (k : Int) < (ts.length : Int) := by omega
      go_wp2_with fail
      go_ret
      exact ⟨rfl, hgr.out⟩
/-- The text of a number. -/
def numL (n : Int) : Bs := if 0 ≤ n ∧ n ≤ 9999999 then Lib.decDigits n.toNat else []
theorem num_len (n : Int) : (numL n).length ≤ 7 := by
  unfold numL
  split
  · next h => exact (digits_ok _ _ (Nat.le_refl _)).2.2.1 7 (by omega) (by omega)
  · simp
set_option maxRecDepth 100000 in
theorem Number_all (n : Int) (w : World) (hT : TabP w) : Calls Tryd.prog 21 #[.int .i64 n] w fun e w' => e = .returned (strV (numL n)) ∧ w.grownBy w' none := by
  by_cases h : 0 ≤ n ∧ n ≤ 9999999
  · obtain ⟨m, rfl⟩ : ∃ m : Nat, n = (m : Int) := ⟨n.toNat, by omega⟩
    refine (Number_any m (by omega) w hT).mono ?_
    rintro e w' ⟨rfl, hg⟩
    refine ⟨?_, hg⟩
    unfold numL Lib.itoa
    rw [if_pos h, if_neg (by omega)]
  · have e : numL n = [] := if_neg h
    rw [e]
    by_cases h1 : n < 0
    · go_enter Tryd.func21, Tryd.ntmps21
      go_wp2_with fail
      go_ret
      exact ⟨rfl, grown_refl _ _⟩
    · have h2 : (9999999 : Int) < n := by omega
      go_enter Tryd.func21, Tryd.ntmps21
      go_wp2_with fail
      go_ret
      exact ⟨rfl, grown_refl _ _⟩
theorem oper_call14 {a : Act} {w : World} {K : Act → World → Prop} {Q : Exit → Act → World → Prop} (d : Nat) (F : FuncId) (xs : List Operand) (tys : Array TypeId) (ty : TypeId) (pos : String) (af : Array Edge) (gd : Option (Nat × Bool))
    (fn : Func) (c : Code) (hf : Tryd.prog.funcs[F]? = some fn) (hname : (fn.name == "runtime.NumGoroutine") = false) (hb : fn.body = some c) (vs : List Value) (he : xs.map a.eval = vs) (Post : Ending → World → Prop) (hc : Calls Tryd.prog F vs.toArray w Post)
    (k : ∀ e w', Post e w' → ∃ v, e = .returned v ∧ K (a.put (some d) v) w') :
    Oper.wp Tryd.prog { dst := some d, op := .call { callee := .value (.func F), args := xs.toArray, argTypes := tys }, type := ty, pos := pos, after := af, guard := gd } a w K Q := by
  subst he
  unfold Oper.wp execOp
  have h1 : fn.name ≠ "runtime.NumGoroutine" := by simpa using hname
  have hrun : (callFunc F (xs.map a.eval).toArray).run Tryd.prog w = .ok (.enter F (xs.map a.eval).toArray) w := by simp [callFunc, hf, h1, hb]
  simp only [resolve, Deferred.ofValue, List.map_toArray]
  go_simp
  refine hc.mono ?_
  intro e w1 hp
  obtain ⟨v, rfl, hk⟩ := k e w1 hp
  exact hk
theorem wanted_no {ops : List Oper} {o : Oper} {a : Act} (hgd : o.guard = none) : Region.wanted o (yielded ops.toArray a.tmps) = true := by simp [Region.wanted, hgd]
def digC (n : Nat) : UInt8 := UInt8.ofNat (48 + n % 10)
theorem dig_val (n : Nat) : (((48 + n % 10 : Nat)) : Int) = ((digC n).toNat : Int) := by unfold digC; rw [UInt8.toNat_ofNat']; omega
/-- What the operations of the recursive step leave. -/
def NumV (n : Nat) (i : Nat) (v : Value) (w : World) : Prop :=
  match i with
  | 0 | 3 => v = .int .i64 n
  | 1 => v = .int .i64 ((n / 10 : Nat) : Int)
  | 2 => v = strV (Lib.decDigits (n / 10))
  | 4 => v = .int .i64 ((n % 10 : Nat) : Int)
  | 5 => v = .int .i64 ((48 + n % 10 : Nat) : Int)
  | 6 => v = .int .u8 ((48 + n % 10 : Nat) : Int)
  | 7 => ∃ b, v = .slice (some ⟨b, 0, none⟩) 1 1 ∧ w.cell? ⟨b, 0, none⟩ = some (.int .u8 ((48 + n % 10 : Nat) : Int))
  | 8 => v = strV [digC n]
  | 9 | 10 => v = strV (Lib.decDigits (n / 10) ++ [digC n])
  | _ => True
theorem NumV.mono {n : Nat} (i : Nat) (v : Value) (w w' : World) (g : w.grownBy w' none) (h : NumV n i v w) : NumV n i v w' := by
  unfold NumV at *
  split at h <;> first
    | exact h
    | (obtain ⟨b, h1, h2⟩ := h; exact ⟨b, h1, g.cell h2 (by simp)⟩)
theorem byte_of (d : Nat) (hd : d ≤ 255) : (((UInt8.ofNat d).toNat : Nat) : Int) = (d : Int) := by rw [UInt8.toNat_ofNat']; omega
set_option maxRecDepth 100000 in
set_option maxHeartbeats 2000000 in
theorem rNumber_lt (n : Nat) (h10 : n < 10) (w : World) : Calls Tryd.prog 22 #[.int .i64 n] w fun e w' => e = .returned (strV (Lib.decDigits n)) ∧ w.grownBy w' none := by
  have h0 : ¬ (n : Int) < 0 := by omega
  have h9 : ¬ (9999999 : Int) < (n : Int) := by omega
  have h1 : (n : Int) < 10 := by omega
  have hw1 : IntKind.i64.wrap (48 + (n : Int)) = 48 + (n : Int) := IntWalk.i64_in _ (by omega)
  have hw2 : IntKind.u8.wrap (48 + (n : Int)) = 48 + (n : Int) := IntWalk.u8_in _ (by omega)
  have HD : Hid (Lib.decDigits n = [digC n]) := Lib.hid (by rw [Lib.decDigits_one h10]; unfold digC; rw [Nat.mod_eq_of_lt h10])
  have HV : Hid ((48 + (n : Int)) = ((digC n).toNat : Int)) := Lib.hid (by have := dig_val n; rw [Nat.mod_eq_of_lt h10] at this; omega)
  go_enter Tryd.func22, Tryd.ntmps22
  go_wp2_with fail
  rw [HV.out]
  have hcv : (convert 31 9 (.slice (some ⟨w.heap.size, 0, none⟩) 1 1)).run Tryd.prog (w.alloc (.cells #[.int .u8 ((digC n).toNat : Int)] 5)) = .ok (strV [digC n]) (w.alloc (.cells #[.int .u8 ((digC n).toNat : Int)] 5)) :=
    run_convert_bytes_back _ 31 9 5 ⟨w.heap.size, 0, none⟩ 1 [digC n] Tryd.underlying31 Tryd.underlying5 Tryd.underlying9 (fun j hj => by
      obtain rfl : j = 0 := by simpa using hj
      rw [show (⟨w.heap.size, 0, none⟩ : Addr).add 0 = ⟨w.heap.size, 0, none⟩ by rfl]
      rw [World.cell?, heap_new _ rfl]; rfl)
  rw [hcv]
  simp only [Result.andThen]
  rw [Oper.upon_value]
  clear hcv
  go_wp2_with fail
  go_ret
  exact ⟨by rw [HD.out]; rfl, World.grownBy_alloc _ _ none⟩
set_option maxRecDepth 100000 in
set_option maxHeartbeats 2000000 in
theorem rNumber_nat : ∀ (N n : Nat), n ≤ N → n ≤ 9999999 → ∀ w : World, Calls Tryd.prog 22 #[.int .i64 n] w fun e w' => e = .returned (strV (Lib.decDigits n)) ∧ w.grownBy w' none
  | 0, n, hN, hn, w => rNumber_lt n (by omega) w
  | N + 1, n, hN, hn, w => by
    by_cases h10 : n < 10
    · exact rNumber_lt n h10 w
    · have h0 : ¬ (n : Int) < 0 := by omega
      have h9 : ¬ (9999999 : Int) < (n : Int) := by omega
      have h1 : ¬ (n : Int) < 10 := by omega
      have HLN : Hid ((Lib.decDigits (n / 10)).length ≤ 7) := Lib.hid ((digits_ok _ _ (Nat.le_refl _)).2.2.1 7 (by omega) (by omega))
      have HDN : Hid (Lib.decDigits n = Lib.decDigits (n / 10) ++ [digC n]) := Lib.hid (by rw [Lib.decDigits, dif_neg h10]; rfl)
      have IH := Lib.hid (rNumber_nat N (n / 10) (by omega) (by omega))
      go_enter Tryd.func22, Tryd.ntmps22
      go_wp2_with fail
      refine wp_told (NumV n) (by kernel_rfl) (by kernel_rfl) NumV.mono ?_ ?_
      · refine ⟨?_, ?_, ?_, ?_, ?_, ?_, ?_, ?_, ?_, ?_, ?_, trivial⟩
        · intro a w2 ha hg hd
          have e0 : a.eval (.tmp 0) = .int .i64 n := (ha.eval (s := 0) (by decide)).trans rfl
          refine .inl ⟨wanted_no rfl, ?_⟩
          unfold Oper.wp
          simp only [execOp, e0]
          go_simp
          exact ⟨_, rfl, rfl, grown_refl _ _⟩
        · intro a w2 ha hg hd
          have e0 : a.eval (.tmp 16) = .int .i64 n := hd 0 (by decide) 16 rfl
          refine .inl ⟨wanted_no rfl, ?_⟩
          unfold Oper.wp
          simp only [execOp, e0]
          go_simp
          exact ⟨_, rfl, by show _ = _; congr 1 <;> (first | (rw [IntWalk.i64_in _ (by omega)] <;> omega) | omega), grown_refl _ _⟩
        · intro a w2 ha hg hd
          have e1 : a.eval (.tmp 17) = .int .i64 ((n / 10 : Nat) : Int) := hd 1 (by decide) 17 rfl
          exact .inl ⟨wanted_no rfl, oper_call14 18 22 _ _ _ _ _ _ Tryd.f22 _ Tryd.func22 (by kernel_rfl) rfl [.int .i64 ((n / 10 : Nat) : Int)] (by simp only [List.map_cons, List.map_nil]; rw [e1]) _ (IH.out _) (fun e w3 hh => ⟨_, hh.1, _, rfl, rfl, hh.2⟩)⟩
        · intro a w2 ha hg hd
          have e0 : a.eval (.tmp 0) = .int .i64 n := (ha.eval (s := 0) (by decide)).trans rfl
          refine .inl ⟨wanted_no rfl, ?_⟩
          unfold Oper.wp
          simp only [execOp, e0]
          go_simp
          exact ⟨_, rfl, rfl, grown_refl _ _⟩
        · intro a w2 ha hg hd
          have e0 : a.eval (.tmp 19) = .int .i64 n := hd 3 (by decide) 19 rfl
          refine .inl ⟨wanted_no rfl, ?_⟩
          unfold Oper.wp
          simp only [execOp, e0]
          go_simp
          exact ⟨_, rfl, by show _ = _; congr 1 <;> (first | (rw [Int.tmod_eq_emod_of_nonneg (by omega)] <;> omega) | omega), grown_refl _ _⟩
        · intro a w2 ha hg hd
          have e0 : a.eval (.tmp 20) = .int .i64 ((n % 10 : Nat) : Int) := hd 4 (by decide) 20 rfl
          refine .inl ⟨wanted_no rfl, ?_⟩
          unfold Oper.wp
          simp only [execOp, e0]
          go_simp
          exact ⟨_, rfl, by show _ = _; congr 1 <;> (first | (rw [IntWalk.i64_in _ (by omega)] <;> omega) | omega), grown_refl _ _⟩
        · intro a w2 ha hg hd
          have e0 : a.eval (.tmp 21) = .int .i64 ((48 + n % 10 : Nat) : Int) := hd 5 (by decide) 21 rfl
          refine .inl ⟨wanted_no rfl, ?_⟩
          unfold Oper.wp
          simp only [execOp, e0]
          go_simp
          exact ⟨_, rfl, by show _ = _; congr 1 <;> (first | (rw [IntWalk.u8_in _ (by omega)] <;> omega) | omega), grown_refl _ _⟩
        · intro a w2 ha hg hd
          have e0 : a.eval (.tmp 22) = .int .u8 ((48 + n % 10 : Nat) : Int) := hd 6 (by decide) 22 rfl
          refine .inl ⟨wanted_no rfl, ?_⟩
          unfold Oper.wp
          simp only [execOp]
          simp only [List.map_toArray, List.map_cons, List.map_nil, e0]
          go_simp
          exact ⟨_, rfl, ⟨w2.heap.size, rfl, by rw [World.cell?, heap_new _ rfl]; rfl⟩, World.grownBy_alloc _ _ none⟩
        · intro a w2 ha hg hd
          obtain ⟨b, e0, c0⟩ := hd 7 (by decide) 23 rfl
          refine .inl ⟨wanted_no rfl, ?_⟩
          unfold Oper.wp
          simp only [execOp, e0]
          have hcv : (convert 31 9 (.slice (some ⟨b, 0, none⟩) 1 1)).run Tryd.prog w2 = .ok (strV [digC n]) w2 :=
            run_convert_bytes_back w2 31 9 5 ⟨b, 0, none⟩ 1 [digC n] Tryd.underlying31 Tryd.underlying5 Tryd.underlying9 (fun j hj => by
              obtain rfl : j = 0 := by simpa using hj
              rw [show (⟨b, 0, none⟩ : Addr).add 0 = ⟨b, 0, none⟩ by rfl, c0, dig_val]; rfl)
          simp only [Sem.run_bind]
          rw [hcv]
          simp only [Result.andThen]
          go_simp
          exact ⟨_, rfl, rfl, grown_refl _ _⟩
        · intro a w2 ha hg hd
          have e0 : a.eval (.tmp 18) = strV (Lib.decDigits (n / 10)) := hd 2 (by decide) 18 rfl
          have e1 : a.eval (.tmp 24) = strV [digC n] := hd 8 (by decide) 24 rfl
          refine .inl ⟨wanted_no rfl, ?_⟩
          unfold Oper.wp
          simp only [execOp, e0, e1]
          go_simp
          rw [if_neg (by have := HLN.out; omega)]
          rw [Oper.upon_value]
          exact ⟨_, rfl, congrArg Value.string (str_app _ _), grown_refl _ _⟩
        · intro a w2 ha hg hd
          have e0 : a.eval (.tmp 25) = strV (Lib.decDigits (n / 10) ++ [digC n]) := hd 9 (by decide) 25 rfl
          refine .inl ⟨wanted_no rfl, ?_⟩
          unfold Oper.wp
          simp only [execOp, e0]
          go_simp
          exact ⟨_, rfl, rfl, grown_refl _ _⟩
      · intro vs w2 g2 hv
        have e10 : vs 10 = strV (Lib.decDigits (n / 10) ++ [digC n]) := hv 10 2 rfl
        have GG := Lib.hid g2
        simp only [putAll, Nat.reduceAdd, e10]
        clear hv e10
        go_simp
        go_wp2_with fail
        go_ret
        exact ⟨by rw [HDN.out]; rfl, GG.out⟩
theorem rNumber_all (n : Int) (w : World) : Calls Tryd.prog 22 #[.int .i64 n] w fun e w' => e = .returned (strV (numL n)) ∧ w.grownBy w' none := by
  by_cases h : 0 ≤ n ∧ n ≤ 9999999
  · obtain ⟨m, rfl⟩ : ∃ m : Nat, n = (m : Int) := ⟨n.toNat, by omega⟩
    have e : numL (m : Int) = Lib.decDigits m := by unfold numL; rw [if_pos h]; rfl
    rw [e]
    exact rNumber_nat m m (Nat.le_refl _) (by omega) w
  · have e : numL n = [] := if_neg h
    rw [e]
    by_cases h1 : n < 0
    · go_enter Tryd.func22, Tryd.ntmps22
      go_wp2_with fail
      go_ret
      exact ⟨rfl, grown_refl _ _⟩
    · have h2 : (9999999 : Int) < n := by omega
      go_enter Tryd.func22, Tryd.ntmps22
      go_wp2_with fail
      go_ret
      exact ⟨rfl, grown_refl _ _⟩
end Go.Proofs.YthlollnpnangpaaDoor
