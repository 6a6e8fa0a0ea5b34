/- Sets of states as bits: with, has. -/
import Derived.Test.YtelpkcndbcfaiaaIg
import Derived.Laws.BitsAllLaws
namespace Go.Proofs.Ytelpkcndbcfaiaa
open Go.RowKit
set_option linter.unusedVariables false
/-- A set of states below eight. -/
def StV (s : Nat) : Value := .agg #[.int .u64 (s : Int), .int .u64 0]
theorem shl_runS (n : Nat) (h : n < 8) : ∀ W, (binOp .shl 74 (.int .u64 1) (.int .i64 (n : Int))).run Try.prog W = .ok (.int .u64 ((2 ^ n : Nat) : Int)) W := by
  intro W
  match n, h with
  | 0, _ => rfl
  | 1, _ => rfl
  | 2, _ => rfl
  | 3, _ => rfl
  | 4, _ => rfl
  | 5, _ => rfl
  | 6, _ => rfl
  | 7, _ => rfl
theorem fdiv_natS (k m : Nat) : (k : Int).fdiv (m : Int) = ((k / m : Nat) : Int) := by
  rw [Int.fdiv_eq_ediv_of_nonneg _ (Int.natCast_nonneg m)]; rfl
/-- A shift whose value is known. -/
theorem oper_shiftS {d : Nat} {op : BinOp} {t1 t2 ty : TypeId} {pos : String} {af : Array Edge} {gd : Option (Nat × Bool)} {x y : Operand} {a : Act} {w : World} {K : Act → World → Prop} {Q : Exit → Act → World → Prop} {v : Value} (hop : op = .shl ∨ op = .shr)
    (h : (binOp op t1 (a.eval x) (a.eval y)).run Try.prog w = .ok v w) (k : K (a.put (some d) v) w) : Oper.wp Try.prog { dst := some d, op := .binOp op t1 x y t2, type := ty, pos := pos, after := af, guard := gd } a w K Q := by
  rcases hop with rfl | rfl
  · unfold Oper.wp execOp
    simp [eqGuard, h, Result.andThen]
    exact k
  · unfold Oper.wp execOp
    simp [eqGuard, h, Result.andThen]
    exact k
theorem wpList_shiftS {ops : Array Oper} {rest : List Oper} {o : Oper} {a : Act} {w : World} {Q : Exit → Act → World → Prop} (op : BinOp) {t1 t2 : TypeId} {x y : Operand} {v vx vy : Value} (hop : o.op = .binOp op t1 x y t2) (hd : ∃ d, o.dst = some d) (hs : op = .shl ∨ op = .shr) (hw : Region.wanted o (yielded ops a.tmps) = true)
    (hx : a.eval x = vx) (hy : a.eval y = vy) (h : (binOp op t1 vx vy).run Try.prog w = .ok v w) (k : wpList Try.prog ops Q rest (a.put o.dst v) w) : wpList Try.prog ops Q (o :: rest) a w := by
  refine wpList_step fun K hK => ?_
  rw [if_pos hw]
  obtain ⟨d, hd⟩ := hd
  obtain ⟨dst, op', ty, pos, af, gd⟩ := o
  dsimp only at hop hd k
  subst hop hd
  exact oper_shiftS hs (by rw [hx, hy]; exact h) (hK _ _ k)
theorem shr_runS (s n : Nat) (h : n < 8) : ∀ W, (binOp .shr 74 (.int .u64 (s : Int)) (.int .i64 (n : Int))).run Try.prog W = .ok (.int .u64 ((s / 2 ^ n : Nat) : Int)) W := by
  intro W
  match n, h with
  | 0, _ => show Result.ok (Value.int .u64 (Int.fdiv (s : Int) ((2 ^ 0 : Nat) : Int))) W = _; rw [fdiv_natS]
  | 1, _ => show Result.ok (Value.int .u64 (Int.fdiv (s : Int) ((2 ^ 1 : Nat) : Int))) W = _; rw [fdiv_natS]
  | 2, _ => show Result.ok (Value.int .u64 (Int.fdiv (s : Int) ((2 ^ 2 : Nat) : Int))) W = _; rw [fdiv_natS]
  | 3, _ => show Result.ok (Value.int .u64 (Int.fdiv (s : Int) ((2 ^ 3 : Nat) : Int))) W = _; rw [fdiv_natS]
  | 4, _ => show Result.ok (Value.int .u64 (Int.fdiv (s : Int) ((2 ^ 4 : Nat) : Int))) W = _; rw [fdiv_natS]
  | 5, _ => show Result.ok (Value.int .u64 (Int.fdiv (s : Int) ((2 ^ 5 : Nat) : Int))) W = _; rw [fdiv_natS]
  | 6, _ => show Result.ok (Value.int .u64 (Int.fdiv (s : Int) ((2 ^ 6 : Nat) : Int))) W = _; rw [fdiv_natS]
  | 7, _ => show Result.ok (Value.int .u64 (Int.fdiv (s : Int) ((2 ^ 7 : Nat) : Int))) W = _; rw [fdiv_natS]
theorem and_oneS (x : Nat) (h : x < 256) : bits .and .u64 (x : Int) 1 = ((x % 2 : Nat) : Int) := by
  rw [show (1 : Int) = ((1 : Nat) : Int) from rfl, u64_and_nat x 1 (by omega) (by omega), Nat.and_one_is_mod]
theorem or_bitS (s n : Nat) (h : s < 256) (hn : n < 8) : bits .or .u64 (s : Int) ((2 ^ n : Nat) : Int) = ((s ||| 2 ^ n : Nat) : Int) := by
  have : 2 ^ n ≤ 2 ^ 7 := Nat.pow_le_pow_right (by decide) (by omega)
  exact u64_or_nat s (2 ^ n) (by omega) (by omega)
theorem bit_mod (s n : Nat) : (((s / 2 ^ n % 2 : Nat) : Int) == 1) = s.testBit n := by
  rw [Nat.testBit_eq_decide_div_mod_eq]
  by_cases h : s / 2 ^ n % 2 = 1
  · simp [h]
  · have : s / 2 ^ n % 2 = 0 := by omega
    simp [this]
set_option maxRecDepth 100000 in
set_option maxHeartbeats 1000000 in
theorem has_st (s n : Nat) (hs : s < 256) (hn : n < 8) (w : World) : Calls Try.prog 60 #[StV s, .int .i64 n] w fun e w' => e = .returned (.bool (s.testBit n)) ∧ w.grownBy w' none := by
  unfold StV
  have HB : Hid ((bits .and .u64 ((s : Int) / 2 ^ n) 1 == 1) = s.testBit n) := Lib.hid (by
    have h1 := and_oneS (s / 2 ^ n) (Nat.lt_of_le_of_lt (Nat.div_le_self _ _) hs)
    have h2 := bit_mod s n
    have e : ((s / 2 ^ n : Nat) : Int) = (s : Int) / 2 ^ n := by push_cast; rfl
    rw [e] at h1
    rw [h1]
    exact h2)
  have HSHR := Lib.hid (shr_runS s n hn)
  have hq : (n : Int).tdiv 64 = 0 := by rw [Int.tdiv_eq_ediv_of_nonneg (by omega)]; omega
  have hr : (n : Int).tmod 64 = (n : Int) := by rw [Int.tmod_eq_emod_of_nonneg (by omega)]; omega
  go_enter Try.func60, Try.ntmps60
  go_wp2_with (first | (refine wpList_shiftS .shr rfl ⟨_, rfl⟩ (.inr rfl) rfl rfl rfl (HSHR.out _) ?_))
  go_ret
  exact ⟨ret_bool HB.out, World.grownBy_alloc _ _ none⟩
theorem results_arr {fn : Func} {p : Tmp} {ty : TypeId} (h : fn.results = #[.cell p ty]) (tmps : Array Value) (w : World) (g : Nat) (t : TypeId) (cs : Array Value) (fr : Nat × Nat) (n : Nat) (el : TypeId)
    (hp : tmps.getD p undef = .pointer (some ⟨g, 0, none⟩)) (hg : w.heap[g]? = some (.cells cs t fr))
    (hu : Try.prog.underlying ty = some (.array n el)) (hi : (Try.prog.info? ty).map (·.size) = some cs.size) :
    (results fn tmps).run Try.prog w = .ok (.agg cs) w := by
  have hp' : tmps[p]?.getD undef = .pointer (some ⟨g, 0, none⟩) := by simpa using hp
  simp [results, h, hp', asAddr, run_loadVar_row w g t ty cs fr (.array n el) hg hu rfl hi]
set_option maxRecDepth 100000 in
set_option maxHeartbeats 1000000 in
theorem with_st (s n : Nat) (hs : s < 256) (hn : n < 8) (w : World) : Calls Try.prog 40 #[StV s, .int .i64 n] w fun e w' => e = .returned (StV (s ||| 2 ^ n)) ∧ w.grownBy w' none := by
  unfold StV
  have HOR : Hid (bits .or .u64 (s : Int) (IntKind.u64.wrap (2 ^ n)) = ((s ||| 2 ^ n : Nat) : Int)) := Lib.hid (by
    have h1 : 2 ^ n ≤ 2 ^ 7 := Nat.pow_le_pow_right (by decide) (by omega)
    have e : IntKind.u64.wrap (2 ^ n) = ((2 ^ n : Nat) : Int) := by
      rw [IntKind.wrap_u64]
      have : ((2 ^ n : Nat) : Int) = (2 : Int) ^ n := by push_cast; rfl
      rw [← this]
      have h2 : ((2 ^ n : Nat) : Int) ≤ ((2 ^ 7 : Nat) : Int) := Int.ofNat_le.2 h1
      exact Int.emod_eq_of_lt (Int.natCast_nonneg _) (Int.lt_of_le_of_lt h2 (by decide))
    rw [e]
    exact or_bitS s n hs hn)
  have hq : (n : Int).tdiv 64 = 0 := by rw [Int.tdiv_eq_ediv_of_nonneg (by omega)]; omega
  have hr : (n : Int).tmod 64 = (n : Int) := by rw [Int.tmod_eq_emod_of_nonneg (by omega)]; omega
  go_enter Try.func40, Try.ntmps40
  go_wp2_with fail
  go_region
  rw [HOR.out]
  generalize hz : ((s ||| 2 ^ n : Nat) : Int) = z
  obtain ⟨wB, hwB⟩ : ∃ wB, wB = ((w.alloc (.cells #[.int .u64 z, .int .u64 0] 76)).alloc (.cells #[.int .u64 0, .int .u64 0] 76)).drew := ⟨_, rfl⟩
  have hg : w.grownBy wB none := by rw [hwB]; exact grown_trans (grown_aft2 (World.grownBy_alloc _ _ _)) (grown_drewN _ 1 _)
  have k0 : wB.heap[w.heap.size]? = some (.cells #[.int .u64 z, .int .u64 0] 76 (0, 0)) := by rw [hwB]; exact heap_old _ (heap_new _ rfl)
  have k1 : wB.heap[w.heap.size + 1]? = some (.cells #[.int .u64 0, .int .u64 0] 76 (0, 0)) := by rw [hwB]; exact heap_new _ (by show _ = (w.heap.push _).size; simp)
  rw [← hwB]
  have P1 := Lib.hid (put_two (x := .int .u64 z) (y := .int .u64 0) k1).1
  obtain ⟨-, c4, f4, c5, f5⟩ := put_two (x := .int .u64 z) (y := .int .u64 0) k1
  obtain ⟨c0, c1, -, -⟩ := box_cells k0
  have HG := Lib.hid hg
  clear hwB k0 k1 hg
  go_wp2_with fail
  ((try simp only [Exit.inBlock, Exit.then]); refine bodyPost_ret (results_arr rfl _ _ (w.heap.size + 1) _ _ _ _ _ rfl P1.out Try.underlying76 (by kernel_rfl)) rfl ?_)
  exact ⟨by rw [hz], grown_then HG.out (grown_trans (grown_set _ _ _) (grown_set _ _ _)) (by rintro j ⟨⟩; exact .inl (Nat.le_succ _))⟩
end Go.Proofs.Ytelpkcndbcfaiaa
