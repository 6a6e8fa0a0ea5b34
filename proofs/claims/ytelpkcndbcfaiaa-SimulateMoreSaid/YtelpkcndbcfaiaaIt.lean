/- The map of the pairs that Trace has met. -/
import Derived.Test.YtelpkcndbcfaiaaIs
import Derived.Maps.Own
import Derived.Maps.OwnOps
import Derived.Maps.OwnSet
import Derived.DeepKeys4
namespace Go.Proofs.Ytelpkcndbcfaiaa
open Go.RowKit Go.Maps
set_option linter.unusedVariables false
def metV (a b : Nat) : Value := .agg #[.int .u64 (a : Int), .int .u64 0, .int .u64 (b : Int), .int .u64 0]
theorem met_laid : laidOutB Try.prog = true := by kernel_rfl
theorem met_row : 87 < Try.prog.types.size := of_decide_eq_true (by kernel_rfl)
theorem met_wide : (match Try.prog.underlying 87 with | some (.array _ _) | some (.struct _) => true | _ => false) = true := by kernel_rfl
theorem met_kt : Try.prog.keyTypeAt 5 87 = true := by kernel_rfl
set_option maxRecDepth 100000 in
theorem met_law : Keyed Try.prog 87 := Keyed.of_law (deep_law_laid met_laid (m := 5) (by decide) met_row met_kt met_wide)
theorem wf_small {n : Nat} (h : n < 256) : (Lit.int .u64 (n : Int)).wf = true := by
  simp [Lit.wf, IntKind.min, IntKind.max, IntKind.signed, IntKind.bits]
  omega
theorem met_u64 : Try.prog.underlying 74 = some (.int .u64) := by kernel_rfl
theorem met_states : Try.prog.underlying 76 = some (.array 2 74) := by kernel_rfl
theorem met_c64 : Try.prog.cellsOf 74 = 1 := by kernel_rfl
theorem met_cst : Try.prog.cellsOf 76 = 2 := by kernel_rfl
theorem met_cmet : Try.prog.cellsOf 87 = 4 := by kernel_rfl
theorem lits_u64 (d : Nat) {n : Int} (h : (Lit.int .u64 n).wf = true) : Try.prog.keyLits (d + 1) 74 [.int .u64 n] = some [.int .u64 n] := by
  unfold Program.keyLits
  rw [met_u64]
  simp [h]
theorem lits_states (d : Nat) {n m : Int} (h : (Lit.int .u64 n).wf = true) (h2 : (Lit.int .u64 m).wf = true) : Try.prog.keyLits (d + 2) 76 [.int .u64 n, .int .u64 m] = some [.int .u64 n, .int .u64 m] := by
  unfold Program.keyLits
  rw [met_states]
  simp [met_c64, met_cst, List.range_succ, lits_u64 d h, lits_u64 d h2]
theorem met_struct : ∃ f g : Field, Try.prog.underlying 87 = some (.struct #[f, g]) ∧ f.name = "a" ∧ g.name = "b" ∧ f.type = 76 ∧ g.type = 76 ∧ f.offset = 0 ∧ g.offset = 2 := ⟨_, _, Try.underlying87, rfl, rfl, rfl, rfl, rfl, rfl⟩
theorem lits_met (d : Nat) {a b : Nat} (ha : a < 256) (hb : b < 256) : Try.prog.keyLits (d + 3) 87 [.int .u64 (a : Int), .int .u64 0, .int .u64 (b : Int), .int .u64 0] = some [.int .u64 (a : Int), .int .u64 0, .int .u64 (b : Int), .int .u64 0] := by
  obtain ⟨f, g, hu, n1, n2, t1, t2, o1, o2⟩ := met_struct
  unfold Program.keyLits
  rw [hu]
  have e1 := lits_states d (wf_small ha) (wf_small (n := 0) (by decide))
  have e2 := lits_states d (wf_small hb) (wf_small (n := 0) (by decide))
  simp [met_cmet, met_cst, n1, n2, t1, t2, o1, o2] at e1 e2 ⊢
  simp [e1, e2]
theorem met_key {a b : Nat} (ha : a < 256) (hb : b < 256) : ∃ kl, keyOf Try.prog 87 (metV a b) = some kl := by
  obtain ⟨f, g, hu, n1, n2, t1, t2, o1, o2⟩ := met_struct
  have hk : Try.prog.keyType 87 = true := by kernel_rfl
  have hf : (metV a b).formed Try.prog 87 = true := by simp [metV, Value.formed, hu, met_cmet]
  obtain ⟨d, hd⟩ : ∃ d, Try.prog.types.size + 1 = d + 3 := ⟨Try.prog.types.size - 2, by have h : 2 ≤ Try.prog.types.size := of_decide_eq_true (by kernel_rfl); omega⟩
  refine ⟨.string (keyBytes [.int .u64 (a : Int), .int .u64 0, .int .u64 (b : Int), .int .u64 0]), ?_⟩
  unfold keyOf
  rw [hu]
  simp only [hk, hf, Bool.and_self, if_true, hd]
  show ((Try.prog.keyLits (d + 3) 87 [.int .u64 (a : Int), .int .u64 0, .int .u64 (b : Int), .int .u64 0]).map _) = _
  rw [lits_met d ha hb]
  rfl
/-- What a pair reads as. -/
noncomputable def keyL (a b : Nat) : Lit := (keyOf Try.prog 87 (metV a b)).getD (.bool false)
theorem met_keyOf {a b : Nat} (ha : a < 256) (hb : b < 256) : keyOf Try.prog 87 (metV a b) = some (keyL a b) := by
  obtain ⟨kl, h⟩ := met_key ha hb
  unfold keyL
  rw [h]
  rfl
theorem keyL_inj {a b c d : Nat} (ha : a < 256) (hb : b < 256) (hc : c < 256) (hd : d < 256) (h : keyL a b = keyL c d) : a = c ∧ b = d := by
  have := met_law.inj (met_keyOf ha hb) (by rw [h]; exact met_keyOf hc hd)
  unfold metV at this
  simp at this
  omega
/-- Block B is the map of the pairs S. -/
def SeenR (w : World) (B : Nat) (S : List (Nat × Nat)) : Prop := ∃ D : DataW Unit, w.ownsMap Try.prog 87 (plainElem Try.prog 4) B S.length D ∧ Maps.Tidy D ∧ Maps.size D = S.length ∧
  ∀ a b, a < 256 → b < 256 → Maps.has D (keyL a b) = decide ((a, b) ∈ S) ∧ D.atKey (keyL a b) (.lit (.bool false)) = .lit (.bool (decide ((a, b) ∈ S)))
theorem seen_made (w : World) : SeenR (w.alloc (.map #[] 0)) w.heap.size [] :=
  ⟨.map [], World.ownsMap_made w Try.prog _ _, Maps.tidy_empty, rfl, fun a b _ _ => ⟨by simp [Maps.has], by simp [DataW.atKey]⟩⟩
theorem SeenR.kept {w w' : World} {B : Nat} {S : List (Nat × Nat)} {row : Option Nat} (h : SeenR w B S) (g : w.grownBy w' row) (hr : row ≠ some B) : SeenR w' B S := by
  obtain ⟨D, h1, h2⟩ := h
  exact ⟨D, h1.kept g (fun e => hr e.symm), h2⟩
theorem SeenR.same {w w' : World} {B : Nat} {S : List (Nat × Nat)} (h : SeenR w B S) (g : w.grownBy w' none) : SeenR w' B S := h.kept g (by simp)
theorem met_map : Try.prog.underlying 88 = some (.map 87 4) := by kernel_rfl
theorem met_bool : Try.prog.underlying 4 = some .bool := by kernel_rfl
set_option maxRecDepth 100000 in
theorem SeenR.put {w : World} {B : Nat} {S : List (Nat × Nat)} (h : SeenR w B S) {a b : Nat} (ha : a < 256) (hb : b < 256) (hn : (a, b) ∉ S) (hl : S.length ≤ 1000000) :
    ∃ w', (Instr.mapUpdate 88 (.map (some B)) (metV a b) (.bool true)).run Try.prog w = .ok () w' ∧ SeenR w' B (S ++ [(a, b)]) ∧ w.grownBy w' (some B) := by
  obtain ⟨D, h1, h2, h3, h4⟩ := h
  obtain ⟨w', hr, ho, hg⟩ := h1.update met_law met_map (by unfold maxLen; omega) (met_keyOf ha hb) (plainElem_bool met_bool true)
  have hkl : WideAt.IsKeyLit (keyL a b) := met_law.key (met_keyOf ha hb)
  refine ⟨w', hr, ⟨_, by rw [List.length_append]; exact ho, h2.put hkl _, ?_, fun c d hc hd => ?_⟩, hg⟩
  · rw [Maps.size_put h2, (h4 a b ha hb).1, h3, decide_eq_false hn]
    simp
  · by_cases e : (c, d) = (a, b)
    · obtain ⟨rfl, rfl⟩ := Prod.mk.inj e
      refine ⟨?_, ?_⟩
      · rw [Maps.has_put_same h2.isMap hkl]; simp
      · rw [Maps.atKey_put_same h2.isMap hkl]; simp
    · have hne : keyL c d ≠ keyL a b := fun e2 => e (by obtain ⟨rfl, rfl⟩ := keyL_inj hc hd ha hb e2; rfl)
      have hm : decide ((c, d) ∈ S ++ [(a, b)]) = decide ((c, d) ∈ S) := by simp [e]
      rw [hm]
      refine ⟨?_, ?_⟩
      · rw [Maps.has_put_other hne]; exact (h4 c d hc hd).1
      · rw [Maps.atKey_put_other hne]; exact (h4 c d hc hd).2
theorem SeenR.look {w : World} {B : Nat} {S : List (Nat × Nat)} (h : SeenR w B S) {a b : Nat} (ha : a < 256) (hb : b < 256) :
    (Instr.lookup 88 (.map (some B)) (metV a b) false).run Try.prog w = .ok (.bool (decide ((a, b) ∈ S))) w := by
  obtain ⟨D, h1, h2, h3, h4⟩ := h
  obtain ⟨v, ps, hr, hv⟩ := h1.lookup met_law met_map (z := .bool false) (by kernel_rfl) (plainElem_bool met_bool false) (met_keyOf ha hb)
  rw [(h4 a b ha hb).2] at hv
  rw [hr]
  unfold plainElem at hv
  rw [met_bool] at hv
  cases v <;> simp at hv
  rw [hv.1]
theorem SeenR.len {w : World} {B : Nat} {S : List (Nat × Nat)} (h : SeenR w B S) (ty : TypeId) : (Builtin.len_ #[88] ty #[.map (some B)]).run Try.prog w = .ok (.int .i64 (S.length : Int)) w := by
  obtain ⟨D, h1, h2, h3, h4⟩ := h
  have := h1.len met_map ty
  rw [h3] at this
  exact this
theorem wpList_seen_ins {ops : Array Oper} {rest : List Oper} {o : Oper} {x : Act} {w : World} {Q : Exit → Act → World → Prop} (hg : o.guard = none) (m k v : Operand) (hop : o.op = Op.insert 88 m k v)
    (B : Nat) (S : List (Nat × Nat)) (hm : x.eval m = .map (some B)) (a b : Nat) (hk : x.eval k = .agg #[.int .u64 (a : Int), .int .u64 0, .int .u64 (b : Int), .int .u64 0]) (hv : x.eval v = .bool true) (h : SeenR w B S) (ha : a < 256) (hb : b < 256) (hn : (a, b) ∉ S) (hl : S.length ≤ 1000000)
    (hK : ∀ w', SeenR w' B (S ++ [(a, b)]) → w.grownBy w' (some B) → wpList Try.prog ops Q rest (x.put o.dst undef) w') : wpList Try.prog ops Q (o :: rest) x w := by
  refine wpList_plain hg fun K' hK' => ?_
  obtain ⟨w', hrun, r1, r2⟩ := h.put ha hb hn hl
  unfold metV at hrun
  unfold Oper.wp
  simp [execOp, hop, hm, hk, hv, hrun, Result.andThen]
  exact hK' _ _ (hK w' r1 r2)
theorem wpList_seen_put {ops : Array Oper} {rest : List Oper} {o : Oper} {x : Act} {w : World} {Q : Exit → Act → World → Prop} (hg : o.guard = none) (m k v : Operand) (hop : o.op = Op.mapUpdate 88 m k v)
    (B : Nat) (S : List (Nat × Nat)) (hm : x.eval m = .map (some B)) (a b : Nat) (hk : x.eval k = .agg #[.int .u64 (a : Int), .int .u64 0, .int .u64 (b : Int), .int .u64 0]) (hv : x.eval v = .bool true) (h : SeenR w B S) (ha : a < 256) (hb : b < 256) (hn : (a, b) ∉ S) (hl : S.length ≤ 1000000)
    (hK : ∀ w', SeenR w' B (S ++ [(a, b)]) → w.grownBy w' (some B) → wpList Try.prog ops Q rest (x.put o.dst undef) w') : wpList Try.prog ops Q (o :: rest) x w := by
  refine wpList_plain hg fun K' hK' => ?_
  obtain ⟨w', hrun, r1, r2⟩ := h.put ha hb hn hl
  unfold metV at hrun
  unfold Oper.wp
  simp [execOp, hop, hm, hk, hv, hrun, Result.andThen]
  exact hK' _ _ (hK w' r1 r2)
theorem wpList_seen_look {ops : Array Oper} {rest : List Oper} {o : Oper} {x : Act} {w : World} {Q : Exit → Act → World → Prop} (hg : o.guard = none) (m k : Operand) (hop : o.op = Op.lookup 88 m k false)
    (B : Nat) (S : List (Nat × Nat)) (hm : x.eval m = .map (some B)) (a b : Nat) (hk : x.eval k = .agg #[.int .u64 (a : Int), .int .u64 0, .int .u64 (b : Int), .int .u64 0]) (h : SeenR w B S) (ha : a < 256) (hb : b < 256)
    (hK : wpList Try.prog ops Q rest (x.put o.dst (.bool (decide ((a, b) ∈ S)))) w) : wpList Try.prog ops Q (o :: rest) x w := by
  refine wpList_plain hg fun K' hK' => ?_
  have hrun := h.look ha hb
  unfold metV at hrun
  unfold Oper.wp
  simp [execOp, hop, hm, hk, hrun, Result.andThen]
  exact hK' _ _ hK
theorem wpList_seen_len {ops : Array Oper} {rest : List Oper} {o : Oper} {x : Act} {w : World} {Q : Exit → Act → World → Prop} (hg : o.guard = none) (m : Operand) (hop : o.op = Op.call { callee := Callee.builtin Builtin.len, args := #[m], argTypes := #[88] })
    (B : Nat) (S : List (Nat × Nat)) (hm : x.eval m = .map (some B)) (h : SeenR w B S)
    (hK : wpList Try.prog ops Q rest (x.put o.dst (.int .i64 (S.length : Int))) w) : wpList Try.prog ops Q (o :: rest) x w := by
  refine wpList_plain hg fun K' hK' => ?_
  have hrun := h.len o.type
  unfold Oper.wp
  simp [execOp, hop, resolve, invoke, builtin, hm, hrun, Result.andThen]
  exact hK' _ _ hK
end Go.Proofs.Ytelpkcndbcfaiaa
