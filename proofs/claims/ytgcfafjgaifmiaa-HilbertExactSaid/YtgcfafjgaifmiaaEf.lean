/- hilbert.vectors: the iterator, from its making to its end. -/
import Derived.Test.YtgcfafjgaifmiaaEe
import Derived.Deep.RegionHeld3
namespace Go.Proofs.Ytgcfafjgaifmiaa
open Go.RowKit Go.Shelf
set_option linter.unusedVariables false

theorem make_cap_run (n : Nat) (hn : n ≤ 1000) : ∃ cs : Array Value, cs.size = n ∧ ∀ W, (Instr.makeSlice 22 (.int .i64 (0 : Int)) (.int .i64 (n : Int))).run Try.prog W = .ok (.slice (some ⟨W.heap.size, 0, none⟩) 0 n) (W.alloc (.cells cs 3)) := by
  obtain ⟨i, hi, hz0, hz1, hz2⟩ := info_parts info_int
  refine ⟨madeCells (Value.int .i64 0).cells (n * 1), by rw [Nat.mul_one, ← Array.length_toList]; simp [Value.cells, toList_madeCells_one], fun W => ?_⟩
  have := run_make (P := Try.prog) W 22 3 i (.int .i64 0) Try.underlying22 hi hz0 .i64 .i64 (0 : Int) (n : Int) (by omega) (by omega) (by rw [hz2]; omega) (by omega)
  rw [hz1] at this
  simpa using this
theorem Buf.start {W : World} {c : Nat} {cs : Array Value} (h : cs.size = c) (hc : c ≤ maxLen) : Buf (W.alloc (.cells cs 3)) W.heap.size c 0 [] :=
  ⟨by simp, .inr ⟨_, c, cs, rfl, Nat.le_refl _, heap_new _ rfl, Nat.zero_le _, hc, by omega, by simp⟩⟩
def VecTo (I : List (List Int) → World → Prop) (B : World → Prop) (xs : List (List Int)) (e : Ending) (W' : World) : Prop := (∃ v, e = .returned v) ∧ I xs W' ∧ B W'
theorem wide_calls {n : Nat} {f : FuncId} {args : Array Value} {w : World} {R : Ending → World → Prop} (h : CallsIn Fence.wide n Try.prog f args w R) : Calls Try.prog f args w R := callsIn_wide.1 h
set_option maxRecDepth 100000 in
set_option maxHeartbeats 2000000 in
theorem vectors1_any (l bf c mst nb mb m : Nat) (hc : c ≤ 6) (hmst : mst ≤ 1000) (I : List (List Int) → World → Prop) (B : World → Prop) (hIn : ∀ xs A C, I xs A → A.grownBy C none → I xs C) (hIb : ∀ xs A C, I xs A → A.grownBy C (some bf) → I xs C)
    (hB : ∀ A C row, B A → A.grownBy C row → (∀ j, row = some j → ∃ o : Obj, A.heap[j]? = some o ∧ o.isCells = true) → B C)
    (hY : ∀ pre x W, I pre W → pre.length < (vecs c mst).length → (x.length = c ∧ ∀ z ∈ x, 0 ≤ z ∧ z ≤ 1000) → Buf W bf c c x → B W → YieldAt Fence.wide m Try.prog l #[.slice (some ⟨bf, 0, none⟩) c c] W fun e W' => e = .returned (.bool true) ∧ I (pre ++ [x]) W' ∧ KpB bf W W' ∧ B W')
    (W : World) (hbf : W.heap.size = bf) (hIc : ∀ xs A, I xs A → A.cell? ⟨nb, 0, none⟩ = some (.int .i64 (c : Int)) ∧ A.cell? ⟨mb, 0, none⟩ = some (.int .i64 (mst : Int))) (h0 : I [] W) (hb0 : B W) :
    Calls Try.prog 64 #[.func (.yield l) #[] #[], .pointer (some ⟨nb, 0, none⟩), .pointer (some ⟨mb, 0, none⟩)] W (VecTo I B (vecs c mst)) := by
  obtain ⟨cs, hcs, hmk⟩ := make_cap_run c (by omega)
  obtain ⟨mst0, hm0⟩ : ∃ m0, mst = m0 := ⟨_, rfl⟩
  have HM0 : Hid (mst0 = mst) := Lib.hid hm0.symm
  rw [show (vecs c mst).length = (vecs c mst0).length by rw [hm0]] at hY
  clear hm0
  have HE : Hid (∀ (k fl : Nat) (front : List Int) (mst : Nat) (pre : List (List Int)) (W : World), fl + k = c → mst ≤ 1000 → pre.length + (vecs k mst).length ≤ (vecs c mst0).length → (∀ z ∈ front, 0 ≤ z ∧ z ≤ 1000) → I pre W → B W → Buf W bf c fl front → Calls Try.prog 65 #[.slice (some ⟨bf, 0, none⟩) fl c, .int .i64 (c : Int), .int .i64 (mst : Int), .func (.yield l) #[] #[]] W (ExtTo I B bf c fl (pre ++ (vecs k mst).map (front ++ ·)) front)) :=
    Lib.hid (fun k fl front mst pre W a1 a2 a7 a3 a4 a5 a6 => wide_calls (extend_in l bf c m (vecs c mst0).length hc I B hIn hIb hB hY k 0 fl front mst pre W a1 a2 a7 a3 a4 a5 a6))
  have HIN := Lib.hid hIn; have HB := Lib.hid hB
  have HI0 := Lib.hid h0; have HB0 := Lib.hid hb0
  have GX := Lib.hid (grown_drew W none)
  have HCS := Lib.hid hcs
  have HIC := Lib.hid hIc; have HN := Lib.hid (hIc _ _ h0).1; have HM := Lib.hid (hIc _ _ h0).2
  subst hbf
  clear hIn hIb hB hY h0 hb0 hcs hIc
  go_enter Try.func64, Try.ntmps64
  go_wp2_with fail
  have GA : Hid (W.grownBy ((W.alloc (.cells cs 3)).drew) none) := Lib.hid (grown_trans (World.grownBy_alloc W _ none) (grown_drew _ none))
  have hnn : ∀ g : Nat, some g ≠ (none : Option Nat) := by intro g; simp
  go_region_held3 (fun w' => w'.cell? ⟨nb, 0, none⟩ = some (.int .i64 (c : Int)) ∧ w'.cell? ⟨mb, 0, none⟩ = some (.int .i64 (mst : Int))) (first | exact ⟨GX.out.cell HN.out (hnn _), GX.out.cell HM.out (hnn _)⟩ | exact HIC.out _ _ P1.out | exact ⟨(grown_aft GX.out).cell HN.out (hnn _), (grown_aft GX.out).cell HM.out (hnn _)⟩) (first
    | (go_at_call 65; (with_reducible refine (HE.out c 0 [] mst [] _ (by omega) hmst (by rw [HM0.out]; simp) (by simp) (HIN.out _ _ _ HI0.out GA.out) (HB.out _ _ _ HB0.out GA.out (by simp)) ((Buf.start (W := W) HCS.out (by unfold maxLen; omega)).blk rfl)).mono ?_); rintro e w5 ⟨rfl, p1, p2, p3⟩; have P1 := Lib.hid p1; have P2 := Lib.hid p2; clear p1 p2 p3))
  all_goals
    go_wp2_with fail
    go_end0
    exact ⟨⟨_, rfl⟩, by simpa using P1.out, P2.out⟩
end Go.Proofs.Ytgcfafjgaifmiaa
