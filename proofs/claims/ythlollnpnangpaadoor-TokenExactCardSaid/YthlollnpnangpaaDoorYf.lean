/- strings.Lines: its iterator, from its making to its end. -/
import Derived.Test.YthlollnpnangpaaDoorYd
import Derived.Test.YthlollnpnangpaaDoorYa
namespace Go.Proofs.YthlollnpnangpaaDoor
open Go.RowKit Go.Shelf
set_option linter.unusedVariables false
attribute [local go_sem] Oper.semAt_some
def KpS (sb : Nat) (W W' : World) : Prop := W'.heap[sb]? = W.heap[sb]?
def leftAt (sb : Nat) (W : World) : Nat := match W.cell? ⟨sb, 0, none⟩ with | some (.string s) => s.size | _ => 0
theorem leftAt_of {W : World} {sb : Nat} {t : TypeId} {l : Bs} (h : Boxed W sb t (strV l)) : leftAt sb W = l.length := by
  unfold leftAt
  rw [h.cell]
  rfl
theorem anyDepthR {m m' : Nat} {P : Program} {l : Nat} {f : FuncId} {tmps : Array Value} {assign body : Code} {w : World} {R : Ending → World → Prop}
    (h : RoundIn Fence.wide m P l f tmps assign body w R) : RoundIn Fence.wide m' P l f tmps assign body w R := ⟨h.1, fun c cs _ => h.2 c cs (fun d h => by cases h)⟩
theorem anyDepthY {m : Nat} (m' : Nat) {P : Program} {l : Nat} {args : Array Value} {W : World} {R : Ending → World → Prop} (h : YieldAt Fence.wide m P l args W R) : YieldAt Fence.wide m' P l args W R := by
  obtain ⟨fn, tmps, assign, body, hy, hR⟩ := h
  exact ⟨fn, tmps, assign, body, hy, anyDepthR hR⟩
def LinesTo (I Ix : List Bs → World → Prop) (B Bx : World → Prop) (text : Bs) (e : Ending) (W' : World) : Prop :=
  (∃ v, e = .returned v) ∧ ((∃ xs, xs = linesL text ∧ I xs W' ∧ B W') ∨ (∃ xs, (∃ rest, linesL text = xs ++ rest) ∧ Ix xs W' ∧ Bx W'))
theorem cells_of {W : World} {sb : Nat} {t : TypeId} {v : Value} (h : Boxed W sb t v) : ∃ o : Obj, W.heap[sb]? = some o ∧ o.isCells = true := ⟨_, h, rfl⟩
/-- One step of the lines. -/
theorem lines_step {text pre rest} (h : linesL text = pre ++ linesL rest) (h0 : rest ≠ []) :
    (Lib.indexByte rest 10 = -1 → linesL text = pre ++ rest :: linesL []) ∧ (∀ k : Nat, Lib.indexByte rest 10 = (k : Int) → k < rest.length ∧ linesL text = pre ++ rest.take (k + 1) :: linesL (rest.drop (k + 1))) := by
  rw [indexByte_take]
  rw [linesL_cons h0] at h
  have hle := takeWhile_le' (p := (· != 10)) rest
  refine ⟨fun h1 => ?_, fun k h1 => ?_⟩
  · split at h1
    · next h2 => rw [if_pos h2] at h; rw [h]; rfl
    · omega
  · split at h1
    · omega
    · next h2 =>
      rw [if_neg h2] at h
      have h3 : (rest.takeWhile (· != 10)).length = k := by omega
      rw [h3] at h hle h2
      exact ⟨by omega, h⟩
set_option maxRecDepth 100000 in
set_option maxHeartbeats 2000000 in
theorem lines1_any (l sb m n : Nat) (text : Bs) (hlen : text.length ≤ 1000000) (I Ix : List Bs → World → Prop) (B Bx : World → Prop) (hIn : ∀ xs A C, I xs A → A.grownBy C none → I xs C) (hIs : ∀ xs A C, I xs A → A.grownBy C (some sb) → I xs C)
    (hB : ∀ A C row, B A → A.grownBy C row → (∀ j, row = some j → ∃ o : Obj, A.heap[j]? = some o ∧ o.isCells = true) → B C)
    (hY : ∀ pre x rest W, I pre W → linesL text = pre ++ x :: rest → B W → YieldAt Fence.wide m Tryd.prog l #[strV x] W fun e W' => (e = .returned (.bool true) ∧ I (pre ++ [x]) W' ∧ KpS sb W W' ∧ B W') ∨ (e = .returned (.bool false) ∧ Ix (pre ++ [x]) W' ∧ KpS sb W W' ∧ Bx W'))
    (W : World) (hbox : Boxed W sb 9 (strV text)) (h0 : I [] W) (hb0 : B W) :
    CallsIn Fence.wide n Tryd.prog 38 #[.func (.yield l) #[] #[], .pointer (some ⟨sb, 0, none⟩)] W (LinesTo I Ix B Bx text) := by
  have hdd : ∀ k : Nat, (Fence.wide.depth.isSome = true → 1 ≤ k) := fun k h => by cases h
  have HIN := Lib.hid hIn; have HIS := Lib.hid hIs; have HB := Lib.hid hB; have HY := Lib.hid hY
  have HS : Hid (Boxed W sb 9 (strV text) ∧ I [] W ∧ B W) := Lib.hid ⟨hbox, h0, hb0⟩
  clear hIn hIs hB hY hbox h0 hb0
  refine callsIn_of_wp Tryd.func38 rfl trivial ?_ rfl
  simp only [Tryd.ntmps38, List.size_toArray, List.length_cons, List.length_nil, Nat.reduceAdd, Nat.reduceSub, Array.replicate_succ, Array.replicate_zero, List.push_toArray, List.append_toArray, List.nil_append, List.cons_append]
  gi_wp2
  gi_loopw [4] (fun i wr => ∃ pre rest : List Bs, ∃ s : Bs, Hid (linesL text = pre ++ linesL s ∧ s.length ≤ text.length) ∧ Hid (Boxed wr sb 9 (strV s) ∧ I pre wr ∧ B wr)) (fun i wr => leftAt sb wr)
  case atStart => exact ⟨[], [], text, Lib.hid ⟨rfl, Nat.le_refl _⟩, HS⟩
  case round =>
    clear HS
    obtain ⟨pre, -, r, hl, hs⟩ := hrel
    have cs := hs.out.1.cell
    have fs := hs.out.1.frozen
    have HLA := Lib.hid (leftAt_of hs.out.1)
    have hmx : Tryd.prog.follows .mixedOrders = true := by kernel_rfl
    obtain ⟨s, hse⟩ : ∃ s : ByteArray, s = ⟨r.toArray⟩ := ⟨_, rfl⟩
    have hsz : s.size = r.length := by rw [hse]; rfl
    have HSE := Lib.hid hse
    have HII : Hid (∀ W, Calls Tryd.prog 39 #[.string s, .int .u8 10] W fun e w' => e = .returned (.int .i64 (Lib.indexByte r 10)) ∧ w' = W) := Lib.hid (fun W => by rw [hse]; exact indexByte_any r 10 W)
    rw [show strV r = .string s by rw [hse]] at cs
    clear hse
    by_cases h0 : r = []
    · have hz : r.length = 0 := by rw [h0]; rfl
      have HE : Hid (linesL text = pre) := Lib.hid (by have := hl.out.1; rw [h0, linesL_nil, List.append_nil] at this; exact this)
      clear h0
      gi_wp2
      go_end0
      exact ⟨⟨_, rfl⟩, .inl ⟨_, rfl, by rw [HE.out]; exact hs.out.2.1, hs.out.2.2⟩⟩
    · have HLS := Lib.hid (lines_step hl.out.1 h0)
      have hpos : 0 < r.length := List.length_pos_iff.2 h0
      have hposi : (0 : Int) < (r.length : Int) := by omega
      clear h0
      gi_wp2
      refine ⟨trivial, hdd _, (callsIn_wide.2 (HII.out _)).mono ?_⟩
      rintro e w' ⟨rfl, rfl⟩
      by_cases hi : Lib.indexByte r 10 = -1
      · have HL2 := Lib.hid (HLS.out.1 hi)
        rw [hi]
        clear hi
        have g2 : w'.grownBy (w'.setCell ⟨sb, 0, none⟩ (.string ⟨#[]⟩)) (some sb) := grown_set _ _ _
        have b2 : Boxed (w'.setCell ⟨sb, 0, none⟩ (.string ⟨#[]⟩)) sb 9 (strV []) := hs.out.1.set _
        obtain ⟨fn, tmps, assign, body, hy, hR⟩ := anyDepthY (n - 1) (HY.out pre r [] _ (HIS.out _ _ _ hs.out.2.1 g2) HL2.out (HB.out _ _ _ hs.out.2.2 g2 (by rintro j ⟨⟩; exact cells_of hs.out.1)))
        rw [show strV r = .string s by rw [HSE.out]] at hy
        have HR := Lib.hid hR; have B2 := Lib.hid b2
        clear hR g2 b2
        gi_wp2
        refine ⟨hdd _, HR.out.mono ?_⟩
        have FIN : ∀ W3, KpS sb (w'.setCell ⟨sb, 0, none⟩ (.string ⟨#[]⟩)) W3 → Boxed W3 sb 9 (strV []) := fun W3 h => h.trans B2.out
        rintro e W3 (⟨rfl, hi3, hk3, hb3⟩ | ⟨rfl, hi3, hk3, hb3⟩)
        · have HF := Lib.hid (FIN W3 hk3)
          have HI3 := Lib.hid hi3; have HB3 := Lib.hid hb3
          clear FIN hi3 hk3 hb3 hy
          gi_wp2
          go_roundw
          case rel => exact ⟨pre ++ [r], [], [], Lib.hid ⟨by rw [HL2.out]; simp [linesL_nil], Nat.zero_le _⟩, Lib.hid ⟨HF.out, HI3.out, HB3.out⟩⟩
          case measure => rw [leftAt_of HF.out, HLA.out]; exact hpos
        · have HF : Hid (LinesTo I Ix B Bx text (.returned (.tuple #[])) W3) := Lib.hid ⟨⟨_, rfl⟩, .inr ⟨_, ⟨linesL [], by rw [HL2.out]; simp⟩, hi3, hb3⟩⟩
          clear FIN hi3 hk3 hb3 hy
          gi_wp2
          go_end0
          exact HF.out
      · obtain ⟨k, hk⟩ : ∃ k : Nat, Lib.indexByte r 10 = (k : Int) := ⟨(Lib.indexByte r 10).toNat, by have := Lib.indexByte_ge r 10; omega⟩
        have HL2 := Lib.hid (HLS.out.2 k hk)
        have hk1 : k + 1 ≤ r.length := HL2.out.1
        have hk2 : (k : Int) + 1 ≤ (r.length : Int) := by omega
        rw [hk]
        clear hi hk
        have hw1 : IntKind.i64.wrap ((k : Int) + 1) = (k : Int) + 1 := IntWalk.i64_in _ (by have := hl.out.2; omega)
        have hw2 : ((k : Int) + 1).toNat = k + 1 := by omega
        gi_wp2
        gi_region
        have hx1 : s.extract 0 (k + 1) = ⟨(r.take (k + 1)).toArray⟩ := by rw [HSE.out, str_take]
        have hx2 : s.extract (k + 1) r.length = ⟨(r.drop (k + 1)).toArray⟩ := by rw [HSE.out]; exact str_drop r (k + 1)
        rw [hx1, hx2]
        clear hx1 hx2 hw1 hw2 hk2
        have g2 : w'.grownBy (w'.setCell ⟨sb, 0, none⟩ (strV (r.drop (k + 1)))).drew (some sb) := grown_trans (grown_set _ _ _) (grown_drew _ _)
        have b2 : Boxed (w'.setCell ⟨sb, 0, none⟩ (strV (r.drop (k + 1)))).drew sb 9 (strV (r.drop (k + 1))) := hs.out.1.set _
        obtain ⟨fn, tmps, assign, body, hy, hR⟩ := anyDepthY (n - 1) (HY.out pre (r.take (k + 1)) _ _ (HIS.out _ _ _ hs.out.2.1 g2) HL2.out.2 (HB.out _ _ _ hs.out.2.2 g2 (by rintro j ⟨⟩; exact cells_of hs.out.1)))
        have HR := Lib.hid hR; have B2 := Lib.hid b2
        clear hR g2 b2
        gi_wp2
        refine ⟨hdd _, HR.out.mono ?_⟩
        rintro e W3 (⟨rfl, hi3, hk3, hb3⟩ | ⟨rfl, hi3, hk3, hb3⟩)
        · have HF : Hid (Boxed W3 sb 9 (strV (r.drop (k + 1)))) := Lib.hid (hk3.trans B2.out)
          have HI3 := Lib.hid hi3; have HB3 := Lib.hid hb3
          clear hi3 hk3 hb3 hy
          gi_wp2
          go_roundw
          case rel => exact ⟨pre ++ [r.take (k + 1)], [], r.drop (k + 1), Lib.hid ⟨by rw [HL2.out.2]; simp, by rw [List.length_drop]; have := hl.out.2; omega⟩, Lib.hid ⟨HF.out, HI3.out, HB3.out⟩⟩
          case measure => rw [leftAt_of HF.out, HLA.out, List.length_drop]; omega
        · have HF : Hid (LinesTo I Ix B Bx text (.returned (.tuple #[])) W3) := Lib.hid ⟨⟨_, rfl⟩, .inr ⟨_, ⟨_, by rw [HL2.out.2]; simp; rfl⟩, hi3, hb3⟩⟩
          clear hi3 hk3 hb3 hy
          gi_wp2
          go_end0
          exact HF.out
theorem Lines_any (l : Bs) (W : World) :
    Calls Tryd.prog 24 #[strV l] W fun e w' => e = .returned (.func (.func 38) #[] #[.pointer (some ⟨W.heap.size, 0, none⟩)]) ∧ W.alloc (.cells #[strV l] 9) = w' := by
  go_enter Tryd.func24, Tryd.ntmps24
  go_wp2_with fail
  go_ret
  exact ⟨rfl, rfl⟩
end Go.Proofs.YthlollnpnangpaaDoor
