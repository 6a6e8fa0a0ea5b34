/- Both sides answer alike: one form for a matrix that came in, valid or not. -/
import Derived.Test.YtpnghgihepnepaaCc
import Derived.Test.YtpnghgihepnepaaBj
import Derived.Test.YtpnghgihepnepaaBr
import Derived.Test.YtpnghgihepnepaaBg
import Derived.Test.YtpnghgihepnepaaBv
import Derived.Test.YtpnghgihepnepaaSm
namespace Go.Proofs.Ytpnghgihepnepaa
open Go.RowKit
set_option linter.unusedVariables false

def GotU (rs : List (List Int)) (err : Int) (w : World) (e : Ending) (w' : World) : Prop := ∃ v qs, e = .returned (.tuple #[v, .int .i64 err]) ∧ RowsP w' v qs ∧ qs.map Prod.snd = rs ∧ w.grownBy w' none
def GotIU (zs : List Int) (err : Int) (w : World) (e : Ending) (w' : World) : Prop := ∃ v, e = .returned (.tuple #[v, .int .i64 err]) ∧ Ints w' v zs ∧ w.grownBy w' none
theorem rowsP_nil (w : World) : RowsP w (.slice none 0 0) [] := ⟨none, 0, rfl, Nat.zero_le _, .inl rfl, by simp⟩
theorem ints_nil (w : World) : Ints w (.slice none 0 0) [] := (OwnI.nil w 0).ints (by simp)
theorem gotU_bad {w w' : World} {err : Int} {e : Ending} (h : e = .returned (.tuple #[.slice none 0 0, .int .i64 err]) ∧ w.grownBy w' none) : GotU [] err w e w' := ⟨_, [], h.1, rowsP_nil _, rfl, h.2⟩
theorem gotI_bad {w w' : World} {err : Int} {e : Ending} (h : e = .returned (.tuple #[.slice none 0 0, .int .i64 err]) ∧ w.grownBy w' none) : GotIU [] err w e w' := ⟨_, h.1, ints_nil _, h.2⟩
theorem same_grown {w w' : World} {p : Prop} (h : p ∧ w' = w) : p ∧ w.grownBy w' none := ⟨h.1, h.2 ▸ grown_refl _ _⟩
theorem transpose_u (ms : List Row) : ∃ rs err, (∀ w v, RowsI w v ms → Calls Try.prog 16 #[v] w (GotU rs err w)) ∧ ∀ w v, RowsI w v ms → Calls Try.prog 17 #[v] w (GotU rs err w) := by
  by_cases h : ∃ r c, MatOkP r c ms
  · obtain ⟨r, c, hm⟩ := h
    refine ⟨turnL ms c, 0, fun w v h => (Transpose_any (h.toP hm) hm).mono fun e w' h => ?_, fun w v h => (rTranspose_any (h.toP hm) hm).mono fun e w' h => h⟩
    obtain ⟨v, ts, h1, h2, h3, h4⟩ := h
    exact ⟨v, ts, h1, h2.rowsP, h3, h4⟩
  · have hno : ∀ r c, ¬ MatOkP r c ms := fun r c hm => h ⟨r, c, hm⟩
    exact ⟨[], 10, fun w v h => (Transpose_bad h hno).mono fun e w' h => gotU_bad (same_grown h), fun w v h => (rTranspose_bad h hno).mono fun e w' h => gotU_bad h⟩
theorem multiply_u (ms bs : List Row) : ∃ rs err, (∀ w v u, RowsI w v ms → RowsI w u bs → Calls Try.prog 19 #[v, u] w (GotU rs err w)) ∧ ∀ w v u, RowsI w v ms → RowsI w u bs → Calls Try.prog 20 #[v, u] w (GotU rs err w) := by
  by_cases h : ∃ r c, MatOkP r c ms
  · obtain ⟨r, c, hm⟩ := h
    by_cases hb : ∃ r' n, MatOkP r' n bs
    · obtain ⟨r', n, hb⟩ := hb
      by_cases hl : bs.length = c
      · have hb2 : MatOkP c n bs := ⟨hl, by have := hm.2.2.2.1; omega, by have := hm.2.2.2.2.1; omega, hb.2.2.2.1, hb.2.2.2.2.1, by have := hb.1; have := hb.2.2.2.2.2.1; omega, hb.2.2.2.2.2.2⟩
        refine ⟨prodM ms bs n, 0, fun w v u h k => (Multiply_any (h.toP hm) hm (k.toP hb) hb2).mono fun e w' h => ?_, fun w v u h k => (rMultiply_any (h.toP hm) hm (k.toP hb) hb2).mono fun e w' h => h⟩
        obtain ⟨v, ts, h1, h2, h3, h4⟩ := h
        exact ⟨v, ts, h1, h2.rowsP, h3, h4⟩
      · exact ⟨[], 3, fun w v u h k => (Multiply_len (h.toP hm) hm (k.toP hb) hb hl).mono fun e w' h => gotU_bad (same_grown h), fun w v u h k => (rMultiply_len (h.toP hm) hm (k.toP hb) hb hl).mono fun e w' h => gotU_bad h⟩
    · have hno : ∀ r c, ¬ MatOkP r c bs := fun r c hm => hb ⟨r, c, hm⟩
      exact ⟨[], 10, fun w v u h k => (Multiply_badR (h.toP hm) hm k hno).mono fun e w' h => gotU_bad (same_grown h), fun w v u h k => (rMultiply_badR (h.toP hm) hm k hno).mono fun e w' h => gotU_bad h⟩
  · have hno : ∀ r c, ¬ MatOkP r c ms := fun r c hm => h ⟨r, c, hm⟩
    exact ⟨[], 10, fun w v u h _ => (Multiply_bad h hno).mono fun e w' h => gotU_bad (same_grown h), fun w v u h _ => (rMultiply_bad h hno).mono fun e w' h => gotU_bad h⟩
theorem fit_of {r c : Nat} {ms : List Row} (hm : MatOkP r c ms) : RedFit ms c := by
  obtain ⟨hl, -, -, -, -, h6, hq⟩ := hm
  exact redFit_any (fun q hq' => (hq q hq').1) (fun q hq' => (hq q hq').2) (by omega)
theorem kernel_u (ms : List Row) : ∃ rs err, (∀ w v, RowsI w v ms → Calls Try.prog 21 #[v] w (GotU rs err w)) ∧ ∀ w v, RowsI w v ms → Calls Try.prog 22 #[v] w (GotU rs err w) := by
  by_cases h : ∃ r c, MatOkP r c ms
  · obtain ⟨r, c, hm⟩ := h
    obtain ⟨R, P, hRP⟩ : ∃ R P, (R, P) = lredN (ms.map (fun q => primL q.2), []) c := ⟨_, _, rfl⟩
    refine ⟨kerL R P c c, 0, fun w v h => (Kernel_any (h.toP hm) hm (fit_of hm)).mono fun e w' h => ?_, fun w v h => (rKernel_any (h.toP hm) hm hRP).mono fun e w' h => h⟩
    obtain ⟨qs, v, ks, hq, h1, h2, h3, h4⟩ := h
    exact ⟨v, ks, h1, h2.rowsP, by rw [h3, (ker_same hm hq hRP).1], h4⟩
  · have hno : ∀ r c, ¬ MatOkP r c ms := fun r c hm => h ⟨r, c, hm⟩
    exact ⟨[], 10, fun w v h => (Kernel_bad h hno).mono fun e w' h => gotU_bad (same_grown h), fun w v h => (rKernel_bad h hno).mono fun e w' h => gotU_bad h⟩
theorem rank_u (ms : List Row) : ∃ n err : Int, (∀ w v, RowsI w v ms → Calls Try.prog 23 #[v] w fun e w' => e = .returned (.tuple #[.int .i64 n, .int .i64 err]) ∧ w.grownBy w' none) ∧ ∀ w v, RowsI w v ms → Calls Try.prog 24 #[v] w fun e w' => e = .returned (.tuple #[.int .i64 n, .int .i64 err]) ∧ w.grownBy w' none := by
  by_cases h : ∃ r c, MatOkP r c ms
  · obtain ⟨r, c, hm⟩ := h
    obtain ⟨R, P, hRP⟩ : ∃ R P, (R, P) = lredN (ms.map (fun q => primL q.2), []) c := ⟨_, _, rfl⟩
    refine ⟨P.length, 0, fun w v h => (Rank_any (h.toP hm) hm (fit_of hm)).mono fun e w' h => ?_, fun w v h => (rRank_any (h.toP hm) hm).mono fun e w' h => ?_⟩
    · obtain ⟨qs, hq, h1, h2⟩ := h
      exact ⟨by rw [h1, (ker_same hm hq hRP).2], h2⟩
    · obtain ⟨R', P', hRP', h1, h2⟩ := h
      have e1 := hRP'.trans hRP.symm
      simp only [Prod.mk.injEq] at e1
      obtain ⟨rfl, rfl⟩ := e1
      exact ⟨h1, h2⟩
  · have hno : ∀ r c, ¬ MatOkP r c ms := fun r c hm => h ⟨r, c, hm⟩
    exact ⟨0, 10, fun w v h => (Rank_bad h hno).mono fun e w' h => same_grown h, fun w v h => (rRank_bad h hno).mono fun e w' h => h⟩
theorem check_u (ms : List Row) : ∃ err : Int, (∀ w v, RowsI w v ms → Calls Try.prog 14 #[v] w fun e w' => e = .returned (.int .i64 err) ∧ w.grownBy w' none) ∧ ∀ w v, RowsI w v ms → Calls Try.prog 15 #[v] w fun e w' => e = .returned (.int .i64 err) ∧ w.grownBy w' none := by
  by_cases h : ∃ r c, MatOkP r c ms
  · obtain ⟨r, c, hm⟩ := h
    exact ⟨0, fun w v h => (Check10_any (h.toP hm) hm).mono fun e w' h => same_grown h, fun w v h => (rcheck10_ok (h.toP hm) hm).mono fun e w' h => h⟩
  · have hno : ∀ r c, ¬ MatOkP r c ms := fun r c hm => h ⟨r, c, hm⟩
    exact ⟨10, fun w v h => (Check_bad h hno).mono fun e w' h => same_grown h, fun w v h => (rcheck_bad h hno).mono fun e w' h => h⟩
theorem dots_bd {r c : Nat} {ms : List Row} (hm : MatOkP r c ms) {xs : List Int} (hl : xs.length = c) (hx : ∀ x ∈ xs, -1048576 ≤ x ∧ x ≤ 1048576) : ∀ z ∈ ms.map (fun q => dotL q.2 xs), -9223372036854775808 ≤ z ∧ z ≤ 9223372036854775807 := by
  intro z hz
  obtain ⟨q, hq, rfl⟩ := List.mem_map.1 hz
  obtain ⟨h1, h2⟩ := hm.2.2.2.2.2.2 q hq
  have hc12 := hm.2.2.2.2.1
  have := dot20_bd (j := c) h1 h2 hc12 hx
  rw [List.take_of_length_le (by omega), List.take_of_length_le (by omega)] at this
  omega
theorem apply_u (ms : List Row) (xs : List Int) : ∃ zs err, (∀ w v u, RowsI w v ms → Ints w u xs → Calls Try.prog 26 #[v, u] w (GotIU zs err w)) ∧ ∀ w v u, RowsI w v ms → Ints w u xs → Calls Try.prog 27 #[v, u] w (GotIU zs err w) := by
  by_cases h : ∃ r c, MatOkP r c ms
  · obtain ⟨r, c, hm⟩ := h
    by_cases hl : xs.length = c
    · by_cases hx : ∀ x ∈ xs, -1048576 ≤ x ∧ x ≤ 1048576
      · refine ⟨ms.map (fun q => dotL q.2 xs), 0, fun w v u h k => (Apply_any (h.toP hm) hm k hl hx).mono fun e w' h => ?_, fun w v u h k => (rApply_any (h.toP hm) hm k hl hx).mono fun e w' h => ?_⟩
        · obtain ⟨v, h1, h2, h3⟩ := h
          exact ⟨v, h1, h2.ints (dots_bd hm hl hx), h3⟩
        · obtain ⟨v, h1, h2, h3⟩ := h
          exact ⟨v, h1, h2.ints (dots_bd hm hl hx), h3⟩
      · exact ⟨[], 2, fun w v u h k => (Apply_range (h.toP hm) hm k hl hx).mono fun e w' h => gotI_bad (same_grown h), fun w v u h k => (rApply_range (h.toP hm) hm k hl hx).mono fun e w' h => gotI_bad h⟩
    · exact ⟨[], 3, fun w v u h k => (Apply_len (h.toP hm) hm k hl).mono fun e w' h => gotI_bad (same_grown h), fun w v u h k => (rApply_len (h.toP hm) hm k hl).mono fun e w' h => gotI_bad h⟩
  · have hno : ∀ r c, ¬ MatOkP r c ms := fun r c hm => h ⟨r, c, hm⟩
    exact ⟨[], 10, fun w v u h _ => (Apply_bad h hno).mono fun e w' h => gotI_bad (same_grown h), fun w v u h _ => (rApply_bad h hno).mono fun e w' h => gotI_bad h⟩

/-- A matrix that came in, beside the deck in block d. -/
def RowsX (w : World) (d : Nat) (v : Value) (ps : List Row) : Prop := RowsI w v ps ∧ (ps ≠ [] → v.ownBlock ≠ some d) ∧ ∀ p ∈ ps, p.2 ≠ [] → p.1.ownBlock ≠ some d
theorem Ints.empty {w w' : World} {v : Value} (h : Ints w v []) : Ints w' v [] := by
  obtain ⟨a, cap, h1, h2, h3, h4⟩ := h
  exact ⟨a, cap, h1, h2, h3, .inl rfl⟩
theorem RowsX.kept {w w' : World} {d : Nat} {v : Value} {ps : List Row} {row : Option Nat} (h : RowsX w d v ps) (g : w.grownBy w' row) (hr : row = none ∨ row = some d) : RowsX w' d v ps := by
  obtain ⟨⟨a, cap, hv, hl, hc, hp⟩, h2, h3⟩ := h
  refine ⟨⟨a, cap, hv, hl, ?_, fun p hpm => ?_⟩, h2, h3⟩
  · rcases hc with rfl | ⟨b, off, rfl, hc⟩
    · exact .inl rfl
    · by_cases h0 : ps = []
      · exact .inl h0
      · refine .inr ⟨b, off, rfl, fun i hi => g.cell (hc i hi) (fun e => ?_)⟩
        have h4 := h2 h0
        rw [hv] at h4
        rcases hr with hr | hr
        · rw [hr] at e; cases e
        · rw [hr] at e
          cases e
          exact h4 rfl
  · obtain ⟨h5, h6⟩ := hp p hpm
    have hk : p.2 ≠ [] → ∀ k, row = some k → p.1.ownBlock ≠ some k := fun h0 k hk e => by
      rcases hr with hr | hr
      · rw [hr] at hk; cases hk
      · rw [hr] at hk; cases hk; exact h3 p hpm h0 e
    by_cases h0 : p.2 = []
    · refine ⟨?_, fun h => absurd h0 h⟩
      rw [h0] at h5 ⊢
      exact h5.empty
    · exact ⟨h5.kept g (hk h0), fun _ => (h6 h0).kept g (hk h0)⟩
theorem RowsX.same {w w' : World} {d : Nat} {v : Value} {ps : List Row} (h : RowsX w d v ps) (g : w.grownBy w' none) : RowsX w' d v ps := h.kept g (.inl rfl)
theorem RowsX.deal {w w' : World} {d : Nat} {v : Value} {ps : List Row} (h : RowsX w d v ps) (g : w.grownBy w' (some d)) : RowsX w' d v ps := h.kept g (.inr rfl)
theorem RowsX.slice {w : World} {d : Nat} {v : Value} {ps : List Row} (h : RowsX w d v ps) : ∃ a cap, v = .slice a ps.length cap := by obtain ⟨⟨a, cap, hv, _⟩, _⟩ := h; exact ⟨a, cap, hv⟩
theorem MatD.rowsX {w : World} {d : Nat} {v : Value} {ps : List Row} (h : MatD w d v ps) : RowsX w d v ps := by
  obtain ⟨base, hd, hm⟩ := h
  exact ⟨hm.rowsP.toI, fun _ e => by have := (hm.own.fresh d e).1; omega, fun p hp _ e => by have := ((hm.rows p hp).fresh d e).1; omega⟩
theorem cell_in {w : World} {b o : Nat} {v : Value} (h : w.cell? ⟨b, o, none⟩ = some v) : b < w.heap.size := by
  rcases Nat.lt_or_ge b w.heap.size with h1 | h1
  · exact h1
  · exfalso
    unfold World.cell? at h
    dsimp only at h
    rw [Array.getElem?_eq_none h1] at h
    simp at h
theorem RowsI.x {w0 w : World} {p : Value} {d : Nat} {v : Value} {ps : List Row} (h : RowsI w0 v ps) (hs : St w0 w p d) : RowsX w d v ps := by
  refine ⟨h.same hs.2.1, fun h0 e => ?_, fun q hq h0 e => ?_⟩
  · obtain ⟨a, cap, rfl, hl, hc, -⟩ := h
    rcases hc with rfl | ⟨b, off, rfl, hc⟩
    · exact h0 rfl
    · have h1 : 0 < ps.length := by cases ps with
        | nil => exact absurd rfl h0
        | cons _ _ => simp
      have := cell_in (hc 0 h1)
      simp only [Value.ownBlock, Option.some.injEq] at e
      have := hs.2.2
      omega
  · obtain ⟨-, -, -, -, -, hp⟩ := h
    have := ((hp q hq).2 h0).2.2 d e
    have := hs.2.2
    omega
/-- A vector that came in, beside the deck. -/
def IntX (w : World) (d : Nat) (v : Value) (xs : List Int) : Prop := Ints w v xs ∧ v.ownBlock ≠ some d
theorem IntX.same {w w' : World} {d : Nat} {v : Value} {xs : List Int} (h : IntX w d v xs) (g : w.grownBy w' none) : IntX w' d v xs := ⟨h.1.same g, h.2⟩
theorem IntX.deal {w w' : World} {d : Nat} {v : Value} {xs : List Int} (h : IntX w d v xs) (g : w.grownBy w' (some d)) : IntX w' d v xs := ⟨h.1.kept g (fun k hk => by cases hk; exact h.2), h.2⟩
theorem Vec.x {w : World} {d : Nat} {v : Value} {xs : List Int} (h : Vec w d v xs) : IntX w d v xs := ⟨h.1, fun e => by have := h.2 d e; omega⟩
def SomeBool (w : World) (e : Ending) (w' : World) : Prop := (∃ B, e = .returned (.bool B)) ∧ w' = w
set_option maxRecDepth 100000 in
set_option maxHeartbeats 1000000 in
theorem narrow_any (v : Value) (ps : List Row) (w : World) (h : RowsI w v ps) :
    Calls Try.prog 10 #[v] w (SomeBool w) := by
  obtain ⟨a, cap, rfl, hl, -⟩ := id h
  have H := Lib.hid h
  unfold maxLen at hl
  clear h
  go_enter Try.func10, Try.ntmps10
  go_wp2_with fail
  go_loop [6] (fun i => ∃ k : Nat, i = .int .i64 k ∧ k ≤ ps.length) (fun i => ps.length - (intOf i).toNat)
  case atStart => exact ⟨0, rfl, Nat.zero_le _⟩
  case round =>
    obtain ⟨k, rfl, hk⟩ := hrel
    by_cases hkb : k < ps.length
    · have h3 : (k : Int) < (ps.length : Int) := by omega
      have i1 : IntKind.i64.wrap ((k : Int) + 1) = (k : Int) + 1 := IntWalk.i64_in _ (by omega)
      obtain ⟨b, off, a2, c2, rfl, hc, -⟩ := H.out.row hkb
      by_cases hR : (20 : Int) < (ps[k].2.length : Int)
      · go_wp2_with fail
        go_ret
        exact ⟨⟨_, rfl⟩, rfl⟩
      · go_wp2_with fail
        go_round
        case rel => exact ⟨k + 1, by go_num, by omega⟩
        case measure => simp [intOf]; omega
    · obtain rfl : k = ps.length := by omega
      have h3 : ¬ (ps.length : Int) < (ps.length : Int) := by omega
      go_wp2_with fail
      go_ret
      exact ⟨⟨_, rfl⟩, rfl⟩
end Go.Proofs.Ytpnghgihepnepaa
