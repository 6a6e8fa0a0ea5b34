/- Texts Ta, Va, Vb in one. -/
import Derived.Test.YtoaoheblaidhmaaU8
namespace Go.Proofs.Ytoaoheblaidhmaa
open Go.RowKit
set_option linter.unusedVariables false

/-- A set that is valid, whatever it holds. -/
def SetV (w : World) (n : Nat) (v : Value) : Prop := ∃ b ps, LinV w v b ps ∧ ValidS n b ps
theorem SetV.same {w w' : World} {n : Nat} {v : Value} (h : SetV w n v) (g : w.grownBy w' none) : SetV w' n v := by
  obtain ⟨b, ps, h1, h2⟩ := h
  exact ⟨b, ps, h1.same g, h2⟩
/-- The cells of a list of sets. -/
def CellsS (w : World) (b off : Nat) (us : List (Value × Value)) : Prop := ∀ i, (h : i < us.length) → w.cell? ⟨b, off + i * 2, none⟩ = some us[i].1 ∧ w.cell? ⟨b, off + i * 2 + 1, none⟩ = some us[i].2
theorem CellsS.same {w w' : World} {b off : Nat} {us : List (Value × Value)} (h : CellsS w b off us) (g : w.grownBy w' none) : CellsS w' b off us :=
  fun i hi => ⟨g.cell (h i hi).1 (by simp), g.cell (h i hi).2 (by simp)⟩

set_option maxRecDepth 100000 in
set_option maxHeartbeats 1500000 in
theorem check_any (n : Nat) (hn1 : 1 ≤ n) (hn4 : n ≤ 4) (us : List (Value × Value)) (b off cap : Nat) (w : World) (hc : CellsS w b off us) (hu : ∀ u ∈ us, SetV w n (.agg #[u.1, u.2])) (hl : us.length ≤ 8) :
    Calls Try.prog 14 #[.int .i64 (n : Int), .slice (some ⟨b, off, none⟩) us.length cap] w fun e w' => e = .returned (.int .i64 0) ∧ w.grownBy w' none := by
  have HC := Lib.hid hc; have HU := Lib.hid hu
  have h1 : ¬ (n : Int) < 1 := by omega
  have h4 : ¬ (4 : Int) < (n : Int) := by omega
  have h8 : ¬ (8 : Int) < (us.length : Int) := by omega
  clear hc hu
  go_enter Try.func14, Try.ntmps14
  go_wp2_with fail
  go_loopw [6, 19] (fun _ i wr => ∃ k : Nat, i = .int .i64 k ∧ k ≤ us.length ∧ Hid (w.grownBy wr none)) (fun _ i _ => us.length - (intOf i).toNat)
  case atStart => exact ⟨0, rfl, Nat.zero_le _, Lib.hid (grown_refl _ _)⟩
  case round =>
    obtain ⟨k, rfl, hk, hg⟩ := hrel
    rename World => wk
    by_cases hlt : k < us.length
    · have h2 : (k : Int) < (us.length : Int) := by omega
      obtain ⟨c1, c2⟩ := HC.out.same hg.out k hlt
      have HS := Lib.hid ((HU.out _ (List.getElem_mem hlt)).same hg.out)
      generalize us[k] = u at *
      obtain ⟨u1, u2⟩ := u
      dsimp only at c1 c2 HS
      obtain ⟨sb, sp, hlin, hval⟩ := HS.out
      obtain ⟨vb, vp, qs, he, ⟨⟨ab, cb, hvb, -, -, -⟩, -, -⟩, ⟨ap, cp, hvp, -, -, -⟩, -, -⟩ := hlin
      simp only [Value.agg.injEq, Array.mk.injEq, List.cons.injEq, and_true] at he
      obtain ⟨rfl, rfl⟩ := he
      dsimp only at hvb
      subst hvb hvp
      have HS2 := Lib.hid (HS.out.same (World.grownBy_alloc wk (.cells #[.slice ab sb.length cb, .slice ap qs.length cp] 26) none))
      clear hval
      go_wp2_with fail
      obtain ⟨sb2, sp2, hlin2, hval2⟩ := HS2.out
      refine (checkSet_any n _ sb2 sp2 _ hlin2 hval2).mono ?_
      rintro e w3 ⟨rfl, hg3⟩
      have G3 := Lib.hid (grown_trans (grown_after hg.out) hg3)
      clear hg3 hlin2 hval2
      go_wp2_with fail
      go_roundw
      case rel => exact ⟨k + 1, by go_num, by omega, G3⟩
      case measure => simp [intOf]; omega
    · have h2 : ¬ (k : Int) < (us.length : Int) := by omega
      go_wp2_with fail
      go_ret
      exact ⟨rfl, hg.out⟩

end Go.Proofs.Ytoaoheblaidhmaa

namespace Go.Proofs.Ytoaoheblaidhmaa
open Go.RowKit
set_option linter.unusedVariables false

/-- v reads as a slice of slices; of a row without elements nothing more is told. -/
def RowsI (w : World) (v : Value) (ps : List Row) : Prop :=
  ∃ a cap, v = .slice a ps.length cap ∧ ps.length ≤ maxLen ∧ (ps = [] ∨ ∃ b off, a = some ⟨b, off, none⟩ ∧ ∀ i, i < ps.length → w.cell? ⟨b, off + i, none⟩ = some (ps[i]?.map Prod.fst |>.getD (.slice none 0 0))) ∧ ∀ p ∈ ps, Ints w p.1 p.2 ∧ (p.2 ≠ [] → RowOk w p)
theorem RowsP.toI {w : World} {v : Value} {ps : List Row} (h : RowsP w v ps) : RowsI w v ps := by
  obtain ⟨a, cap, h1, h2, h3, h4⟩ := h
  exact ⟨a, cap, h1, h2, h3, fun p hp => ⟨(h4 p hp).1, fun _ => h4 p hp⟩⟩
theorem RowsI.same {w w' : World} {v : Value} {ps : List Row} (h : RowsI w v ps) (g : w.grownBy w' none) : RowsI w' v ps := by
  obtain ⟨a, cap, h1, h2, h3, h4⟩ := h
  refine ⟨a, cap, h1, h2, ?_, fun p hp => ⟨(h4 p hp).1.same g, fun hne => ((h4 p hp).2 hne).same g⟩⟩
  rcases h3 with h3 | ⟨b, off, ha, hc⟩
  · exact .inl h3
  · exact .inr ⟨b, off, ha, fun i hi => g.cell (hc i hi) (by simp)⟩
theorem RowsI.toP1 {w : World} {v : Value} {ps : List Row} (h : RowsI w v ps) (hn : ∀ p ∈ ps, 1 ≤ p.2.length) : RowsP w v ps := by
  obtain ⟨a, cap, h1, h2, h3, h4⟩ := h
  exact ⟨a, cap, h1, h2, h3, fun p hp => (h4 p hp).2 (fun e => by have := hn p hp; rw [e] at this; simp at this)⟩
theorem RowsI.row {w : World} {a : Option Addr} {n cap : Nat} {ps : List Row} (h : RowsI w (.slice a n cap) ps) {k : Nat} (hk : k < ps.length) :
    ∃ b off a2 c2, a = some ⟨b, off, none⟩ ∧ w.cell? ⟨b, off + k, none⟩ = some (.slice a2 ps[k].2.length c2) ∧ Ints w (.slice a2 ps[k].2.length c2) ps[k].2 := by
  obtain ⟨a', cap', hv, -, hct, hr⟩ := h
  simp only [Value.slice.injEq] at hv
  obtain ⟨rfl, -, rfl⟩ := hv
  obtain ⟨b, off, rfl, hc⟩ := RowsP.at hct hk
  obtain ⟨⟨a2, c2, h1, h2⟩, -⟩ := hr _ (List.getElem_mem hk)
  exact ⟨b, off, a2, c2, rfl, by rw [hc, h1], a2, c2, rfl, h2⟩
theorem Ints.empty {w w' : World} {v : Value} (h : Ints w v []) : Ints w' v [] := by
  obtain ⟨a, cap, h1, h2, h3, h4⟩ := h
  exact ⟨a, cap, h1, h2, h3, .inl rfl⟩
theorem slice_oneI {w : World} {v : Value} {xs : List Int} (h : Ints w v xs) : v.oneCell' = true := by
  obtain ⟨a, cap, hv, -⟩ := h
  rw [hv]; rfl
theorem own_cells {w : World} {base g cap : Nat} {L : List Row} (h : w.ownsRow base 22 1 (.slice (some ⟨g, 0, none⟩) L.length cap) L.length (L.map Prod.fst)) (i : Nat) (hi : i < L.length) : w.cell? ⟨g, 0 + i, none⟩ = some (L[i]?.map Prod.fst |>.getD (.slice none 0 0)) := by
  have := World.ownsRow.cellAt h i (by omega)
  rw [Nat.zero_add, this]
  simp [hi]
/-- A row that came in raw: one without elements may name any block. -/
def RowE (w : World) (p : Row) : Prop := Ints w p.1 p.2 ∧ Good p.1 ∧ (p.2 ≠ [] → ∀ g, p.1.ownBlock = some g → g < w.heap.size)
theorem RowE.same {w w' : World} {p : Row} (h : RowE w p) (g : w.grownBy w' none) : RowE w' p :=
  ⟨h.1.kept g (by simp), h.2.1, fun hn k hk => Nat.lt_of_lt_of_le (h.2.2 hn k hk) g.size⟩
theorem RowE.ok {w : World} {p : Row} (h : RowE w p) (hn : 1 ≤ p.2.length) : RowOk w p := ⟨h.1, h.2.1, h.2.2 (fun e => by rw [e] at hn; simp at hn)⟩
theorem RowOk.e {w : World} {p : Row} (h : RowOk w p) : RowE w p := ⟨h.1, h.2.1, fun _ => h.2.2⟩
theorem lit_e {w : World} {p : Row} (h : RowE w p) : (w.alloc (.cells #[p.1] 22)).ownsRow w.heap.size 22 1 (.slice (some ⟨w.heap.size, 0, none⟩) 1 1) 1 [p.1] ∧ RowsI (w.alloc (.cells #[p.1] 22)) (.slice (some ⟨w.heap.size, 0, none⟩) 1 1) [p] ∧ ∀ q ∈ [p], q.2 ≠ [] → ∀ g, (Value.slice (some ⟨w.heap.size, 0, none⟩) 1 1).ownBlock = some g → q.1.ownBlock ≠ some g := by
  have hs := h.same (World.grownBy_alloc w (.cells #[p.1] 22) none)
  refine ⟨World.ownsRow_lit w #[p.1] 1 (Nat.le_refl _) (by decide) rfl, ⟨_, 1, rfl, by simp; unfold maxLen; omega, .inr ⟨w.heap.size, 0, rfl, fun i hi => ?_⟩, fun q hq => ?_⟩, fun q hq hn g hv hg => ?_⟩
  · obtain rfl : i = 0 := by simpa using hi
    rw [World.cell?, heap_new _ rfl]; rfl
  · rw [List.mem_singleton.1 hq]; exact ⟨hs.1, fun hn => ⟨hs.1, hs.2.1, hs.2.2 hn⟩⟩
  · rw [List.mem_singleton.1 hq] at hn hg
    have := h.2.2 hn g hg
    simp only [Value.ownBlock, Option.some.injEq] at hv
    omega
/-- All of a raw row list behind a list of the call's own. -/
theorem app_allI {ops : Array Oper} {rest : List Oper} {o : Oper} {a : Act} {w : World} {Q : Exit → Act → World → Prop} (hgd : o.guard = none) (s x : Operand)
    (ho : o.op = .call { callee := .builtin .append, args := #[s, x], argTypes := #[24, 24] }) (base : Nat) (v : Value) (ps : List Row) (hs : a.eval s = v)
    (hown : w.ownsRow base 22 1 v ps.length (ps.map Prod.fst)) (hrw : RowsI w v ps) (hfar : ∀ q ∈ ps, q.2 ≠ [] → ∀ g, v.ownBlock = some g → q.1.ownBlock ≠ some g) (v2 : Value) (qs : List Row) (hx : a.eval x = v2) (h2 : RowsI w v2 qs) (hd : ∀ q ∈ qs, q.2 ≠ [] → ∀ g, q.1.ownBlock = some g → v.ownBlock ≠ some g)
    (hlen : ps.length + qs.length ≤ 1000000000000) (hbase : base ≤ w.heap.size)
    (h : ∀ a' n' c' w', n' = (ps ++ qs).length → RowsI w' (.slice a' n' c') (ps ++ qs) → w.grownBy w' v.ownBlock → wpList Try.prog ops Q rest (a.put o.dst (.slice a' n' c')) w') : wpList Try.prog ops Q (o :: rest) a w := by
  refine wpList_plain hgd fun K hK => ?_
  obtain ⟨i, hi, hz0, hz1, hz2⟩ := info_parts info_row
  rcases Nat.eq_zero_or_pos qs.length with h0 | hq0
  · have e0 : qs = [] := List.eq_nil_of_length_eq_zero h0
    subst e0
    obtain ⟨a2, cap2, rfl, -⟩ := h2
    have hrw' := hrw
    obtain ⟨a', c', rfl, -⟩ := hrw'
    have hr := run_append_zero (P := Try.prog) (w := w) base 24 o.type 22 i 1 Try.underlying24 hi _ _ _ hown a2 cap2
    unfold Oper.wp execOp
    simp only [ho, resolve, invoke, builtin, Sem.run_bind, Sem.run_pure, Result.andThen_ok, List.map_toArray, List.map_cons, List.map_nil, hs, hx, List.length_nil, hr]
    exact hK _ _ (h a' _ c' w (by simp) (by rw [List.append_nil]; exact hrw) (grown_refl _ _))
  obtain ⟨a2, cap2, hv2, hm2, hc2, hr2⟩ := h2
  rcases hc2 with rfl | ⟨b, off, rfl, hc2⟩
  · simp at hq0
  refine wp_append_lies w s x 24 ho base 22 i (.slice none 0 0) 1 24 Try.underlying24 hi hz0 hz1 hz2 rfl (by decide) v ps.length (ps.map Prod.fst) hs hown ⟨b, off, none⟩ qs.length cap2 (qs.map Prod.fst) (hx.trans hv2) (by simp) ?_ ?_ hq0 ?_ ?_ hbase w.heap.size rfl ?_
  · intro j u hu
    have hj : j < qs.length := by
      rcases Nat.lt_or_ge j qs.length with h | h
      · exact h
      · rw [List.getElem?_eq_none (by simpa using h)] at hu; cases hu
    have := hc2 j hj
    have he : (⟨b, off, none⟩ : Addr).add j = ⟨b, off + j, none⟩ := by
      unfold Addr.add
      split
      · next h0 => rw [h0]; rfl
      · rfl
    rw [he, this]
    simp [hj] at hu ⊢
    exact hu
  · intro u hu
    obtain ⟨q, hq, rfl⟩ := List.mem_map.1 hu
    exact slice_oneI (hr2 q hq).1
  · unfold maxLen; omega
  · omega
  · intro g cap w' k1 k2 k3 _
    refine hK _ _ (h _ _ _ w' (by simp) ?_ k2)
    have k1' : w'.ownsRow base 22 1 (.slice (some ⟨g, 0, none⟩) (ps ++ qs).length cap) (ps ++ qs).length ((ps ++ qs).map Prod.fst) := by simpa using k1
    refine ⟨_, cap, by simp, by simp; unfold maxLen; omega, .inr ⟨g, 0, rfl, fun i hi => ?_⟩, fun q hq => ?_⟩
    · exact own_cells k1' i hi
    · rcases List.mem_append.1 hq with hq | hq
      · obtain ⟨-, -, -, -, -, hr1⟩ := hrw
        by_cases h0 : q.2 = []
        · refine ⟨?_, fun h => absurd h0 h⟩
          have h3 := (hr1 q hq).1
          rw [h0] at h3 ⊢
          exact h3.empty
        · have h3 := ((hr1 q hq).2 h0).kept k2 (fun k hk e => hfar q hq h0 k hk e)
          exact ⟨h3.1, fun _ => h3⟩
      · by_cases h0 : q.2 = []
        · refine ⟨?_, fun h => absurd h0 h⟩
          have h3 := (hr2 q hq).1
          rw [h0] at h3 ⊢
          exact h3.empty
        · have h3 := ((hr2 q hq).2 h0).kept k2 (fun k hk e => hd q hq h0 k e hk)
          exact ⟨h3.1, fun _ => h3⟩
/-- A set that came in raw. -/
def LinX (w : World) (v : Value) (b : List Int) (ps : List Row) : Prop := ∃ vb vp, v = .agg #[vb, vp] ∧ RowE w (vb, b) ∧ RowsI w vp ps ∧ Good vp
theorem LinX.same {w w' : World} {v : Value} {b : List Int} {ps : List Row} (h : LinX w v b ps) (g : w.grownBy w' none) : LinX w' v b ps := by
  obtain ⟨vb, vp, h1, h2, h3, h4⟩ := h
  exact ⟨vb, vp, h1, h2.same g, h3.same g, h4⟩
theorem LinX.lin {w : World} {v : Value} {b : List Int} {ps : List Row} (h : LinX w v b ps) (hb : 1 ≤ b.length) (hn : ∀ p ∈ ps, 1 ≤ p.2.length) : LinV w v b (ps.map Prod.snd) := by
  obtain ⟨vb, vp, h1, h2, h3, h4⟩ := h
  exact ⟨vb, vp, ps, h1, h2.ok hb, h3.toP1 hn, h4, rfl⟩
theorem LinV.x {w : World} {v : Value} {b : List Int} {rs : List (List Int)} (h : LinV w v b rs) : ∃ ps : List Row, ps.map Prod.snd = rs ∧ LinX w v b ps := by
  obtain ⟨vb, vp, qs, h1, h2, h3, h4, h5⟩ := h
  exact ⟨qs, h5, vb, vp, h1, h2.e, h3.toI, h4⟩
def LenP (n : Nat) (b : List Int) (ps : List Row) : Prop := b.length = n ∧ ∀ q ∈ ps, q.2.length = n
def RngP (b : List Int) (ps : List Row) : Prop := withB 16 b = true ∧ ∀ q ∈ ps, withB 16 q.2 = true ∧ zeroB q.2 = false
theorem asc_of_adj : ∀ l : List (List Int), (∀ i (h : i + 1 < l.length), compareI (l[i]'(by omega)) l[i + 1] < 0) → Asc l
  | [], _ => List.Pairwise.nil
  | [a], _ => List.pairwise_singleton _ _
  | a :: b :: l, h => by
    have ih : Asc (b :: l) := asc_of_adj (b :: l) (fun i hi => h (i + 1) (by simpa using hi))
    refine List.pairwise_cons.2 ⟨fun c hc => ?_, ih⟩
    have h0 : compareI a b < 0 := h 0 (by simp)
    rcases List.mem_cons.1 hc with rfl | hc
    · exact h0
    · exact cmp_lt_trans h0 ((List.pairwise_cons.1 ih).1 c hc)
theorem adj_of_asc {l : List (List Int)} (h : Asc l) (i : Nat) (hi : i + 1 < l.length) : compareI (l[i]'(by omega)) l[i + 1] < 0 :=
  List.pairwise_iff_getElem.1 h i (i + 1) (by omega) hi (by omega)
/-- The first error of a set, of dimension n. -/
inductive Fault (n : Nat) (b : List Int) (ps : List Row) : Int → Prop
  | len : ¬ LenP n b ps → Fault n b ps 3
  | rng : LenP n b ps → ¬ RngP b ps → Fault n b ps 2
  | many : LenP n b ps → RngP b ps → 3 < ps.length → Fault n b ps 1
  | ord : LenP n b ps → RngP b ps → ps.length ≤ 3 → ¬ Asc (ps.map Prod.snd) → Fault n b ps 4
  | ok : LenP n b ps → RngP b ps → ps.length ≤ 3 → Asc (ps.map Prod.snd) → Fault n b ps 0
theorem Fault.one {n : Nat} {b : List Int} {ps : List Row} {x y : Int} (h : Fault n b ps x) (k : Fault n b ps y) : x = y := by
  cases h <;> cases k <;> first | rfl | (exfalso; first | contradiction | omega)
end Go.Proofs.Ytoaoheblaidhmaa

namespace Go.Proofs.Ytoaoheblaidhmaa
open Go.RowKit
set_option linter.unusedVariables false

theorem fault_valid {n : Nat} {b : List Int} {ps : List Row} (hn : 1 ≤ n) (hn4 : n ≤ 4) (h : Fault n b ps 0) : ValidS n b (ps.map Prod.snd) := by
  cases h with
  | ok h1 h2 h3 h4 =>
    refine ⟨hn, hn4, h1.1, withB_iff.1 h2.1, fun p hp => ?_, by rw [List.length_map]; exact h3, h4⟩
    obtain ⟨q, hq, rfl⟩ := List.mem_map.1 hp
    have h5 := h2.2 q hq
    have h6 := withB_iff.1 h5.1
    refine ⟨⟨h1.2 q hq, fun x hx => (h6 x hx).1⟩, ?_, fun x hx => (h6 x hx).2⟩
    have h7 := h5.2
    unfold zeroB at h7
    rw [List.all_eq_false] at h7
    obtain ⟨x, hx, h8⟩ := h7
    have := h6 x hx
    have h9 : x ≠ 0 := by simpa using h8
    exact ⟨x, hx, by omega⟩
theorem fault_ok {n : Nat} {b : List Int} {ps : List Row} (h : ValidS n b (ps.map Prod.snd)) : Fault n b ps 0 := by
  obtain ⟨h1, h2, h3, h4, h5, h6, h7⟩ := h
  have hp : ∀ q ∈ ps, PerOk n q.2 := fun q hq => h5 q.2 (List.mem_map_of_mem hq)
  refine .ok ⟨h3, fun q hq => (hp q hq).1.1⟩ ⟨withB_iff.2 h4, fun q hq => ⟨withB_iff.2 fun x hx => ⟨(hp q hq).1.2 x hx, (hp q hq).2.2 x hx⟩, ?_⟩⟩ (by rw [List.length_map] at h6; exact h6) h7
  obtain ⟨x, hx, h8⟩ := (hp q hq).2.1
  unfold zeroB
  rw [List.all_eq_false]
  exact ⟨x, hx, by simp; omega⟩
def FaultIs (n : Nat) (b : List Int) (ps : List Row) (w : World) (e : Ending) (w' : World) : Prop := ∃ err : Int, e = .returned (.int .i64 err) ∧ Fault n b ps err ∧ w.grownBy w' none
theorem zeroB_max {xs : List Int} {m : Int} (h : IsMax m xs) (hw : withB 16 xs = true) : zeroB xs = (m == 0) := by
  have h1 := withB_iff.1 hw
  have h2 := h1 m h.1
  rw [Bool.eq_iff_iff, beq_iff_eq]
  unfold zeroB
  rw [List.all_eq_true]
  constructor
  · intro h3
    have := h3 m h.1
    simpa using this
  · intro h3 x hx
    have := h.2 x hx
    have := h1 x hx
    simp
    omega
set_option maxRecDepth 100000 in
set_option maxHeartbeats 3000000 in
theorem checkSet_is (n : Nat) (hn1 : 1 ≤ n) (hn4 : n ≤ 4) (v : Value) (b : List Int) (qs : List Row) (w : World) (h : LinX w v b qs) (hq20 : qs.length ≤ 20) :
    Calls Try.prog 35 #[.int .i64 (n : Int), v] w (FaultIs n b qs w) := by
  obtain ⟨vb, vp, rfl, hb, hr, -⟩ := h
  have HB := Lib.hid hb; have HR := Lib.hid hr
  have HAL : Hid (((vb, b) :: qs : List Row).length = qs.length + 1) := Lib.hid rfl
  clear hb hr
  obtain ⟨⟨ab, cb, hvb, hbm, -, -⟩, -, -⟩ := HB.out
  dsimp only at hvb
  subst hvb
  obtain ⟨ap, cp, rfl, -, -, -⟩ := HR.out
  go_enter Try.func35, Try.ntmps35
  have HB1 := Lib.hid (HB.out.same (World.grownBy_alloc w (.cells #[.slice ab b.length cb, .slice ap qs.length cp] 26) none))
  have HR1 := Lib.hid (HR.out.same (grown_after (o := .cells #[.slice ab b.length cb] 22) (World.grownBy_alloc w (.cells #[.slice ab b.length cb, .slice ap qs.length cp] 26) none)))
  have HF : Hid (∀ q ∈ qs, q.2 ≠ [] → ∀ g, q.1.ownBlock = some g → (Value.slice (some ⟨w.heap.size + 1, 0, none⟩) 1 1).ownBlock ≠ some g) := Lib.hid (by
    intro q hq h0 g h1 h2
    obtain ⟨-, -, -, -, -, hp⟩ := HR.out
    have := ((hp q hq).2 h0).2.2 g h1
    simp only [Value.ownBlock, Option.some.injEq] at h2
    omega)
  have hsz : (w.alloc (.cells #[.slice ab b.length cb, .slice ap qs.length cp] 26)).heap.size = w.heap.size + 1 := by show (w.heap.push _).size = _; simp
  have hO := lit_e HB1.out
  rw [hsz] at hO
  have HO := Lib.hid hO
  clear hO hsz
  go_wp2_with (at_builtin; refine app_allI rfl _ _ rfl _ _ [((.slice ab b.length cb, b) : Row)] rfl HO.out.1 HO.out.2.1 HO.out.2.2 _ qs rfl HR1.out HF.out (by simp; omega) (by show _ ≤ ((w.heap.push _).push _).size; simp) ?_)
  intro a2 n2 c2 w2 hn2 ho hg
  have hcell := World.grownBy.cell hg (a := ⟨w.heap.size, 1, none⟩) (v := .slice ap qs.length cp) (by rw [World.cell?, heap_old _ (heap_new _ rfl)]; rfl) (by simp [Value.ownBlock])
  have G2 : Hid (w.grownBy w2 none) := Lib.hid (grown_then (grown_after (grown_after (grown_refl w none))) hg (by rintro j hj; simp only [Value.ownBlock, Option.some.injEq] at hj; exact .inl (by omega)))
  have HQ2 := Lib.hid (HR.out.same G2.out)
  have hall : ((.slice ab b.length cb, b) :: qs : List Row).length ≤ 21 := by have := HAL.out; omega
  have hall1 : 1 ≤ ((.slice ab b.length cb, b) :: qs : List Row).length := by have := HAL.out; omega
  change n2 = ((.slice ab b.length cb, b) :: qs : List Row).length at hn2
  change RowsI _ _ ((.slice ab b.length cb, b) :: qs : List Row) at ho
  have HR2 := Lib.hid ho
  have HLEN : Hid (∀ all : List Row, all = (.slice ab b.length cb, b) :: qs → (LenP n b qs ↔ ∀ k (hk : k < all.length), all[k].2.length = n)) := Lib.hid (by
    rintro all rfl
    constructor
    · rintro ⟨h1, h2⟩ k hk
      cases k with
      | zero => exact h1
      | succ k => exact h2 _ (List.getElem_mem (by simpa using hk))
    · intro h
      refine ⟨h 0 (by simp), fun q hq => ?_⟩
      obtain ⟨k, hk, rfl⟩ := List.getElem_of_mem hq
      exact h (k + 1) (by simpa using hk))
  have HRNG : Hid (∀ all : List Row, all = (.slice ab b.length cb, b) :: qs → (RngP b qs ↔ ∀ k (hk : k < all.length), withB 16 all[k].2 = true ∧ (1 ≤ k → zeroB all[k].2 = false))) := Lib.hid (by
    rintro all rfl
    constructor
    · rintro ⟨h1, h2⟩ k hk
      cases k with
      | zero => exact ⟨h1, fun h => by omega⟩
      | succ k => exact ⟨(h2 _ (List.getElem_mem (by simpa using hk))).1, fun _ => (h2 _ (List.getElem_mem (by simpa using hk))).2⟩
    · intro h
      refine ⟨(h 0 (by simp)).1, fun q hq => ?_⟩
      obtain ⟨k, hk, rfl⟩ := List.getElem_of_mem hq
      exact ⟨(h (k + 1) (by simpa using hk)).1, (h (k + 1) (by simpa using hk)).2 (by omega)⟩)
  subst hn2
  clear ho hg HB1 HR1 HF HO
  obtain ⟨all, hae⟩ : ∃ all : List Row, all = (.slice ab b.length cb, b) :: qs := ⟨_, rfl⟩
  have HLN := Lib.hid (HLEN.out all hae); have HRG := Lib.hid (HRNG.out all hae)
  rw [← hae] at HR2 hall hall1 ⊢
  clear HLEN HRNG hae HAL
  go_wp2_with fail
  go_loop [19] (fun i => ∃ k : Nat, i = .int .i64 k ∧ k ≤ all.length ∧ Hid (∀ j (hj : j < all.length), j < k → all[j].2.length = n)) (fun i => all.length - (intOf i).toNat)
  case atStart => exact ⟨0, rfl, Nat.zero_le _, Lib.hid (fun j hj h => by omega)⟩
  case round =>
    obtain ⟨k, rfl, hk, HA⟩ := hrel
    by_cases hlt : k < all.length
    · obtain ⟨b', off', ak, ck, rfl, hx, -⟩ := HR2.out.row hlt
      have h1 : (k : Int) < (all.length : Int) := by omega
      have HAK : Hid (all[k].2.length = n → ∀ j (hj : j < all.length), j < k + 1 → all[j].2.length = n) := Lib.hid (fun h j hj hjk => by
        by_cases e : j = k
        · subst e; exact h
        · exact HA.out j hj (by omega))
      have HNO : Hid (all[k].2.length ≠ n → ¬ LenP n b qs) := Lib.hid (fun h hl => h (HLN.out.1 hl k hlt))
      generalize all[k].2.length = m at *
      by_cases hm : m = n
      · subst hm
        have q1 : ((m : Int) != (m : Int)) = false := by simp
        have HA2 := Lib.hid (HAK.out rfl)
        go_wp2_with fail
        go_round
        case rel => exact ⟨k + 1, by go_num, by omega, HA2⟩
        case measure => simp [intOf]; omega
      · have q1 : ((m : Int) != (n : Int)) = true := by simp; omega
        have HNL := Lib.hid (HNO.out hm)
        clear hm
        go_wp2_with fail
        go_ret
        exact ⟨3, rfl, .len HNL.out, G2.out⟩
    · have h1 : ¬ (k : Int) < (all.length : Int) := by omega
      have HLP : Hid (LenP n b qs) := Lib.hid (HLN.out.2 (fun j hj => HA.out j hj (by omega)))
      have HL1 : Hid (∀ j (hj : j < all.length), all[j].2.length = n) := Lib.hid (HLN.out.1 HLP.out)
      clear HA
      go_wp2_with fail
      go_loop [30] (fun i => ∃ k : Nat, i = .int .i64 k ∧ k ≤ all.length ∧ Hid (∀ j (hj : j < all.length), j < k → withB 16 all[j].2 = true ∧ (1 ≤ j → zeroB all[j].2 = false))) (fun i => all.length - (intOf i).toNat)
      case atStart => exact ⟨0, rfl, Nat.zero_le _, Lib.hid (fun j hj h => by omega)⟩
      case round =>
        clear h1 hlt hk
        obtain ⟨k, rfl, hk, HA⟩ := hrel
        by_cases hlt : k < all.length
        · obtain ⟨b', off', ak, ck, rfl, hx, hri⟩ := HR2.out.row hlt
          have HRK := Lib.hid hri
          have h1 : (k : Int) < (all.length : Int) := by omega
          have HAK : Hid (withB 16 all[k].2 = true → (1 ≤ k → zeroB all[k].2 = false) → ∀ j (hj : j < all.length), j < k + 1 → withB 16 all[j].2 = true ∧ (1 ≤ j → zeroB all[j].2 = false)) := Lib.hid (fun h h' j hj hjk => by
            by_cases e : j = k
            · subst e; exact ⟨h, h'⟩
            · exact HA.out j hj (by omega))
          have HNO : Hid (¬ (withB 16 all[k].2 = true ∧ (1 ≤ k → zeroB all[k].2 = false)) → ¬ RngP b qs) := Lib.hid (fun h hl => h (HRG.out.1 hl k hlt))
          have HLK : Hid (all[k].2.length = n) := Lib.hid (HL1.out k hlt)
          clear hri
          generalize all[k].2 = q at *
          have HMZ : Hid (withB 16 q = true → ∀ m, IsMax m q → zeroB q = (m == 0)) := Lib.hid (fun h m hm => zeroB_max hm h)
          cases hw : withB 16 q with
          | false =>
            have HW := Lib.hid hw
            have HNR : Hid (¬ RngP b qs) := Lib.hid (HNO.out (fun h => by rw [hw] at h; cases h.1))
            clear hw
            go_wp2_with (go_at_call 37; refine (within_any _ _ _ _ HRK.out).mono ?_; rintro e w' ⟨rfl, rfl⟩; rw [HW.out])
            go_ret
            exact ⟨2, rfl, .rng HLP.out HNR.out, G2.out⟩
          | true =>
            have HW := Lib.hid hw
            clear hw
            by_cases hk0 : k = 0
            · subst hk0
              rw [Nat.add_zero] at hx
              have HA2 := Lib.hid (HAK.out HW.out (fun h => by omega))
              go_wp2_with (go_at_call 37; refine (within_any _ _ _ _ HRK.out).mono ?_; rintro e w' ⟨rfl, rfl⟩; rw [HW.out])
              go_round
              case rel => exact ⟨1, by go_num, by omega, HA2⟩
              case measure => simp [intOf]; omega
            · have hk1 : (0 : Int) < (k : Int) := by omega
              cases hz : zeroB q with
              | false =>
                have HZ := Lib.hid hz
                have HA2 := Lib.hid (HAK.out HW.out (fun _ => hz))
                clear hz
                go_wp2_with (first
                  | (go_at_call 37; refine (within_any _ _ _ _ HRK.out).mono ?_; rintro e w' ⟨rfl, rfl⟩; rw [HW.out])
                  | (go_at_call 58; refine (max_any _ _ _ HRK.out (by rw [HLK.out]; exact hn1)).mono ?_; rintro e w' ⟨m, rfl, hm, rfl⟩; have hm0 : ¬ m = 0 := (by intro e0; have h9 := HMZ.out HW.out m hm; rw [HZ.out, e0] at h9; cases h9); clear hm))
                go_round
                case rel => exact ⟨k + 1, by go_num, by omega, HA2⟩
                case measure => simp [intOf]; omega
              | true =>
                have HZ := Lib.hid hz
                have HNR : Hid (¬ RngP b qs) := Lib.hid (HNO.out (fun h => by rw [hz] at h; have := h.2 (by omega); cases this))
                clear hz
                go_wp2_with (first
                  | (go_at_call 37; refine (within_any _ _ _ _ HRK.out).mono ?_; rintro e w' ⟨rfl, rfl⟩; rw [HW.out])
                  | (go_at_call 58; refine (max_any _ _ _ HRK.out (by rw [HLK.out]; exact hn1)).mono ?_; rintro e w' ⟨m, rfl, hm, rfl⟩; have hm0 : m = 0 := (by have h9 := HMZ.out HW.out m hm; rw [HZ.out] at h9; simpa using h9.symm); clear hm))
                go_ret
                exact ⟨2, rfl, .rng HLP.out HNR.out, G2.out⟩
        · have h1 : ¬ (k : Int) < (all.length : Int) := by omega
          have HRP : Hid (RngP b qs) := Lib.hid (HRG.out.2 (fun j hj => HA.out j hj (by omega)))
          clear HA
          by_cases hq3 : (3 : Int) < (qs.length : Int)
          · go_wp2_with fail
            go_ret
            exact ⟨1, rfl, .many HLP.out HRP.out (by omega), G2.out⟩
          have HQP : Hid (RowsP w2 (.slice ap qs.length cp) qs) := Lib.hid (HQ2.out.toP1 (fun p hp => by rw [HLP.out.2 p hp]; exact hn1))
          have hq3n : qs.length ≤ 3 := by omega
          go_wp2_with fail
          go_loopw [10] (fun i wr => ∃ (k m : Nat), i = .int .i64 k ∧ 1 ≤ k ∧ k ≤ max 1 qs.length ∧ wr = w2.drewN m ∧ Hid (∀ j (hj : j + 1 < qs.length), j + 1 < k → compareI (qs[j]'(by omega)).2 qs[j + 1].2 < 0)) (fun i _ => qs.length - (intOf i).toNat)
          case atStart => exact ⟨1, 0, rfl, Nat.le_refl _, by omega, rfl, Lib.hid (fun j hj h => by omega)⟩
          case round =>
            clear h1 hlt hk
            obtain ⟨k, m, rfl, hk1, hk, rfl, HC⟩ := hrel
            have c1 : (w2.drewN m).cell? ⟨w.heap.size, 1, none⟩ = some (.slice ap qs.length cp) := hcell
            by_cases hlt : k < qs.length
            · obtain ⟨_, _, hv, _, hc, hrow⟩ := HQP.out
              simp only [Value.slice.injEq] at hv
              obtain ⟨rfl, -, -⟩ := hv
              obtain ⟨b', off', hb', hx⟩ := RowsP.at hc hlt
              obtain ⟨b2, off2, hb2, hx0⟩ := RowsP.at hc (show k - 1 < qs.length by omega)
              subst hb'
              simp only [Option.some.injEq, Addr.mk.injEq, and_true] at hb2
              obtain ⟨rfl, rfl⟩ := hb2
              have HI1 := Lib.hid (hrow _ (List.getElem_mem hlt)).1
              have HI0 := Lib.hid (hrow _ (List.getElem_mem (show k - 1 < qs.length by omega))).1
              have HEQ : Hid ((qs[k - 1]'(by omega)).2.length = (qs[k]).2.length) := Lib.hid (by rw [HLP.out.2 _ (List.getElem_mem _), HLP.out.2 _ (List.getElem_mem _)])
              have HLX : Hid (compareI (qs[k - 1]'(by omega)).2 qs[k].2 = lexI (qs[k - 1]'(by omega)).2 qs[k].2) := Lib.hid (by
                unfold compareI
                rw [HLP.out.2 _ (List.getElem_mem _), HLP.out.2 _ (List.getElem_mem _)]
                simp)
              have HAK : Hid (compareI (qs[k - 1]'(by omega)).2 qs[k].2 < 0 → ∀ j (hj : j + 1 < qs.length), j + 1 < k + 1 → compareI (qs[j]'(by omega)).2 qs[j + 1].2 < 0) := Lib.hid (fun h j hj hjk => by
                by_cases e : j + 1 = k
                · subst e; exact h
                · exact HC.out j hj (by omega))
              have HNO : Hid (¬ compareI (qs[k - 1]'(by omega)).2 qs[k].2 < 0 → ¬ Asc (qs.map Prod.snd)) := Lib.hid (fun h ha => h (by
                have := adj_of_asc ha (k - 1) (by rw [List.length_map]; omega)
                have e : k - 1 + 1 = k := by omega
                simp only [List.getElem_map, e] at this
                exact this))
              clear hc hrow
              rw [HLX.out] at HAK HNO
              clear HLX
              generalize qs[k] = p1 at *
              generalize qs[k - 1] = p0 at *
              have h1 : (k : Int) < (qs.length : Int) := by omega
              have g1 : IntKind.i64.wrap ((k : Int) - 1) = (k : Int) - 1 := IntWalk.i64_in _ (by omega)
              have g2 : (0 : Int) ≤ (k : Int) - 1 := by omega
              have g3 : ((k : Int) - 1).toNat = k - 1 := by omega
              have g4 : (k : Int) - 1 < (qs.length : Int) := by omega
              by_cases hle : (0 : Int) ≤ lexI p0.2 p1.2
              · have HNA := Lib.hid (HNO.out (by omega))
                go_wp2_with fail
                go_quiet ((go_at_call 54; exact quiet_drew ((slcmp_any _ _ _ _ _ (HI0.out.drewN _) (HI1.out.drewN _) HEQ.out).mono (fun e w' h => ⟨h.1, h.2 ▸ Drew.refl _⟩)) (fun m => drew_tail _ _ _ _)))
                go_wp2_with fail
                go_ret
                exact ⟨4, rfl, .ord HLP.out HRP.out hq3n HNA.out, grown_trans (grown_trans G2.out (grown_drewN _ _ none)) (grown_drewN _ _ none)⟩
              · have HA2 := Lib.hid (HAK.out (by omega))
                go_wp2_with fail
                go_quiet ((go_at_call 54; exact quiet_drew ((slcmp_any _ _ _ _ _ (HI0.out.drewN _) (HI1.out.drewN _) HEQ.out).mono (fun e w' h => ⟨h.1, h.2 ▸ Drew.refl _⟩)) (fun m => drew_tail _ _ _ _)))
                go_wp2_with fail
                go_roundw
                case rel => exact ⟨k + 1, _, by go_num, by omega, by omega, rfl, HA2⟩
                case measure => simp [intOf]; omega
            · have h1 : ¬ (k : Int) < (qs.length : Int) := by omega
              have HAS : Hid (Asc (qs.map Prod.snd)) := Lib.hid (asc_of_adj _ (fun j hj => by
                have hj' : j + 1 < qs.length := by rw [List.length_map] at hj; exact hj
                simp only [List.getElem_map]
                exact HC.out j hj' (by omega)))
              go_wp2_with fail
              go_ret
              exact ⟨0, rfl, .ok HLP.out HRP.out hq3n HAS.out, grown_trans G2.out (grown_drewN _ _ none)⟩
end Go.Proofs.Ytoaoheblaidhmaa
