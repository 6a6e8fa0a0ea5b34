/- Tables that the deck deals. -/
import Derived.Test.YtnppmemcdcgjhaaHd
import Derived.Test.YtnppmemcdcgjhaaGt
import Derived.Deep.AppendLies
namespace Go.Proofs.Ytnppmemcdcgjhaa
open Go.RowKit
set_option linter.unusedVariables false

theorem BRowsP.keptR {w w' : World} {v : Value} {ps : List BRow} {row : Option Nat} (h : BRowsP w v ps) (g : w.grownBy w' row) (hv : ∀ k, row = some k → v.ownBlock ≠ some k) (hr : ∀ p ∈ ps, ∀ k, row = some k → p.1.ownBlock ≠ some k) : BRowsP w' v ps := by
  obtain ⟨a, cap, rfl, hl, hc, hp⟩ := h
  refine ⟨a, cap, rfl, hl, ?_, fun p hp' => (hp p hp').kept g (hr p hp')⟩
  rcases hc with hc | ⟨b, off, rfl, hc⟩
  · exact .inl hc
  · exact .inr ⟨b, off, rfl, fun i hi => g.cell (hc i hi) (by intro e; exact hv b e.symm rfl)⟩
theorem OwnBP.good {w : World} {base : Nat} {v : Value} {ps : List BRow} (h : OwnBP w base v ps) : Good v := by
  rcases h.1.2 with ⟨rfl, h0⟩ | ⟨g, cap, cur, rfl, _, _, hn, _⟩
  · exact Good.nil
  · exact Good.some _ hn
/-- A table of the deck's: beyond the deck. -/
def TabD (w : World) (d : Nat) (v : Value) (ps : List BRow) : Prop := BRowsP w v ps ∧ Good v ∧ (∀ g, v.ownBlock = some g → d < g) ∧ ∀ q ∈ ps, ∀ g, q.1.ownBlock = some g → d < g
theorem TabD.step {w w' : World} {d : Nat} {v : Value} {ps : List BRow} (h : TabD w d v ps) (g : w.grownBy w' none) : TabD w' d v ps := ⟨h.1.same g, h.2⟩
theorem TabD.deal {w w' : World} {d : Nat} {v : Value} {ps : List BRow} (h : TabD w d v ps) (g : w.grownBy w' (some d)) : TabD w' d v ps :=
  ⟨h.1.keptR g (by rintro k ⟨⟩ e; exact Nat.lt_irrefl _ (h.2.2.1 _ e)) (by rintro p hp k ⟨⟩ e; exact Nat.lt_irrefl _ (h.2.2.2 p hp _ e)), h.2⟩
theorem app_brow {ops : Array Oper} {rest : List Oper} {o : Oper} {a : Act} {w : World} {Q : Exit → Act → World → Prop} (hgd : o.guard = none) (s x : Operand)
    (ho : o.op = .call { callee := .builtin .append, args := #[s, x], argTypes := #[23, 23] }) (base : Nat) (v : Value) (ps : List BRow) (hs : a.eval s = v)
    (hown : OwnBP w base v ps) (b : Nat) (p : BRow) (hx : a.eval x = .slice (some ⟨b, 0, none⟩) 1 1) (hnew : w.cell? ⟨b, 0, none⟩ = some p.1) (hp : BOk w p) (hd : ∀ g, p.1.ownBlock = some g → v.ownBlock ≠ some g)
    (hlen : ps.length ≤ 1000000000000) (hbase : base ≤ w.heap.size)
    (h : ∀ v' w', OwnBP w' base v' (ps ++ [p]) → w.grownBy w' v.ownBlock → wpList Try.prog ops Q rest (a.put o.dst v') w') : wpList Try.prog ops Q (o :: rest) a w := by
  obtain ⟨i, hi, hz0, hz1, hz2⟩ := info_parts info_brow
  refine wpList_plain hgd fun K hK => wp_append_lies w s x 23 ho base 26 i (.slice none 0 0) 1 24 Try.underlying23 hi hz0 hz1 hz2 rfl (by decide) v ps.length (ps.map Prod.fst) hs hown.1 ⟨b, 0, none⟩ 1 1 [p.1] hx rfl ?_ ?_ (by decide) ?_ ?_ hbase w.heap.size rfl ?_
  · intro j u hu
    cases j with
    | zero => simp at hu; subst hu; simpa [Addr.add] using hnew
    | succ j => simp at hu
  · intro u hu; simp at hu; subst hu; exact bslice_one hp
  · unfold maxLen; omega
  · omega
  · intro g cap w' h1 h2 h3 _
    refine hK _ _ (h _ w' ⟨by simpa using h1, ?_⟩ h2)
    intro q hq
    have hq' : BOk w q ∧ ∀ g, q.1.ownBlock = some g → v.ownBlock ≠ some g := by
      rcases List.mem_append.1 hq with hq | hq
      · exact hown.2 q hq
      · rw [List.mem_singleton.1 hq]; exact ⟨hp, hd⟩
    refine ⟨hq'.1.kept h2 (fun k hk e => hq'.2 k e hk), fun g' hg e => ?_⟩
    simp only [Value.ownBlock, Option.some.injEq] at e
    subst e
    rcases h3 with h3 | h3
    · exact hq'.2 _ hg h3
    · have := hq'.1.2.2 _ hg; omega
/-- Rows that grow: what is behind the deck. -/
def DealB (w : World) (d base : Nat) (v : Value) (ps : List BRow) : Prop := OwnBP w base v ps ∧ d < base ∧ ∀ q ∈ ps, ∀ g, q.1.ownBlock = some g → base ≤ g
theorem DealB.deal {w w' : World} {d base : Nat} {v : Value} {ps : List BRow} (h : DealB w d base v ps) (g : w.grownBy w' (some d)) : DealB w' d base v ps := by
  obtain ⟨h1, h2, h3⟩ := h
  refine ⟨⟨World.ownsRow.kept h1.1 g ?_, fun q hq => ⟨(h1.2 q hq).1.kept g (by rintro k ⟨⟩ e; have := h3 q hq _ e; omega), (h1.2 q hq).2⟩⟩, h2, h3⟩
  cases hv : v.ownBlock with
  | none => exact .inl rfl
  | some k =>
    refine .inr (fun e => ?_)
    cases e
    have := (h1.fresh _ hv).1
    omega
theorem DealB.step {w w' : World} {d base : Nat} {v : Value} {ps : List BRow} (h : DealB w d base v ps) (g : w.grownBy w' none) : DealB w' d base v ps := ⟨h.1.same g, h.2⟩
theorem DealB.own {w w' : World} {d base : Nat} {v v' : Value} {ps : List BRow} {q : BRow} (h : DealB w d base v ps) (h' : OwnBP w' base v' (ps ++ [q])) (hq : ∀ g, q.1.ownBlock = some g → base ≤ g) : DealB w' d base v' (ps ++ [q]) :=
  ⟨h', h.2.1, fun p hp => by
    rcases List.mem_append.1 hp with hp | hp
    · exact h.2.2 p hp
    · rw [List.mem_singleton.1 hp]; exact hq⟩
def TabDeal (rows cols : Nat) (w0 w : World) (p : Value) (d : Nat) (e : Ending) (w' : World) : Prop := ∃ v ps, e = .returned v ∧ TabD w' d v ps ∧ ps.length = rows ∧ (∀ q ∈ ps, q.2.length = cols) ∧ St w0 w' p d ∧ w.grownBy w' (some d)

theorem St.out {w0 w w' : World} {p : Value} {d : Nat} {row : Option Nat} (h : St w0 w p d) (g : w.grownBy w' row) (hr : ∀ j, row = some j → d < j) : St w0 w' p d :=
  ⟨h.1.kept g hr, grown_then h.2.1 g (fun j hj => .inl (Nat.le_trans h.2.2 (Nat.le_of_lt (hr j hj)))), h.2.2⟩

set_option maxRecDepth 100000 in
set_option maxHeartbeats 1000000 in
theorem table_st {w0 w : World} {p : Value} {d : Nat} (h : St w0 w p d) (rows cols : Nat) (h1 : rows ≤ 1000) (h2 : cols ≤ 1000) :
    Calls Try.prog 16 #[p, .int .i64 (rows : Int), .int .i64 (cols : Int)] w (TabDeal rows cols w0 w p d) := by
  have H := Lib.hid h
  have HDW : Hid (d < w.heap.size) := Lib.hid h.lt
  clear h
  go_enter Try.func16, Try.ntmps16
  go_wp2_with fail
  go_loopw [7, 8] (fun v i wr => ∃ (k : Nat) (ps : List BRow), i = .int .i64 k ∧ k ≤ rows ∧ ps.length = k ∧ Hid (∀ q ∈ ps, q.2.length = cols) ∧ Hid (DealB wr d w.heap.size v ps) ∧ Hid (St w0 wr p d) ∧ Hid (w.grownBy wr (some d))) (fun _ i _ => rows - (intOf i).toNat)
  case atStart => exact ⟨0, [], rfl, Nat.zero_le _, rfl, Lib.hid (by simp), Lib.hid ⟨OwnBP.nil _ _, HDW.out, by simp⟩, H, Lib.hid (grown_refl _ _)⟩
  case round =>
    obtain ⟨k, ps, rfl, hk, hkl, hqs, hD, hS, hG⟩ := hrel
    rename World => wk
    by_cases hkb : k < rows
    · have h3 : (k : Int) < (rows : Int) := by omega
      have i1 : IntKind.i64.wrap ((k : Int) + 1) = (k : Int) + 1 := IntWalk.i64_in _ (by omega)
      go_wp2_with fail
      go_loopw [9, 10] (fun v i wr => ∃ (j : Nat) (xs : List Bool), i = .int .i64 j ∧ j ≤ cols ∧ xs.length = j ∧ Hid (OwnB wr wk.heap.size v xs) ∧ Hid (St w0 wr p d) ∧ Hid (wk.grownBy wr (some d))) (fun _ i _ => cols - (intOf i).toNat)
      case atStart => exact ⟨0, [], rfl, Nat.zero_le _, rfl, Lib.hid (OwnB.nil _ _), hS, Lib.hid (grown_refl _ _)⟩
      case round =>
        obtain ⟨j, xs, rfl, hj, hjl, hO, hS1, hG1⟩ := hrel
        have HJL := Lib.hid hjl
        clear hjl
        by_cases hjb : j < cols
        · have h4 : (j : Int) < (cols : Int) := by omega
          have i2 : IntKind.i64.wrap ((j : Int) + 1) = (j : Int) + 1 := IntWalk.i64_in _ (by omega)
          go_wp2_with fail
          refine (one_any p d 2 _ hS1.out.1 (by omega) (by omega)).mono ?_
          rintro e w5 ⟨y, rfl, hd, hg⟩
          have hS2 := Lib.hid (hS1.out.deal hd hg); have hG2 : Hid (wk.grownBy w5 (some d)) := Lib.hid (grown_then hG1.out hg (fun g e => .inr e))
          have hdk : d < wk.heap.size := hS.out.lt
          have hO2 := Lib.hid (hO.out.kept hg (by rintro g ⟨⟩; exact hdk))
          clear hd hg
          have hs1 := (grown_trans hG1.out (grown_refl _ _)).size
          have hs2 := hG2.out.size
          go_wp2_with (at_builtin; refine app_bool rfl _ _ rfl wk.heap.size _ xs rfl (hO2.out.kept (World.grownBy_alloc _ _ none) (by simp)) w5.heap.size y rfl (by simp) (by have := HJL.out; omega) (by simp; omega) ?_)
          intro v' w6 ho2 hg2
          have hfr : ∀ g, Value.ownBlock _ = some g → wk.heap.size ≤ g := fun g hg => (hO2.out.fresh g hg).1
          have HO2 := Lib.hid ho2
          have HG2 := Lib.hid (grown_then (grown_trans hG2.out (World.grownBy_alloc _ _ _)) hg2 (fun j hj => .inl (hfr j hj)))
          have HS2 := Lib.hid ((hS2.out.step (World.grownBy_alloc _ _ none)).out hg2 (fun j hj => by have := hfr j hj; omega))
          clear ho2 hg2 hfr
          go_wp2_with fail
          go_roundw
          case rel => exact ⟨j + 1, xs ++ [y], by go_num, by omega, by have := HJL.out; simp [this], HO2, HS2, HG2⟩
          case measure => simp [intOf]; omega
        · have h4 : ¬ (j : Int) < (cols : Int) := by omega
          have hD2 := Lib.hid (hD.out.deal hG1.out)
          have hs0 : w.heap.size ≤ wk.heap.size := hG.out.size
          have hs1 := hG1.out.size
          have hkd : d < w.heap.size := HDW.out
          rename_i vr _
          obtain ⟨ar, cr, rfl⟩ := ownB_open hO.out
          have HOR := Lib.hid hO.out.row
          go_wp2_with (at_builtin; refine app_brow rfl _ _ rfl w.heap.size _ ps rfl (hD2.out.step (World.grownBy_alloc _ _ none)).1 wr.heap.size (.slice ar xs.length cr, xs) rfl (by simp) (HOR.out.same (World.grownBy_alloc _ _ none)) (by intro g hg e; have := (hO.out.fresh g hg).1; have := (hD.out.1.fresh g e).2; omega) (by omega) (by simp; omega) ?_)
          intro v' w6 ho2 hg2
          have hfr : ∀ g, Value.ownBlock _ = some g → w.heap.size ≤ g := fun g hg => (hD2.out.1.fresh g hg).1
          have HD3 := Lib.hid (hD2.out.own (q := (Value.slice ar xs.length cr, xs)) ho2 (fun g hg => Nat.le_trans hs0 (hO.out.fresh g hg).1))
          have HG3 := Lib.hid (grown_then (grown_trans (grown_then hG.out hG1.out (fun g e => .inr e)) (World.grownBy_alloc _ _ _)) hg2 (fun j hj => .inl (hfr j hj)))
          have HS3 := Lib.hid ((hS1.out.step (World.grownBy_alloc _ _ none)).out hg2 (fun j hj => by have := hfr j hj; omega))
          have HQ3 : Hid (∀ q ∈ ps ++ [(Value.slice ar xs.length cr, xs)], q.2.length = cols) := Lib.hid (fun q hq => by
            rcases List.mem_append.1 hq with hq | hq
            · exact hqs.out q hq
            · rw [List.mem_singleton.1 hq]; have := HJL.out; show xs.length = cols; omega)
          clear ho2 hg2 hfr
          go_wp2_with fail
          go_roundw
          case rel => exact ⟨k + 1, _, by go_num, by omega, by simp [hkl], HQ3, HD3, HS3, HG3⟩
          case measure => simp [intOf]; omega
    · have h3 : ¬ (k : Int) < (rows : Int) := by omega
      go_wp2_with fail
      go_ret
      exact ⟨_, ps, rfl, ⟨hD.out.1.rows, hD.out.1.good, fun g hg => Nat.lt_of_lt_of_le HDW.out (hD.out.1.fresh g hg).1, fun q hq g hg => Nat.lt_of_lt_of_le HDW.out (hD.out.2.2 q hq g hg)⟩, by omega, hqs.out, hS.out, hG.out⟩

end Go.Proofs.Ytnppmemcdcgjhaa
