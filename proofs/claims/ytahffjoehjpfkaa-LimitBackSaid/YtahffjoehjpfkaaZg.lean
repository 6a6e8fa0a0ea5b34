/- limit: contains, all, slices.Clone of rows, reduce. -/
import Derived.Test.YtahffjoehjpfkaaZf
import Derived.Test.YtahffjoehjpfkaaXc
namespace Go.Proofs.Ytahffjoehjpfkaa
open Go.RowKit
set_option linter.unusedVariables false

theorem app_row_at {ops : Array Oper} {rest : List Oper} {o : Oper} {a : Act} {w : World} {Q : Exit → Act → World → Prop} (hgd : o.guard = none) (s x : Operand)
    (ho : o.op = .call { callee := .builtin .append, args := #[s, x], argTypes := #[28, 28] }) (base : Nat) (v : Value) (ps : List Row) (hs : a.eval s = v)
    (hown : OwnP w base v ps) (b : Nat) (p : Row) (hx : a.eval x = .slice (some ⟨b, 0, none⟩) 1 1) (hnew : w.cell? ⟨b, 0, none⟩ = some p.1) (hp : RowOk w p) (hd : ∀ g, p.1.ownBlock = some g → v.ownBlock ≠ some g)
    (hlen : ps.length ≤ 1000000000000) (hbase : base ≤ w.heap.size)
    (h : ∀ a' n' c' w', n' = (ps ++ [p]).length → OwnP w' base (.slice a' n' c') (ps ++ [p]) → w.grownBy w' v.ownBlock → (∀ g, Value.ownBlock (.slice a' n' c') = some g → v.ownBlock = some g ∨ g = w.heap.size) → wpList Try.prog ops Q rest (a.put o.dst (.slice a' n' c')) w') : wpList Try.prog ops Q (o :: rest) a w := by
  obtain ⟨i, hi, hz0, hz1, hz2⟩ := info_parts info_row
  refine wpList_plain hgd fun K hK => wp_append_lies w s x 28 ho base 22 i (.slice none 0 0) 1 24 Try.underlying28 hi hz0 hz1 hz2 rfl (by decide) v ps.length (ps.map Prod.fst) hs hown.1 ⟨b, 0, none⟩ 1 1 [p.1] hx rfl ?_ ?_ (by decide) ?_ ?_ hbase w.heap.size rfl ?_
  · intro j u hu
    cases j with
    | zero => simp at hu; subst hu; simpa [Addr.add] using hnew
    | succ j => simp at hu
  · intro u hu; simp at hu; subst hu; exact slice_one hp
  · unfold maxLen; omega
  · omega
  · intro g cap w' h1 h2 h3 _
    have hlen' : (ps ++ [p]).length = ps.length + 1 := by simp
    have key := h (some ⟨g, 0, none⟩) (ps.length + 1) cap w' hlen'.symm (by
      refine ⟨by simpa using h1, ?_⟩
      intro q hq
      have hq' : RowOk w q ∧ ∀ g, q.1.ownBlock = some g → v.ownBlock ≠ some g := by
        rcases List.mem_append.1 hq with hq | hq
        · exact hown.2 q hq
        · rw [List.mem_singleton.1 hq]; exact ⟨hp, hd⟩
      refine ⟨hq'.1.kept h2 (fun k hk e => hq'.2 k e hk), fun g' hg e => ?_⟩
      simp only [Value.ownBlock, Option.some.injEq] at e
      subst e
      rcases h3 with h3 | h3
      · exact hq'.2 _ hg h3
      · have := hq'.1.2.2 _ hg; omega) h2 (by intro g' hg'; simp only [Value.ownBlock, Option.some.injEq] at hg'; subst hg'; exact h3)
    exact hK _ _ key

theorem contains_any (v u : Value) (ps : List Row) (xs : List Int) (n : Nat) (w : World) (h : RowsP w v ps) (hn : ∀ q ∈ ps, q.2.length = n) (hu : RowOk w (u, xs)) (hl : xs.length = n) :
    Calls Try.prog 32 #[v, u] w fun e w' => e = .returned (.bool (ps.any (fun q => leqI xs q.2))) ∧ w.grownBy w' none := by
  have H := Lib.hid h; have HN := Lib.hid hn; have HU := Lib.hid hu; have HL := Lib.hid hl
  obtain ⟨a, cap, rfl, -, -, -⟩ := h
  obtain ⟨⟨a', cap', hv, -⟩, -, -⟩ := hu
  dsimp only at hv
  subst hv
  clear hn hl
  go_enter Try.func32, Try.ntmps32
  go_wp2_with fail
  have hg0 := World.grownBy_alloc w (.cells #[.slice a' xs.length cap'] 22) none
  refine (has_contains (c := w.heap.size) (p := (.slice a' xs.length cap', xs)) (hpn := HL.out) (h := H.out.same hg0) (hn := HN.out) (hp := ⟨by rw [World.cell?, heap_new _ rfl]; rfl, HU.out.same hg0⟩)).mono ?_
  rintro e w' ⟨rfl, hg⟩
  have HG := Lib.hid (grown_trans hg0 hg)
  clear hg hg0
  go_wp2_with fail
  go_ret
  exact ⟨rfl, HG.out⟩
theorem all_any {fc : FuncId} {P : List Int → Bool} (hf : FitsOk fc P) (v : Value) (ps : List Row) (w : World) (h : RowsP w v ps) :
    Calls Try.prog 35 #[v, .func (.func fc) #[] #[]] w fun e w' => e = .returned (.bool (ps.all (fun q => P q.2))) ∧ w.grownBy w' none := by
  have H := Lib.hid h; have HF := Lib.hid hf
  obtain ⟨a, cap, rfl, -, -, -⟩ := h
  clear hf
  go_enter Try.func35, Try.ntmps35
  go_wp2_with fail
  have hg0 := World.grownBy_alloc w (.cells #[.func (.func fc) #[] #[]] 24) none
  refine (has_all (hf := HF.out) (n := 0) (c := w.heap.size) (h := H.out.same hg0) (hn := by intro q _; omega) (hp := show World.cell? _ _ = _ by rw [World.cell?, heap_new _ rfl]; rfl)).mono ?_
  rintro e w' ⟨rfl, hg⟩
  have HG := Lib.hid (grown_trans hg0 hg)
  clear hg hg0
  go_wp2_with fail
  go_ret
  refine ⟨ret_bool ?_, HG.out⟩
  rw [List.all_eq_not_any_not]
def GotO (ps : List Row) (w : World) (e : Ending) (w' : World) : Prop := ∃ v, e = .returned v ∧ OwnP w' w.heap.size v ps ∧ w.grownBy w' none
set_option maxRecDepth 20000 in
set_option maxHeartbeats 1000000 in
theorem cloneR_any (v : Value) (ps : List Row) (w : World) (h : RowsP w v ps) (hgd : Good v) (hlen : ps.length ≤ 1000000000000) :
    Calls Try.prog 68 #[v] w (GotO ps w) := by
  have H := Lib.hid h
  obtain ⟨a, cap, rfl, -, hc, hr⟩ := h
  cases a with
  | none =>
    have e0 : ps = [] := by rcases hc with h | ⟨b, off, h, -⟩; exact h; cases h
    subst e0
    clear hc hr
    have hc0 : cap = 0 := (hgd.1 _ _ rfl).2
    clear hgd
    · subst hc0
      have he : ∀ W, (binOp .eql 28 (.slice none 0 0) (.slice none 0 0)).run Try.prog W = .ok (.bool true) W := fun _ => rfl
      go_enter Try.func68, Try.ntmps68
      go_wp2_with fail
      go_ret
      exact ⟨_, rfl, OwnP.nil _ _, grown_refl _ _⟩
  | some ad =>
    have he : ∀ W, (binOp .eql 28 (.slice (some ad) ps.length cap) (.slice none 0 0)).run Try.prog W = .ok (.bool false) W := fun _ => rfl
    have hfar : ∀ q ∈ ps, ∀ g, q.1.ownBlock = some g → Value.ownBlock (.slice (some ⟨w.heap.size, 0, none⟩) 0 0) ≠ some g := fun q hq g hg e => by
      simp only [Value.ownBlock, Option.some.injEq] at e
      have := (hr q hq).2.2 g hg
      omega
    have HFAR := Lib.hid hfar
    clear hc hr hfar hgd
    go_enter Try.func68, Try.ntmps68
    go_wp2_with (at_builtin; refine app_all rfl _ _ rfl w.heap.size _ [] rfl ⟨World.ownsRow_lit w #[] 0 (Nat.le_refl _) (by decide) rfl, by simp⟩ _ ps rfl (H.out.same (World.grownBy_alloc _ _ none)) HFAR.out (by simp; omega) (World.grownBy_alloc w _ none).size ?_)
    intro a' n' c' w1 hn ho hg
    have HO := Lib.hid ho; have HG := Lib.hid (grown_then (World.grownBy_alloc w (.cells #[] 22) none) hg (by rintro j ⟨⟩; exact .inl (Nat.le_refl _)))
    clear ho hg hn
    go_wp2_with fail
    go_ret
    exact ⟨_, rfl, HO.out, HG.out⟩
end Go.Proofs.Ytahffjoehjpfkaa
