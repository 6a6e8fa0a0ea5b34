/- Raw trees: how they come in, and which are small. -/
import Derived.Test.YtnppmemcdcgjhaaMo
import Derived.Deep.Slices
import Derived.OpenShut
import Derived.Deep.Fields
import Derived.Lib.SmallJoins
namespace Go.Proofs.Ytnppmemcdcgjhaa
open Go.ChangeShapes Go.WideShapes Go.ChangeAt Go.RowKit Go.Deep Tr
set_option linter.unusedVariables false

theorem choose_lt {α : Type} {n : Nat} {P : Nat → α → Prop} (d : α) (h : ∀ i, i < n → ∃ x, P i x) : ∃ F : Nat → α, ∀ i, i < n → P i (F i) :=
  ⟨fun i => if h' : i < n then (h i h').choose else d, fun i hi => by dsimp only; rw [dif_pos hi]; exact (h i hi).choose_spec⟩
def capS : Nat → Nat
  | 0 => 0
  | n + 1 => 1 + 8 * capS n
theorem sizeL_cap {c : Nat} : ∀ (ks : List Tr), (∀ k ∈ ks, size k ≤ c) → sizeL ks ≤ ks.length * c
  | [], _ => by simp [sizeL]
  | k :: ks, h => by
    have h1 := h k (by simp)
    have h2 := sizeL_cap ks (fun x hx => h x (by simp [hx]))
    rw [sizeL, List.length_cons, Nat.add_mul]; omega
theorem size_cap {t : Tr} {n : Nat} (h8 : t.kids.length ≤ 8) (h : ∀ k ∈ t.kids, size k ≤ capS n) : size t ≤ capS (n + 1) := by
  have h1 := sizeL_cap t.kids h
  have h2 := Nat.mul_le_mul_right (capS n) h8
  rw [size_eq, capS]; omega
def SmTo (p : Prop) (w : World) (e : Ending) (w' : World) : Prop := ∃ B, e = .returned (.bool B) ∧ (B = true → p) ∧ w.grownBy w' none
set_option maxRecDepth 100000 in
set_option maxHeartbeats 1500000 in
theorem psmall_any (n : Nat) : ∀ (P : Nat → Prop) (t : Tr) (y : Value) (w : World), TrK P w y t → n ≤ 100 →
    Calls Try.prog 31 #[.agg #[.int .i64 t.label, y], .int .i64 ((n : Int) - 1)] w (SmTo (size t ≤ capS n) w) := by
  induction n with
  | zero =>
    intro P t y w h hn
    obtain ⟨a, cap, rfl⟩ := h.slice
    clear h
    go_enter Try.func31, Try.ntmps31
    by_cases h8 : (8 : Int) < (t.kids.length : Int)
    · go_wp2_with fail
      go_ret
      exact ⟨false, rfl, (fun e => by cases e), World.grownBy_alloc _ _ _⟩
    · go_wp2_with fail
      go_ret
      exact ⟨false, rfl, (fun e => by cases e), World.grownBy_alloc _ _ _⟩
  | succ n ih =>
    intro P t y w h hn
    obtain ⟨a, cap, rfl⟩ := h.slice
    have H := Lib.hid h; have IH := Lib.hid ih
    have hb := box_cells w (.int .i64 t.label) (.slice a t.kids.length cap) 45
    have HB := Lib.hid hb.2; have HG := Lib.hid (World.grownBy_alloc w (.cells #[.int .i64 t.label, .slice a t.kids.length cap] 45) none)
    have hnn : ((n + 1 : Nat) : Int) - 1 = (n : Int) := by omega
    rw [hnn]
    have i0 : IntKind.i64.wrap ((n : Int) - 1) = (n : Int) - 1 := IntWalk.i64_in _ (by omega)
    clear h ih hb hnn
    by_cases h8 : (8 : Int) < (t.kids.length : Int)
    · go_enter Try.func31, Try.ntmps31
      go_wp2_with fail
      go_ret
      exact ⟨false, rfl, (fun e => by cases e), HG.out⟩
    have hn0 : ¬ (n : Int) < 0 := by omega
    have hk8 : t.kids.length ≤ 8 := by omega
    go_enter Try.func31, Try.ntmps31
    go_wp2_with fail
    generalize w.alloc (.cells #[.int .i64 t.label, .slice a t.kids.length cap] 45) = wb at *
    go_loopw [17] (fun i wr => ∃ k : Nat, i = .int .i64 k ∧ k ≤ t.kids.length ∧ Hid (∀ j (h : j < t.kids.length), j < k → size t.kids[j] ≤ capS n) ∧ Hid (wr.cell? ⟨w.heap.size, 1, none⟩ = some (.slice a t.kids.length cap)) ∧ Hid (w.grownBy wr none)) (fun i _ => t.kids.length - (intOf i).toNat)
    case atStart => exact ⟨0, rfl, Nat.zero_le _, Lib.hid (by omega), HB, HG⟩
    case round =>
      clear HB HG
      obtain ⟨k, rfl, hk, hA, hB, hG⟩ := hrel
      have b1 := hB.out
      by_cases hkb : k < t.kids.length
      · have e1 : (k : Int) < (t.kids.length : Int) := by omega
        have i1 : IntKind.i64.wrap ((k : Int) + 1) = (k : Int) + 1 := IntWalk.i64_in _ (by omega)
        obtain ⟨b, off, a2, cap2, rfl, -, c1, c2, hK⟩ := (H.out.same hG.out).kid hkb
        have HK := Lib.hid hK
        clear hK
        go_wp2_with fail
        refine (IH.out _ t.kids[k] _ _ HK.out (by omega)).mono ?_
        rintro e w5 ⟨B, rfl, hb, hg⟩
        have E := Lib.hid hb; have B5 := Lib.hid (hg.cell hB.out (by simp)); have G5 := Lib.hid (grown_trans hG.out hg)
        clear hb hg b1 c1 c2
        cases B with
        | false =>
          go_wp2_with fail
          go_ret
          exact ⟨false, rfl, (fun e => by cases e), G5.out⟩
        | true =>
          have HA2 : Hid (∀ j (h : j < t.kids.length), j < k + 1 → size t.kids[j] ≤ capS n) := Lib.hid (fun j hj hjk => by
            by_cases e : j < k
            · exact hA.out j hj e
            · obtain rfl : j = k := by omega
              exact E.out (by simp))
          go_wp2_with fail
          go_roundw
          case rel => exact ⟨k + 1, by go_num, by omega, HA2, B5, G5⟩
          case measure => simp [intOf]; omega
      · obtain rfl : k = t.kids.length := by omega
        have e1 : ¬ (t.kids.length : Int) < (t.kids.length : Int) := by omega
        have HS : Hid (size t ≤ capS (n + 1)) := Lib.hid (size_cap hk8 (fun x hx => by
          obtain ⟨j, hj, rfl⟩ := List.getElem_of_mem hx
          exact hA.out j hj hj))
        go_wp2_with fail
        go_ret
        exact ⟨true, rfl, fun _ => HS.out, hG.out⟩

/-- A list of trees that comes in. -/
theorem trod_trees {H : Type} {enc : TypeId × Value → H} {w : World} {base : Nat} {spare : Nat → Bool} {held : Bool} : ∀ (fuel : Nat) (cs : List Value) (x : DataW H × List MemPlace), DataW.trod enc Try.prog w base spare held fuel 43 cs = some x →
    ∃ (ks : List Tr) (a : Option Addr) (cap : Nat), cs = [.slice a ks.length cap] ∧ ∀ l : Int, -9223372036854775808 ≤ l ∧ l ≤ 9223372036854775807 → TrK (fun _ => True) w (.slice a ks.length cap) (.node l ks) := by
  intro fuel
  induction fuel using Nat.strongRecOn with
  | ind fuel ih =>
  intro cs x h
  have hC : Try.prog.cellsOf 45 = 2 := by kernel_rfl
  rcases DataW.trod_slice Try.underlying43 h with ⟨rfl, -⟩ | ⟨a, len, cap, elems, rest, n, hf, rfl, rfl, hb, hl, hm, hlen, hel, hsp, hns⟩
  · exact ⟨[], none, 0, rfl, fun l hl => .mk l [] none 0 (fun _ => .slice none 0 0) hl (Nat.le_refl _) (Nat.zero_le _) (fun _ => rfl) (by intro i hi; simp at hi) (by intro i hi; simp at hi)⟩
  · have key : ∀ i, i < len → ∃ c0 c1, w.cell? ((a.add (i * 2)).add 0) = some c0 ∧ w.cell? ((a.add (i * 2)).add 1) = some c1 ∧ ∃ p : Tr × Option Addr × Nat, c0 = .int .i64 p.1.label ∧ c1 = .slice p.2.1 p.1.kids.length p.2.2 ∧ TrK (fun _ => True) w (.slice p.2.1 p.1.kids.length p.2.2) p.1 := by
      intro i hi
      have h1 := hel i hi
      rw [hC, List.getElem?_eq_getElem (by rw [hlen]; exact hi)] at h1
      cases hcs : w.cells? base (a.add (i * 2)) 2 with
      | none => rw [hcs] at h1; simp at h1
      | some cs' =>
        rw [hcs] at h1
        simp only [Option.bind_some] at h1
        obtain ⟨ys, n', hn', hy, hcl, hyl, hfd⟩ := DataW.trod_struct Try.underlying45 h1
        rw [hC] at hcl
        obtain ⟨_, hcl2, hat⟩ := World.cells?_some hcs
        match cs', hcl with
        | [c0, c1], _ =>
          have f0 := hfd 0 _ rfl
          have f1 := hfd 1 _ rfl
          rw [List.getElem?_eq_getElem (by rw [hyl]; decide)] at f0 f1
          change DataW.trod enc Try.prog w base spare held n' 3 [c0] = _ at f0
          change DataW.trod enc Try.prog w base spare held n' 43 [c1] = _ at f1
          obtain ⟨l, h2, -, hwf⟩ := DataW.trod_int Try.underlying3 f0
          obtain ⟨ks, a2, cap2, h3, hks⟩ := ih n' (by omega) _ _ f1
          simp only [List.cons.injEq, and_true] at h2 h3
          subst h2 h3
          exact ⟨_, _, hat 0 (by decide), hat 1 (by decide), (.node l ks, a2, cap2), rfl, rfl, hks l (bounds_i64 hwf)⟩
    rcases Nat.eq_zero_or_pos len with h0 | h0
    · subst h0
      exact ⟨[], some a, cap, rfl, fun l hlb => .mk l [] (some a) cap (fun _ => .slice none 0 0) hlb (Nat.zero_le _) hm (by simp) (by intro i hi; simp at hi) (by intro i hi; simp at hi)⟩
    · obtain ⟨b, off, spot⟩ := a
      obtain ⟨c0, c1, k0, -⟩ := key 0 h0
      have hspot : spot = none := by simpa [Addr.add] using World.cell?_spot k0
      subst hspot
      have ha : ∀ i, (Addr.mk b off none).add i = ⟨b, off + i, none⟩ := fun i => by unfold Addr.add; split <;> simp_all
      have key2 : ∀ i, i < len → ∃ p : Tr × Option Addr × Nat, w.cell? ⟨b, off + i * 2, none⟩ = some (.int .i64 p.1.label) ∧ w.cell? ⟨b, off + i * 2 + 1, none⟩ = some (.slice p.2.1 p.1.kids.length p.2.2) ∧ TrK (fun _ => True) w (.slice p.2.1 p.1.kids.length p.2.2) p.1 := by
        intro i hi
        obtain ⟨c0, c1, k0, k1, p, rfl, rfl, h4⟩ := key i hi
        rw [ha] at k0 k1
        have e0 : (Addr.mk b (off + i * 2) none).add 0 = ⟨b, off + i * 2, none⟩ := by unfold Addr.add; split <;> simp_all
        have e1 : (Addr.mk b (off + i * 2) none).add 1 = ⟨b, off + i * 2 + 1, none⟩ := by unfold Addr.add; split <;> simp_all
        rw [e0] at k0
        rw [e1] at k1
        exact ⟨p, k0, k1, h4⟩
      obtain ⟨F, hF⟩ := choose_lt (Tr.node 0 [], none, 0) key2
      refine ⟨(List.range len).map (fun i => (F i).1), some ⟨b, off, none⟩, cap, by simp, fun l hlb => ?_⟩
      refine .mk l _ (some ⟨b, off, none⟩) cap (fun i => .slice (F i).2.1 (F i).1.kids.length (F i).2.2) hlb (by simp; exact hl) hm (by simp) (fun i hi => ?_) (fun i hi => ?_)
      · have hi' : i < len := by simpa using hi
        obtain ⟨h1, h2, -⟩ := hF i hi'
        refine ⟨b, off, rfl, trivial, ?_, h2⟩
        simp only [List.getElem_map, List.getElem_range]
        exact h1
      · have hi' : i < len := by simpa using hi
        simp only [List.getElem_map, List.getElem_range]
        exact (hF i hi').2.2

end Go.Proofs.Ytnppmemcdcgjhaa
