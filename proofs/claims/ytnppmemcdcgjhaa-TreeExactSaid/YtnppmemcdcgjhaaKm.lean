/- The sanity check of the laws of layer 4. -/
import Derived.Test.YtnppmemcdcgjhaaKl
namespace Go.Proofs.Ytnppmemcdcgjhaa
open Go.RowKit Tr
set_option linter.unusedVariables false

def tA : Tr := .node 0 [.node 1 []]
def tB : Tr := .node 0 [.node 2 [.node 1 []]]
theorem tA_ok : OkT tA := okB_iff.1 (by decide)
theorem tB_ok : OkT tB := okB_iff.1 (by decide)
theorem tAB : Emb tA tB := .here rfl (.take (.under (t := .node 2 [.node 1 []]) (List.mem_singleton.2 rfl) (emb_refl _)) .nil)
theorem tBA : ¬ Emb tB tA := fun h => by
  have := emb_size _ _ h
  simp [tA, tB, size, sizeL] at this
theorem tAB_at {m : List Int} {k : Nat} (hm : m.length = size tA) (h : Pl (pre tB) m 0 tA k) : m = [0, 2] := by
  have hl : m.length = 2 := hm
  match m, hl with
  | [x, y], _ =>
    obtain ⟨k0, u0, e0, f0, v0, g0, h0⟩ := pl_all tA h 0 (by omega) (by simp [tA, size, sizeL])
    obtain ⟨k1, u1, e1, f1, v1, g1, h1⟩ := pl_all tA h 1 (by omega) (by simp [tA, size, sizeL])
    have p : pre tB = [tB, .node 2 [.node 1 []], .node 1 []] := rfl
    have q : pre tA = [tA, .node 1 []] := rfl
    rw [p] at f0 f1
    rw [q] at g0 g1
    simp only [List.getElem?_cons_zero, List.getElem?_cons_succ, Nat.sub_zero, Option.some.injEq] at e0 e1 g0 g1
    subst g0 g1
    have k0' : k0 = 0 := by
      match k0, f0 with
      | 0, _ => rfl
      | 1, f0 => simp at f0; subst f0; simp [label, tA] at h0
      | 2, f0 => simp at f0; subst f0; simp [label, tA] at h0
      | k + 3, f0 => simp at f0
    have k1' : k1 = 2 := by
      match k1, f1 with
      | 0, f1 => simp at f1; subst f1; simp [label, tB] at h1
      | 1, f1 => simp at f1; subst f1; simp [label] at h1
      | 2, _ => rfl
      | k + 3, f1 => simp at f1
    subst k0' k1'
    rw [e0, e1]; rfl
theorem tAB_prov : provB tA tB [0, 2] = true := by decide
theorem trk_nil {P : Nat → Prop} {w : World} {l : Int} (hl : -9223372036854775808 ≤ l ∧ l ≤ 9223372036854775807) : TrK P w (.slice none 0 0) (.node l []) :=
  .mk l [] none 0 (fun _ => .slice none 0 0) hl (Nat.le_refl _) (Nat.zero_le _) (fun _ => rfl) (fun i hi => by simp at hi) (fun i hi => by simp at hi)
theorem trk_one {P : Nat → Prop} {w : World} {g : Nat} {l : Int} {y : Value} {k : Tr} {e : TypeId} (hl : -9223372036854775808 ≤ l ∧ l ≤ 9223372036854775807) (hg : w.heap[g]? = some (.cells #[.int .i64 k.label, y] e (0, 0))) (hp : P g) (hk : TrK P w y k) : TrK P w (.slice (some ⟨g, 0, none⟩) 1 1) (.node l [k]) :=
  .mk l [k] (some ⟨g, 0, none⟩) 1 (fun _ => y) hl (Nat.le_refl _) (by decide) (fun h => by cases h) (fun i hi => by
    obtain rfl : i = 0 := by simp at hi; exact hi
    exact ⟨g, 0, rfl, hp, (cells_of hg).1, (cells_of hg).2⟩) (fun i hi => by
    obtain rfl : i = 0 := by simp at hi; exact hi
    exact hk)
theorem lits (w : World) : TrK (fun _ => True) (((((w.alloc (.cells #[.int .i64 1, .slice none 0 0] 45)).alloc (.cells #[.int .i64 0, .slice (some ⟨w.heap.size, 0, none⟩) 1 1] 45)).alloc (.cells #[.int .i64 1, .slice none 0 0] 45)).alloc (.cells #[.int .i64 2, .slice (some ⟨w.heap.size + 1 + 1, 0, none⟩) 1 1] 45)).alloc (.cells #[.int .i64 0, .slice (some ⟨w.heap.size + 1 + 1 + 1, 0, none⟩) 1 1] 45)) (.slice (some ⟨w.heap.size, 0, none⟩) 1 1) tA ∧ TrK (fun _ => True) (((((w.alloc (.cells #[.int .i64 1, .slice none 0 0] 45)).alloc (.cells #[.int .i64 0, .slice (some ⟨w.heap.size, 0, none⟩) 1 1] 45)).alloc (.cells #[.int .i64 1, .slice none 0 0] 45)).alloc (.cells #[.int .i64 2, .slice (some ⟨w.heap.size + 1 + 1, 0, none⟩) 1 1] 45)).alloc (.cells #[.int .i64 0, .slice (some ⟨w.heap.size + 1 + 1 + 1, 0, none⟩) 1 1] 45)) (.slice (some ⟨w.heap.size + 1 + 1 + 1, 0, none⟩) 1 1) tB ∧
    ((((((w.alloc (.cells #[.int .i64 1, .slice none 0 0] 45)).alloc (.cells #[.int .i64 0, .slice (some ⟨w.heap.size, 0, none⟩) 1 1] 45)).alloc (.cells #[.int .i64 1, .slice none 0 0] 45)).alloc (.cells #[.int .i64 2, .slice (some ⟨w.heap.size + 1 + 1, 0, none⟩) 1 1] 45)).alloc (.cells #[.int .i64 0, .slice (some ⟨w.heap.size + 1 + 1 + 1, 0, none⟩) 1 1] 45)).cell? ⟨w.heap.size + 1, 0, none⟩ = some (.int .i64 0) ∧ (((((w.alloc (.cells #[.int .i64 1, .slice none 0 0] 45)).alloc (.cells #[.int .i64 0, .slice (some ⟨w.heap.size, 0, none⟩) 1 1] 45)).alloc (.cells #[.int .i64 1, .slice none 0 0] 45)).alloc (.cells #[.int .i64 2, .slice (some ⟨w.heap.size + 1 + 1, 0, none⟩) 1 1] 45)).alloc (.cells #[.int .i64 0, .slice (some ⟨w.heap.size + 1 + 1 + 1, 0, none⟩) 1 1] 45)).cell? ⟨w.heap.size + 1, 1, none⟩ = some (.slice (some ⟨w.heap.size, 0, none⟩) 1 1)) ∧
    ((((((w.alloc (.cells #[.int .i64 1, .slice none 0 0] 45)).alloc (.cells #[.int .i64 0, .slice (some ⟨w.heap.size, 0, none⟩) 1 1] 45)).alloc (.cells #[.int .i64 1, .slice none 0 0] 45)).alloc (.cells #[.int .i64 2, .slice (some ⟨w.heap.size + 1 + 1, 0, none⟩) 1 1] 45)).alloc (.cells #[.int .i64 0, .slice (some ⟨w.heap.size + 1 + 1 + 1, 0, none⟩) 1 1] 45)).cell? ⟨w.heap.size + 1 + 1 + 1 + 1, 0, none⟩ = some (.int .i64 0) ∧ (((((w.alloc (.cells #[.int .i64 1, .slice none 0 0] 45)).alloc (.cells #[.int .i64 0, .slice (some ⟨w.heap.size, 0, none⟩) 1 1] 45)).alloc (.cells #[.int .i64 1, .slice none 0 0] 45)).alloc (.cells #[.int .i64 2, .slice (some ⟨w.heap.size + 1 + 1, 0, none⟩) 1 1] 45)).alloc (.cells #[.int .i64 0, .slice (some ⟨w.heap.size + 1 + 1 + 1, 0, none⟩) 1 1] 45)).cell? ⟨w.heap.size + 1 + 1 + 1 + 1, 1, none⟩ = some (.slice (some ⟨w.heap.size + 1 + 1 + 1, 0, none⟩) 1 1)) ∧ w.grownBy (((((w.alloc (.cells #[.int .i64 1, .slice none 0 0] 45)).alloc (.cells #[.int .i64 0, .slice (some ⟨w.heap.size, 0, none⟩) 1 1] 45)).alloc (.cells #[.int .i64 1, .slice none 0 0] 45)).alloc (.cells #[.int .i64 2, .slice (some ⟨w.heap.size + 1 + 1, 0, none⟩) 1 1] 45)).alloc (.cells #[.int .i64 0, .slice (some ⟨w.heap.size + 1 + 1 + 1, 0, none⟩) 1 1] 45)) none := by
  have h0 : (((((w.alloc (.cells #[.int .i64 1, .slice none 0 0] 45)).alloc (.cells #[.int .i64 0, .slice (some ⟨w.heap.size, 0, none⟩) 1 1] 45)).alloc (.cells #[.int .i64 1, .slice none 0 0] 45)).alloc (.cells #[.int .i64 2, .slice (some ⟨w.heap.size + 1 + 1, 0, none⟩) 1 1] 45)).alloc (.cells #[.int .i64 0, .slice (some ⟨w.heap.size + 1 + 1 + 1, 0, none⟩) 1 1] 45)).heap[w.heap.size]? = some (.cells #[.int .i64 1, .slice none 0 0] 45 (0, 0)) := heap_old _ (heap_old _ (heap_old _ (heap_old _ (heap_new _ rfl))))
  have h1 : (((((w.alloc (.cells #[.int .i64 1, .slice none 0 0] 45)).alloc (.cells #[.int .i64 0, .slice (some ⟨w.heap.size, 0, none⟩) 1 1] 45)).alloc (.cells #[.int .i64 1, .slice none 0 0] 45)).alloc (.cells #[.int .i64 2, .slice (some ⟨w.heap.size + 1 + 1, 0, none⟩) 1 1] 45)).alloc (.cells #[.int .i64 0, .slice (some ⟨w.heap.size + 1 + 1 + 1, 0, none⟩) 1 1] 45)).heap[w.heap.size + 1]? = some (.cells #[.int .i64 0, .slice (some ⟨w.heap.size, 0, none⟩) 1 1] 45 (0, 0)) := heap_old _ (heap_old _ (heap_old _ (heap_new _ (by show _ = (w.heap.push _).size; simp))))
  have h2 : (((((w.alloc (.cells #[.int .i64 1, .slice none 0 0] 45)).alloc (.cells #[.int .i64 0, .slice (some ⟨w.heap.size, 0, none⟩) 1 1] 45)).alloc (.cells #[.int .i64 1, .slice none 0 0] 45)).alloc (.cells #[.int .i64 2, .slice (some ⟨w.heap.size + 1 + 1, 0, none⟩) 1 1] 45)).alloc (.cells #[.int .i64 0, .slice (some ⟨w.heap.size + 1 + 1 + 1, 0, none⟩) 1 1] 45)).heap[w.heap.size + 1 + 1]? = some (.cells #[.int .i64 1, .slice none 0 0] 45 (0, 0)) := heap_old _ (heap_old _ (heap_new _ (by show _ = ((w.heap.push _).push _).size; simp)))
  have h3 : (((((w.alloc (.cells #[.int .i64 1, .slice none 0 0] 45)).alloc (.cells #[.int .i64 0, .slice (some ⟨w.heap.size, 0, none⟩) 1 1] 45)).alloc (.cells #[.int .i64 1, .slice none 0 0] 45)).alloc (.cells #[.int .i64 2, .slice (some ⟨w.heap.size + 1 + 1, 0, none⟩) 1 1] 45)).alloc (.cells #[.int .i64 0, .slice (some ⟨w.heap.size + 1 + 1 + 1, 0, none⟩) 1 1] 45)).heap[w.heap.size + 1 + 1 + 1]? = some (.cells #[.int .i64 2, .slice (some ⟨w.heap.size + 1 + 1, 0, none⟩) 1 1] 45 (0, 0)) := heap_old _ (heap_new _ (by show _ = (((w.heap.push _).push _).push _).size; simp))
  have h4 : (((((w.alloc (.cells #[.int .i64 1, .slice none 0 0] 45)).alloc (.cells #[.int .i64 0, .slice (some ⟨w.heap.size, 0, none⟩) 1 1] 45)).alloc (.cells #[.int .i64 1, .slice none 0 0] 45)).alloc (.cells #[.int .i64 2, .slice (some ⟨w.heap.size + 1 + 1, 0, none⟩) 1 1] 45)).alloc (.cells #[.int .i64 0, .slice (some ⟨w.heap.size + 1 + 1 + 1, 0, none⟩) 1 1] 45)).heap[w.heap.size + 1 + 1 + 1 + 1]? = some (.cells #[.int .i64 0, .slice (some ⟨w.heap.size + 1 + 1 + 1, 0, none⟩) 1 1] 45 (0, 0)) := heap_new _ (by show _ = ((((w.heap.push _).push _).push _).push _).size; simp)
  exact ⟨trk_one (by decide) h0 trivial (trk_nil (l := 1) (by decide)), trk_one (by decide) h3 trivial (trk_one (l := 2) (by decide) h2 trivial (trk_nil (l := 1) (by decide))), cells_of h1, cells_of h4, grown_after (grown_after (grown_after (grown_after (World.grownBy_alloc _ _ none))))⟩

set_option maxRecDepth 100000 in
set_option maxHeartbeats 2000000 in
theorem awake04_any (w : World) : Calls Try.prog 30 #[] w fun e w' => e = .returned (.bool true) ∧ w.grownBy w' none := by
  obtain ⟨ha, hb, hca, hcb, hg⟩ := lits w
  go_enter Try.func30, Try.ntmps30
  go_wp2_with fail
  generalize ((((w.alloc (.cells #[.int .i64 1, .slice none 0 0] 45)).alloc (.cells #[.int .i64 0, .slice (some ⟨w.heap.size, 0, none⟩) 1 1] 45)).alloc (.cells #[.int .i64 1, .slice none 0 0] 45)).alloc (.cells #[.int .i64 2, .slice (some ⟨w.heap.size + 1 + 1, 0, none⟩) 1 1] 45)).alloc (.cells #[.int .i64 0, .slice (some ⟨w.heap.size + 1 + 1 + 1, 0, none⟩) 1 1] 45) = W at *
  have TA := Lib.hid ha; have TB := Lib.hid hb; have HA := Lib.hid hca; have HB := Lib.hid hcb; have HG := Lib.hid hg
  have hnn : ∀ g : Nat, some g ≠ (none : Option Nat) := by intro g; simp
  clear ha hb hca hcb hg
  refine (Embed_any tA tB _ _ _ TA.out TB.out (by decide) (by decide)).mono ?_
  rintro e w1 ⟨hg, (⟨-, -, -, v, m, k, rfl, ho, hm, hp⟩ | ⟨hok, -⟩)⟩
  · obtain rfl := tAB_at hm hp
    have HO := Lib.hid (ownI_base ho (Nat.zero_le _))
    obtain ⟨gv, cv, hv, -⟩ := own_sl1 ho (by simp)
    subst hv
    have HP : Hid (Ints w1 (.slice (some ⟨gv, 0, none⟩) 2 cv) [0, 2]) := Lib.hid (ho.ints (by intro x hx; simp at hx; omega))
    have hx2 : w1.cell? ⟨gv, 1, none⟩ = some (.int .i64 2) := (HO.out.cell 1 (by simp)).1
    have G1 := Lib.hid hg
    clear hg ho hm hp
    simp only [List.length_cons, List.length_nil, Nat.zero_add, Nat.reduceAdd] at HO ⊢
    have c0 := (G1.out).cell HA.out.1 (hnn _); have c1 := (G1.out).cell HA.out.2 (hnn _); have c2 := (G1.out).cell HB.out.1 (hnn _); have c3 := (G1.out).cell HB.out.2 (hnn _)
    go_wp2_with fail
    clear c0 c1 c2 c3 hx2
    refine (LeqT_any tA tB _ _ _ (TA.out.same G1.out) (TB.out.same G1.out) (by decide) (by decide)).mono ?_
    rintro e w2 ⟨Bo, rfl, hB, hg⟩
    obtain rfl : Bo = true := hB.2 ⟨tA_ok, tB_ok, tAB⟩
    have G2 := Lib.hid (grown_trans G1.out hg); have D2 := Lib.hid hg
    clear hg hB
    have c0 := (G2.out).cell HA.out.1 (hnn _); have c1 := (G2.out).cell HA.out.2 (hnn _); have c2 := (G2.out).cell HB.out.1 (hnn _); have c3 := (G2.out).cell HB.out.2 (hnn _)
    go_wp2_with fail
    clear c0 c1 c2 c3
    refine (LeqT_any tB tA _ _ _ (TB.out.same G2.out) (TA.out.same G2.out) (by decide) (by decide)).mono ?_
    rintro e w3 ⟨Bo, rfl, hB, hg⟩
    obtain rfl : Bo = false := by
      cases Bo
      · rfl
      · exact absurd (hB.1 rfl).2.2 tBA
    have G3 := Lib.hid (grown_trans G2.out hg); have D3 := Lib.hid (grown_trans D2.out hg)
    clear hg hB
    have c0 := (G3.out).cell HA.out.1 (hnn _); have c1 := (G3.out).cell HA.out.2 (hnn _); have c2 := (G3.out).cell HB.out.1 (hnn _); have c3 := (G3.out).cell HB.out.2 (hnn _)
    go_wp2_with fail
    clear c0 c1 c2 c3
    refine (ValidT_any tB _ _ (TB.out.same G3.out) (by decide)).mono ?_
    rintro e w4 ⟨Bo, rfl, hB, hg⟩
    obtain rfl : Bo = true := hB.2 tB_ok
    have G4 := Lib.hid (grown_trans G3.out hg); have D4 := Lib.hid (grown_trans D3.out hg)
    clear hg hB
    have c0 := (G4.out).cell HA.out.1 (hnn _); have c1 := (G4.out).cell HA.out.2 (hnn _); have c2 := (G4.out).cell HB.out.1 (hnn _); have c3 := (G4.out).cell HB.out.2 (hnn _)
    go_wp2_with fail
    clear c0 c1 c2 c3
    refine (SizeT_any tB _ _ (TB.out.same G4.out) tB_ok).mono ?_
    rintro e w5 ⟨rfl, hg⟩
    have G5 := Lib.hid (grown_trans G4.out hg); have D5 := Lib.hid (grown_trans D4.out hg)
    have hs3 : ((size tB : Nat) : Int) = 3 := rfl
    rw [hs3]
    clear hg hs3
    have c0 := (G5.out).cell HA.out.1 (hnn _); have c1 := (G5.out).cell HA.out.2 (hnn _); have c2 := (G5.out).cell HB.out.1 (hnn _); have c3 := (G5.out).cell HB.out.2 (hnn _)
    go_wp2_with fail
    clear c0 c1 c2 c3
    refine (ProvesT_any tA tB _ _ _ [0, 2] _ (TA.out.same G5.out) (TB.out.same G5.out) (by decide) (by decide) (HP.out.same D5.out)).mono ?_
    rintro e w6 ⟨rfl, hg⟩
    rw [tAB_prov]
    have G6 := Lib.hid (grown_trans G5.out hg)
    clear hg
    have c0 := (G6.out).cell HA.out.1 (hnn _); have c1 := (G6.out).cell HA.out.2 (hnn _); have c2 := (G6.out).cell HB.out.1 (hnn _); have c3 := (G6.out).cell HB.out.2 (hnn _)
    go_wp2_with fail
    clear c0 c1 c2 c3
    refine (LabelsT_any tB _ _ (TB.out.same G6.out) tB_ok).mono ?_
    rintro e w7 ⟨v, rfl, hv, hg⟩
    obtain ⟨av, cv2, rfl, -⟩ := hv
    have hl3 : ((pre tB).map label).length = 3 := rfl
    rw [hl3]
    have G7 := Lib.hid (grown_trans G6.out hg)
    clear hg hl3
    go_wp2_with fail
    go_ret
    exact ⟨rfl, grown_trans HG.out G7.out⟩
  · exact absurd ⟨tA_ok, tB_ok, tAB⟩ hok

end Go.Proofs.Ytnppmemcdcgjhaa
