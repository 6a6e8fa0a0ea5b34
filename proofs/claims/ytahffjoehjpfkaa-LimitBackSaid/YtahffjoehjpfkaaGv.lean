/- Vectors that the deck deals. -/
import Derived.Test.YtahffjoehjpfkaaGs
namespace Go.Proofs.Ytahffjoehjpfkaa
open Go.RowKit
set_option linter.unusedVariables false

/-- An element that the deck deals to a vector. -/
def Elem (x : Int) : Prop := 0 ≤ x ∧ (x ≤ 4 ∨ x = 1048576 ∨ x = 1099511627776)
def ElemF (x : Int) : Prop := 0 ≤ x ∧ (x ≤ 4 ∨ x = 1048576)

theorem vector_true (p : Value) (d : Nat) (n : Int) (w : World) (h : Deck w p d) (h0 : n ≤ 1000) :
    Calls Try.prog 38 #[p, .int .i64 n, .bool true] w (Dealt Elem p d n.toNat w) := by
  have hd : d < w.heap.size := h.lt
  have H := Lib.hid h
  clear h
  go_enter Try.func38, Try.ntmps38
  go_wp2
  go_loopw [7, 8] (fun v i wr => ∃ (k : Nat) (xs : List Int), i = .int .i64 k ∧ k ≤ n.toNat ∧ xs.length = k ∧ Hid (∀ x ∈ xs, Elem x) ∧ Hid (OwnI wr w.heap.size v xs) ∧ Hid (Deck wr p d) ∧ Hid (w.grownBy wr (some d))) (fun _ i _ => (n - intOf i).toNat)
  case atStart => exact ⟨0, [], rfl, Nat.zero_le _, rfl, Lib.hid (by simp), Lib.hid (OwnI.nil _ _), H, Lib.hid (grown_refl _ _)⟩
  case round =>
    obtain ⟨k, xs, rfl, hk, hl, hx, ho, hD, hG⟩ := hrel
    by_cases hlt : (k : Int) < n
    · go_wp2_with fail
      refine (next_any _ _ _ _ hD.out (by omega) (by omega)).mono ?_
      rintro e w1 ⟨y, rfl, hy0, hy1, hD1, hG1⟩
      have HD1 := Lib.hid hD1
      have HO1 := Lib.hid (ho.out.kept hG1 (by rintro j ⟨⟩; exact hd))
      have HG1 := Lib.hid (grown_trans hG.out hG1)
      clear hD1 hG1 hD ho hG
      go_wp2_with fail
      refine (one_any _ _ _ _ HD1.out (by omega) (by omega)).mono ?_
      rintro e w2 ⟨q, rfl, hD1, hG1⟩
      have HD2 := Lib.hid hD1
      have HO2 := Lib.hid (HO1.out.kept hG1 (by rintro j ⟨⟩; exact hd))
      have HG2 := Lib.hid (grown_trans HG1.out hG1)
      clear hD1 hG1 HD1 HO1 HG1
      cases q
      · go_wp2_with fail
        refine (one_any _ _ _ _ HD2.out (by omega) (by omega)).mono ?_
        rintro e w3 ⟨q2, rfl, hD1, hG1⟩
        have HD3 := Lib.hid hD1
        have HO3 := Lib.hid (HO2.out.kept hG1 (by rintro j ⟨⟩; exact hd))
        have HG3 := Lib.hid (grown_trans HG2.out hG1)
        clear hD1 hG1 HD2 HO2 HG2
        cases q2
        · have hs1 := HG3.out.size
          go_wp2_with (at_builtin; refine app_int rfl _ _ rfl w.heap.size _ xs rfl (HO3.out.kept (World.grownBy_alloc _ _ none) (by simp)) w3.heap.size y rfl (by simp) (by omega) (by simp; omega) ?_)
          intro v' w9 ho2 hg2
          have HO9 := Lib.hid ho2
          have HG9 := Lib.hid (grown_then (grown_trans HG3.out (World.grownBy_alloc _ _ _)) hg2 (fun j hj => .inl (HO3.out.fresh j hj).1))
          have HD9 := Lib.hid ((HD3.out.kept (World.grownBy_alloc _ _ none) (by simp)).kept hg2 (fun j hj => by have := (HO3.out.fresh j hj).1; omega))
          clear ho2 hg2
          go_wp2_with fail
          go_roundw
          case rel => exact ⟨k + 1, xs ++ [_], by go_num, by omega, by simp [hl], Lib.hid (mem_snoc hx.out (by unfold Elem; omega)), HO9, HD9, HG9⟩
          case measure => simp [intOf]; omega
        · have hs1 := HG3.out.size
          go_wp2_with (at_builtin; refine app_int rfl _ _ rfl w.heap.size _ xs rfl (HO3.out.kept (World.grownBy_alloc _ _ none) (by simp)) w3.heap.size 1048576 rfl (by simp) (by omega) (by simp; omega) ?_)
          intro v' w9 ho2 hg2
          have HO9 := Lib.hid ho2
          have HG9 := Lib.hid (grown_then (grown_trans HG3.out (World.grownBy_alloc _ _ _)) hg2 (fun j hj => .inl (HO3.out.fresh j hj).1))
          have HD9 := Lib.hid ((HD3.out.kept (World.grownBy_alloc _ _ none) (by simp)).kept hg2 (fun j hj => by have := (HO3.out.fresh j hj).1; omega))
          clear ho2 hg2
          go_wp2_with fail
          go_roundw
          case rel => exact ⟨k + 1, xs ++ [_], by go_num, by omega, by simp [hl], Lib.hid (mem_snoc hx.out (by unfold Elem; omega)), HO9, HD9, HG9⟩
          case measure => simp [intOf]; omega
      · go_wp2_with fail
        refine (one_any _ _ _ _ HD2.out (by omega) (by omega)).mono ?_
        rintro e w3 ⟨q2, rfl, hD1, hG1⟩
        have HD3 := Lib.hid hD1
        have HO3 := Lib.hid (HO2.out.kept hG1 (by rintro j ⟨⟩; exact hd))
        have HG3 := Lib.hid (grown_trans HG2.out hG1)
        clear hD1 hG1 HD2 HO2 HG2
        cases q2
        · have hs1 := HG3.out.size
          go_wp2_with (at_builtin; refine app_int rfl _ _ rfl w.heap.size _ xs rfl (HO3.out.kept (World.grownBy_alloc _ _ none) (by simp)) w3.heap.size 1099511627776 rfl (by simp) (by omega) (by simp; omega) ?_)
          intro v' w9 ho2 hg2
          have HO9 := Lib.hid ho2
          have HG9 := Lib.hid (grown_then (grown_trans HG3.out (World.grownBy_alloc _ _ _)) hg2 (fun j hj => .inl (HO3.out.fresh j hj).1))
          have HD9 := Lib.hid ((HD3.out.kept (World.grownBy_alloc _ _ none) (by simp)).kept hg2 (fun j hj => by have := (HO3.out.fresh j hj).1; omega))
          clear ho2 hg2
          go_wp2_with fail
          go_roundw
          case rel => exact ⟨k + 1, xs ++ [_], by go_num, by omega, by simp [hl], Lib.hid (mem_snoc hx.out (by unfold Elem; omega)), HO9, HD9, HG9⟩
          case measure => simp [intOf]; omega
        · have hs1 := HG3.out.size
          go_wp2_with (at_builtin; refine app_int rfl _ _ rfl w.heap.size _ xs rfl (HO3.out.kept (World.grownBy_alloc _ _ none) (by simp)) w3.heap.size 1048576 rfl (by simp) (by omega) (by simp; omega) ?_)
          intro v' w9 ho2 hg2
          have HO9 := Lib.hid ho2
          have HG9 := Lib.hid (grown_then (grown_trans HG3.out (World.grownBy_alloc _ _ _)) hg2 (fun j hj => .inl (HO3.out.fresh j hj).1))
          have HD9 := Lib.hid ((HD3.out.kept (World.grownBy_alloc _ _ none) (by simp)).kept hg2 (fun j hj => by have := (HO3.out.fresh j hj).1; omega))
          clear ho2 hg2
          go_wp2_with fail
          go_roundw
          case rel => exact ⟨k + 1, xs ++ [_], by go_num, by omega, by simp [hl], Lib.hid (mem_snoc hx.out (by unfold Elem; omega)), HO9, HD9, HG9⟩
          case measure => simp [intOf]; omega
    · go_wp2
      go_ret
      exact ⟨_, xs, rfl, by omega, hx.out, ho.out, hD.out, hG.out⟩

theorem vector_false (p : Value) (d : Nat) (n : Int) (w : World) (h : Deck w p d) (h0 : n ≤ 1000) :
    Calls Try.prog 38 #[p, .int .i64 n, .bool false] w (Dealt ElemF p d n.toNat w) := by
  have hd : d < w.heap.size := h.lt
  have H := Lib.hid h
  clear h
  go_enter Try.func38, Try.ntmps38
  go_wp2
  go_loopw [7, 8] (fun v i wr => ∃ (k : Nat) (xs : List Int), i = .int .i64 k ∧ k ≤ n.toNat ∧ xs.length = k ∧ Hid (∀ x ∈ xs, ElemF x) ∧ Hid (OwnI wr w.heap.size v xs) ∧ Hid (Deck wr p d) ∧ Hid (w.grownBy wr (some d))) (fun _ i _ => (n - intOf i).toNat)
  case atStart => exact ⟨0, [], rfl, Nat.zero_le _, rfl, Lib.hid (by simp), Lib.hid (OwnI.nil _ _), H, Lib.hid (grown_refl _ _)⟩
  case round =>
    obtain ⟨k, xs, rfl, hk, hl, hx, ho, hD, hG⟩ := hrel
    by_cases hlt : (k : Int) < n
    · go_wp2_with fail
      refine (next_any _ _ _ _ hD.out (by omega) (by omega)).mono ?_
      rintro e w1 ⟨y, rfl, hy0, hy1, hD1, hG1⟩
      have HD1 := Lib.hid hD1
      have HO1 := Lib.hid (ho.out.kept hG1 (by rintro j ⟨⟩; exact hd))
      have HG1 := Lib.hid (grown_trans hG.out hG1)
      clear hD1 hG1 hD ho hG
      go_wp2_with fail
      refine (one_any _ _ _ _ HD1.out (by omega) (by omega)).mono ?_
      rintro e w2 ⟨q2, rfl, hD1, hG1⟩
      have HD2 := Lib.hid hD1
      have HO2 := Lib.hid (HO1.out.kept hG1 (by rintro j ⟨⟩; exact hd))
      have HG2 := Lib.hid (grown_trans HG1.out hG1)
      clear hD1 hG1 HD1 HO1 HG1
      cases q2
      · have hs1 := HG2.out.size
        go_wp2_with (at_builtin; refine app_int rfl _ _ rfl w.heap.size _ xs rfl (HO2.out.kept (World.grownBy_alloc _ _ none) (by simp)) w2.heap.size y rfl (by simp) (by omega) (by simp; omega) ?_)
        intro v' w9 ho2 hg2
        have HO9 := Lib.hid ho2
        have HG9 := Lib.hid (grown_then (grown_trans HG2.out (World.grownBy_alloc _ _ _)) hg2 (fun j hj => .inl (HO2.out.fresh j hj).1))
        have HD9 := Lib.hid ((HD2.out.kept (World.grownBy_alloc _ _ none) (by simp)).kept hg2 (fun j hj => by have := (HO2.out.fresh j hj).1; omega))
        clear ho2 hg2
        go_wp2_with fail
        go_roundw
        case rel => exact ⟨k + 1, xs ++ [_], by go_num, by omega, by simp [hl], Lib.hid (mem_snoc hx.out (by unfold ElemF; omega)), HO9, HD9, HG9⟩
        case measure => simp [intOf]; omega
      · have hs1 := HG2.out.size
        go_wp2_with (at_builtin; refine app_int rfl _ _ rfl w.heap.size _ xs rfl (HO2.out.kept (World.grownBy_alloc _ _ none) (by simp)) w2.heap.size 1048576 rfl (by simp) (by omega) (by simp; omega) ?_)
        intro v' w9 ho2 hg2
        have HO9 := Lib.hid ho2
        have HG9 := Lib.hid (grown_then (grown_trans HG2.out (World.grownBy_alloc _ _ _)) hg2 (fun j hj => .inl (HO2.out.fresh j hj).1))
        have HD9 := Lib.hid ((HD2.out.kept (World.grownBy_alloc _ _ none) (by simp)).kept hg2 (fun j hj => by have := (HO2.out.fresh j hj).1; omega))
        clear ho2 hg2
        go_wp2_with fail
        go_roundw
        case rel => exact ⟨k + 1, xs ++ [_], by go_num, by omega, by simp [hl], Lib.hid (mem_snoc hx.out (by unfold ElemF; omega)), HO9, HD9, HG9⟩
        case measure => simp [intOf]; omega
    · go_wp2
      go_ret
      exact ⟨_, xs, rfl, by omega, hx.out, ho.out, hD.out, hG.out⟩
end Go.Proofs.Ytahffjoehjpfkaa
