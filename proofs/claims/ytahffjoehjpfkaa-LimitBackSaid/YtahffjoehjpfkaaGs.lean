/- Vectors of small numbers that the deck deals. -/
import Derived.Test.YtahffjoehjpfkaaGd
import Derived.Test.YtahffjoehjpfkaaGo
namespace Go.Proofs.Ytahffjoehjpfkaa
open Go.RowKit
set_option linter.unusedVariables false

/-- What a vector that the deck deals is: n integers with P, in memory of the call's own. -/
def Dealt (P : Int → Prop) (p : Value) (d n : Nat) (w : World) (e : Ending) (w' : World) : Prop :=
  ∃ v xs, e = .returned v ∧ xs.length = n ∧ (∀ x ∈ xs, P x) ∧ OwnI w' w.heap.size v xs ∧ Deck w' p d ∧ w.grownBy w' (some d)

theorem small_any (p : Value) (d : Nat) (n most : Int) (w : World) (h : Deck w p d) (h0 : n ≤ 1000) (h1 : 0 ≤ most) (h2 : most ≤ 1000000) :
    Calls Try.prog 14 #[p, .int .i64 n, .int .i64 most] w (Dealt (fun x => 0 ≤ x ∧ x ≤ most) p d n.toNat w) := by
  have hd : d < w.heap.size := h.lt
  have H := Lib.hid h
  clear h
  go_enter Try.func14, Try.ntmps14
  go_wp2
  go_loopw [7, 8] (fun v i wr => ∃ (k : Nat) (xs : List Int), i = .int .i64 k ∧ k ≤ n.toNat ∧ xs.length = k ∧ Hid (∀ x ∈ xs, 0 ≤ x ∧ x ≤ most) ∧ Hid (OwnI wr w.heap.size v xs) ∧ Hid (Deck wr p d) ∧ Hid (w.grownBy wr (some d))) (fun _ i _ => (n - intOf i).toNat)
  case atStart => exact ⟨0, [], rfl, Nat.zero_le _, rfl, Lib.hid (by simp), Lib.hid (OwnI.nil _ _), H, Lib.hid (grown_refl _ _)⟩
  case round =>
    obtain ⟨k, xs, rfl, hk, hl, hx, ho, hD, hG⟩ := hrel
    by_cases hlt : (k : Int) < n
    · go_wp2_with fail
      refine (next_any _ _ _ _ hD.out (by omega) (by omega)).mono ?_
      rintro e w1 ⟨y, rfl, hy0, hy1, hD1, hG1⟩
      have HD1 := Lib.hid hD1
      have HO1 := Lib.hid (ho.out.kept hG1 (by rintro j ⟨⟩; exact hd))
      have HG1 := Lib.hid (grown_trans hG.out hG1)
      have hs1 := HG1.out.size
      clear hD1 hG1 hD ho hG
      go_wp2_with (at_builtin; refine app_int rfl _ _ rfl w.heap.size _ xs rfl (HO1.out.kept (World.grownBy_alloc _ _ none) (by simp)) w1.heap.size y rfl (by simp) (by omega) (by simp; omega) ?_)
      intro v' w2 ho2 hg2
      have HO2 := Lib.hid ho2
      have HG2 := Lib.hid (grown_then (grown_trans HG1.out (World.grownBy_alloc _ _ _)) hg2 (fun j hj => .inl (HO1.out.fresh j hj).1))
      have HD2 := Lib.hid ((HD1.out.kept (World.grownBy_alloc _ _ none) (by simp)).kept hg2 (fun j hj => by have := (HO1.out.fresh j hj).1; omega))
      clear ho2 hg2
      go_wp2_with fail
      go_roundw
      case rel => exact ⟨k + 1, xs ++ [y], by go_num, by omega, by simp [hl], Lib.hid (mem_snoc hx.out ⟨hy0, by omega⟩), HO2, HD2, HG2⟩
      case measure => simp [intOf]; omega
    · go_wp2
      go_ret
      exact ⟨_, xs, rfl, by omega, hx.out, ho.out, hD.out, hG.out⟩

end Go.Proofs.Ytahffjoehjpfkaa
