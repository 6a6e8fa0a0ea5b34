/- Lists of linear sets; Check at valid ones. -/
import Derived.Test.YtgdnlibklopdiaaSe
namespace Go.Proofs.Ytgdnlibklopdiaa
open Go.RowKit
set_option linter.unusedVariables false

/-- A set that is valid, whatever it holds. -/
def SetV (w : World) (n : Nat) (v : Value) : Prop := ∃ b ps, LinV w v b ps ∧ ValidS n b ps
theorem SetV.same {w w' : World} {n : Nat} {v : Value} (h : SetV w n v) (g : w.grownBy w' none) : SetV w' n v := by
  obtain ⟨b, ps, h1, h2⟩ := h
  exact ⟨b, ps, h1.same g, h2⟩
/-- The cells of a list of sets. -/
def CellsS (w : World) (b off : Nat) (us : List (Value × Value)) : Prop := ∀ i, (h : i < us.length) → w.cell? ⟨b, off + i * 2, none⟩ = some us[i].1 ∧ w.cell? ⟨b, off + i * 2 + 1, none⟩ = some us[i].2
theorem CellsS.same {w w' : World} {b off : Nat} {us : List (Value × Value)} (h : CellsS w b off us) (g : w.grownBy w' none) : CellsS w' b off us :=
  fun i hi => ⟨g.cell (h i hi).1 (by simp), g.cell (h i hi).2 (by simp)⟩

set_option maxRecDepth 100000 in
set_option maxHeartbeats 1500000 in
theorem check_any (n : Nat) (hn1 : 1 ≤ n) (hn4 : n ≤ 4) (us : List (Value × Value)) (b off cap : Nat) (w : World) (hc : CellsS w b off us) (hu : ∀ u ∈ us, SetV w n (.agg #[u.1, u.2])) (hl : us.length ≤ 8) :
    Calls Try.prog 38 #[.int .i64 (n : Int), .slice (some ⟨b, off, none⟩) us.length cap] w fun e w' => e = .returned (.int .i64 0) ∧ w.grownBy w' none := by
  have HC := Lib.hid hc; have HU := Lib.hid hu
  have h1 : ¬ (n : Int) < 1 := by omega
  have h4 : ¬ (4 : Int) < (n : Int) := by omega
  have h8 : ¬ (8 : Int) < (us.length : Int) := by omega
  clear hc hu
  go_enter Try.func38, Try.ntmps38
  go_wp2_with fail
  go_loopw [6, 19] (fun _ i wr => ∃ k : Nat, i = .int .i64 k ∧ k ≤ us.length ∧ Hid (w.grownBy wr none)) (fun _ i _ => us.length - (intOf i).toNat)
  case atStart => exact ⟨0, rfl, Nat.zero_le _, Lib.hid (grown_refl _ _)⟩
  case round =>
    obtain ⟨k, rfl, hk, hg⟩ := hrel
    rename World => wk
    by_cases hlt : k < us.length
    · have h2 : (k : Int) < (us.length : Int) := by omega
      obtain ⟨c1, c2⟩ := HC.out.same hg.out k hlt
      have HS := Lib.hid ((HU.out _ (List.getElem_mem hlt)).same hg.out)
      generalize us[k] = u at *
      obtain ⟨u1, u2⟩ := u
      dsimp only at c1 c2 HS
      obtain ⟨sb, sp, hlin, hval⟩ := HS.out
      obtain ⟨vb, vp, qs, he, ⟨⟨ab, cb, hvb, -, -, -⟩, -, -⟩, ⟨ap, cp, hvp, -, -, -⟩, -, -⟩ := hlin
      simp only [Value.agg.injEq, Array.mk.injEq, List.cons.injEq, and_true] at he
      obtain ⟨rfl, rfl⟩ := he
      dsimp only at hvb
      subst hvb hvp
      have HS2 := Lib.hid (HS.out.same (World.grownBy_alloc wk (.cells #[.slice ab sb.length cb, .slice ap qs.length cp] 49) none))
      clear hval
      go_wp2_with fail
      obtain ⟨sb2, sp2, hlin2, hval2⟩ := HS2.out
      refine (checkSet_any n _ sb2 sp2 _ hlin2 hval2).mono ?_
      rintro e w3 ⟨rfl, hg3⟩
      have G3 := Lib.hid (grown_trans (grown_after hg.out) hg3)
      clear hg3 hlin2 hval2
      go_wp2_with fail
      go_roundw
      case rel => exact ⟨k + 1, by go_num, by omega, G3⟩
      case measure => simp [intOf]; omega
    · have h2 : ¬ (k : Int) < (us.length : Int) := by omega
      go_wp2_with fail
      go_ret
      exact ⟨rfl, hg.out⟩

end Go.Proofs.Ytgdnlibklopdiaa
