/- Sum at valid sets. -/
import Derived.Test.YtgdnlibklopdiaaTq
import Derived.Test.YtgdnlibklopdiaaTn
namespace Go.Proofs.Ytgdnlibklopdiaa
open Go.RowKit
set_option linter.unusedVariables false

theorem or_none (g cap : Nat) (w : World) (c0 : w.cell? ⟨g, 0, none⟩ = some (.int .i64 0)) (c1 : w.cell? ⟨g, 1, none⟩ = some (.int .i64 0)) :
    Calls Try.prog 79 #[.slice (some ⟨g, 0, none⟩) 2 cap] w fun e w' => e = .returned (.int .i64 0) ∧ w' = w := by
  have C0 := Lib.hid c0; have C1 := Lib.hid c1
  clear c0 c1
  go_enter Try.func79, Try.ntmps79
  go_wp2_with fail
  go_loop [8] (fun i => ∃ k : Nat, k ≤ 2 ∧ i = .int .i64 k) (fun i => 2 - (intOf i).toNat)
  case atStart => exact ⟨0, by omega, rfl⟩
  case round =>
    obtain ⟨k, hk, rfl⟩ := hrel
    match k, hk with
    | 0, _ =>
      have c0 := C0.out
      go_wp2_with fail
      go_round
      case rel => exact ⟨1, by omega, by go_num⟩
      case measure => simp [intOf]
    | 1, _ =>
      have c1 := C1.out
      go_wp2_with fail
      go_round
      case rel => exact ⟨2, by omega, by go_num⟩
      case measure => simp [intOf]
    | 2, _ =>
      go_wp2_with fail
      go_ret
      exact ⟨rfl, rfl⟩

/-- limited, where there are too many periods. -/
def GotX (w : World) (e : Ending) (w' : World) : Prop := e = .returned (.tuple #[.agg #[.slice none 0 0, .slice none 0 0], .int .i64 1]) ∧ w.grownBy w' none
set_option maxRecDepth 100000 in
set_option maxHeartbeats 1000000 in
theorem limited_long (vb vp : Value) (b : List Int) (qs : List Row) (w : World) (hb : RowOk w (vb, b)) (hq : RowsP w vp qs) (h1 : 1 ≤ b.length) (h16 : ∀ x ∈ b, x ≤ 16) (hl : 3 < qs.length) :
    Calls Try.prog 76 #[vb, vp] w (GotX w) := by
  have HB := Lib.hid hb; have H16 := Lib.hid h16
  obtain ⟨⟨ab, cb, hvb, -, -, -⟩, -, -⟩ := hb
  dsimp only at hvb
  subst hvb
  obtain ⟨ap, cp, rfl, -, -, -⟩ := hq
  have hl3 : (3 : Int) < (qs.length : Int) := by omega
  clear h16
  go_enter Try.func76, Try.ntmps76
  go_wp2_with fail
  have HG1 := Lib.hid (World.grownBy_alloc w (.cells #[.slice none 0 0, .slice none 0 0] 49) none)
  refine (max_any _ b _ (HB.out.same HG1.out).1 h1).mono ?_
  rintro e w2 ⟨m, rfl, hm, rfl⟩
  have hm16 : ¬ (16 : Int) < m := by have := H16.out m hm.1; omega
  clear hm
  go_wp2_with fail
  refine bodyPost_ret (results_set2 rfl _ _ w.heap.size _ _ _ _ rfl (heap_new _ rfl) Try.underlying49 (by kernel_rfl)) rfl ?_
  exact ⟨rfl, HG1.out⟩

end Go.Proofs.Ytgdnlibklopdiaa
