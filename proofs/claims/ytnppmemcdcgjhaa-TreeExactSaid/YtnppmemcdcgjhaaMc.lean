/- The reference's small, Valid. -/
import Derived.Test.YtnppmemcdcgjhaaMb
namespace Go.Proofs.Ytnppmemcdcgjhaa
open Go.RowKit Tr
set_option linter.unusedVariables false

set_option maxRecDepth 100000 in
set_option maxHeartbeats 2000000 in
theorem rsmall_any {P : Nat → Prop} (t : Tr) (y : Value) (w : World) (h : TrK P w y t) (hsz : size t ≤ 100000) :
    Calls Try.prog 55 #[.agg #[.int .i64 t.label, y]] w (LbTo (size t ≤ 12) w) := by
  have H := Lib.hid h; have HS := Lib.hid hsz
  obtain ⟨a, cap, rfl⟩ := h.slice
  clear h hsz
  go_enter Try.func55, Try.ntmps55
  go_wp2_with fail
  refine (rcount_any t 12 _ _ (H.out.same (World.grownBy_alloc _ _ none)) HS.out (by omega)).mono ?_
  rintro e w1 ⟨c, rfl, -, p2, p3, p4, hg⟩
  have HG := Lib.hid (grown_trans (World.grownBy_alloc w (.cells #[.int .i64 t.label, .slice a t.kids.length cap] 45) none) hg)
  have P3 := Lib.hid p3; have P4 := Lib.hid p4
  clear p2 p3 p4 hg
  by_cases h12 : (c : Int) ≤ 12
  · go_wp2_with fail
    go_ret
    exact ⟨true, rfl, ⟨fun _ => by
      rcases Nat.lt_or_ge 12 (size t) with h | h
      · have := P4.out h; omega
      · exact h, fun _ => rfl⟩, HG.out⟩
  · go_wp2_with fail
    go_ret
    exact ⟨decide ((c : Int) ≤ 12), rfl, ⟨(fun e => absurd (of_decide_eq_true e) (by omega)), fun h => by have := P3.out h; omega⟩, HG.out⟩

set_option maxRecDepth 100000 in
set_option maxHeartbeats 2000000 in
theorem rValidT_any {P : Nat → Prop} (t : Tr) (y : Value) (w : World) (h : TrK P w y t) (hsz : size t ≤ 100000) :
    Calls Try.prog 34 #[.agg #[.int .i64 t.label, y]] w (LbTo (OkT t) w) := by
  have H := Lib.hid h; have HS := Lib.hid hsz
  obtain ⟨a, cap, rfl⟩ := h.slice
  clear h hsz
  go_enter Try.func34, Try.ntmps34
  go_wp2_with fail
  have hb := box_cells w (.int .i64 t.label) (.slice a t.kids.length cap) 45
  have HG : Hid (w.grownBy (w.alloc (.cells #[.int .i64 t.label, .slice a t.kids.length cap] 45)) none) := Lib.hid (World.grownBy_alloc _ _ none)
  generalize w.alloc (.cells #[.int .i64 t.label, .slice a t.kids.length cap] 45) = wb at *
  generalize w.heap.size = g at *
  have HB := Lib.hid hb
  clear hb
  refine (rsmall_any t _ _ (H.out.same HG.out) HS.out).mono ?_
  rintro e w1 ⟨B, rfl, hB, hg⟩
  have HBB := Lib.hid hB; have HG1 := Lib.hid (grown_trans HG.out hg)
  have hb0 := hg.cell HB.out.1 (by simp); have hb1 := hg.cell HB.out.2 (by simp)
  clear hB hg
  cases B with
  | false =>
    go_wp2_with fail
    go_ret
    exact ⟨false, rfl, ⟨(fun e => by cases e), fun h => by have := HBB.out.2 h.1; cases this⟩, HG1.out⟩
  | true =>
    go_wp2_with fail
    refine (rlabels_any t _ _ (H.out.same HG1.out)).mono ?_
    rintro e w2 ⟨B2, rfl, hB2, hg⟩
    have HB2 := Lib.hid hB2; have HG2 := Lib.hid (grown_trans HG1.out hg)
    clear hB2 hg
    go_wp2_with fail
    go_ret
    exact ⟨B2, rfl, ⟨fun e => ⟨HBB.out.1 (by simp), HB2.out.1 e⟩, fun h => HB2.out.2 h.2⟩, HG2.out⟩

end Go.Proofs.Ytnppmemcdcgjhaa
