/- Faulty matrices: what the functions of both sides answer. -/
import Derived.Test.YtpnghgihepnepaaBi
namespace Go.Proofs.Ytpnghgihepnepaa
open Go.RowKit
set_option linter.unusedVariables false

set_option maxRecDepth 100000 in
theorem Transpose_bad {ps : List Row} {v : Value} {w : World}  (h : RowsI w v ps) (hno : ∀ r c, ¬ MatOkP r c ps) :
    Calls Try.prog 16 #[v] w fun e w' => e = .returned (.tuple #[.slice none 0 0, .int .i64 10]) ∧ w' = w := by
  have H := Lib.hid h; have HNO := Lib.hid hno
  clear h hno
  go_enter Try.func16, Try.ntmps16
  go_wp2_with fail
  refine (Check_bad H.out HNO.out).mono ?_
  rintro e w1 ⟨rfl, hg⟩
  subst hg
  go_wp2_with fail
  go_ret2
  exact ⟨rfl, rfl⟩
set_option maxRecDepth 100000 in
theorem Apply_bad {ps : List Row} {v : Value} {w : World} {u : Value} (h : RowsI w v ps) (hno : ∀ r c, ¬ MatOkP r c ps) :
    Calls Try.prog 26 #[v, u] w fun e w' => e = .returned (.tuple #[.slice none 0 0, .int .i64 10]) ∧ w' = w := by
  have H := Lib.hid h; have HNO := Lib.hid hno
  clear h hno
  go_enter Try.func26, Try.ntmps26
  go_wp2_with fail
  refine (Check_bad H.out HNO.out).mono ?_
  rintro e w1 ⟨rfl, hg⟩
  subst hg
  go_wp2_with fail
  go_ret2
  exact ⟨rfl, rfl⟩
set_option maxRecDepth 100000 in
theorem Multiply_bad {ps : List Row} {v : Value} {w : World} {u : Value} (h : RowsI w v ps) (hno : ∀ r c, ¬ MatOkP r c ps) :
    Calls Try.prog 19 #[v, u] w fun e w' => e = .returned (.tuple #[.slice none 0 0, .int .i64 10]) ∧ w' = w := by
  have H := Lib.hid h; have HNO := Lib.hid hno
  clear h hno
  go_enter Try.func19, Try.ntmps19
  go_wp2_with fail
  refine (Check_bad H.out HNO.out).mono ?_
  rintro e w1 ⟨rfl, hg⟩
  subst hg
  go_wp2_with fail
  go_ret2
  exact ⟨rfl, rfl⟩
set_option maxRecDepth 100000 in
theorem Rank_bad {ps : List Row} {v : Value} {w : World}  (h : RowsI w v ps) (hno : ∀ r c, ¬ MatOkP r c ps) :
    Calls Try.prog 23 #[v] w fun e w' => e = .returned (.tuple #[.int .i64 0, .int .i64 10]) ∧ w' = w := by
  have H := Lib.hid h; have HNO := Lib.hid hno
  clear h hno
  go_enter Try.func23, Try.ntmps23
  go_wp2_with fail
  refine (Check_bad H.out HNO.out).mono ?_
  rintro e w1 ⟨rfl, hg⟩
  subst hg
  go_wp2_with fail
  go_ret2
  exact ⟨rfl, rfl⟩
set_option maxRecDepth 100000 in
theorem Kernel_bad {ps : List Row} {v : Value} {w : World}  (h : RowsI w v ps) (hno : ∀ r c, ¬ MatOkP r c ps) :
    Calls Try.prog 21 #[v] w fun e w' => e = .returned (.tuple #[.slice none 0 0, .int .i64 10]) ∧ w' = w := by
  have H := Lib.hid h; have HNO := Lib.hid hno
  clear h hno
  go_enter Try.func21, Try.ntmps21
  go_wp2_with fail
  refine (Check_bad H.out HNO.out).mono ?_
  rintro e w1 ⟨rfl, hg⟩
  subst hg
  go_wp2_with fail
  go_ret2
  exact ⟨rfl, rfl⟩
set_option maxRecDepth 100000 in
theorem rTranspose_bad {ps : List Row} {v : Value} {w : World}  (h : RowsI w v ps) (hno : ∀ r c, ¬ MatOkP r c ps) :
    Calls Try.prog 17 #[v] w fun e w' => e = .returned (.tuple #[.slice none 0 0, .int .i64 10]) ∧ w.grownBy w' none := by
  have H := Lib.hid h; have HNO := Lib.hid hno
  clear h hno
  go_enter Try.func17, Try.ntmps17
  go_wp2_with fail
  refine (rcheck_bad H.out HNO.out).mono ?_
  rintro e w1 ⟨rfl, hg⟩
  have HG := Lib.hid hg; clear hg
  go_wp2_with fail
  go_ret2
  exact ⟨rfl, HG.out⟩
set_option maxRecDepth 100000 in
theorem rApply_bad {ps : List Row} {v : Value} {w : World} {u : Value} (h : RowsI w v ps) (hno : ∀ r c, ¬ MatOkP r c ps) :
    Calls Try.prog 27 #[v, u] w fun e w' => e = .returned (.tuple #[.slice none 0 0, .int .i64 10]) ∧ w.grownBy w' none := by
  have H := Lib.hid h; have HNO := Lib.hid hno
  clear h hno
  go_enter Try.func27, Try.ntmps27
  go_wp2_with fail
  refine (rcheck_bad H.out HNO.out).mono ?_
  rintro e w1 ⟨rfl, hg⟩
  have HG := Lib.hid hg; clear hg
  go_wp2_with fail
  go_ret2
  exact ⟨rfl, HG.out⟩
set_option maxRecDepth 100000 in
theorem rMultiply_bad {ps : List Row} {v : Value} {w : World} {u : Value} (h : RowsI w v ps) (hno : ∀ r c, ¬ MatOkP r c ps) :
    Calls Try.prog 20 #[v, u] w fun e w' => e = .returned (.tuple #[.slice none 0 0, .int .i64 10]) ∧ w.grownBy w' none := by
  have H := Lib.hid h; have HNO := Lib.hid hno
  clear h hno
  go_enter Try.func20, Try.ntmps20
  go_wp2_with fail
  refine (rcheck_bad H.out HNO.out).mono ?_
  rintro e w1 ⟨rfl, hg⟩
  have HG := Lib.hid hg; clear hg
  go_wp2_with fail
  go_ret2
  exact ⟨rfl, HG.out⟩
set_option maxRecDepth 100000 in
theorem rRank_bad {ps : List Row} {v : Value} {w : World}  (h : RowsI w v ps) (hno : ∀ r c, ¬ MatOkP r c ps) :
    Calls Try.prog 24 #[v] w fun e w' => e = .returned (.tuple #[.int .i64 0, .int .i64 10]) ∧ w.grownBy w' none := by
  have H := Lib.hid h; have HNO := Lib.hid hno
  clear h hno
  go_enter Try.func24, Try.ntmps24
  go_wp2_with fail
  refine (rcheck_bad H.out HNO.out).mono ?_
  rintro e w1 ⟨rfl, hg⟩
  have HG := Lib.hid hg; clear hg
  go_wp2_with fail
  go_ret2
  exact ⟨rfl, HG.out⟩
set_option maxRecDepth 100000 in
theorem rKernel_bad {ps : List Row} {v : Value} {w : World}  (h : RowsI w v ps) (hno : ∀ r c, ¬ MatOkP r c ps) :
    Calls Try.prog 22 #[v] w fun e w' => e = .returned (.tuple #[.slice none 0 0, .int .i64 10]) ∧ w.grownBy w' none := by
  have H := Lib.hid h; have HNO := Lib.hid hno
  clear h hno
  go_enter Try.func22, Try.ntmps22
  go_wp2_with fail
  refine (rcheck_bad H.out HNO.out).mono ?_
  rintro e w1 ⟨rfl, hg⟩
  have HG := Lib.hid hg; clear hg
  go_wp2_with fail
  go_ret2
  exact ⟨rfl, HG.out⟩
end Go.Proofs.Ytpnghgihepnepaa
