/- simulate.Check. -/
import Derived.Test.YtelpkcndbcfaiaaIb
namespace Go.Proofs.Ytelpkcndbcfaiaa
open Go.RowKit
set_option linter.unusedVariables false
def SysW (w : World) (v : Value) (ls : List ArcP) : Prop := ∃ x, v = .agg #[x] ∧ SysL w x ls
theorem SysW.same {w w' : World} {v : Value} {ls : List ArcP} (h : SysW w v ls) (g : w.grownBy w' none) : SysW w' v ls := by
  obtain ⟨x, rfl, h⟩ := h
  exact ⟨x, rfl, h.same g⟩
theorem grown_aft2 {a b : World} {o : Obj} (h : a.grownBy b none) : a.grownBy (b.alloc o) none := grown_trans h (World.grownBy_alloc _ _ _)
def goodF (n : Nat) : Nat → List ArcP → Bool
  | _, [] => true
  | c, l :: ls => decide (c + l.2.length ≤ 256) && (!l.2.any (outB n) && goodF n (c + l.2.length) ls)
/-- A valid system. -/
def goodS (ls : List ArcP) : Bool := decide (1 ≤ ls.length) && (decide (ls.length ≤ 128) && goodF ls.length 0 ls)
def chkI (ls : List ArcP) : Int := if goodS ls = true then 0 else 46
theorem chk_no {ls : List ArcP} (h : goodS ls = false) : chkI ls = 46 := by unfold chkI; rw [h]; rfl
theorem chk_yes {ls : List ArcP} (h : goodS ls = true) : chkI ls = 0 := if_pos h
set_option maxRecDepth 100000 in
set_option maxHeartbeats 2000000 in
theorem Check_any (v : Value) (ls : List ArcP) (w : World) (h : SysW w v ls) (hb : ∀ q ∈ ls, q.2.length ≤ 1000000000) :
    Calls Try.prog 17 #[v] w fun e w' => e = .returned (.int .i64 (chkI ls)) ∧ w.grownBy w' none := by
  obtain ⟨x, rfl, h⟩ := h
  have H := Lib.hid h; have HB := Lib.hid hb
  clear hb
  obtain ⟨a, cap, rfl, hl, -, -⟩ := h
  unfold maxLen at hl
  go_enter Try.func17, Try.ntmps17
  by_cases h1 : 1 ≤ ls.length
  · by_cases h128 : ls.length ≤ 128
    · have g1 : ¬ (ls.length : Int) < 1 := by omega
      have g2 : ¬ (128 : Int) < (ls.length : Int) := by omega
      have HI : Hid (goodS ls = goodF ls.length 0 ls) := Lib.hid (by unfold goodS; rw [decide_eq_true h1, decide_eq_true h128]; rfl)
      go_wp2_with fail
      have HG : Hid (w.grownBy ((w.alloc (.cells #[.slice a ls.length cap] 25)).alloc (.cells #[.int .i64 (ls.length : Int)] 3)) none) := Lib.hid (grown_aft2 (World.grownBy_alloc _ _ _))
      have HC : Hid (HeldI ((w.alloc (.cells #[.slice a ls.length cap] 25)).alloc (.cells #[.int .i64 (ls.length : Int)] 3)) (w.heap.size + 1) (ls.length : Int)) := Lib.hid (by unfold HeldI; rw [World.cell?, heap_new _ (by show _ = (w.heap.push _).size; simp)]; rfl)
      go_loopw [19, 4] (fun i c wr => ∃ (k n : Nat), k ≤ ls.length ∧ n ≤ 256 ∧ i = .int .i64 k ∧ c = .int .i64 n ∧ Hid (goodS ls = goodF ls.length n (ls.drop k)) ∧ Hid (w.grownBy wr none) ∧ Hid (HeldI wr (w.heap.size + 1) (ls.length : Int))) (fun i _ _ => ls.length - (intOf i).toNat)
      case atStart => exact ⟨0, 0, Nat.zero_le _, Nat.zero_le _, rfl, rfl, HI, HG, HC⟩
      case round =>
        obtain ⟨k, n, hk, hn, rfl, rfl, hgd, hg, hc⟩ := hrel
        clear HI HG HC g1 g2
        by_cases hlt : k < ls.length
        · have hki : (k : Int) < (ls.length : Int) := by omega
          obtain ⟨b, off, cap', hv, c1, har⟩ := (H.out.same hg.out).at hlt
          simp only [Value.slice.injEq] at hv
          obtain ⟨rfl, -, rfl⟩ := hv
          have hbk := HB.out _ (List.getElem_mem hlt)
          have HD : Hid (goodS ls = (decide (n + ls[k].2.length ≤ 256) && (!ls[k].2.any (outB ls.length) && goodF ls.length (n + ls[k].2.length) (ls.drop (k + 1))))) := Lib.hid (by rw [hgd.out, List.drop_eq_getElem_cons hlt]; rfl)
          generalize hq : ls[k] = q at *
          obtain ⟨qv, ql⟩ := q
          dsimp only at c1 har hbk HD
          have HA := Lib.hid har
          obtain ⟨qa, qc, rfl, -, -⟩ := har
          by_cases h256 : n + ql.length ≤ 256
          · have d1 : ¬ (256 : Int) < (n : Int) + (ql.length : Int) := by omega
            go_wp2_with fail
            refine (has_out _ ql (ls.length : Int) (w.heap.size + 1) _ HA.out hc.out).mono ?_
            rintro e w2 ⟨rfl, hg2⟩
            have HG2 := Lib.hid (grown_trans hg.out hg2)
            have HC2 := Lib.hid (hc.out.same hg2)
            clear hg2
            cases ho : ql.any (outB (ls.length : Int)) with
            | true =>
              have HF : Hid (chkI ls = 46) := Lib.hid (chk_no (by rw [HD.out, ho]; simp))
              go_wp2_with fail
              go_ret
              exact ⟨by rw [HF.out]; rfl, HG2.out⟩
            | false =>
              have HF : Hid (goodS ls = goodF ls.length (n + ql.length) (ls.drop (k + 1))) := Lib.hid (by rw [HD.out, ho, decide_eq_true h256]; rfl)
              go_wp2_with fail
              go_roundw
              case rel => exact ⟨k + 1, n + ql.length, by omega, h256, by go_num, by go_num, HF, HG2, HC2⟩
              case measure => simp [intOf]; omega
          · have d1 : (256 : Int) < (n : Int) + (ql.length : Int) := by omega
            have HF : Hid (chkI ls = 46) := Lib.hid (chk_no (by rw [HD.out, decide_eq_false h256]; rfl))
            go_wp2_with fail
            go_ret
            exact ⟨by rw [HF.out]; rfl, hg.out⟩
        · have hki : ¬ (k : Int) < (ls.length : Int) := by omega
          have HF : Hid (chkI ls = 0) := Lib.hid (chk_yes (by rw [hgd.out, List.drop_of_length_le (by omega)]; rfl))
          go_wp2_with fail
          go_ret
          exact ⟨by rw [HF.out]; rfl, hg.out⟩
    · have g1 : ¬ (ls.length : Int) < 1 := by omega
      have g2 : (128 : Int) < (ls.length : Int) := by omega
      have HF : Hid (chkI ls = 46) := Lib.hid (chk_no (by unfold goodS; rw [decide_eq_false h128]; simp))
      go_wp2_with fail
      go_ret
      exact ⟨by rw [HF.out]; rfl, grown_aft2 (World.grownBy_alloc _ _ _)⟩
  · have g1 : (ls.length : Int) < 1 := by omega
    have HF : Hid (chkI ls = 46) := Lib.hid (chk_no (by unfold goodS; rw [decide_eq_false h1]; rfl))
    go_wp2_with fail
    go_ret
    exact ⟨by rw [HF.out]; rfl, grown_aft2 (World.grownBy_alloc _ _ _)⟩
end Go.Proofs.Ytelpkcndbcfaiaa
