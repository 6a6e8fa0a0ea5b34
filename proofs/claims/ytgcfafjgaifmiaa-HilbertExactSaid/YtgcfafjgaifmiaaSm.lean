/- SameAll: two lists of rows are compared. -/
import Derived.Test.YtgcfafjgaifmiaaXc
import Derived.Test.YtgcfafjgaifmiaaGr
namespace Go.Proofs.Ytgcfafjgaifmiaa
open Go.RowKit
set_option linter.unusedVariables false

theorem snd_take (ps : List Row) (k : Nat) (h : k < ps.length) : (ps.take (k + 1)).map Prod.snd = (ps.take k).map Prod.snd ++ [(ps[k]).2] := by rw [List.take_succ_eq_append_getElem h, List.map_append]; rfl

theorem sameall_any (va vb : Value) (ps qs : List Row) (w : World) (h : RowsP w va ps) (h' : RowsP w vb qs) :
    Calls Try.prog 21 #[va, vb] w fun e w' => e = .returned (.bool (ps.map Prod.snd == qs.map Prod.snd)) ∧ Drew w w' := by
  obtain ⟨a, cap, rfl, hl, hc, hr⟩ := h
  obtain ⟨a', cap', rfl, hl1, hc', hr'⟩ := h'
  unfold maxLen at hl hl1
  have HR := Lib.hid hr; have HR' := Lib.hid hr'
  clear hr hr'
  by_cases h3 : ps.length = qs.length
  · have H3 := Lib.hid h3
    have h4 : ((ps.length : Int) != (qs.length : Int)) = false := by simp [h3]
    have hle : ps.length ≤ qs.length := by omega
    clear h3
    go_enter Try.func21, Try.ntmps21
    go_wp2_with fail
    go_loopw [5] (fun i wr => ∃ k n : Nat, k ≤ ps.length ∧ i = .int .i64 k ∧ Hid ((ps.take k).map Prod.snd = (qs.take k).map Prod.snd) ∧ wr = w.drewN n) (fun i _ => ps.length - (intOf i).toNat)
    case atStart => exact ⟨0, 0, Nat.zero_le _, rfl, Lib.hid (by simp), rfl⟩
    case round =>
      obtain ⟨k, n, hk, rfl, HA, rfl⟩ := hrel
      by_cases hlt : k < ps.length
      · have hlt' : k < qs.length := by omega
        obtain ⟨b, off, rfl, hx⟩ := RowsP.at hc hlt
        obtain ⟨b', off', rfl, hx'⟩ := RowsP.at hc' hlt'
        have h1 : (k : Int) < (ps.length : Int) := by omega
        have h2 : (k : Int) < (qs.length : Int) := by omega
        have R1 := Lib.hid (HR.out _ (List.getElem_mem hlt)); have R2 := Lib.hid (HR'.out _ (List.getElem_mem hlt'))
        have HX : Hid ((ps.take (k + 1)).map Prod.snd = (ps.take k).map Prod.snd ++ [(ps[k]).2]) := Lib.hid (snd_take ps k hlt)
        have HY : Hid ((qs.take (k + 1)).map Prod.snd = (qs.take k).map Prod.snd ++ [(qs[k]).2]) := Lib.hid (snd_take qs k hlt')
        have HN : Hid ((ps[k]).2 ≠ (qs[k]).2 → (ps.map Prod.snd == qs.map Prod.snd) = false) := Lib.hid (by
          intro hne; rw [beq_eq_false_iff_ne]; intro e
          have := congrArg (fun l => l[k]?) e
          simp only [List.getElem?_map, List.getElem?_eq_getElem hlt, List.getElem?_eq_getElem hlt', Option.map_some, Option.some.injEq] at this
          exact hne this)
        clear hc hc'
        generalize ps[k] = p at *
        generalize qs[k] = q at *
        by_cases hp : p.2 = q.2
        · have h3 : (p.2 == q.2) = true := by simp [hp]
          have HP := Lib.hid hp
          clear hp
          go_wp2_with fail
          go_big_quiet ((go_at_call 27; exact (same_any _ _ _ _ _ (R1.out.same (grown_drewN _ _ none)).1 (R2.out.same (grown_drewN _ _ none)).1).mono (fun _ _ ⟨he, hd⟩ => ⟨he, by obtain ⟨m, rfl⟩ := hd; exact ⟨_ + m, by simp [Nat.add_assoc]; rfl⟩⟩)))
          go_wp2_with fail
          go_roundw
          case rel => exact ⟨k + 1, _, by omega, by go_num, Lib.hid (by rw [HX.out, HY.out, HA.out, HP.out]), rfl⟩
          case measure => simp [intOf]; omega
        · have h3 : (p.2 == q.2) = false := by simp [hp]
          have HP := Lib.hid (HN.out hp)
          clear hp
          go_wp2_with fail
          go_big_quiet ((go_at_call 27; exact (same_any _ _ _ _ _ (R1.out.same (grown_drewN _ _ none)).1 (R2.out.same (grown_drewN _ _ none)).1).mono (fun _ _ ⟨he, hd⟩ => ⟨he, by obtain ⟨m, rfl⟩ := hd; exact ⟨_ + m, by simp [Nat.add_assoc]; rfl⟩⟩)))
          go_wp2_with fail
          go_ret
          exact ⟨ret_bool HP.out.symm, (Drew.mk _ _).trans (Drew.mk _ _)⟩
      · clear hc hc'
        have h1 : ¬ (k : Int) < (ps.length : Int) := by omega
        go_wp2_with fail
        go_ret
        exact ⟨ret_bool (by have ha := HA.out; have h3 := H3.out; rw [List.take_of_length_le (by omega), List.take_of_length_le (by omega)] at ha; rw [ha]; simp), Drew.mk _ _⟩
  · have h4 : ((ps.length : Int) != (qs.length : Int)) = true := by simp; omega
    have HN : Hid ((ps.map Prod.snd == qs.map Prod.snd) = false) := Lib.hid (by
      rw [beq_eq_false_iff_ne]; intro e
      have := congrArg List.length e
      simp at this
      exact h3 this)
    clear hc hc' h3
    go_enter Try.func21, Try.ntmps21
    go_wp2_with fail
    go_ret
    exact ⟨ret_bool HN.out.symm, Drew.refl _⟩
end Go.Proofs.Ytgcfafjgaifmiaa
