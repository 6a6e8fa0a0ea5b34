/- Merge$1, IndexFunc, ContainsFunc. -/
import Derived.Test.YtaenkbcclgpphaaMh
namespace Go.Proofs.Ytaenkbcclgpphaa
open Go.RowKit
set_option linter.unusedVariables false

/-- What Merge$1 captures: a cell that holds a word. -/
def Held (w : World) (c : Nat) (p : Row) : Prop := w.cell? ⟨c, 0, none⟩ = some p.1 ∧ RowOk w p
theorem Held.same {w w' : World} {c : Nat} {p : Row} (h : Held w c p) (g : w.grownBy w' none) : Held w' c p := ⟨g.cell h.1 (by simp), h.2.same g⟩

theorem pred_any (p q : Row) (c : Nat) (w : World) (h : Held w c p) (hq : RowOk w q) :
    Calls Try.prog 56 #[q.1, .pointer (some ⟨c, 0, none⟩)] w fun e w' => e = .returned (.bool (leqW q.2 p.2)) ∧ w.grownBy w' none := by
  obtain ⟨hc, hp⟩ := h
  have HP := Lib.hid hp; have HQ := Lib.hid hq
  clear hp hq
  obtain ⟨v, xs⟩ := q
  obtain ⟨u, ys⟩ := p
  dsimp only at hc
  go_enter Try.func56, Try.ntmps56
  go_wp2_with fail
  refine (leqW_any _ _ _ _ _ HQ.out.1 HP.out.1).mono ?_
  rintro e w' ⟨rfl, hg⟩
  have HG := Lib.hid hg
  clear hg
  go_wp2_with fail
  go_ret
  exact ⟨rfl, HG.out⟩

def IdxP (B : Bool) (w : World) (e : Ending) (w' : World) : Prop := ∃ k : Int, e = .returned (.int .i64 k) ∧ decide (0 ≤ k) = B ∧ w.grownBy w' none

theorem any_snoc (P : Row → Bool) (ps : List Row) (k : Nat) (h : k < ps.length) : (ps.take (k + 1)).any P = ((ps.take k).any P || P (ps[k])) := by
  rw [List.take_succ_eq_append_getElem h, List.any_append]; simp
theorem any_hit (P : Row → Bool) (ps : List Row) (k : Nat) (h : k < ps.length) (hp : P (ps[k]) = true) : ps.any P = true := List.any_eq_true.2 ⟨ps[k], List.getElem_mem h, hp⟩

set_option maxHeartbeats 2000000 in
theorem index_any (v : Value) (ps : List Row) (c : Nat) (p : Row) (w : World) (h : RowsP w v ps) (hp : Held w c p) :
    Calls Try.prog 76 #[v, .func (.func 56) #[] #[.pointer (some ⟨c, 0, none⟩)]] w (IdxP (ps.any (fun q => leqW q.2 p.2)) w) := by
  have H := Lib.hid h
  have HP := Lib.hid hp
  clear hp
  obtain ⟨a, cap, rfl, hl, -, -⟩ := h
  unfold maxLen at hl
  go_enter Try.func76, Try.ntmps76
  go_wp2_with fail
  go_loopw [8] (fun i wr => ∃ k : Nat, k ≤ ps.length ∧ i = .int .i64 k ∧ Hid ((ps.take k).any (fun q => leqW q.2 p.2) = false) ∧ Hid (w.grownBy wr none)) (fun i _ => ps.length - (intOf i).toNat)
  case atStart => exact ⟨0, Nat.zero_le _, rfl, Lib.hid (by simp), Lib.hid (grown_refl _ _)⟩
  case round =>
    obtain ⟨k, hk, rfl, hn, hg⟩ := hrel
    by_cases hlt : k < ps.length
    · obtain ⟨_, _, hv, _, hc, hrow⟩ := H.out.same hg.out
      simp only [Value.slice.injEq] at hv
      obtain ⟨rfl, -, -⟩ := hv
      obtain ⟨b, off, rfl, hx⟩ := RowsP.at hc hlt
      have HR := Lib.hid (hrow _ (List.getElem_mem hlt))
      have HS := Lib.hid (any_snoc (fun q => leqW q.2 p.2) ps k hlt)
      have HT := Lib.hid (any_hit (fun q => leqW q.2 p.2) ps k hlt)
      have HC := Lib.hid (HP.out.same hg.out)
      have h1 : (k : Int) < (ps.length : Int) := by omega
      clear hc hrow
      generalize (ps[k]) = q at *
      go_wp2_with fail
      refine (pred_any p q c _ HC.out HR.out).mono ?_
      rintro e w1 ⟨rfl, hg1⟩
      have HG := Lib.hid (grown_trans hg.out hg1)
      clear hg1
      cases hb : leqW q.2 p.2
      · go_wp2_with fail
        go_roundw
        case rel => exact ⟨k + 1, by omega, by go_num, Lib.hid (by rw [HS.out, hn.out, hb]; rfl), HG⟩
        case measure => simp [intOf]; omega
      · go_wp2_with fail
        go_ret
        exact ⟨k, rfl, by rw [HT.out hb]; simp, HG.out⟩
    · have hne : (ps.any (fun q => leqW q.2 p.2)) = false := by have := hn.out; rwa [List.take_of_length_le (by omega)] at this
      have HN := Lib.hid hne
      clear hne
      go_wp2_with fail
      go_ret
      exact ⟨-1, rfl, by rw [HN.out]; rfl, hg.out⟩

theorem contains_any (v : Value) (ps : List Row) (c : Nat) (p : Row) (w : World) (h : RowsP w v ps) (hp : Held w c p) :
    Calls Try.prog 55 #[v, .func (.func 56) #[] #[.pointer (some ⟨c, 0, none⟩)]] w fun e w' => e = .returned (.bool (ps.any (fun q => leqW q.2 p.2))) ∧ w.grownBy w' none := by
  have H := Lib.hid h
  have HP := Lib.hid hp
  clear hp
  obtain ⟨a, cap, rfl, -, -, -⟩ := h
  go_enter Try.func55, Try.ntmps55
  go_wp2_with fail
  refine (index_any _ _ _ _ _ H.out HP.out).mono ?_
  rintro e w' ⟨k, rfl, hk, hg⟩
  have HK := Lib.hid hk; have HG := Lib.hid hg
  clear hk hg
  go_wp2_with fail
  go_ret
  exact ⟨ret_bool HK.out, HG.out⟩

end Go.Proofs.Ytaenkbcclgpphaa
