/- Contracts of the reference of words: headed, minimal. -/
import Derived.Test.YtaenkbcclgpphaaXf
import Derived.Deep.RegionHeld3
namespace Go.Proofs.Ytaenkbcclgpphaa
open Go.RowKit
set_option linter.unusedVariables false

/-- Is no other one of a list below a word? -/
def leastF (x y : List Int) : Bool := !(compareI y x != 0 && leqW y x)
def leastW (l : List (List Int)) (x : List Int) : Bool := l.all (leastF x)
def minL (l : List (List Int)) : List (List Int) := ascL (l.filter (leastW l))
def minK (l : List (List Int)) (i : Nat) : List (List Int) := ascL ((l.take i).filter (leastW l))
theorem minK_step (l : List (List Int)) (i : Nat) (h : i < l.length) : minK l (i + 1) = if leastW l (l[i]?.getD []) then putL (minK l i) (l[i]?.getD []) else minK l i := by
  unfold minK ascL
  rw [List.take_succ_eq_append_getElem h, List.filter_append, List.foldl_append]
  have e : l[i]?.getD [] = l[i] := by simp [h]
  rw [e]
  by_cases hb : leastW l l[i] = true
  · rw [if_pos hb, List.filter_cons, if_pos hb]; rfl
  · rw [if_neg hb, List.filter_cons, if_neg hb]; rfl
theorem minK_len (l : List (List Int)) (i : Nat) : (minK l i).length ≤ i := by
  unfold minK
  have h1 := ascL_len ((l.take i).filter (leastW l))
  have h2 := List.length_filter_le (leastW l) (l.take i)
  have h3 := List.length_take_le i l
  omega
theorem all_snocW (p : List Int → Bool) (l : List (List Int)) (k : Nat) (h : k < l.length) : (l.take (k + 1)).all p = ((l.take k).all p && p (l[k]?.getD [])) := by
  rw [List.take_succ_eq_append_getElem h, List.all_append, List.all_cons, List.all_nil, Bool.and_true, List.getElem?_eq_getElem h, Option.getD_some]

set_option maxRecDepth 100000 in
set_option maxHeartbeats 8000000 in
theorem minimal_any (vl : Value) (ps : List Row) (w : World) (h : RowsP w vl ps) (hl : ps.length ≤ 100000) (hrl : ∀ p ∈ ps, p.2.length ≤ 1000000) :
    Calls Try.prog 57 #[vl] w (GotP (minL (ps.map Prod.snd)) w) := by
  have H := Lib.hid h; have HRL := Lib.hid hrl
  obtain ⟨a, cap, rfl, -, -, -⟩ := h
  clear hrl
  have HLN : Hid ((ps.map Prod.snd).length = ps.length) := Lib.hid (by simp)
  go_enter Try.func57, Try.ntmps57
  go_wp2_with fail
  go_loopw [3, 4] (fun v i wr => ∃ (k : Nat) (qs : List Row), i = .int .i64 k ∧ k ≤ ps.length ∧ Hid (qs.map Prod.snd = minK (ps.map Prod.snd) k) ∧ Hid (RowsP wr v qs) ∧ Hid (Good v) ∧ Hid (w.grownBy wr none)) (fun _ i _ => ps.length - (intOf i).toNat)
  case atStart => exact ⟨0, [], rfl, Nat.zero_le _, Lib.hid (by simp [minK, ascL]), Lib.hid ⟨none, 0, rfl, Nat.zero_le _, .inl rfl, by simp⟩, Lib.hid Good.nil, Lib.hid (grown_refl _ _)⟩
  case round =>
    obtain ⟨i, qs, rfl, hi, hm, hr, hgd, hg⟩ := hrel
    rename World => wk
    rename Value => vo
    by_cases hlt : i < ps.length
    · have g1 : (i : Int) < (ps.length : Int) := by omega
      obtain ⟨_, _, hv, _, hc, hrow⟩ := H.out.same hg.out
      simp only [Value.slice.injEq] at hv
      obtain ⟨rfl, -, -⟩ := hv
      obtain ⟨b, off, rfl, hy0⟩ := RowsP.at hc hlt
      have HY := Lib.hid hy0
      have HC := Lib.hid hc; have HW := Lib.hid hrow
      have Q1 := Lib.hid (hrow _ (List.getElem_mem hlt))
      have QL := Lib.hid (HRL.out _ (List.getElem_mem hlt))
      have HS : Hid (minK (ps.map Prod.snd) (i + 1) = if leastW (ps.map Prod.snd) (ps[i]).2 then putL (minK (ps.map Prod.snd) i) (ps[i]).2 else minK (ps.map Prod.snd) i) := Lib.hid (by rw [minK_step _ i (by simpa using hlt), snd_at ps i hlt])
      clear hc hrow hy0
      generalize ps[i] = q at *
      go_wp2_with fail
      go_loopw [5, 6] (fun u j wr => ∃ k : Nat, j = .int .i64 k ∧ k ≤ ps.length ∧ u = .bool (((ps.map Prod.snd).take k).all (leastF q.2)) ∧ Hid (wk.grownBy wr none)) (fun _ j _ => ps.length - (intOf j).toNat)
      case atStart => exact ⟨0, rfl, Nat.zero_le _, by simp, Lib.hid (grown_refl _ _)⟩
      case round =>
        obtain ⟨k, rfl, hk, rfl, hg2⟩ := hrel
        by_cases hlk : k < ps.length
        · have g2 : (k : Int) < (ps.length : Int) := by omega
          have hx : wk.cell? ⟨b, off + k, none⟩ = some (ps[k]).1 := by
            obtain ⟨b', off', hab, hx⟩ := RowsP.at HC.out hlk
            simp only [Option.some.injEq, Addr.mk.injEq, and_true] at hab
            obtain ⟨rfl, rfl⟩ := hab
            exact hx
          have P1 := Lib.hid (HW.out _ (List.getElem_mem hlk))
          have HA : Hid (((ps.map Prod.snd).take (k + 1)).all (leastF q.2) = (((ps.map Prod.snd).take k).all (leastF q.2) && leastF q.2 (ps[k]).2)) := Lib.hid (by rw [all_snocW _ _ k (by simpa using hlk), snd_at ps k hlk])
          have HX := Lib.hid hx
          clear hx
          generalize ps[k] = p at *
          have hx1 := hg2.out.cell HX.out (by simp)
          have hy1 := hg2.out.cell HY.out (by simp)
          rename World => wi
          generalize ((ps.map Prod.snd).take k).all (leastF q.2) = least at *
          by_cases hc : compareI p.2 q.2 = 0
          · have HF : Hid (leastF q.2 p.2 = true) := Lib.hid (by simp [leastF, hc])
            have g3 : (compareI p.2 q.2 != 0) = false := by simp [hc]
            clear hc
            go_wp2_with fail
            go_big_quiet ((go_at_call 20; exact (rwcompare_any _ _ _ _ _ ((P1.out.same hg2.out).same (grown_drewN _ _ none)).1 ((Q1.out.same hg2.out).same (grown_drewN _ _ none)).1).mono (fun _ _ ⟨he, hd⟩ => ⟨he, by obtain ⟨m, rfl⟩ := hd; exact ⟨_ + m, by simp; rfl⟩⟩)))
            go_wp2_with fail
            go_roundw
            case rel => exact ⟨k + 1, by go_num, by omega, by rw [HA.out, HF.out]; simp, Lib.hid (grown_trans hg2.out (grown_drewN _ _ none))⟩
            case measure => simp [intOf]; omega

          · have g3 : (compareI p.2 q.2 != 0) = true := by simpa using hc
            cases hl2 : leqW p.2 q.2
            · have HF : Hid (leastF q.2 p.2 = true) := Lib.hid (by simp [leastF, hl2])
              have HL2 := Lib.hid hl2
              clear hc hl2
              have hnn : ∀ g : Nat, some g ≠ (none : Option Nat) := by intro g; simp
              go_wp2_with fail
              go_region_held3 (fun w' => w'.cell? ⟨b, off + k, none⟩ = some p.1 ∧ w'.cell? ⟨b, off + i, none⟩ = some q.1) (first | exact ⟨hx1, hy1⟩ | exact ⟨G38.out.cell hx1 (hnn _), G38.out.cell hy1 (hnn _)⟩ | exact ⟨G27.out.cell hx1 (hnn _), G27.out.cell hy1 (hnn _)⟩) (first
                | (refine step_call 27 20 _ _ _ _ _ Try.f20 _ Try.func20 (by kernel_rfl) rfl [p.1, q.1] (by kernel_rfl) _ (rwcompare_any _ _ _ _ _ ((P1.out.same hg2.out).same (grown_drew _ none)).1 ((Q1.out.same hg2.out).same (grown_drew _ none)).1) ?_; rintro e w27 ⟨rfl, hd⟩; refine ⟨_, rfl, ?_⟩; have G27 : Hid (wi.grownBy w27 none) := Lib.hid (grown_trans (grown_drew _ none) (hd.grown none)); clear hd)
                | (refine step_callG 38 22 _ _ _ _ _ _ Try.f22 _ (by kernel_rfl) Try.func22 (by kernel_rfl) rfl [p.1, q.1] (by kernel_rfl) _ (rleqW_any _ _ _ _ _ ((P1.out.same hg2.out).same G27.out).1 ((Q1.out.same hg2.out).same G27.out).1) ?_; rintro e w38 ⟨rfl, hd⟩; rw [HL2.out]; refine ⟨_, rfl, ?_⟩; have G38 : Hid (wi.grownBy w38 none) := Lib.hid (grown_trans G27.out hd); clear hd))
              go_wp2_with fail
              go_roundw
              case rel => exact ⟨k + 1, by go_num, by omega, by rw [HA.out, HF.out]; simp, Lib.hid (grown_trans hg2.out G38.out)⟩
              case measure => simp [intOf]; omega
            · have HF : Hid (leastF q.2 p.2 = false) := Lib.hid (by simp [leastF, hl2, hc])
              have HL2 := Lib.hid hl2
              clear hc hl2
              have hnn : ∀ g : Nat, some g ≠ (none : Option Nat) := by intro g; simp
              go_wp2_with fail
              go_region_held3 (fun w' => w'.cell? ⟨b, off + k, none⟩ = some p.1 ∧ w'.cell? ⟨b, off + i, none⟩ = some q.1) (first | exact ⟨hx1, hy1⟩ | exact ⟨G38.out.cell hx1 (hnn _), G38.out.cell hy1 (hnn _)⟩ | exact ⟨G27.out.cell hx1 (hnn _), G27.out.cell hy1 (hnn _)⟩) (first
                | (refine step_call 27 20 _ _ _ _ _ Try.f20 _ Try.func20 (by kernel_rfl) rfl [p.1, q.1] (by kernel_rfl) _ (rwcompare_any _ _ _ _ _ ((P1.out.same hg2.out).same (grown_drew _ none)).1 ((Q1.out.same hg2.out).same (grown_drew _ none)).1) ?_; rintro e w27 ⟨rfl, hd⟩; refine ⟨_, rfl, ?_⟩; have G27 : Hid (wi.grownBy w27 none) := Lib.hid (grown_trans (grown_drew _ none) (hd.grown none)); clear hd)
                | (refine step_callG 38 22 _ _ _ _ _ _ Try.f22 _ (by kernel_rfl) Try.func22 (by kernel_rfl) rfl [p.1, q.1] (by kernel_rfl) _ (rleqW_any _ _ _ _ _ ((P1.out.same hg2.out).same G27.out).1 ((Q1.out.same hg2.out).same G27.out).1) ?_; rintro e w38 ⟨rfl, hd⟩; rw [HL2.out]; refine ⟨_, rfl, ?_⟩; have G38 : Hid (wi.grownBy w38 none) := Lib.hid (grown_trans G27.out hd); clear hd))
              go_wp2_with fail
              go_roundw
              case rel => exact ⟨k + 1, by go_num, by omega, by rw [HA.out, HF.out]; simp, Lib.hid (grown_trans hg2.out G38.out)⟩
              case measure => simp [intOf]; omega
        · have hfull : Hid (((ps.map Prod.snd).take k).all (leastF q.2) = leastW (ps.map Prod.snd) q.2) := Lib.hid (by have := HLN.out; unfold leastW; rw [List.take_of_length_le (by omega)])
          have g2 : ¬ (k : Int) < (ps.length : Int) := by omega
          rw [hfull.out]
          have R2 := Lib.hid (hr.out.same hg2.out); have G2 := Lib.hid (grown_trans hg.out hg2.out)
          have Q2 := Lib.hid (Q1.out.same hg2.out)
          have hy1 := hg2.out.cell HY.out (by simp)
          have hql : qs.length ≤ 1000000 := by
            have e1 := congrArg List.length hm.out
            have e2 := minK_len (ps.map Prod.snd) i
            rw [List.length_map] at e1
            omega
          cases hlb : leastW (ps.map Prod.snd) q.2
          · have HB := Lib.hid hlb
            clear hlb
            go_wp2_with fail
            go_roundw
            case rel => exact ⟨i + 1, qs, by go_num, by omega, Lib.hid (by rw [HS.out, HB.out]; exact hm.out), R2, hgd, G2⟩
            case measure => simp [intOf]; omega
          · have HB := Lib.hid hlb
            clear hlb
            go_wp2_with fail
            refine (put_any _ _ _ _ _ R2.out hgd.out Q2.out hql QL.out).mono ?_
            rintro e w3 ⟨v3, qs', rfl, hr3, hgd3, hm3, hg3⟩
            have R3 := Lib.hid hr3; have D3 := Lib.hid hgd3; have M3 := Lib.hid hm3; have G3 := Lib.hid (grown_trans G2.out hg3)
            clear hr3 hgd3 hm3 hg3
            go_wp2_with fail
            go_roundw
            case rel => exact ⟨i + 1, qs', by go_num, by omega, Lib.hid (by rw [HS.out, HB.out, M3.out, hm.out]; rfl), R3, D3, G3⟩
            case measure => simp [intOf]; omega
    · have g1 : ¬ (i : Int) < (ps.length : Int) := by omega
      have e1 := HLN.out
      have E : Hid (minK (ps.map Prod.snd) i = minL (ps.map Prod.snd)) := Lib.hid (by unfold minK minL; rw [List.take_of_length_le (by omega)])
      clear e1
      go_wp2_with fail
      go_ret
      exact ⟨_, qs, rfl, hr.out, hgd.out, by rw [hm.out, E.out], hg.out⟩

end Go.Proofs.Ytaenkbcclgpphaa
