/- The reference's search for a column. -/
import Derived.Test.YtnppmemcdcgjhaaHd
namespace Go.Proofs.Ytnppmemcdcgjhaa
open Go.RowKit
set_option linter.unusedVariables false

/-- A row of owners (less 1), a row of marks. -/
def RowO (w : World) (g n : Nat) (O : List Nat) : Prop := O.length = 12 ∧ n ≤ 12 ∧ w.heap[g]? = some (.cells ((O.take n).map (fun x : Nat => Value.int .i64 ((x : Int) - 1))).toArray 3 (0, 0))
def RowS (w : World) (g n : Nat) (S : List Bool) : Prop := S.length = 12 ∧ n ≤ 12 ∧ w.heap[g]? = some (.cells ((S.take n).map Value.bool).toArray 4 (0, 0))
theorem RowO.cell {w : World} {g n j : Nat} {O : List Nat} (h : RowO w g n O) (hj : j < n) : w.cell? ⟨g, j, none⟩ = some (.int .i64 ((ow O j : Int) - 1)) ∧ w.frozen? ⟨g, j, none⟩ = false := by
  have hl : j < O.length := by rw [h.1]; have := h.2.1; omega
  refine ⟨?_, by unfold World.frozen?; dsimp only; rw [h.2.2]; rfl⟩
  unfold World.cell?
  dsimp only
  rw [h.2.2]
  simp [ow, hl, hj]
theorem RowS.cell {w : World} {g n j : Nat} {S : List Bool} (h : RowS w g n S) (hj : j < n) : w.cell? ⟨g, j, none⟩ = some (.bool (sn S j)) ∧ w.frozen? ⟨g, j, none⟩ = false := by
  have hl : j < S.length := by rw [h.1]; have := h.2.1; omega
  refine ⟨?_, by unfold World.frozen?; dsimp only; rw [h.2.2]; rfl⟩
  unfold World.cell?
  dsimp only
  rw [h.2.2]
  simp [sn, hl, hj]
theorem RowO.set {w : World} {g n : Nat} {O : List Nat} (h : RowO w g n O) (j v : Nat) : RowO (w.setCell ⟨g, j, none⟩ (.int .i64 (v : Int))) g n (O.set j (v + 1)) :=
  ⟨by simpa using h.1, h.2.1, by rw [heap_set h.2.2, List.take_set]; simp [List.map_set]⟩
theorem RowS.set {w : World} {g n : Nat} {S : List Bool} (h : RowS w g n S) (j : Nat) (v : Bool) : RowS (w.setCell ⟨g, j, none⟩ (.bool v)) g n (S.set j v) :=
  ⟨by simpa using h.1, h.2.1, by rw [heap_set h.2.2, List.take_set]; simp [List.map_set]⟩
structure AugR (w0 w : World) (bo bs n : Nat) (O : List Nat) (S : List Bool) : Prop where
  g : w0.grownBy w none
  o : RowO w bo n O
  s : RowS w bs n S
  ho : w0.heap.size ≤ bo
  hs : w0.heap.size ≤ bs
  ne : bo ≠ bs
theorem AugR.setS {w0 w : World} {bo bs n : Nat} {O : List Nat} {S : List Bool} (h : AugR w0 w bo bs n O S) (j : Nat) (v : Bool) : AugR w0 (w.setCell ⟨bs, j, none⟩ (.bool v)) bo bs n O (S.set j v) :=
  ⟨grown_then h.g (grown_set w _ _) (by rintro k ⟨⟩; exact .inl h.hs), ⟨h.o.1, h.o.2.1, ((grown_set w ⟨bs, j, none⟩ (.bool v)).block bo (Array.getElem?_eq_some_iff.1 h.o.2.2).1 (by have := h.ne; simpa using this)).trans h.o.2.2⟩, h.s.set j v, h.ho, h.hs, h.ne⟩
theorem AugR.setO {w0 w : World} {bo bs n : Nat} {O : List Nat} {S : List Bool} (h : AugR w0 w bo bs n O S) (j v : Nat) : AugR w0 (w.setCell ⟨bo, j, none⟩ (.int .i64 (v : Int))) bo bs n (O.set j (v + 1)) S :=
  ⟨grown_then h.g (grown_set w _ _) (by rintro k ⟨⟩; exact .inl h.ho), h.o.set j v, ⟨h.s.1, h.s.2.1, ((grown_set w ⟨bo, j, none⟩ (.int .i64 (v : Int))).block bs (Array.getElem?_eq_some_iff.1 h.s.2.2).1 (by have := h.ne; simp; omega)).trans h.s.2.2⟩, h.ho, h.hs, h.ne⟩

def TryPost (T : List (List Bool)) (row : Nat) (O : List Nat) (S : List Bool) (w0 : World) (bo bs n : Nat) (e : Ending) (w' : World) : Prop :=
  ∃ O' S', AugR w0 w' bo bs n O' S' ∧ ((e = .returned (.bool true) ∧ Win T row O S O' S') ∨ (e = .returned (.bool false) ∧ O' = O ∧ Lose T row O S S' 12))

set_option maxRecDepth 100000 in
set_option maxHeartbeats 2000000 in
theorem try_any (vt : Value) (ps : List BRow) (w0 : World) (bo bs n : Nat) (ht : BRowsP w0 vt ps) (hc12 : ∀ p ∈ ps, p.2.length = n) (m : Nat) :
    ∀ (row : Nat) (O : List Nat) (S : List Bool) (w : World), S.count false = m → row < ps.length → ps.length ≤ 12 → AugPre (ps.map Prod.snd) row O S → AugR w0 w bo bs n O S →
    Calls Try.prog 67 #[vt, .int .i64 (row : Int), .slice (some ⟨bs, 0, none⟩) n n, .slice (some ⟨bo, 0, none⟩) n n] w (TryPost (ps.map Prod.snd) row O S w0 bo bs n) := by
  induction m using Nat.strongRecOn with
  | ind m ih =>
  intro row O S w hm hrow hp12 hpre haug
  have HT := Lib.hid ht; have IH := Lib.hid ih; have HM := Lib.hid hm; have HP := Lib.hid hpre; have HA := Lib.hid haug; have HC := Lib.hid hc12
  obtain ⟨a, cap, rfl, hml, hct, hrs⟩ := ht
  have HRS := Lib.hid hrs
  have HRW : Hid (BOk w0 ps[row]) := Lib.hid (hrs _ (List.getElem_mem hrow))
  obtain ⟨b, off, rfl, hcell0⟩ := BRowsP.at hct hrow
  have HC0 := Lib.hid hcell0
  have HN12 : Hid (n ≤ 12) := Lib.hid haug.o.2.1
  clear hct hrs hcell0 ih hm hpre haug hc12
  have hTl : row < (ps.map Prod.snd).length := by simpa using hrow
  have HTB : Hid (∀ j, tb (ps.map Prod.snd) row j = (ps[row]).2[j]?.getD false) := Lib.hid (fun j => by rw [tb_row hTl]; simp)
  have HLN : Hid ((ps[row]).2.length = n) := Lib.hid (HC.out _ (List.getElem_mem hrow))
  have HOB : Hid (∀ j, ow O j ≠ 0 → ow O j - 1 < ps.length) := Lib.hid (fun j hj => by
    obtain ⟨h1, -⟩ := tb_lt (HP.out.edge j hj)
    simpa using h1)
  have HTW : Hid (∀ r k, tb (ps.map Prod.snd) r k = true → k < 12) := Lib.hid (fun r k hk => by
    obtain ⟨h1, h2⟩ := tb_lt hk
    have h3 : r < ps.length := by simpa using h1
    have := HC.out _ (List.getElem_mem h3)
    have := HN12.out
    simp at h2
    omega)
  generalize hR : ps[row] = R at *
  clear hR
  obtain ⟨rv, R⟩ := R
  obtain ⟨⟨ra, rc, hrv, hrl, hrc⟩, -⟩ := HRW.out
  dsimp only at hrv
  subst hrv
  have HRC := Lib.hid hrc
  dsimp only at HTB HLN
  clear hTl hrc HRW HC
  go_enter Try.func67, Try.ntmps67
  have h1 : (row : Int) < (ps.length : Int) := by omega
  go_wp2_with fail
  go_loopw [9] (fun i wr => ∃ (j : Nat) (S0 : List Bool), i = .int .i64 j ∧ j ≤ R.length ∧ Hid (AugR w0 wr bo bs n O S0) ∧ Hid (Lose (ps.map Prod.snd) row O S S0 j)) (fun i _ => R.length - (intOf i).toNat)
  case atStart => exact ⟨0, S, rfl, Nat.zero_le _, HA, Lib.hid lose_start⟩
  case round =>
    obtain ⟨j, S0, rfl, hj, hA, hL⟩ := hrel
    have hcell := hA.out.g.cell HC0.out (by simp)
    by_cases hjb : j < R.length
    · have hjn : j < n := by have := HLN.out; omega
      have hj12 : j < 12 := by have := HN12.out; omega
      obtain ⟨rb, ro, rfl, hbit0⟩ := Bools.at HRC.out hjb
      have hbit := hA.out.g.cell hbit0 (by simp)
      have h2 : (j : Int) < (R.length : Int) := by omega
      have h12 : (j : Int) < (n : Int) := by omega
      have TBJ := Lib.hid (HTB.out j)
      obtain ⟨hs1, hs2⟩ := hA.out.s.cell hjn
      obtain ⟨ho1, -⟩ := hA.out.o.cell hjn
      clear hbit0
      generalize R[j]?.getD false = fits at *
      have i1 : IntKind.i64.wrap ((j : Int) + 1) = (j : Int) + 1 := IntWalk.i64_in _ (by omega)
      cases fits with
      | false =>
        go_wp2_with fail
        go_roundw
        case rel => exact ⟨j + 1, S0, by go_num, by omega, hA, Lib.hid (hL.out.skip (.inl TBJ.out))⟩
        case measure => simp [intOf]; omega
      | true =>
        generalize hseen : sn S0 j = seen at *
        cases seen with
        | true =>
          have HSE := Lib.hid hseen
          clear hseen
          go_wp2_with fail
          go_roundw
          case rel => exact ⟨j + 1, S0, by go_num, by omega, hA, Lib.hid (hL.out.skip (.inr HSE.out))⟩
          case measure => simp [intOf]; omega
        | false =>
          have HSE := Lib.hid hseen
          have hA2 := Lib.hid (hA.out.setS j true)
          clear hseen ho1
          obtain ⟨ho2, hf2⟩ := hA2.out.o.cell hjn
          have hcell2 := hA2.out.g.cell HC0.out (by simp)
          have hS0l : j < S0.length := by rw [hA.out.s.1]; exact hj12
          have hcnt : Hid ((S0.set j true).count false < m) := Lib.hid (by
            have h5 := count_set S0 j hS0l HSE.out
            have h6 := count_mono S S0 (by rw [hA.out.s.1, HA.out.s.1]) hL.out.mono
            have h7 := HM.out
            omega)
          by_cases hz : ow O j = 0
          · have HZ := Lib.hid hz
            have hA3 := Lib.hid (hA2.out.setO j row)
            rw [hz, show (((0 : Nat) : Int) - 1) = -1 by rfl] at ho2
            clear hz
            go_wp2_with fail
            go_ret
            exact ⟨_, _, hA3.out, .inl ⟨rfl, win_free HP.out hL.out (by rw [HA.out.o.1]; exact hj12) hS0l TBJ.out HSE.out HZ.out⟩⟩
          · have HZ := Lib.hid hz
            have HQ : Hid (ow O j - 1 < ps.length) := Lib.hid (HOB.out j hz)
            have HPD := Lib.hid (HP.out.deep hS0l hz)
            rw [show ((ow O j : Nat) : Int) - 1 = ((ow O j - 1 : Nat) : Int) by omega] at ho2
            have hzi : ¬ ((ow O j - 1 : Nat) : Int) < 0 := by omega
            have IHH := Lib.hid (IH.out _ hcnt.out (ow O j - 1) O (S0.set j true) _ rfl HQ.out hp12 HPD.out hA2.out)
            clear hz
            generalize hq : ow O j - 1 = q at *
            have HQE := Lib.hid hq
            clear hq
            go_wp2_with fail
            refine IHH.out.mono ?_
            rintro e w1 ⟨O1, S1, ha1, (⟨rfl, hw⟩ | ⟨rfl, rfl, hl⟩)⟩
            · have hA4 := Lib.hid ha1; have HW := Lib.hid hw
              have hA5 := Lib.hid (ha1.setO j row)
              obtain ⟨ho5, hf5⟩ := ha1.o.cell hjn
              clear ha1 hw ho2 hf2 hs1 hs2 IHH
              go_wp2_with fail
              go_ret
              exact ⟨_, _, hA5.out, .inl ⟨rfl, win_deep HP.out hL.out (by rw [hA4.out.o.1]; exact hj12) hS0l TBJ.out HSE.out HZ.out (by rw [HQE.out]; exact HW.out)⟩⟩
            · have hA4 := Lib.hid ha1; have HW := Lib.hid hl
              clear ha1 hl ho2 hf2 hs1 hs2 IHH
              go_wp2_with fail
              go_roundw
              case rel => exact ⟨j + 1, S1, by go_num, by omega, hA4, Lib.hid (hL.out.fail hS0l HZ.out (by rw [HQE.out]; exact HW.out) (fun k hk => HTW.out _ k hk))⟩
              case measure => simp [intOf]; omega
    · have h2 : ¬ (j : Int) < (R.length : Int) := by omega
      go_wp2_with fail
      go_ret
      exact ⟨O, S0, hA.out, .inr ⟨rfl, rfl, ⟨hL.out.mono, fun k _ hk => hL.out.all k (by
        have := HTB.out k
        rw [hk] at this
        by_cases hkl : k < R.length
        · omega
        · rw [List.getElem?_eq_none (by omega)] at this; simp at this) hk, hL.out.clos⟩⟩⟩

end Go.Proofs.Ytnppmemcdcgjhaa
