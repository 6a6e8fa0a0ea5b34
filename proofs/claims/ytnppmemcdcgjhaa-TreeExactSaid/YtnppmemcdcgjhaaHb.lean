/- augment: the contract. -/
import Derived.Test.YtnppmemcdcgjhaaHa
import Derived.Test.YtnppmemcdcgjhaaGb
namespace Go.Proofs.Ytnppmemcdcgjhaa
open Go.RowKit
set_option linter.unusedVariables false

/-- An array of owners, an array of marks. -/
def ArrO (w : World) (g : Nat) (O : List Nat) : Prop := O.length = 12 ∧ w.heap[g]? = some (.cells (O.map (fun n : Nat => Value.int .i64 (n : Int))).toArray 78 (0, 0))
def ArrS (w : World) (g : Nat) (S : List Bool) : Prop := S.length = 12 ∧ w.heap[g]? = some (.cells (S.map Value.bool).toArray 68 (0, 0))
theorem ArrO.cell {w : World} {g j : Nat} {O : List Nat} (h : ArrO w g O) (hj : j < 12) : w.cell? ⟨g, j, none⟩ = some (.int .i64 ((ow O j : Nat) : Int)) ∧ w.frozen? ⟨g, j, none⟩ = false := by
  have hl : j < O.length := by rw [h.1]; exact hj
  refine ⟨?_, by unfold World.frozen?; dsimp only; rw [h.2]; rfl⟩
  unfold World.cell?
  dsimp only
  rw [h.2]
  simp [ow, hl]
theorem ArrS.cell {w : World} {g j : Nat} {S : List Bool} (h : ArrS w g S) (hj : j < 12) : w.cell? ⟨g, j, none⟩ = some (.bool (sn S j)) ∧ w.frozen? ⟨g, j, none⟩ = false := by
  have hl : j < S.length := by rw [h.1]; exact hj
  refine ⟨?_, by unfold World.frozen?; dsimp only; rw [h.2]; rfl⟩
  unfold World.cell?
  dsimp only
  rw [h.2]
  simp [sn, hl]
theorem ArrO.set {w : World} {g : Nat} {O : List Nat} (h : ArrO w g O) (j v : Nat) : ArrO (w.setCell ⟨g, j, none⟩ (.int .i64 (v : Int))) g (O.set j v) :=
  ⟨by simpa using h.1, by rw [heap_set h.2]; simp⟩
theorem ArrS.set {w : World} {g : Nat} {S : List Bool} (h : ArrS w g S) (j : Nat) (v : Bool) : ArrS (w.setCell ⟨g, j, none⟩ (.bool v)) g (S.set j v) :=
  ⟨by simpa using h.1, by rw [heap_set h.2]; simp⟩
/-- What the search holds. -/
structure Aug (w0 w : World) (bo bs : Nat) (O : List Nat) (S : List Bool) : Prop where
  g : w0.grownBy w none
  o : ArrO w bo O
  s : ArrS w bs S
  ho : w0.heap.size ≤ bo
  hs : w0.heap.size ≤ bs
  ne : bo ≠ bs
theorem Aug.setS {w0 w : World} {bo bs : Nat} {O : List Nat} {S : List Bool} (h : Aug w0 w bo bs O S) (j : Nat) (v : Bool) : Aug w0 (w.setCell ⟨bs, j, none⟩ (.bool v)) bo bs O (S.set j v) :=
  ⟨grown_then h.g (grown_set w _ _) (by rintro k ⟨⟩; exact .inl h.hs), ⟨h.o.1, ((grown_set w ⟨bs, j, none⟩ (.bool v)).block bo (Array.getElem?_eq_some_iff.1 h.o.2).1 (by have := h.ne; simpa using this)).trans h.o.2⟩, h.s.set j v, h.ho, h.hs, h.ne⟩
theorem Aug.setO {w0 w : World} {bo bs : Nat} {O : List Nat} {S : List Bool} (h : Aug w0 w bo bs O S) (j v : Nat) : Aug w0 (w.setCell ⟨bo, j, none⟩ (.int .i64 (v : Int))) bo bs (O.set j v) S :=
  ⟨grown_then h.g (grown_set w _ _) (by rintro k ⟨⟩; exact .inl h.ho), h.o.set j v, ⟨h.s.1, ((grown_set w ⟨bo, j, none⟩ (.int .i64 (v : Int))).block bs (Array.getElem?_eq_some_iff.1 h.s.2).1 (by have := h.ne; simp; omega)).trans h.s.2⟩, h.ho, h.hs, h.ne⟩

def AugPost (T : List (List Bool)) (row : Nat) (O : List Nat) (S : List Bool) (w0 : World) (bo bs : Nat) (e : Ending) (w' : World) : Prop :=
  ∃ O' S', Aug w0 w' bo bs O' S' ∧ ((e = .returned (.bool true) ∧ Win T row O S O' S') ∨ (e = .returned (.bool false) ∧ O' = O ∧ Lose T row O S S' 12))
theorem tb_lt {T : List (List Bool)} {r j : Nat} (h : tb T r j = true) : ∃ hr : r < T.length, j < (T[r]).length := by
  unfold tb at h
  by_cases hr : r < T.length
  · rw [List.getElem?_eq_getElem hr, Option.getD_some] at h
    refine ⟨hr, ?_⟩
    by_cases hj : j < (T[r]).length
    · exact hj
    · rw [List.getElem?_eq_none (show (T[r]).length ≤ j by omega)] at h; simp at h
  · rw [List.getElem?_eq_none (show T.length ≤ r by omega)] at h; simp at h
theorem tb_row {T : List (List Bool)} {r : Nat} (hr : r < T.length) (j : Nat) : tb T r j = (T[r])[j]?.getD false := by
  unfold tb; rw [List.getElem?_eq_getElem hr, Option.getD_some]

set_option maxRecDepth 100000 in
set_option maxHeartbeats 2000000 in
theorem augment_any (vt : Value) (ps : List BRow) (w0 : World) (bo bs : Nat) (ht : BRowsP w0 vt ps) (hr12 : ps.length ≤ 12) (hc12 : ∀ p ∈ ps, p.2.length ≤ 12) (m : Nat) :
    ∀ (row : Nat) (O : List Nat) (S : List Bool) (w : World), S.count false = m → row < ps.length → AugPre (ps.map Prod.snd) row O S → Aug w0 w bo bs O S →
    Calls Try.prog 66 #[vt, .int .i64 (row : Int), .pointer (some ⟨bo, 0, none⟩), .pointer (some ⟨bs, 0, none⟩)] w (AugPost (ps.map Prod.snd) row O S w0 bo bs) := by
  induction m using Nat.strongRecOn with
  | ind m ih =>
  intro row O S w hm hrow hpre haug
  have HT := Lib.hid ht; have IH := Lib.hid ih; have HM := Lib.hid hm; have HP := Lib.hid hpre; have HA := Lib.hid haug; have HC := Lib.hid hc12
  obtain ⟨a, cap, rfl, hml, hct, hrs⟩ := ht
  have HRS := Lib.hid hrs
  have HRW : Hid (BOk w0 ps[row]) := Lib.hid (hrs _ (List.getElem_mem hrow))
  obtain ⟨b, off, rfl, hcell0⟩ := BRowsP.at hct hrow
  have HC0 := Lib.hid hcell0
  clear hct hrs hcell0 ih hm hpre haug hc12
  have hTl : row < (ps.map Prod.snd).length := by simpa using hrow
  have HTB : Hid (∀ j, tb (ps.map Prod.snd) row j = (ps[row]).2[j]?.getD false) := Lib.hid (fun j => by rw [tb_row hTl]; simp)
  have HL12 : Hid ((ps[row]).2.length ≤ 12) := Lib.hid (HC.out _ (List.getElem_mem hrow))
  have HOB : Hid (∀ j, ow O j ≠ 0 → ow O j - 1 < ps.length) := Lib.hid (fun j hj => by
    obtain ⟨h1, -⟩ := tb_lt (HP.out.edge j hj)
    simpa using h1)
  have HTW : Hid (∀ r k, tb (ps.map Prod.snd) r k = true → k < 12) := Lib.hid (fun r k hk => by
    obtain ⟨h1, h2⟩ := tb_lt hk
    have h3 : r < ps.length := by simpa using h1
    have := HC.out _ (List.getElem_mem h3)
    simp at h2
    omega)
  generalize hR : ps[row] = R at *
  clear hR
  obtain ⟨rv, R⟩ := R
  obtain ⟨⟨ra, rc, hrv, hrl, hrc⟩, -⟩ := HRW.out
  dsimp only at hrv
  subst hrv
  have HRC := Lib.hid hrc
  dsimp only at HTB HL12
  clear hTl hrc HRW HC
  go_enter Try.func66, Try.ntmps66
  have hcell := HA.out.g.cell HC0.out (by simp)
  have h1 : (row : Int) < (ps.length : Int) := by omega
  go_wp2_with fail
  clear hcell
  go_loopw [16] (fun i wr => ∃ (j : Nat) (S0 : List Bool), i = .int .i64 j ∧ j ≤ R.length ∧ Hid (Aug w0 wr bo bs O S0) ∧ Hid (Lose (ps.map Prod.snd) row O S S0 j)) (fun i _ => R.length - (intOf i).toNat)
  case atStart => exact ⟨0, S, rfl, Nat.zero_le _, HA, Lib.hid lose_start⟩
  case round =>
    obtain ⟨j, S0, rfl, hj, hA, hL⟩ := hrel
    by_cases hjb : j < R.length
    · have hj12 : j < 12 := by have := HL12.out; omega
      obtain ⟨rb, ro, rfl, hbit0⟩ := Bools.at HRC.out hjb
      have hbit := hA.out.g.cell hbit0 (by simp)
      have h2 : (j : Int) < (R.length : Int) := by omega
      have h12 : (j : Int) < 12 := by omega
      have TBJ := Lib.hid (HTB.out j)
      obtain ⟨hs1, hs2⟩ := hA.out.s.cell hj12
      obtain ⟨ho1, -⟩ := hA.out.o.cell hj12
      clear hbit0
      generalize R[j]?.getD false = fits at *
      have i1 : IntKind.i64.wrap ((j : Int) + 1) = (j : Int) + 1 := IntWalk.i64_in _ (by omega)
      cases fits with
      | false =>
        go_wp2_with fail
        go_roundw
        case rel => exact ⟨j + 1, S0, by go_num, by omega, hA, Lib.hid (hL.out.skip (.inl TBJ.out))⟩
        case measure => simp [intOf]; omega
      | true =>
        generalize hseen : sn S0 j = seen at *
        cases seen with
        | true =>
          have HSE := Lib.hid hseen
          clear hseen
          go_wp2_with fail
          go_roundw
          case rel => exact ⟨j + 1, S0, by go_num, by omega, hA, Lib.hid (hL.out.skip (.inr HSE.out))⟩
          case measure => simp [intOf]; omega
        | false =>
          have HSE := Lib.hid hseen
          have hA2 := Lib.hid (hA.out.setS j true)
          clear hseen ho1
          obtain ⟨ho2, hf2⟩ := hA2.out.o.cell hj12
          have hS0l : j < S0.length := by rw [hA.out.s.1]; exact hj12
          have hcnt : Hid ((S0.set j true).count false < m) := Lib.hid (by
            have h5 := count_set S0 j hS0l HSE.out
            have h6 := count_mono S S0 (by rw [hA.out.s.1, HA.out.s.1]) hL.out.mono
            have h7 := HM.out
            omega)
          have i2 : IntKind.i64.wrap ((row : Int) + 1) = ((row + 1 : Nat) : Int) := by rw [IntWalk.i64_in _ (by omega)]; omega
          by_cases hz : ow O j = 0
          · have HZ := Lib.hid hz
            have hA3 := Lib.hid (hA2.out.setO j (row + 1))
            rw [hz] at ho2
            clear hz
            go_wp2_with fail
            go_ret
            exact ⟨_, _, hA3.out, .inl ⟨rfl, win_free HP.out hL.out (by rw [HA.out.o.1]; exact hj12) hS0l TBJ.out HSE.out HZ.out⟩⟩
          · have HZ := Lib.hid hz
            have HQ : Hid (ow O j - 1 < ps.length) := Lib.hid (HOB.out j hz)
            have i3 : IntKind.i64.wrap (((ow O j : Nat) : Int) - 1) = ((ow O j - 1 : Nat) : Int) := by
              have := HQ.out
              rw [IntWalk.i64_in _ (by omega)]; omega
            have hzi : ¬ ((ow O j : Nat) : Int) = 0 := by omega
            have HPD := Lib.hid (HP.out.deep hS0l hz)
            clear hz
            generalize hq : ((ow O j : Nat) : Int) = q at *
            clear hq
            go_wp2_with fail
            refine (IH.out _ hcnt.out (ow O j - 1) O (S0.set j true) _ rfl HQ.out HPD.out hA2.out).mono ?_
            rintro e w1 ⟨O1, S1, ha1, (⟨rfl, hw⟩ | ⟨rfl, rfl, hl⟩)⟩
            · have hA4 := Lib.hid ha1; have HW := Lib.hid hw
              have hA5 := Lib.hid (ha1.setO j (row + 1))
              obtain ⟨ho5, hf5⟩ := ha1.o.cell hj12
              clear ha1 hw ho2 hf2 hs1 hs2
              go_wp2_with fail
              go_ret
              exact ⟨_, _, hA5.out, .inl ⟨rfl, win_deep HP.out hL.out (by rw [hA4.out.o.1]; exact hj12) hS0l TBJ.out HSE.out HZ.out HW.out⟩⟩
            · have hA4 := Lib.hid ha1; have HW := Lib.hid hl
              clear ha1 hl ho2 hf2 hs1 hs2
              go_wp2_with fail
              go_roundw
              case rel => exact ⟨j + 1, S1, by go_num, by omega, hA4, Lib.hid (hL.out.fail hS0l HZ.out HW.out (fun k hk => HTW.out _ k hk))⟩
              case measure => simp [intOf]; omega
    · have h2 : ¬ (j : Int) < (R.length : Int) := by omega
      go_wp2_with fail
      go_ret
      exact ⟨O, S0, hA.out, .inr ⟨rfl, rfl, ⟨hL.out.mono, fun k _ hk => hL.out.all k (by
        have := HTB.out k
        rw [hk] at this
        by_cases hkl : k < R.length
        · omega
        · rw [List.getElem?_eq_none (by omega)] at this; simp at this) hk, hL.out.clos⟩⟩⟩

end Go.Proofs.Ytnppmemcdcgjhaa
