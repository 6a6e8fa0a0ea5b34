/- Split: the errors of the program; the reference; one answer for both sides. -/
import Derived.Test.YtgcfafjgaifmiaaFp
namespace Go.Proofs.Ytgcfafjgaifmiaa
open Go.RowKit
set_option linter.unusedVariables false

section
variable {r c : Nat} {ms : List Row} {va vx : Value} {x : List Int} {w : World}
theorem Split_no (h : RowsI w va ms) (hno : ¬ ShapeOk ms) (hl : ms.length ≤ 1000) :
    Calls Try.prog 24 #[va, vx] w fun e w' => e = .returned (.tuple #[.slice none 0 0, .int .i64 10]) ∧ w.grownBy w' none := by
  have HA := Lib.hid h
  obtain ⟨aa, capa, rfl, -⟩ : ∃ a cap, va = .slice a ms.length cap ∧ True := by obtain ⟨a, cap, h, -⟩ := h; exact ⟨a, cap, h, trivial⟩
  clear h
  go_enter Try.func24, Try.ntmps24
  go_wp2_with (at_make; refine make_int rfl _ _ rfl ms.length rfl rfl (by omega) ?_)
  intro w1 ho hg
  have HG := Lib.hid hg
  clear ho hg
  go_wp2_with fail
  refine (hcheck_no (HA.out.same HG.out) hno).mono ?_
  rintro e w2 ⟨rfl, hw⟩
  replace hw := hw.symm
  subst hw
  go_wp2_with fail
  go_ret2
  exact ⟨rfl, HG.out⟩
set_option maxRecDepth 100000 in
theorem Split_len (h : RowsP w va ms) (hm : MatOkP r c ms) (hr : r ≤ 6) (hc : c ≤ 6) (hx : Ints w vx x) (hl : x.length ≠ c) :
    Calls Try.prog 24 #[va, vx] w fun e w' => e = .returned (.tuple #[.slice none 0 0, .int .i64 3]) ∧ w.grownBy w' none := by
  have HM := Lib.hid hm; have HA := Lib.hid h
  have hml := hm.1
  have h0 : 0 < ms.length := by have := hm.2.1; omega
  have hl6 : ms.length ≤ 6 := by omega
  have p1 : 0 < (ms.length : Int) := by omega
  obtain ⟨aa, capa, rfl, -⟩ : ∃ a cap, va = .slice a ms.length cap ∧ True := by obtain ⟨a, cap, h, -⟩ := h; exact ⟨a, cap, h, trivial⟩
  obtain ⟨ax, capx, hvx, hxl, -⟩ := hx
  unfold maxLen at hxl
  subst hvx
  obtain ⟨b, off, a2, c2, rfl, hc0, -, -⟩ := h.row h0
  rw [(hm.2.2.2.2.2.2 _ (List.getElem_mem h0)).1, Nat.add_zero] at hc0
  have HC := Lib.hid hc0
  have HML := Lib.hid hml
  have p4 : ((x.length : Int) != (c : Int)) = true := by simp; omega
  clear h hm hl hml hc0
  go_enter Try.func24, Try.ntmps24
  go_wp2_with (at_make; refine make_int rfl _ _ rfl ms.length rfl rfl (by omega) ?_)
  intro w1 ho hg
  have HZ : Hid (Ints w1 (.slice (some ⟨w.heap.size, 0, none⟩) ms.length ms.length) (zerosL r)) := Lib.hid (by rw [← HML.out]; exact ho.ints (zeros_bd _))
  have HG := Lib.hid hg
  have hc1 := hg.cell HC.out (by simp)
  clear ho hg
  go_wp2_with fail
  refine (hcheck_any (HA.out.same HG.out) HM.out hr hc HZ.out (zeros_ok r)).mono ?_
  rintro e w2 ⟨rfl, hw⟩
  replace hw := hw.symm
  subst hw
  go_wp2_with fail
  go_ret2
  exact ⟨rfl, HG.out⟩
end
end Go.Proofs.Ytgcfafjgaifmiaa

namespace Go.Proofs.Ytgcfafjgaifmiaa
open Go.RowKit
set_option linter.unusedVariables false

def FineX (x : List Int) : Prop := (∀ z ∈ x, 0 ≤ z ∧ z ≤ 10) ∧ sumI x ≤ 10
theorem take_fine {x : List Int} {k : Nat} (h : ∀ z ∈ x.take k, 0 ≤ z ∧ z ≤ 10) : 0 ≤ sumI (x.take k) ∧ sumI (x.take k) ≤ 10 * (k : Int) := by
  have key : ∀ (l : List Int), (∀ y ∈ l, 0 ≤ y ∧ y ≤ 10) → 0 ≤ sumI l ∧ sumI l ≤ 10 * (l.length : Int) := by
    intro l
    induction l with
    | nil => intro _; exact ⟨Int.le_refl _, Int.le_refl _⟩
    | cons a l ih =>
      intro hl
      have e : sumI (a :: l) = a + sumI l := rfl
      have h0 := ih (fun y hy => hl y (by simp [hy]))
      have ha := hl a (by simp)
      rw [e, List.length_cons]
      omega
  have := key (x.take k) h
  rw [List.length_take] at this
  omega
theorem take_more {x : List Int} {k : Nat} (hk : k < x.length) (h : ∀ z ∈ x.take k, 0 ≤ z ∧ z ≤ 10) (h1 : 0 ≤ x[k]?.getD 0 ∧ x[k]?.getD 0 ≤ 10) : ∀ z ∈ x.take (k + 1), 0 ≤ z ∧ z ≤ 10 := by
  intro z hz
  rw [take_snoc' x k hk] at hz
  rcases List.mem_append.1 hz with hz | hz
  · exact h z hz
  · rw [List.mem_singleton.1 hz]; exact h1
theorem not_fine_at {x : List Int} {k : Nat} (hk : k < x.length) (h : ¬ (0 ≤ x[k]?.getD 0 ∧ x[k]?.getD 0 ≤ 10)) : ¬ FineX x := by
  intro hf
  rw [List.getElem?_eq_getElem hk] at h
  exact h (hf.1 _ (List.getElem_mem hk))
section
variable {r c : Nat} {ms : List Row} {va vx : Value} {x : List Int} {w : World} {err : Int}
set_option maxRecDepth 100000 in
set_option maxHeartbeats 2000000 in
theorem Split_bad (h : RowsP w va ms) (hm : MatOkP r c ms) (hr : r ≤ 6) (hc : c ≤ 6) (hx : Ints w vx x) (hxl : x.length = c) (hb : (¬ FineX x ∧ err = 2) ∨ (FineX x ∧ solB ms (zerosL r) x = false ∧ err = 11)) :
    Calls Try.prog 24 #[va, vx] w fun e w' => e = .returned (.tuple #[.slice none 0 0, .int .i64 err]) ∧ w.grownBy w' none := by
  have HM := Lib.hid hm; have HA := Lib.hid h; have HX := Lib.hid hx; have HXL := Lib.hid hxl; have HB := Lib.hid hb
  obtain ⟨hl, hr1, hr12, hc1, hc12, hrc, hq⟩ := hm
  obtain ⟨aa, capa, rfl, -⟩ : ∃ a cap, va = .slice a ms.length cap ∧ True := by obtain ⟨a, cap, h, -⟩ := h; exact ⟨a, cap, h, trivial⟩
  obtain ⟨ax, cx, hvx, -, -, hxc⟩ := id hx
  subst hvx
  have h0 : 0 < ms.length := by omega
  obtain ⟨b, off, a2, c2, rfl, hc0, -, -⟩ := h.row h0
  rw [(hq _ (List.getElem_mem h0)).1, Nat.add_zero] at hc0
  have p1 : 0 < (ms.length : Int) := by omega
  have p4 : ((x.length : Int) != (c : Int)) = false := by simp; omega
  have hx6 : x.length ≤ 6 := by omega
  have hl6 : ms.length ≤ 6 := by omega
  have HL := Lib.hid hl; have HC0 := Lib.hid hc0
  clear h hx hxl hq hl hb hc0 hxc
  go_enter Try.func24, Try.ntmps24
  go_wp2_with (at_make; refine make_int rfl _ _ rfl ms.length rfl rfl (by omega) ?_)
  intro w1 ho hg
  have HZ : Hid (Ints w1 (.slice (some ⟨w.heap.size, 0, none⟩) ms.length ms.length) (zerosL r)) := Lib.hid (by rw [← HL.out]; exact ho.ints (zeros_bd _))
  have HG := Lib.hid hg
  have hc1' := hg.cell HC0.out (by simp)
  clear ho hg
  go_wp2_with fail
  refine (hcheck_any (HA.out.same HG.out) HM.out hr hc HZ.out (zeros_ok r)).mono ?_
  rintro e w2 ⟨rfl, hw⟩
  replace hw := hw.symm
  subst hw
  go_wp2_with fail
  clear p4 hc1'
  go_loopw [33, 8] (fun i s wr => ∃ k : Nat, k ≤ x.length ∧ i = .int .i64 k ∧ s = .int .i64 (sumI (x.take k)) ∧ Hid (∀ z ∈ x.take k, 0 ≤ z ∧ z ≤ 10) ∧ wr = w1) (fun i _ _ => x.length - (intOf i).toNat)
  case atStart => exact ⟨0, Nat.zero_le _, rfl, rfl, Lib.hid (by simp), rfl⟩
  case round =>
    obtain ⟨k, hk, rfl, rfl, HF, rfl⟩ := hrel
    have hbd := take_fine HF.out
    by_cases hlt : k < x.length
    · obtain ⟨_, _, hv, _, _, hxc⟩ := HX.out.same HG.out
      simp only [Value.slice.injEq] at hv
      obtain ⟨rfl, -, -⟩ := hv
      obtain ⟨bb, ob, rfl, hx⟩ := Ints.at hxc hlt
      have HSN := Lib.hid (sumI_snoc x k hlt)
      have HMO := Lib.hid (take_more hlt HF.out)
      have HNF := Lib.hid (not_fine_at hlt)
      have h1 : (k : Int) < (x.length : Int) := by omega
      have i1 : IntKind.i64.wrap ((k : Int) + 1) = (k : Int) + 1 := IntWalk.i64_in _ (by omega)
      generalize x[k]?.getD 0 = z at *
      by_cases h2 : z < 0
      · have h2d : decide (z < 0) = true := by simpa using h2
        clear hxc hbd
        go_wp2_with fail
        go_ret2
        rcases HB.out with ⟨-, e⟩ | ⟨e, -⟩
        · rw [e]; exact ⟨rfl, HG.out⟩
        · exact absurd e (HNF.out (by omega))
      · have h2d : decide (z < 0) = false := by simpa using h2
        by_cases h3 : (10 : Int) < z
        · have h3d : decide ((10 : Int) < z) = true := by simpa using h3
          clear hxc hbd
          go_wp2_with fail
          go_ret2
          rcases HB.out with ⟨-, e⟩ | ⟨e, -⟩
          · rw [e]; exact ⟨rfl, HG.out⟩
          · exact absurd e (HNF.out (by omega))
        · have h3d : decide ((10 : Int) < z) = false := by simpa using h3
          have i2 : IntKind.i64.wrap (sumI (x.take k) + z) = sumI (x.take (k + 1)) := by rw [HSN.out]; exact IntWalk.i64_in _ (by omega)
          have HF2 := Lib.hid (HMO.out (by omega))
          clear hxc hbd
          go_wp2_with fail
          go_roundw
          case rel => exact ⟨k + 1, by omega, by go_num, rfl, HF2, trivial⟩
          case measure => simp [intOf]; omega
    · have hk2 : k = x.length := by omega
      have e1 : sumI (x.take k) = sumI x := by rw [hk2, List.take_length]
      have HFA : Hid (∀ z ∈ x, 0 ≤ z ∧ z ≤ 10) := Lib.hid (by have := HF.out; rw [hk2, List.take_length] at this; exact this)
      rw [e1] at hbd ⊢
      have h1 : ¬ (k : Int) < (x.length : Int) := by omega
      by_cases h2 : (10 : Int) < sumI x
      · clear e1 hbd hk2
        generalize hs : sumI x = s at *
        have HS := Lib.hid hs
        clear hs
        go_wp2_with fail
        go_ret2
        rcases HB.out with ⟨-, e⟩ | ⟨e, -⟩
        · rw [e]; exact ⟨rfl, HG.out⟩
        · exact absurd e.2 (by rw [HS.out]; omega)
      · have HFX : Hid (FineX x) := Lib.hid ⟨HFA.out, by omega⟩
        have HV : Hid (VecOk c x) := Lib.hid ⟨HXL.out, fun z hz => by have := HFA.out z hz; omega⟩
        clear e1 hbd hk2
        generalize hs : sumI x = s at *
        clear hs
        go_wp2_with fail
        refine (hsolves_any (HA.out.same HG.out) HM.out hr hc HZ.out (zeros_ok r) (HX.out.same HG.out) HV.out).mono ?_
        rintro e w3 ⟨rfl, hg⟩
        have HG3 := Lib.hid (grown_trans HG.out hg)
        clear hg
        rcases HB.out with ⟨e, -⟩ | ⟨-, e, e2⟩
        · exact absurd HFX.out e
        · rw [e]
          subst e2
          go_wp2_with fail
          go_ret2
          exact ⟨rfl, HG3.out⟩
end
end Go.Proofs.Ytgcfafjgaifmiaa

namespace Go.Proofs.Ytgcfafjgaifmiaa
open Go.ChangeShapes Go.WideShapes Go.ChangeAt Go.RowKit
set_option linter.unusedVariables false

/-- What is left while x is lowered by p: the first i elements are. -/
def decL (x p : List Int) (i : Nat) : List Int := (subL x p).take i ++ x.drop i
theorem decL_zero (x p : List Int) : decL x p 0 = x := by simp [decL]
theorem decL_len {x p : List Int} {n i : Nat} (h : x.length = n) (h' : p.length = n) (hi : i ≤ n) : (decL x p i).length = n := by
  unfold decL
  rw [List.length_append, List.length_take, List.length_drop, subL_len h h']
  omega
theorem decL_end {x p : List Int} {n : Nat} (h : x.length = n) (h' : p.length = n) : decL x p n = subL x p := by
  unfold decL
  rw [List.take_of_length_le (by rw [subL_len h h']; exact Nat.le_refl _), List.drop_eq_nil_of_le (by omega), List.append_nil]
theorem decL_at {x p : List Int} {n i : Nat} (h : x.length = n) (h' : p.length = n) (hi : i < n) : (decL x p i)[i]?.getD 0 = x[i]?.getD 0 := by
  unfold decL
  rw [List.getElem?_append_right (by rw [List.length_take]; omega), List.length_take, subL_len h h', Nat.min_eq_left (by omega), Nat.sub_self, List.getElem?_drop]
  rfl
theorem decL_set {x p : List Int} {n i : Nat} (h : x.length = n) (h' : p.length = n) (hi : i < n) : (decL x p i).set i (x[i]?.getD 0 - p[i]?.getD 0) = decL x p (i + 1) := by
  unfold decL
  have hl : (subL x p).length = n := subL_len h h'
  have e : (subL x p)[i]'(by omega) = x[i]?.getD 0 - p[i]?.getD 0 := by
    unfold subL
    rw [List.getElem_zipWith, List.getElem?_eq_getElem (by omega), List.getElem?_eq_getElem (by omega)]
    rfl
  rw [List.set_append_right _ _ (by rw [List.length_take]; omega), List.length_take, hl, Nat.min_eq_left (by omega), Nat.sub_self, List.take_succ_eq_append_getElem (by omega), e, List.append_assoc]
  congr 1
  rw [List.drop_eq_getElem_cons (by omega : i < x.length)]
  rfl
theorem ownI_addr {w : World} {base : Nat} {a : Option Addr} {n cap : Nat} {xs : List Int} (h : OwnI w base (.slice a n cap) xs) (h0 : 1 ≤ xs.length) : ∃ g, a = some ⟨g, 0, none⟩ ∧ base ≤ g ∧ g < w.heap.size := by
  rcases h.2 with ⟨hv, h1⟩ | ⟨g, c, cur, hv, hg, _⟩
  · omega
  · simp only [Value.slice.injEq] at hv
    obtain ⟨rfl, -, -⟩ := hv
    exact ⟨g, rfl, hg, (h.fresh g rfl).2⟩
def SplitToR (w : World) (ps : List (List Int)) (x : List Int) (e : Ending) (w' : World) : Prop :=
  (∃ v qs, e = .returned (.tuple #[v, .bool true]) ∧ RowsP w' v qs ∧ FirstOk ps x (qs.map Prod.snd) ∧ w.grownBy w' none) ∨ (e = .returned (.tuple #[.slice none 0 0, .bool false]) ∧ (∀ L, ¬ SplitOk ps x L) ∧ w.grownBy w' none)
set_option maxHeartbeats 4000000 in
set_option maxRecDepth 100000 in
theorem rsplit_any {c : Nat} (hc1 : 1 ≤ c) (hc : c ≤ 6) : ∀ (n : Nat) (x : List Int) (ps : List Row) (vp vx : Value) (w : World), sumI x ≤ (n : Int) → n ≤ 100 → RowsP w vp ps → Good vp → (∀ q ∈ ps, VecOk c q.2 ∧ (∀ z ∈ q.2, z ≤ 1048576) ∧ someB q.2 = true) → ps.length ≤ 2000000 → RowOk w (vx, x) → VecOk c x →
    Calls Try.prog 45 #[vp, vx] w (SplitToR w (ps.map Prod.snd) x) := by
  intro n
  induction n using Nat.strongRecOn with
  | _ n ih =>
  intro x ps vp vx w hn hn100 hp hg hq hpl hx hxo
  have HP := Lib.hid hp; have HG := Lib.hid hg; have HQ := Lib.hid hq; have HX := Lib.hid hx; have HXO := Lib.hid hxo; have IH := Lib.hid ih; have HN := Lib.hid hn
  obtain ⟨a, cap, rfl, -⟩ : ∃ a cap, vp = .slice a ps.length cap ∧ True := by obtain ⟨a, cap, h, -⟩ := hp; exact ⟨a, cap, h, trivial⟩
  obtain ⟨ax, cx, hvx, -⟩ := id hx.1
  dsimp only at hvx
  subst hvx
  have hxl6 : x.length ≤ 6 := by rw [hxo.1]; exact hc
  have HXL := Lib.hid hxo.1
  clear hp hg hq hx hxo ih hn
  go_enter Try.func45, Try.ntmps45
  go_wp2_with fail
  refine (r12zeros_any x.length w (by omega)).mono ?_
  rintro e w1 ⟨vz, rfl, ho, hg⟩
  have HZ : Hid (Ints w1 vz (zerosL c)) := Lib.hid (by rw [← HXL.out]; exact ho.ints (zeros_bd _))
  have HG1 := Lib.hid hg
  clear ho hg
  go_wp2_with fail
  refine (same_any _ _ _ _ _ (HX.out.same HG1.out).1 HZ.out).mono ?_
  rintro e w2 ⟨rfl, hd⟩
  have HG2 := Lib.hid (grown_trans HG1.out (hd.grown none))
  rw [zeros_same HXO.out]
  clear hd
  cases hs : someB x with
  | false =>
    have HS := Lib.hid hs
    clear hs
    go_wp2_with fail
    go_ret2
    exact .inl ⟨_, [], rfl, ⟨none, 0, rfl, Nat.zero_le _, .inl rfl, by simp⟩, .nil HS.out, HG2.out⟩
  | true =>
    have HS := Lib.hid hs
    clear hs
    go_wp2_with fail
    go_loopw [6] (fun i wr => ∃ k : Nat, k ≤ ps.length ∧ i = .int .i64 k ∧ Hid (∀ j : Nat, j < k → ∀ p L, (ps.map Prod.snd)[j]? = some p → leqI p x = true → SplitOk ((ps.map Prod.snd).drop j) (subL x p) L → False) ∧ Hid (w.grownBy wr none)) (fun i _ => ps.length - (intOf i).toNat)
    case atStart => exact ⟨0, Nat.zero_le _, rfl, Lib.hid (by intro j hj; omega), HG2⟩
    case round =>
      obtain ⟨k, hk, rfl, hno, hG⟩ := hrel
      rename World => wk
      by_cases hlt : k < ps.length
      · obtain ⟨b, off, a2, c2, rfl, hcell, hrow, hri⟩ := (HP.out.same hG.out).row hlt
        obtain ⟨ta, tc, hrun, htr, htg⟩ := rows_tail1 HP.out HG.out (k := k) (by omega)
        have HRO := Lib.hid (rows_rows HP.out _ (List.getElem_mem hlt))
        have HRI := Lib.hid hri
        have HPQ := Lib.hid (HQ.out _ (List.getElem_mem hlt))
        have HPK : Hid ((ps.map Prod.snd)[k]? = some ps[k].2) := Lib.hid (by rw [List.getElem?_map, List.getElem?_eq_getElem hlt]; rfl)
        have HROW := Lib.hid hrow
        have HTR := Lib.hid htr; have HTG := Lib.hid htg
        have HDQ : Hid (∀ q ∈ ps.drop k, VecOk c q.2 ∧ (∀ z ∈ q.2, z ≤ 1048576) ∧ someB q.2 = true) := Lib.hid (fun q hq => HQ.out q (List.mem_of_mem_drop hq))
        have h1 : (k : Int) < (ps.length : Int) := by omega
        have i1 : IntKind.i64.wrap ((k : Int) + 1) = (k : Int) + 1 := IntWalk.i64_in _ (by omega)
        have HDL : Hid (ps.length - k = (ps.drop k).length) := Lib.hid (by simp)
        have HC0 := Lib.hid hcell
        clear hri hrow htr htg
        generalize hpk : ps[k] = q at *
        obtain ⟨qv, p⟩ := q
        dsimp only at hcell HRI HPQ HPK HROW HC0
        have HV := Lib.hid HPQ.out.1
        have HPL : Hid (p.length = x.length) := Lib.hid (by rw [HXL.out]; exact HV.out.1)
        go_wp2_with fail
        refine (r12leq_any _ _ _ _ _ HRI.out (HX.out.same hG.out).1 HPL.out).mono ?_
        rintro e w3 ⟨rfl, hd⟩
        have HG3 := Lib.hid (grown_trans hG.out (hd.grown none))
        have HGK := Lib.hid (hd.grown none)
        clear hd
        cases hle : leqI p x with
        | false =>
          have HLE := Lib.hid hle
          clear hle hcell
          go_wp2_with fail
          go_roundw
          case rel => exact ⟨k + 1, by omega, by go_num, Lib.hid (by
            intro j hj p' L' hj1 hj2 hj3
            rcases Nat.lt_or_ge j k with h | h
            · exact hno.out j h p' L' hj1 hj2 hj3
            · obtain rfl : j = k := by omega
              rw [HPK.out] at hj1
              cases hj1
              rw [HLE.out] at hj2
              cases hj2), HG3⟩
          case measure => simp [intOf]; omega
        | true =>
          have HLE := Lib.hid hle
          clear hle
          go_wp2_with fail
          refine (rcopy_any _ _ _ (HX.out.same HG3.out) (by omega)).mono ?_
          rintro e w4 ⟨v4, rfl, ho, hg⟩
          obtain ⟨a4, c4, rfl⟩ := ownI_open ho
          obtain ⟨X, rfl, hX1, hX2⟩ := ownI_addr ho (by rw [HXL.out]; exact hc1)
          have OX : Hid (OwnI w4 w3.heap.size (.slice (some ⟨X, 0, none⟩) x.length c4) (decL x p 0)) := Lib.hid (by rw [decL_zero]; exact ho)
          have HXX : Hid (w.heap.size ≤ X) := Lib.hid (Nat.le_trans HG3.out.size hX1)
          have HKX : Hid (wk.heap.size ≤ X) := Lib.hid (Nat.le_trans HGK.out.size hX1)
          have HG4 := Lib.hid (grown_trans HG3.out hg)
          have HGK4 := Lib.hid (grown_trans HGK.out hg)
          clear ho hg hX1 hX2 hcell
          go_wp2_with fail
          go_loopw [8] (fun i wr => ∃ j : Nat, i = .int .i64 j ∧ j ≤ x.length ∧ Hid (w.grownBy wr none) ∧ Hid (wk.grownBy wr none) ∧ Hid (OwnI wr w3.heap.size (.slice (some ⟨X, 0, none⟩) x.length c4) (decL x p j))) (fun i _ => x.length - (intOf i).toNat)
          case atStart => exact ⟨0, rfl, Nat.zero_le _, HG4, HGK4, OX⟩
          case round =>
            clear HG4 HGK4 OX
            obtain ⟨j, rfl, hj, HG4, HGK4, OX⟩ := hrel
            rename World => wj
            by_cases hjb : j < x.length
            · have h5 : (j : Int) < (x.length : Int) := by omega
              have i3 : IntKind.i64.wrap ((j : Int) + 1) = (j : Int) + 1 := IntWalk.i64_in _ (by omega)
              obtain ⟨hcx, hfx⟩ := OX.out.cell j (by rw [decL_len rfl HPL.out (by omega)]; exact hjb)
              rw [decL_at rfl HPL.out hjb] at hcx
              have HST := Lib.hid (OX.out.stored j (x[j]?.getD 0 - p[j]?.getD 0))
              rw [decL_set rfl HPL.out hjb] at HST
              have hc0 := HGK4.out.cell HC0.out (by simp)
              obtain ⟨_, _, hv, _, _, hxc⟩ := HRI.out.same HGK4.out
              simp only [Value.slice.injEq] at hv
              obtain ⟨rfl, -, rfl⟩ := hv
              have hjp : j < p.length := by rw [HPL.out]; exact hjb
              obtain ⟨bb, ob, rfl, hcy⟩ := Ints.at hxc hjp
              have hz1 := mem_at (P := fun z => 0 ≤ z ∧ z ≤ 1000000) HXO.out.2 hjb
              have hy0 := mem_at (P := fun z => 0 ≤ z ∧ z ≤ 1000000) HV.out.2 hjp
              have m1 : IntKind.i64.wrap (x[j]?.getD 0 - p[j]?.getD 0) = x[j]?.getD 0 - p[j]?.getD 0 := IntWalk.i64_in _ (by omega)
              generalize x[j]?.getD 0 = u at *
              generalize p[j]?.getD 0 = v at *
              have hcxd : wj.drew.cell? ⟨X, j, none⟩ = some (.int .i64 u) := hcx
              have hfxd : wj.drew.frozen? ⟨X, j, none⟩ = false := hfx
              have hcyd : wj.drew.cell? ⟨bb, ob + j, none⟩ = some (.int .i64 v) := hcy
              have hc0d : wj.drew.cell? ⟨b, off + k, none⟩ = some (.slice (some ⟨bb, ob, none⟩) p.length c2) := hc0
              have h6 : (j : Int) < (p.length : Int) := by omega
              clear hxc hz1 hy0
              go_wp2_with fail
              go_region
              clear hcx hfx hcy hcxd hfxd hcyd hc0 hc0d m1
              have GS := Lib.hid (grown_trans (grown_set wj ⟨X, j, none⟩ (.int .i64 (u - v))) ((grown_drew _ (some X))))
              replace HST := Lib.hid (HST.out.kept (grown_drew _ none) (by simp))
              replace HG4 := Lib.hid (grown_then HG4.out GS.out (fun g hg => by cases hg; exact .inl HXX.out))
              replace HGK4 := Lib.hid (grown_then HGK4.out GS.out (fun g hg => by cases hg; exact .inl HKX.out))
              go_wp2_with fail
              go_roundw
              case rel => exact ⟨j + 1, by go_num, by omega, HG4, HGK4, HST⟩
              case measure => simp [intOf]; omega
            · obtain rfl : j = x.length := by omega
              have h5 : ¬ (x.length : Int) < (x.length : Int) := by omega
              have OA := OX
              rw [decL_end rfl HPL.out] at OA
              have hso := sub_ok HXO.out HV.out HLE.out
              have HSO := Lib.hid hso
              have HRR := Lib.hid (OA.out.row (fun z hz => by have := hso.2 z hz; omega))
              have hd := sumI_sub x p (by rw [HPL.out])
              have h6 := (some_iff (fun z hz => (HV.out.2 z hz).1)).1 HPQ.out.2.2
              have h7 := sumI_nn (v := subL x p) (fun z hz => (hso.2 z hz).1)
              have hn' := HN.out
              obtain ⟨n', hn1, hn2⟩ : ∃ n' : Nat, n' < n ∧ sumI (subL x p) ≤ (n' : Int) := ⟨n - 1, by omega, by omega⟩
              have HN1 := Lib.hid hn1; have HN2 := Lib.hid hn2
              have j1 : (0 : Int) ≤ (k : Int) := by omega
              have j2 : (k : Int) ≤ (cap : Int) := by have := HG.out.2 _ _ _ rfl; omega
              clear OX hso hd h6 h7 hn' hn1 hn2
              go_wp2_with fail
              have IC := IH.out n' HN1.out (subL x p) (ps.drop k) (.slice ta (ps.drop k).length tc) (.slice (some ⟨X, 0, none⟩) x.length c4) wj HN2.out (by have := HN1.out; omega) (HDL.out ▸ HTR.out.same HG4.out) (HDL.out ▸ HTG.out) HDQ.out (by simp; omega) HRR.out HSO.out
              rw [← HDL.out] at IC
              refine IC.mono ?_
              clear IC
              rintro e w5 (⟨v5, rs, rfl, hr5, hs5, hg5⟩ | ⟨rfl, hn5, hg5⟩)
              · have HR5 := Lib.hid hr5; have HS5 := Lib.hid hs5
                have HG5 := Lib.hid (grown_trans HG4.out hg5)
                have HGK5 := Lib.hid (grown_trans HGK4.out hg5)
                obtain ⟨av, cv, rfl, -⟩ : ∃ a cap, v5 = .slice a rs.length cap ∧ True := by obtain ⟨a, cap, h, -⟩ := hr5; exact ⟨a, cap, h, trivial⟩
                have HLP := Lib.hid (HS5.out.ok.len (c := c) (fun q hq => by
                  obtain ⟨z, hz, rfl⟩ := List.mem_map.1 hq
                  have := HDQ.out z hz
                  exact ⟨this.1.nn, this.2.2⟩) HSO.out.nn)
                have hl2 : rs.length ≤ 100 := by
                  have h1 := HLP.out
                  have h2 := HN2.out
                  have h3 := HN1.out
                  rw [List.length_map] at h1
                  omega
                have hc0 := HGK5.out.cell HC0.out (by simp)
                have HR1 : Hid (OwnP (w5.alloc (.cells #[.slice a2 p.length c2] 22)) w5.heap.size (.slice (some ⟨w5.heap.size, 0, none⟩) 1 1) [(.slice a2 p.length c2, p)]) := Lib.hid (own_one w5 rfl (by rw [← HROW.out]; exact HRO.out.same HG5.out))
                have HR6 := Lib.hid (HR5.out.same (World.grownBy_alloc w5 (.cells #[.slice a2 p.length c2] 22) none))
                have HG6 := Lib.hid (grown_trans HG5.out (World.grownBy_alloc w5 (.cells #[.slice a2 p.length c2] 22) none))
                have HFX := Lib.hid (far_of (fun q hq => rows_rows HR5.out q hq) HR1.out (Nat.le_refl _))
                clear hr5 hs5 hg5 HLP
                go_wp2_with (at_builtin; refine app_all rfl _ _ rfl w5.heap.size _ [(.slice a2 p.length c2, p)] rfl HR1.out _ _ rfl HR6.out HFX.out (by first | omega | (simp; omega)) (World.grownBy_alloc w5 _ none).size ?_)
                intro a' n' c' w' hn' ho' hg'
                have HO6 := Lib.hid ho'
                have HG7 := Lib.hid (grown_then HG6.out hg' (fun g hg => .inl (by have h1 := (HR1.out.fresh g hg).1; have h2 := HG5.out.size; omega)))
                clear ho' hg' hn'
                go_wp2_with fail
                go_ret2
                refine .inl ⟨_, _, rfl, HO6.out.rows, ?_, HG7.out⟩
                exact .cons k HS.out HPK.out HLE.out (fun j hj q L' h1 h2 h3 => hno.out j hj q L' h1 h2 h3) (by rw [← List.map_drop]; exact HS5.out)
              · have HNN := Lib.hid hn5
                have HG5 := Lib.hid (grown_trans HG4.out hg5)
                clear hn5 hg5
                go_wp2_with fail
                go_roundw
                case rel => exact ⟨k + 1, by omega, by go_num, Lib.hid (by
                  intro j hj p' L' hj1 hj2 hj3
                  rcases Nat.lt_or_ge j k with h | h
                  · exact hno.out j h p' L' hj1 hj2 hj3
                  · obtain rfl : j = k := by omega
                    rw [HPK.out] at hj1
                    cases hj1
                    refine HNN.out L' ?_
                    rw [List.map_drop]
                    exact hj3), HG5⟩
                case measure => simp [intOf]; omega
      · have h1 : ¬ (k : Int) < (ps.length : Int) := by omega
        go_wp2_with fail
        go_ret2
        refine .inr ⟨rfl, fun L hL => ?_, hG.out⟩
        obtain ⟨i, p, L', h2, h3, h4⟩ := isplit hL HS.out
        have : i < ps.length := by
          have := (List.getElem?_eq_some_iff.1 h2).1
          simpa using this
        exact hno.out i (by omega) p L' h2 h3 h4
end Go.Proofs.Ytgcfafjgaifmiaa

namespace Go.Proofs.Ytgcfafjgaifmiaa
open Go.ChangeShapes Go.WideShapes Go.ChangeAt Go.RowKit
set_option linter.unusedVariables false

section
variable {r c : Nat} {ms : List Row} {va vx : Value} {x : List Int} {w : World} {err : Int}
theorem rSplit_no (h : RowsI w va ms) (hno : ¬ ShapeOk ms) :
    Calls Try.prog 25 #[va, vx] w fun e w' => e = .returned (.tuple #[.slice none 0 0, .int .i64 10]) ∧ w.grownBy w' none := by
  have H := Lib.hid h
  clear h
  go_enter Try.func25, Try.ntmps25
  go_wp2_with fail
  refine (shape_no H.out hno).mono ?_
  rintro e w1 ⟨rfl, hg⟩
  have HG := Lib.hid hg
  clear hg
  go_wp2_with fail
  go_ret2
  exact ⟨rfl, HG.out⟩
set_option maxRecDepth 100000 in
theorem rSplit_len (h : RowsP w va ms) (hm : MatOkP r c ms) (hr : r ≤ 6) (hc : c ≤ 6) (hx : Ints w vx x) (hl : x.length ≠ c) :
    Calls Try.prog 25 #[va, vx] w fun e w' => e = .returned (.tuple #[.slice none 0 0, .int .i64 3]) ∧ w.grownBy w' none := by
  have HM := Lib.hid hm; have HA := Lib.hid h
  have HK := Lib.hid (shape_yes h hm hr hc)
  have hml := hm.1
  have h0 : 0 < ms.length := by have := hm.2.1; omega
  have p1 : 0 < (ms.length : Int) := by omega
  obtain ⟨aa, capa, rfl, -⟩ : ∃ a cap, va = .slice a ms.length cap ∧ True := by obtain ⟨a, cap, h, -⟩ := h; exact ⟨a, cap, h, trivial⟩
  obtain ⟨ax, capx, hvx, hxl, -⟩ := hx
  unfold maxLen at hxl
  subst hvx
  obtain ⟨b, off, a2, c2, rfl, hc0, -, -⟩ := h.row h0
  rw [(hm.2.2.2.2.2.2 _ (List.getElem_mem h0)).1, Nat.add_zero] at hc0
  have HC := Lib.hid hc0
  have p4 : ((x.length : Int) != (c : Int)) = true := by simp; omega
  clear h hm hl hml hc0
  go_enter Try.func25, Try.ntmps25
  go_wp2_with fail
  refine HK.out.mono ?_
  rintro e w1 ⟨rfl, hg⟩
  have HG := Lib.hid hg
  have hc1 := hg.cell HC.out (by simp)
  clear hg
  go_wp2_with fail
  go_ret2
  exact ⟨rfl, HG.out⟩
/-- What Split does with what is fine. -/
def SplitEnd (r c s : Nat) (ms : List Row) (x : List Int) (w : World) (e : Ending) (w' : World) : Prop :=
  (solB ms (zerosL r) x = false → e = .returned (.tuple #[.slice none 0 0, .int .i64 11]) ∧ w.grownBy w' none) ∧ (solB ms (zerosL r) x = true → ∃ v qs, e = .returned (.tuple #[v, .int .i64 0]) ∧ RowsP w' v qs ∧ FirstOk (minL (goodB ms (zerosL r) someB) (vecs c s)) x (qs.map Prod.snd) ∧ w.grownBy w' none)
def SplitRes (r c : Nat) (ms : List Row) (x : List Int) (w : World) (e : Ending) (w' : World) : Prop :=
  (¬ FineX x → e = .returned (.tuple #[.slice none 0 0, .int .i64 2]) ∧ w.grownBy w' none) ∧ (FineX x → ∀ s : Nat, sumI x = (s : Int) → SplitEnd r c s ms x w e w')
set_option maxRecDepth 100000 in
set_option maxHeartbeats 4000000 in
theorem rSplit_any (h : RowsP w va ms) (hm : MatOkP r c ms) (hr : r ≤ 6) (hc : c ≤ 6) (hx : RowOk w (vx, x)) (hxl : x.length = c) :
    Calls Try.prog 25 #[va, vx] w (SplitRes r c ms x w) := by
  have HM := Lib.hid hm; have HA := Lib.hid h; have HXR := Lib.hid hx; have HXL := Lib.hid hxl
  have HX : Hid (Ints w vx x) := Lib.hid hx.1
  have HK := Lib.hid (shape_yes h hm hr hc)
  obtain ⟨hl, hr1, hr12, hc1, hc12, hrc, hq⟩ := hm
  obtain ⟨aa, capa, rfl, -⟩ : ∃ a cap, va = .slice a ms.length cap ∧ True := by obtain ⟨a, cap, h, -⟩ := h; exact ⟨a, cap, h, trivial⟩
  obtain ⟨ax, cx, hvx, -, -, hxc⟩ := id HX.out
  subst hvx
  have h0 : 0 < ms.length := by omega
  obtain ⟨b, off, a2, c2, rfl, hc0, -, -⟩ := h.row h0
  rw [(hq _ (List.getElem_mem h0)).1, Nat.add_zero] at hc0
  have p1 : 0 < (ms.length : Int) := by omega
  have p4 : ((x.length : Int) != (c : Int)) = false := by simp; omega
  have hx6 : x.length ≤ 6 := by omega
  have hl6 : ms.length ≤ 6 := by omega
  have HL := Lib.hid hl; have HC0 := Lib.hid hc0
  clear h hx hxl hq hl hc0 hxc
  go_enter Try.func25, Try.ntmps25
  go_wp2_with fail
  refine HK.out.mono ?_
  rintro e w1 ⟨rfl, hg⟩
  have HG := Lib.hid hg
  have hc1' := hg.cell HC0.out (by simp)
  clear hg
  go_wp2_with fail
  clear p4 hc1'
  go_loopw [7, 6] (fun i s wr => ∃ k : Nat, k ≤ x.length ∧ i = .int .i64 k ∧ s = .int .i64 (sumI (x.take k)) ∧ Hid (∀ z ∈ x.take k, 0 ≤ z ∧ z ≤ 10) ∧ wr = w1) (fun i _ _ => x.length - (intOf i).toNat)
  case atStart => exact ⟨0, Nat.zero_le _, rfl, rfl, Lib.hid (by simp), rfl⟩
  case round =>
    obtain ⟨k, hk, rfl, rfl, HF, rfl⟩ := hrel
    have hbd := take_fine HF.out
    by_cases hlt : k < x.length
    · obtain ⟨_, _, hv, _, _, hxc⟩ := HX.out.same HG.out
      simp only [Value.slice.injEq] at hv
      obtain ⟨rfl, -, -⟩ := hv
      obtain ⟨bb, ob, rfl, hx⟩ := Ints.at hxc hlt
      have HSN := Lib.hid (sumI_snoc x k hlt)
      have HMO := Lib.hid (take_more hlt HF.out)
      have HNF := Lib.hid (not_fine_at hlt)
      have h1 : (k : Int) < (x.length : Int) := by omega
      have i1 : IntKind.i64.wrap ((k : Int) + 1) = (k : Int) + 1 := IntWalk.i64_in _ (by omega)
      generalize x[k]?.getD 0 = z at *
      by_cases h2 : z < 0
      · have h2d : decide (z < 0) = true := by simpa using h2
        have HN := Lib.hid (HNF.out (by omega))
        clear hxc hbd HNF HMO
        go_wp2_with fail
        go_ret2
        exact ⟨fun _ => ⟨rfl, HG.out⟩, fun hf => absurd hf HN.out⟩
      · have h2d : decide (z < 0) = false := by simpa using h2
        by_cases h3 : (10 : Int) < z
        · have h3d : decide ((10 : Int) < z) = true := by simpa using h3
          have HN := Lib.hid (HNF.out (by omega))
          clear hxc hbd HNF HMO
          go_wp2_with fail
          go_ret2
          exact ⟨fun _ => ⟨rfl, HG.out⟩, fun hf => absurd hf HN.out⟩
        · have h3d : decide ((10 : Int) < z) = false := by simpa using h3
          have i2 : IntKind.i64.wrap (sumI (x.take k) + z) = sumI (x.take (k + 1)) := by rw [HSN.out]; exact IntWalk.i64_in _ (by omega)
          have HF2 := Lib.hid (HMO.out (by omega))
          clear hxc hbd HNF HMO
          go_wp2_with fail
          go_roundw
          case rel => exact ⟨k + 1, by omega, by go_num, rfl, HF2, trivial⟩
          case measure => simp [intOf]; omega
    · have hk2 : k = x.length := by omega
      have e1 : sumI (x.take k) = sumI x := by rw [hk2, List.take_length]
      have HFA : Hid (∀ z ∈ x, 0 ≤ z ∧ z ≤ 10) := Lib.hid (by have := HF.out; rw [hk2, List.take_length] at this; exact this)
      rw [e1] at hbd ⊢
      have h1 : ¬ (k : Int) < (x.length : Int) := by omega
      by_cases h2 : (10 : Int) < sumI x
      · have HN : Hid (¬ FineX x) := Lib.hid (fun hf => by have := hf.2; omega)
        clear e1 hbd hk2
        generalize hs : sumI x = s at *
        clear hs
        go_wp2_with fail
        go_ret2
        exact ⟨fun _ => ⟨rfl, HG.out⟩, fun hf => absurd hf HN.out⟩
      · have HFX : Hid (FineX x) := Lib.hid ⟨HFA.out, by omega⟩
        have HV : Hid (VecOk c x) := Lib.hid ⟨HXL.out, fun z hz => by have := HFA.out z hz; omega⟩
        have HAL : Hid (x.all numB = true) := Lib.hid (List.all_eq_true.2 fun z hz => numB_iff.2 (by have := HFA.out z hz; omega))
        have hsn : 0 ≤ sumI x := by rw [← e1]; omega
        obtain ⟨s, hs⟩ : ∃ s : Nat, sumI x = (s : Int) := ⟨(sumI x).toNat, by omega⟩
        have HSS := Lib.hid hs
        have hs10 : s ≤ 10 := by omega
        rw [hs]
        have h4 : ¬ (10 : Int) < (s : Int) := by omega
        clear e1 hbd hk2 hsn hs h2
        go_wp2_with fail
        refine (r12zeros_any ms.length _ (by omega)).mono ?_
        rintro e w2 ⟨vz, rfl, ho, hg⟩
        have HZ : Hid (Ints w2 vz (zerosL r)) := Lib.hid (by rw [← HL.out]; exact ho.ints (zeros_bd _))
        have HG2 := Lib.hid (grown_trans HG.out hg)
        clear ho hg
        obtain ⟨az, cz, hvz, -⟩ := id HZ.out
        subst hvz
        go_wp2_with fail
        refine (rsolves_fit (HA.out.same HG2.out) HM.out hr hc HZ.out (zeros_ok r) (HX.out.same HG2.out) HXL.out).mono ?_
        rintro e w3 ⟨rfl, hg⟩
        rw [HAL.out, Bool.true_and]
        have HG3 := Lib.hid (grown_trans HG2.out hg)
        clear hg
        cases hsol : solB ms (zerosL r) x with
        | false =>
          have HSOL := Lib.hid hsol
          clear hsol
          go_wp2_with fail
          go_ret2
          refine ⟨fun h => absurd HFX.out h, fun _ s' hs' => ⟨fun _ => ⟨rfl, HG3.out⟩, fun h => ?_⟩⟩
          rw [HSOL.out] at h
          cases h
        | true =>
          have HSOL := Lib.hid hsol
          clear hsol
          go_wp2_with fail
          refine (r12zeros_any ms.length w3 (by omega)).mono ?_
          rintro e w4 ⟨vz, rfl, ho, hg⟩
          have HZ2 : Hid (Ints w4 vz (zerosL r)) := Lib.hid (by rw [← HL.out]; exact ho.ints (zeros_bd _))
          have HG4 := Lib.hid (grown_trans HG3.out hg)
          clear ho hg
          obtain ⟨az2, cz2, hvz, -⟩ := id HZ2.out
          subst hvz
          go_wp2_with fail
          refine (rsolutions_free (HA.out.same HG4.out) HM.out hr hc HZ2.out (zeros_ok r) hs10).mono ?_
          rintro e w5 ⟨v5, qs, rfl, hr', hgd, hq, hg⟩
          rw [cnt_some_is] at hq
          have HR := Lib.hid hr'; have HQ := Lib.hid hq; have HGD := Lib.hid hgd; have HG5 := Lib.hid (grown_trans HG4.out hg)
          have HQO : Hid (∀ q ∈ qs, VecOk c q.2 ∧ (∀ z ∈ q.2, z ≤ 1048576) ∧ someB q.2 = true) := Lib.hid (fun q hq => by
            have h1 := minL_ok hs10 q.2 (HQ.out ▸ List.mem_map_of_mem hq)
            have h2 := h1.2.2.1
            unfold goodB at h2
            rw [Bool.and_eq_true] at h2
            exact ⟨h1.1, fun z hz => by have := h1.2.1 z hz; omega, h2.2⟩)
          have HQL : Hid (qs.length ≤ 2000000) := Lib.hid (by
            have h7 := minL_len (goodB ms (zerosL r) someB) (vecs c s)
            rw [← HQ.out, List.length_map] at h7
            have h8 := vecs_len c s
            have h9 : (s + 1) ^ c ≤ 11 ^ 6 := Nat.le_trans (Nat.pow_le_pow_left (by omega) _) (Nat.pow_le_pow_right (by omega) hc)
            have h10 : (11 : Nat) ^ 6 = 1771561 := by decide
            omega)
          obtain ⟨a5, c5, rfl, -⟩ : ∃ a cap, v5 = .slice a qs.length cap ∧ True := by obtain ⟨a, cap, h, -⟩ := hr'; exact ⟨a, cap, h, trivial⟩
          clear hr' hgd hq hg
          go_wp2_with fail
          refine (rsplit_any hc1 hc s x qs _ _ w5 (by rw [HSS.out]; exact Int.le_refl _) (by omega) HR.out HGD.out HQO.out HQL.out (HXR.out.same HG5.out) HV.out).mono ?_
          rintro e w6 (⟨v6, rs, rfl, hr6, hs6, hg⟩ | ⟨rfl, hn, hg⟩)
          · have HR6 := Lib.hid hr6; have HS6 := Lib.hid hs6; have HG6 := Lib.hid (grown_trans HG5.out hg)
            obtain ⟨a6, c6, rfl, -⟩ : ∃ a cap, v6 = .slice a rs.length cap ∧ True := by obtain ⟨a, cap, h, -⟩ := hr6; exact ⟨a, cap, h, trivial⟩
            clear hr6 hs6 hg
            go_wp2_with fail
            go_ret2
            refine ⟨fun h => absurd HFX.out h, fun _ s' hs' => ⟨fun h => ?_, fun _ => ⟨_, rs, rfl, HR6.out, ?_, HG6.out⟩⟩⟩
            · rw [HSOL.out] at h
              cases h
            · have : s = s' := by have := HSS.out; omega
              rw [← this, ← HQ.out]
              exact HS6.out
          · exfalso
            obtain ⟨M, hM, hMs⟩ := exists_sum HM.out s s x (by rw [HSS.out]; exact Int.le_refl _) (Nat.le_refl _) HV.out.nn HSOL.out
            obtain ⟨L, hL⟩ := exists_split (c := c) (qs.map Prod.snd) (fun p hp => by
              obtain ⟨z, hz, rfl⟩ := List.mem_map.1 hp
              have := HQO.out z hz
              exact ⟨this.1.nn, this.2.2⟩) M.length M rfl (fun p hp => by rw [HQ.out]; exact hM p hp)
            rw [hMs] at hL
            exact hn L hL
end
/-- One answer for both sides. -/
theorem split_u (ms : List Row) (x : List Int) (hl : ms.length ≤ 1000) : ∃ rs err, (∀ w v u, RowsI w v ms → RowOk w (u, x) → Calls Try.prog 24 #[v, u] w (GotU rs err w)) ∧ ∀ w v u, RowsI w v ms → RowOk w (u, x) → Calls Try.prog 25 #[v, u] w (GotU rs err w) := by
  by_cases hs : ShapeOk ms
  · obtain ⟨r, c, hm, hr, hc⟩ := hs
    by_cases hx : x.length = c
    · by_cases hf : FineX x
      · have hn : 0 ≤ sumI x := sumI_nn (fun z hz => (hf.1 z hz).1)
        obtain ⟨s, hs⟩ : ∃ s : Nat, sumI x = (s : Int) := ⟨(sumI x).toNat, by omega⟩
        have hs10 : s ≤ 10 := by have := hf.2; omega
        cases hsol : solB ms (zerosL r) x with
        | false =>
          exact ⟨[], 11, fun w v u a b => (Split_bad (a.toP hm) hm hr hc b.1 hx (.inr ⟨hf, hsol, rfl⟩)).mono fun e w' h => gotU_bad h, fun w v u a b => (rSplit_any (a.toP hm) hm hr hc b hx).mono fun e w' h => gotU_bad ((h.2 hf s hs).1 hsol)⟩
        | true =>
          by_cases hL : ∃ L, FirstOk (minL (goodB ms (zerosL r) someB) (vecs c s)) x L
          · obtain ⟨L, hL⟩ := hL
            refine ⟨L, 0, fun w v u a b => (Splitf_any (a.toP hm) hm hr hc b.1 ⟨hx, hf.1⟩ hs hs10 hsol).mono fun e w' h => ?_, fun w v u a b => (rSplit_any (a.toP hm) hm hr hc b hx).mono fun e w' h => ?_⟩
            · obtain ⟨v, qs, h1, h2, -, h3, h4, -⟩ := h
              exact ⟨v, qs, h1, h2, h3.one hL, h4⟩
            · obtain ⟨v, qs, h1, h2, h3, h4⟩ := (h.2 hf s hs).2 hsol
              exact ⟨v, qs, h1, h2, h3.one hL, h4⟩
          · refine ⟨[], 0, fun w v u a b => (Splitf_any (a.toP hm) hm hr hc b.1 ⟨hx, hf.1⟩ hs hs10 hsol).mono fun e w' h => ?_, fun w v u a b => (rSplit_any (a.toP hm) hm hr hc b hx).mono fun e w' h => ?_⟩
            · obtain ⟨v, qs, h1, h2, -, h3, h4, -⟩ := h
              exact absurd ⟨_, h3⟩ hL
            · obtain ⟨v, qs, h1, h2, h3, h4⟩ := (h.2 hf s hs).2 hsol
              exact absurd ⟨_, h3⟩ hL
      · exact ⟨[], 2, fun w v u a b => (Split_bad (a.toP hm) hm hr hc b.1 hx (.inl ⟨hf, rfl⟩)).mono fun e w' h => gotU_bad h, fun w v u a b => (rSplit_any (a.toP hm) hm hr hc b hx).mono fun e w' h => gotU_bad (h.1 hf)⟩
    · exact ⟨[], 3, fun w v u a b => (Split_len (a.toP hm) hm hr hc b.1 hx).mono fun e w' h => gotU_bad h, fun w v u a b => (rSplit_len (a.toP hm) hm hr hc b.1 hx).mono fun e w' h => gotU_bad h⟩
  · exact ⟨[], 10, fun w v u a b => (Split_no a hs hl).mono fun e w' h => gotU_bad h, fun w v u a b => (rSplit_no a hs).mono fun e w' h => gotU_bad h⟩
end Go.Proofs.Ytgcfafjgaifmiaa

