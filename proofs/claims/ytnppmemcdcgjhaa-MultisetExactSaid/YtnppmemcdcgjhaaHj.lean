/- Proves, Most. -/
import Derived.Test.YtnppmemcdcgjhaaHi
namespace Go.Proofs.Ytnppmemcdcgjhaa
open Go.RowKit
set_option linter.unusedVariables false

/-- Integers that are a matching of all rows. -/
def PMI (T : List (List Bool)) (xs : List Int) : Prop := ∃ m : List Nat, xs = m.map Int.ofNat ∧ PM T m
theorem getD_map (m : List Nat) (i : Nat) : (m.map Int.ofNat)[i]?.getD 0 = ((cl m i : Nat) : Int) := by
  unfold cl
  rw [List.getElem?_map]
  cases m[i]? <;> rfl
theorem PMI.at_ {T : List (List Bool)} {xs : List Int} (h : PMI T xs) {k : Nat} (hk : k < xs.length) : ∃ j : Nat, xs[k]?.getD 0 = (j : Int) ∧ tb T k j = true ∧ ∀ i, i < k → xs[i]?.getD 0 ≠ (j : Int) := by
  obtain ⟨m, rfl, hm⟩ := h
  rw [List.length_map] at hk
  refine ⟨cl m k, getD_map m k, hm.edge k hk, fun i hi e => ?_⟩
  rw [getD_map] at e
  have := cl_inj hm.nd (show i < m.length by omega) hk (by omega)
  omega
structure ProvI (T : List (List Bool)) (xs : List Int) (k : Nat) (m : List Nat) (S : List Bool) : Prop where
  len : m.length = k
  eq : xs.take k = m.map Int.ofNat
  edge : ∀ i, i < k → tb T i (cl m i) = true
  nd : m.Nodup
  sn_ : ∀ j, sn S j = true ↔ j ∈ m
theorem ProvI.next {T : List (List Bool)} {xs : List Int} {k j : Nat} {m : List Nat} {S : List Bool} (h : ProvI T xs k m S) (hk : k < xs.length) (hx : xs[k]?.getD 0 = (j : Int)) (hb : tb T k j = true) (hs : sn S j = false) (hl : j < S.length) : ProvI T xs (k + 1) (m ++ [j]) (S.set j true) := by
  refine ⟨by rw [List.length_append, h.len]; rfl, ?_, fun i hi => ?_, List.nodup_append.2 ⟨h.nd, by simp, fun a ha b hb' => ?_⟩, fun a => ?_⟩
  · rw [List.take_add_one, h.eq, List.map_append]
    rw [List.getElem?_eq_getElem hk] at hx ⊢
    simp only [Option.getD_some] at hx
    rw [hx]; rfl
  · by_cases e : i < k
    · rw [cl_app1 (by rw [h.len]; exact e)]; exact h.edge i e
    · obtain rfl : i = k := by omega
      rw [cl_app2 (by rw [h.len]; exact Nat.le_refl _), h.len, Nat.sub_self]
      exact hb
  · rw [List.mem_singleton.1 hb']
    rintro rfl
    rw [(h.sn_ a).2 ha] at hs
    cases hs
  · rw [sn_set hl]
    by_cases e : a = j
    · subst e; simp
    · rw [if_neg e, h.sn_ a]; simp [e]
theorem no_iff {p q : Prop} (h : p ∧ q → False) : (false = true) ↔ p ∧ q := ⟨fun e => (Bool.false_ne_true e).elim, fun e => (h e).elim⟩
def ProvTo (T : List (List Bool)) (xs : List Int) (w : World) (e : Ending) (w' : World) : Prop := ∃ Bo, e = .returned (.bool Bo) ∧ (Bo = true ↔ validT T = true ∧ PMI T xs) ∧ w.grownBy w' none

set_option maxRecDepth 100000 in
set_option maxHeartbeats 2000000 in
theorem ProvesM_any (vt vm : Value) (ps : List BRow) (xs : List Int) (w : World) (ht : BRowsP w vt ps) (hm : Ints w vm xs) :
    Calls Try.prog 25 #[vt, vm] w (ProvTo (ps.map Prod.snd) xs w) := by
  have HT := Lib.hid ht
  have HTL : Hid ((ps.map Prod.snd).length = ps.length) := Lib.hid (by simp)
  obtain ⟨a, cap, rfl, -, hct, hrs⟩ := ht
  obtain ⟨am, cm, rfl, -, hbd, hcm⟩ := hm
  have HCT := Lib.hid hct; have HRS := Lib.hid hrs; have HCM := Lib.hid hcm
  clear hct hrs hcm hbd
  go_enter Try.func25, Try.ntmps25
  go_wp2_with fail
  refine (Valid_any _ ps _ HT.out).mono ?_
  rintro e w1 ⟨rfl, hw1⟩
  rw [hw1]
  clear hw1 w1
  by_cases hv : validT (ps.map Prod.snd) = true
  · rw [hv]
    have HV := Lib.hid hv
    have HF := Lib.hid (validT_few hv)
    have hl12 : ps.length ≤ 12 := HF.out.1
    clear hv
    by_cases hl : xs.length = ps.length
    · have HL := Lib.hid hl
      have k1 : ((xs.length : Int) != (ps.length : Int)) = false := by simp; omega
      clear hl
      go_wp2_with fail
      generalize hwb : World.alloc _ _ = wb
      have hA : ArrS wb w.heap.size (List.replicate 12 false) := by rw [← hwb]; exact ⟨rfl, heap_new _ rfl⟩
      have hg : w.grownBy wb none := by rw [← hwb]; exact World.grownBy_alloc _ _ none
      have HA := Lib.hid hA; have HG := Lib.hid hg
      clear hwb hA hg k1
      go_loopw [20] (fun i wr => ∃ (k : Nat) (m : List Nat) (S : List Bool), i = .int .i64 k ∧ k ≤ xs.length ∧ Hid (ProvI (ps.map Prod.snd) xs k m S) ∧ Hid (ArrS wr w.heap.size S) ∧ Hid (w.grownBy wr none)) (fun i _ => xs.length - (intOf i).toNat)
      case atStart => exact ⟨0, [], _, rfl, Nat.zero_le _, Lib.hid ⟨rfl, rfl, fun i hi => by omega, List.nodup_nil, fun j => by rw [sn_rep]; simp⟩, HA, HG⟩
      case round =>
        obtain ⟨k, m, S, rfl, hk, hI, hA, hG⟩ := hrel
        by_cases hkb : k < xs.length
        · have h2 : (k : Int) < (xs.length : Int) := by omega
          have hkp : k < ps.length := by rw [← HL.out]; exact hkb
          have h3 : (k : Int) < (ps.length : Int) := by omega
          have i1 : IntKind.i64.wrap ((k : Int) + 1) = (k : Int) + 1 := IntWalk.i64_in _ (by have := HL.out; omega)
          obtain ⟨b1, o1, rfl, hx0⟩ := Ints.at HCM.out hkb
          have hx1 := hG.out.cell hx0 (by simp)
          obtain ⟨b2, o2, rfl, hr0⟩ := BRowsP.at HCT.out hkp
          have hr1 := hG.out.cell hr0 (by simp)
          have HRW := Lib.hid (HRS.out _ (List.getElem_mem hkp)); have HR1 := Lib.hid (HF.out.2 _ (List.getElem_mem hkp))
          have HTB : Hid (∀ j, tb (ps.map Prod.snd) k j = (ps[k]).2[j]?.getD false) := Lib.hid (fun j => by rw [tb_row (by rw [List.length_map]; exact hkp)]; simp)
          generalize ps[k] = R at *
          obtain ⟨rv, R⟩ := R
          obtain ⟨⟨ra, rc, hrv, -, hrc⟩, -⟩ := HRW.out
          dsimp only at hrv hr1 HR1 HTB
          subst hrv
          have HRC := Lib.hid hrc
          have HXE : Hid (xs[k]?.getD 0 = xs[k]?.getD 0) := Lib.hid rfl
          clear hrc HRW hx0 hr0
          generalize hx : xs[k]?.getD 0 = x at hx1
          have HX := Lib.hid hx
          clear hx HXE
          by_cases hneg : x < 0
          · have HN : Hid (PMI (ps.map Prod.snd) xs → False) := Lib.hid (fun h => by
              obtain ⟨j, hj, -⟩ := h.at_ hkb
              rw [HX.out] at hj; omega)
            go_wp2_with fail
            go_ret
            exact ⟨false, rfl, no_iff (fun e => HN.out e.2), hG.out⟩
          · obtain ⟨j, rfl⟩ : ∃ j : Nat, x = (j : Int) := ⟨x.toNat, by omega⟩
            by_cases hjl : j < R.length
            · have h4 : (j : Int) < (R.length : Int) := by omega
              have h5 : ¬ (R.length : Int) ≤ (j : Int) := by omega
              have hj12 : j < 12 := by have := HR1.out; omega
              have h12 : (j : Int) < 12 := by omega
              obtain ⟨hs1, hs2⟩ := hA.out.cell hj12
              have HSL : Hid (j < S.length) := Lib.hid (by rw [hA.out.1]; exact hj12)
              have HSJ := Lib.hid (hI.out.sn_ j)
              generalize hsv : sn S j = sv at hs1
              have HSV := Lib.hid hsv
              clear hsv
              cases sv with
              | true =>
                have HN : Hid (PMI (ps.map Prod.snd) xs → False) := Lib.hid (fun h => by
                  obtain ⟨j', hj', -, hno⟩ := h.at_ hkb
                  rw [HX.out] at hj'
                  have e : j' = j := by omega
                  subst e
                  obtain ⟨i, hi, he⟩ := List.getElem_of_mem (HSJ.out.1 HSV.out)
                  rw [hI.out.len] at hi
                  refine hno i hi ?_
                  have h6 : (xs.take k)[i]?.getD 0 = xs[i]?.getD 0 := by rw [List.getElem?_take, if_pos hi]
                  rw [← h6, hI.out.eq, getD_map, cl, List.getElem?_eq_getElem (by rw [hI.out.len]; exact hi), Option.getD_some, he])
                go_wp2_with fail
                go_ret
                exact ⟨false, rfl, no_iff (fun e => HN.out e.2), hG.out⟩
              | false =>
                obtain ⟨rb, ro, rfl, hbit0⟩ := Bools.at HRC.out hjl
                have hbit := hG.out.cell hbit0 (by simp)
                have TBJ := Lib.hid (HTB.out j)
                clear hbit0
                generalize R[j]?.getD false = fits at *
                cases fits with
                | false =>
                  have HN : Hid (PMI (ps.map Prod.snd) xs → False) := Lib.hid (fun h => by
                    obtain ⟨j', hj', hb, -⟩ := h.at_ hkb
                    rw [HX.out] at hj'
                    have e : j' = j := by omega
                    subst e
                    rw [TBJ.out] at hb; cases hb)
                  go_wp2_with fail
                  go_ret
                  exact ⟨false, rfl, no_iff (fun e => HN.out e.2), hG.out⟩
                | true =>
                  have HI2 := Lib.hid (hI.out.next hkb HX.out TBJ.out HSV.out HSL.out)
                  have HA2 := Lib.hid (hA.out.set j true)
                  have HG2 := Lib.hid (grown_then hG.out (grown_set wr ⟨w.heap.size, j, none⟩ (.bool true)) (by rintro b ⟨⟩; exact .inl (Nat.le_refl _)))
                  go_wp2_with fail
                  go_roundw
                  case rel => exact ⟨k + 1, _, _, by go_num, by omega, HI2, HA2, HG2⟩
                  case measure => simp [intOf]; omega
            · have h5 : (R.length : Int) ≤ (j : Int) := by omega
              have HN : Hid (PMI (ps.map Prod.snd) xs → False) := Lib.hid (fun h => by
                obtain ⟨j', hj', hb, -⟩ := h.at_ hkb
                rw [HX.out] at hj'
                have e : j' = j := by omega
                subst e
                rw [HTB.out, List.getElem?_eq_none (by omega)] at hb
                simp at hb)
              go_wp2_with fail
              go_ret
              exact ⟨false, rfl, no_iff (fun e => HN.out e.2), hG.out⟩
        · obtain rfl : k = xs.length := by omega
          have h2 : ¬ (xs.length : Int) < (xs.length : Int) := by omega
          go_wp2_with fail
          go_ret
          refine ⟨true, rfl, ⟨fun _ => ⟨HV.out, m, ?_, ?_⟩, fun _ => rfl⟩, hG.out⟩
          · rw [← hI.out.eq, List.take_length]
          · exact ⟨by rw [hI.out.len, HTL.out, HL.out], fun i hi => hI.out.edge i (by rw [← hI.out.len]; exact hi), hI.out.nd⟩
    · have k1 : ((xs.length : Int) != (ps.length : Int)) = true := by simp; omega
      have HN : Hid (PMI (ps.map Prod.snd) xs → False) := Lib.hid (by
        rintro ⟨m, rfl, hm⟩
        have := hm.len
        rw [HTL.out] at this
        simp at hl
        omega)
      clear hl
      go_wp2_with fail
      go_ret
      exact ⟨false, rfl, no_iff (fun e => HN.out e.2), grown_refl _ _⟩
  · have hv' : validT (ps.map Prod.snd) = false := by simpa using hv
    have HV := Lib.hid hv'
    rw [hv']
    clear hv hv'
    go_wp2_with fail
    go_ret
    exact ⟨false, rfl, no_iff (fun e => by rw [HV.out] at e; cases e.1), grown_refl _ _⟩

def MostTo (T : List (List Bool)) (w : World) (e : Ending) (w' : World) : Prop := ∃ n : Nat, e = .returned (.tuple #[.int .i64 (n : Int), .bool true]) ∧ Nu T n ∧ w.grownBy w' none
set_option maxRecDepth 100000 in
theorem Most_any (vt : Value) (ps : List BRow) (w : World) (ht : BRowsP w vt ps) (hv : validT (ps.map Prod.snd) = true) :
    Calls Try.prog 20 #[vt] w (MostTo (ps.map Prod.snd) w) := by
  have HT := Lib.hid ht; have HF := Lib.hid (validT_few hv)
  obtain ⟨a, cap, rfl, -, -, -⟩ := ht
  go_enter Try.func20, Try.ntmps20
  go_wp2_with fail
  refine (Valid_any _ ps _ HT.out).mono ?_
  rintro e w1 ⟨rfl, hw1⟩
  rw [hw1, hv]
  clear hw1 w1 hv
  go_wp2_with fail
  refine (most_any _ ps _ HT.out HF.out).mono ?_
  rintro e w2 ⟨n, rfl, hn, hg⟩
  have HN := Lib.hid hn; have HG := Lib.hid hg
  clear hn hg
  go_wp2_with fail
  go_ret2
  exact ⟨n, rfl, HN.out, HG.out⟩

end Go.Proofs.Ytnppmemcdcgjhaa
