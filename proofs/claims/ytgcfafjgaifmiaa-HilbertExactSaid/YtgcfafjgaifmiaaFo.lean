/- split gives the first list there is: it is unique. -/
import Derived.Test.YtgcfafjgaifmiaaFn
namespace Go.Proofs.Ytgcfafjgaifmiaa
open Go.RowKit
set_option linter.unusedVariables false

/-- The first list: no part ahead of the one taken leads on. -/
inductive FirstOk : List (List Int) → List Int → List (List Int) → Prop
  | nil {ps : List (List Int)} {x : List Int} : someB x = false → FirstOk ps x []
  | cons {ps : List (List Int)} {x p : List Int} {L : List (List Int)} (i : Nat) : someB x = true → ps[i]? = some p → leqI p x = true → (∀ j : Nat, j < i → ∀ q L', ps[j]? = some q → leqI q x = true → ¬ SplitOk (ps.drop j) (subL x q) L') → FirstOk (ps.drop i) (subL x p) L → FirstOk ps x (p :: L)
theorem FirstOk.ok {ps : List (List Int)} {x : List Int} {L : List (List Int)} (h : FirstOk ps x L) : SplitOk ps x L := by
  induction h with
  | nil h => exact .nil h
  | cons i h1 h2 h3 _ _ ih => exact .cons i h1 h2 h3 ih
theorem FirstOk.one {ps : List (List Int)} {x : List Int} {L : List (List Int)} (h : FirstOk ps x L) : ∀ {M : List (List Int)}, FirstOk ps x M → L = M := by
  induction h with
  | nil h =>
    intro M hM
    cases hM with
    | nil _ => rfl
    | cons i h1 => rw [h] at h1; cases h1
  | cons i h1 h2 h3 h4 h5 ih =>
    intro M hM
    cases hM with
    | nil h => rw [h] at h1; cases h1
    | cons k k1 k2 k3 k4 k5 =>
      rcases Nat.lt_trichotomy i k with hl | hl | hl
      · exact absurd h5.ok (k4 i hl _ _ h2 h3)
      · subst hl
        rw [h2] at k2
        cases k2
        rw [ih k5]
      · exact absurd k5.ok (h4 k hl _ _ k2 k3)
def SplitToF (w : World) (ps : List (List Int)) (x : List Int) (e : Ending) (w' : World) : Prop :=
  (∃ v qs, e = .returned (.tuple #[v, .bool true]) ∧ RowsP w' v qs ∧ FirstOk ps x (qs.map Prod.snd) ∧ w.grownBy w' none) ∨ (e = .returned (.tuple #[.slice none 0 0, .bool false]) ∧ (∀ L, ¬ SplitOk ps x L) ∧ w.grownBy w' none)
set_option maxHeartbeats 4000000 in
set_option maxRecDepth 100000 in
theorem splitf_any {c : Nat} (hc1 : 1 ≤ c) (hc : c ≤ 6) : ∀ (n : Nat) (x : List Int) (ps : List Row) (vp vx : Value) (w : World), sumI x ≤ (n : Int) → n ≤ 100 → RowsP w vp ps → Good vp → (∀ q ∈ ps, VecOk c q.2 ∧ (∀ z ∈ q.2, z ≤ 1048576) ∧ someB q.2 = true) → ps.length ≤ 2000000 → Ints w vx x → VecOk c x →
    Calls Try.prog 43 #[vp, vx] w (SplitToF w (ps.map Prod.snd) x) := by
  intro n
  induction n using Nat.strongRecOn with
  | _ n ih =>
  intro x ps vp vx w hn hn100 hp hg hq hpl hx hxo
  have HP := Lib.hid hp; have HG := Lib.hid hg; have HQ := Lib.hid hq; have HX := Lib.hid hx; have HXO := Lib.hid hxo; have IH := Lib.hid ih; have HN := Lib.hid hn
  obtain ⟨a, cap, rfl, -⟩ : ∃ a cap, vp = .slice a ps.length cap ∧ True := by obtain ⟨a, cap, h, -⟩ := hp; exact ⟨a, cap, h, trivial⟩
  obtain ⟨ax, cx, hvx, -⟩ := id hx
  subst hvx
  clear hp hg hq hx hxo ih hn
  go_enter Try.func43, Try.ntmps43
  go_wp2_with fail
  refine (max_any _ _ _ HX.out (by rw [HXO.out.1]; exact hc1)).mono ?_
  rintro e w' ⟨m, rfl, hm, hw⟩
  replace hw := hw.symm
  subst hw
  have hm0 := some_max hm (fun z hz => (HXO.out.2 z hz).1)
  clear hm
  cases hs : someB x with
  | false =>
    rw [hs] at hm0
    have HS := Lib.hid hs
    clear hs
    have hm1 : (m == 0) = true := by rw [hm0]; rfl
    clear hm0
    go_wp2_with fail
    go_ret2
    exact .inl ⟨_, [], rfl, ⟨none, 0, rfl, Nat.zero_le _, .inl rfl, by simp⟩, .nil HS.out, grown_refl _ _⟩
  | true =>
    rw [hs] at hm0
    have HS := Lib.hid hs
    clear hs
    have hm1 : (m == 0) = false := by rw [hm0]; rfl
    clear hm0
    go_wp2_with fail
    clear hm1
    go_loopw [17] (fun i wr => ∃ k : Nat, k ≤ ps.length ∧ i = .int .i64 k ∧ Hid (∀ j : Nat, j < k → ∀ p L, (ps.map Prod.snd)[j]? = some p → leqI p x = true → SplitOk ((ps.map Prod.snd).drop j) (subL x p) L → False) ∧ Hid (w.grownBy wr none)) (fun i _ => ps.length - (intOf i).toNat)
    case atStart => exact ⟨0, Nat.zero_le _, rfl, Lib.hid (by intro j hj; omega), Lib.hid (grown_refl _ _)⟩
    case round =>
      obtain ⟨k, hk, rfl, hno, hG⟩ := hrel
      rename World => wk
      by_cases hlt : k < ps.length
      · obtain ⟨b, off, a2, c2, rfl, hcell, hrow, hri⟩ := (HP.out.same hG.out).row hlt
        obtain ⟨ta, tc, hrun, htr, htg⟩ := rows_tail1 (HP.out.same hG.out) HG.out (k := k) (by omega)
        have HRO := Lib.hid (rows_rows (HP.out.same hG.out) _ (List.getElem_mem hlt))
        have HRI := Lib.hid hri
        have HPQ := Lib.hid (HQ.out _ (List.getElem_mem hlt))
        have HPK : Hid ((ps.map Prod.snd)[k]? = some ps[k].2) := Lib.hid (by rw [List.getElem?_map, List.getElem?_eq_getElem hlt]; rfl)
        have HROW := Lib.hid hrow
        have HTR := Lib.hid htr; have HTG := Lib.hid htg
        have HDQ : Hid (∀ q ∈ ps.drop k, VecOk c q.2 ∧ (∀ z ∈ q.2, z ≤ 1048576) ∧ someB q.2 = true) := Lib.hid (fun q hq => HQ.out q (List.mem_of_mem_drop hq))
        have h1 : (k : Int) < (ps.length : Int) := by omega
        have i1 : IntKind.i64.wrap ((k : Int) + 1) = (k : Int) + 1 := IntWalk.i64_in _ (by omega)
        have HDL : Hid (ps.length - k = (ps.drop k).length) := Lib.hid (by simp)
        clear hri hrow htr htg
        generalize hpk : ps[k] = q at *
        obtain ⟨qv, p⟩ := q
        dsimp only at hcell HRI HPQ HPK HROW
        have HV := Lib.hid HPQ.out.1
        go_wp2_with fail
        have HSB := Lib.hid (sub_is hc HXO.out HV.out HPQ.out.2.1)
        refine (sub_any _ _ _ _ _ (HX.out.same hG.out) HRI.out).mono ?_
        rintro e w1 ⟨v1, rfl, ho, hg⟩
        rw [HSB.out] at ho ⊢
        clear HSB
        cases hle : leqI p x with
        | false =>
          have HLE := Lib.hid hle
          rw [hle] at ho
          have HG1 := Lib.hid (grown_trans hG.out hg)
          clear ho hg hle
          go_wp2_with fail
          go_roundw
          case rel => exact ⟨k + 1, by omega, by go_num, Lib.hid (by
            intro j hj p' L' hj1 hj2 hj3
            rcases Nat.lt_or_ge j k with h | h
            · exact hno.out j h p' L' hj1 hj2 hj3
            · obtain rfl : j = k := by omega
              rw [HPK.out] at hj1
              cases hj1
              rw [HLE.out] at hj2
              cases hj2), HG1⟩
          case measure => simp [intOf]; omega
        | true =>
          have HLE := Lib.hid hle
          rw [hle, if_pos rfl] at ho
          have hle' := hle
          rw [if_pos rfl]
          dsimp only at ho ⊢
          have hso := sub_ok HXO.out HV.out hle
          have HSO := Lib.hid hso
          have HRI1 := Lib.hid (ho.ints (fun z hz => by have := hso.2 z hz; omega))
          have HG1 := Lib.hid (grown_trans hG.out hg); have HGS := Lib.hid hg
          have hd := sumI_sub x p (by rw [HXO.out.1, HV.out.1])
          have h5 := (some_iff (fun z hz => (HV.out.2 z hz).1)).1 HPQ.out.2.2
          have h6 := sumI_nn (v := subL x p) (fun z hz => (hso.2 z hz).1)
          have hn' := HN.out
          obtain ⟨n', hn1, hn2⟩ : ∃ n' : Nat, n' < n ∧ sumI (subL x p) ≤ (n' : Int) := ⟨n - 1, by omega, by omega⟩
          have HN1 := Lib.hid hn1; have HN2 := Lib.hid hn2
          obtain ⟨a1, c1, rfl⟩ := ownI_open ho
          clear ho hg hle hle' hso hd h5 h6 hn' hn1 hn2
          go_wp2_with fail
          have IC := IH.out n' HN1.out (subL x p) (ps.drop k) (.slice ta (ps.drop k).length tc) _ w1 HN2.out (by have := HN1.out; omega) (HDL.out ▸ HTR.out.same HGS.out) (HDL.out ▸ HTG.out) HDQ.out (by simp; omega) HRI1.out HSO.out
          rw [← HDL.out] at IC
          refine IC.mono ?_
          clear IC
          rintro e w2 (⟨v2, rs, rfl, hr2, hs2, hg2⟩ | ⟨rfl, hn2, hg2⟩)
          · have HR2 := Lib.hid hr2; have HS2 := Lib.hid hs2
            have HG2 := Lib.hid (grown_trans HG1.out hg2); have HGK := Lib.hid (grown_trans HGS.out hg2)
            obtain ⟨av, cv, rfl, -⟩ : ∃ a cap, v2 = .slice a rs.length cap ∧ True := by obtain ⟨a, cap, h, -⟩ := hr2; exact ⟨a, cap, h, trivial⟩
            clear hr2 hs2 hg2
            go_wp2_with fail
            generalize hwz : World.alloc (World.alloc _ _) _ = wz
            have hgz : w2.grownBy wz none := by rw [← hwz]; exact grown_aft (World.grownBy_alloc _ _ none)
            have hcz : wz.cell? ⟨w2.heap.size, 0, none⟩ = some (.slice a2 p.length c2) ∧ wz.cell? ⟨w2.heap.size + 1, 0, none⟩ = some (.slice (some ⟨w2.heap.size, 0, none⟩) 1 1) ∧ wz.cell? ⟨w2.heap.size + 1, 1, none⟩ = some (.slice av rs.length cv) := by
              rw [← hwz]
              have hb := heap_new (w := w2.alloc (.cells #[.slice a2 p.length c2] 22)) (g := w2.heap.size + 1) (.cells #[.slice (some ⟨w2.heap.size, 0, none⟩) 1 1, .slice av rs.length cv] 23) (by show _ = (w2.heap.push _).size; simp)
              refine ⟨?_, (cells_of hb).1, (cells_of hb).2⟩
              exact (World.grownBy_alloc _ _ none).cell (cell_new1 _ _ _) (by simp)
            have HLP := Lib.hid (HS2.out.ok.len (c := c) (fun q hq => by
              obtain ⟨z, hz, rfl⟩ := List.mem_map.1 hq
              have := HDQ.out z hz
              exact ⟨this.1.nn, this.2.2⟩) HSO.out.nn)
            have hl2 : rs.length ≤ 100 := by
              have h1 := HLP.out
              have h2 := HN2.out
              have h3 := HN1.out
              rw [List.length_map] at h1
              omega
            have HCZ := Lib.hid hcz; have HGZ := Lib.hid (grown_trans HG2.out hgz); have HG3 := Lib.hid (grown_trans HGK.out hgz); have HR3 := Lib.hid (HR2.out.same hgz)
            have HR1 : Hid (RowsP wz (.slice (some ⟨w2.heap.size, 0, none⟩) 1 1) [(.slice a2 p.length c2, p)]) := Lib.hid ⟨_, 1, rfl, by unfold maxLen; simp, .inr ⟨_, 0, rfl, fun i hi => by
              obtain rfl : i = 0 := by simpa using hi
              exact HCZ.out.1⟩, fun z hz => by
              rw [List.mem_singleton.1 hz, ← HROW.out]
              exact HRO.out.same HG3.out⟩
            clear hwz hgz hcz HLP
            refine (concatR_any _ 2 _ _ _ _ wz HCZ.out.2.1 HCZ.out.2.2 HR1.out HR3.out (by simp) (by omega)).mono ?_
            rintro e w5 ⟨v5, rfl, ho, hg⟩
            have HO5 := Lib.hid ho; have HG5 := Lib.hid (grown_trans HGZ.out hg)
            obtain ⟨a5, c5, rfl⟩ := HO5.out.slice
            clear ho hg
            go_wp2_with fail
            go_ret2
            refine .inl ⟨_, _, rfl, HO5.out.rows, ?_, HG5.out⟩
            rw [List.map_append]
            exact .cons k HS.out HPK.out HLE.out (fun j hj q L' h1 h2 h3 => hno.out j hj q L' h1 h2 h3) (by rw [← List.map_drop]; exact HS2.out)
          · have HNN := Lib.hid hn2
            have HG2 := Lib.hid (grown_trans HG1.out hg2)
            clear hn2 hg2
            go_wp2_with fail
            go_roundw
            case rel => exact ⟨k + 1, by omega, by go_num, Lib.hid (by
              intro j hj p' L' hj1 hj2 hj3
              rcases Nat.lt_or_ge j k with h | h
              · exact hno.out j h p' L' hj1 hj2 hj3
              · obtain rfl : j = k := by omega
                rw [HPK.out] at hj1
                cases hj1
                refine HNN.out L' ?_
                rw [List.map_drop]
                exact hj3), HG2⟩
            case measure => simp [intOf]; omega
      · have h1 : ¬ (k : Int) < (ps.length : Int) := by omega
        go_wp2_with fail
        go_ret2
        refine .inr ⟨rfl, fun L hL => ?_, hG.out⟩
        obtain ⟨i, p, L', h2, h3, h4⟩ := isplit hL HS.out
        have : i < ps.length := by
          have := (List.getElem?_eq_some_iff.1 h2).1
          simpa using this
        exact hno.out i (by omega) p L' h2 h3 h4
end Go.Proofs.Ytgcfafjgaifmiaa
