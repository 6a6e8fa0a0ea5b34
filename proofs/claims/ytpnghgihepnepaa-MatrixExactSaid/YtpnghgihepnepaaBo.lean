/- The reference's reduction as a function of rows, beside the program's. -/
import Derived.Test.YtpnghgihepnepaaBn
namespace Go.Proofs.Ytpnghgihepnepaa
open Go.RowKit
set_option linter.unusedVariables false

theorem BInv.exact {M : List (List Int)} {m k : Nat} {s : RSt} {os : List (List Int)} {c : Nat → Nat} (h : BInv M m k s os c) (hk : k < m) {t : Nat} (hh : findHit s.1 k (s.1.length - s.2.1.length) s.2.1.length = some t) :
    ∀ i, i < s.1.length → i ≠ s.2.1.length → ∀ j, j < m → ∃ z, ent (swapT s.1 s.2.1.length t) i j * (topOf k t s)[k]?.getD 0 - ent (swapT s.1 s.2.1.length t) i k * (topOf k t s)[j]?.getD 0 = s.2.2 * z := by
  obtain ⟨ps, pv, f⟩ := s
  obtain ⟨hlen, hwide, hmem, hln, hpiv, hple, hasc, hck, hfac, hne, hlow, hhigh, hzero⟩ := h
  dsimp only at *
  obtain ⟨e1, e2, e3⟩ := findHit_some hh
  have hp : pv.length < ps.length := by omega
  have ht : t < ps.length := by omega
  have htop := top_is (c := k) (k := 0) (f := f) hp ht
  have etop : topOf k t (ps, pv, f) = ps[t].2 := by rw [← htop]
  rw [etop]
  generalize hpd : pv.length = p at *
  have hpo : p < os.length := by omega
  have hto : t < os.length := by omega
  have hol : (swapO os p t).length = os.length := by unfold swapO; simp
  have hsl : (swapT ps p t).length = ps.length := swapT_len _ _ _
  have htl : ps[t].2.length = m := hwide _ (List.getElem_mem ht)
  have hsw : ∀ q ∈ swapT ps p t, q.2.length = m := fun q hq => by rw [swapT_eq hp ht] at hq; exact hwide q (swapP_mem hq)
  -- the order of the rows
  have so : ∀ i, i < p → ov (swapO os p t) i = ov os i := fun i hi => by
    unfold ov; funext j; rw [swapO_at hpo hto, if_neg (by omega), if_neg (by omega)]
  have sc : ∀ l, l < p → Bar.upd c p k l = c l := fun l hl => by unfold Bar.upd; rw [if_neg (by omega)]
  have scp : Bar.upd c p k p = k := by unfold Bar.upd; rw [if_pos rfl]
  have ent_s : ∀ i j, ent (swapT ps p t) i j = if i = t then ent ps p j else if i = p then ent ps t j else ent ps i j := fun i j => by
    unfold ent; rw [swapT_at hp ht]
    split
    · rfl
    · split <;> rfl
  have ov_s : ∀ i, ov (swapO os p t) i = if i = t then ov os p else if i = p then ov os t else ov os i := fun i => by
    unfold ov; funext j; rw [swapO_at hpo hto]
    split
    · rfl
    · split <;> rfl
  generalize hO : ov (swapO os p t) = o' at *
  generalize hC : Bar.upd c p k = c' at *
  have hD' : f = Bar.D o' c' p := by rw [hfac]; exact D_congr (fun i hi => (so i hi).symm) (fun l hl => (sc l hl).symm)
  have hlow' : ∀ l, l < p → ∀ j, j < m → ent (swapT ps p t) l j = Bar.X o' c' p l j := fun l hl j hj => by
    rw [ent_s, if_neg (by omega), if_neg (by omega), hlow l hl j hj]
    exact X_congr j (fun i hi => (so i hi).symm) (fun l hl => (sc l hl).symm)
  have yc : ∀ i i' j, ov os i = o' i' → Bar.Y (ov os) c p i j = Bar.Y o' c' p i' j := fun i i' j hi => Y_congr j (fun i hi => (so i hi).symm) (fun l hl => (sc l hl).symm) hi
  have hhigh' : ∀ i, p ≤ i → i < os.length → ∀ j, j < m → ent (swapT ps p t) i j = Bar.Y o' c' p i j := fun i h1 h2 j hj => by
    rw [ent_s]
    by_cases h3 : i = t
    · rw [if_pos h3, hhigh p (Nat.le_refl _) hpo j hj]; exact yc p i j (by rw [ov_s, if_pos h3])
    · rw [if_neg h3]
      by_cases h4 : i = p
      · rw [if_pos h4, hhigh t (by omega) hto j hj]; exact yc t i j (by rw [ov_s, if_neg h3, if_pos h4])
      · rw [if_neg h4, hhigh i h1 h2 j hj]; exact yc i i j (by rw [ov_s, if_neg h3, if_neg h4])
  have hzero' : ∀ i, p ≤ i → i < os.length → ∀ j, j < k → ent (swapT ps p t) i j = 0 := fun i h1 h2 j hj => by
    rw [ent_s]
    split
    · exact hzero p (Nat.le_refl _) hpo j hj
    · split
      · exact hzero t (by omega) hto j hj
      · exact hzero i h1 h2 j hj
  have hlead : ps[t].2[k]?.getD 0 = Bar.D o' c' (p + 1) := by
    rw [Bar.D_new, scp, ← hhigh' p (Nat.le_refl _) hpo k hk, ent_s, ent_row ht]
    by_cases h3 : p = t
    · rw [if_pos h3, ent_row hp]; subst h3; rfl
    · rw [if_neg h3, if_pos rfl]
  have htopj : ∀ j, j < m → ps[t].2[j]?.getD 0 = Bar.Y o' c' p p j := fun j hj => by
    rw [← hhigh' p (Nat.le_refl _) hpo j hj, ent_s, ent_row ht]
    by_cases h3 : p = t
    · rw [if_pos h3, ent_row hp]; subst h3; rfl
    · rw [if_neg h3, if_pos rfl]
  have hlz : Bar.D o' c' (p + 1) ≠ 0 := by
    rw [← hlead]
    unfold hit at e3
    rw [List.getElem?_eq_getElem ht] at e3
    simpa using e3
  have hDz : Bar.D o' c' p ≠ 0 := by rw [← hD']; exact hne
  intro i hi h1 j hj
  have hi2 : i < os.length := by omega
  rw [hlead, htopj j hj]
  by_cases h2 : i < p
  · have h3 := Bar.X_step o' c' j h2 hDz
    rw [scp] at h3
    exact ⟨_, by rw [hlow' i h2 j hj, hlow' i h2 k hk, ← h3, hD']⟩
  · have h3 := Bar.Y_step o' c' i j hDz
    rw [scp] at h3
    exact ⟨_, by rw [hhigh' i (by omega) hi2 j hj, hhigh' i (by omega) hi2 k hk, ← h3, hD']⟩

/-! ### The reference's steps -/
def lhit (R : List (List Int)) (c i : Nat) : Bool := (R[i]?.getD [])[c]?.getD 0 != 0
def lfind (R : List (List Int)) (c : Nat) : Nat → Nat → Option Nat
  | 0, _ => none
  | n + 1, i => if lhit R c i then some i else lfind R c n (i + 1)
def ltop (c : Nat) (row : List Int) : List Int := if row[c]?.getD 0 < 0 then timesL (-1) row else row
abbrev LSt := List (List Int) × List Int
def lstep (c : Nat) (s : LSt) : LSt :=
  match lfind s.1 c (s.1.length - s.2.length) s.2.length with
  | none => s
  | some i => ((swapO s.1 s.2.length i).mapIdx (fun t row => if t = s.2.length then ltop c ((swapO s.1 s.2.length i)[s.2.length]?.getD []) else relim c (ltop c ((swapO s.1 s.2.length i)[s.2.length]?.getD [])) row), s.2 ++ [(c : Int)])
def lredN (s : LSt) : Nat → LSt
  | 0 => s
  | k + 1 => lstep k (lredN s k)
/-- The two reductions side by side. -/
structure RelR (m : Nat) (l : LSt) (s : RSt) : Prop where
  len : l.1.length = s.1.length
  piv : l.2 = s.2.1
  row : ∀ t, t < s.1.length → PropR (l.1[t]?.getD []) (s.1[t]?.getD rowN).2
  pos : ∀ t, t < s.2.1.length → 0 < (l.1[t]?.getD [])[(s.2.1[t]?.getD 0).toNat]?.getD 0
theorem lfind_eq {R : List (List Int)} {ps : List Row} (h : ∀ t, t < ps.length → PropR (R[t]?.getD []) (ps[t]?.getD rowN).2) (c : Nat) : ∀ n i, i + n ≤ ps.length → lfind R c n i = findHit ps c n i
  | 0, i, _ => rfl
  | n + 1, i, hi => by
    unfold lfind findHit
    have h1 : lhit R c i = hit ps c i := by
      unfold lhit hit
      have h2 := (h i (by omega)).zero c
      rw [Bool.eq_iff_iff]
      simp only [bne_iff_ne, ne_eq, h2]
    rw [h1, lfind_eq h c n (i + 1) (by omega)]
theorem ltop_prop {c : Nat} {R B : List Int} (h : PropR R B) (hB : B[c]?.getD 0 ≠ 0) : PropR (ltop c R) B ∧ 0 < (ltop c R)[c]?.getD 0 := by
  have hR : R[c]?.getD 0 ≠ 0 := fun e => hB ((h.zero c).1 e)
  unfold ltop
  by_cases h0 : R[c]?.getD 0 < 0
  · rw [if_pos h0]
    refine ⟨neg_prop h, ?_⟩
    unfold timesL
    rw [List.getElem?_map]
    cases e : R[c]? with
    | none => rw [e] at h0; simp at h0
    | some x => rw [e] at h0; show 0 < x * -1; have : x < 0 := h0; omega
  · rw [if_neg h0]
    exact ⟨h, by omega⟩
theorem RelR.step {M : List (List Int)} {m k : Nat} {l : LSt} {s : RSt} {os : List (List Int)} {c : Nat → Nat} (h : RelR m l s) (hB : BInv M m k s os c) (hk : k < m) : RelR m (lstep k l) (redStep k s) := by
  obtain ⟨R, P⟩ := l
  obtain ⟨ps, pv, f⟩ := s
  obtain ⟨hlen, hpv, hrow, hpos⟩ := h
  dsimp only at hlen hpv hrow hpos
  subst hpv
  have hple : P.length ≤ ps.length := by have := hB.ple; have := hB.len; dsimp only at *; omega
  have hf : lfind R k (R.length - P.length) P.length = findHit ps k (ps.length - P.length) P.length := by
    rw [hlen]; exact lfind_eq hrow k _ _ (by omega)
  cases hh : findHit ps k (ps.length - P.length) P.length with
  | none =>
    have e1 : redStep k (ps, P, f) = (ps, P, f) := by unfold redStep; dsimp only; rw [hh]
    have e2 : lstep k (R, P) = (R, P) := by unfold lstep; dsimp only; rw [hf, hh]
    rw [e1, e2]
    exact ⟨hlen, rfl, hrow, hpos⟩
  | some t =>
    obtain ⟨a1, a2, a3⟩ := findHit_some hh
    have hp : P.length < ps.length := by omega
    have ht : t < ps.length := by omega
    have hpR : P.length < R.length := by omega
    have htR : t < R.length := by omega
    have hex := hB.exact hk hh
    dsimp only at hex
    have etop : topOf k t (ps, P, f) = ps[t].2 := top_is (c := k) (k := 0) hp ht
    rw [etop] at hex
    have e1 : redStep k (ps, P, f) = (elimP (ps[t].2[k]?.getD 0) f k P.length ps[t].2 (swapT ps P.length t), P ++ [(k : Int)], ps[t].2[k]?.getD 0) := by
      unfold redStep; dsimp only; rw [hh]; dsimp only; rw [etop]
    have e2 : lstep k (R, P) = ((swapO R P.length t).mapIdx (fun u row => if u = P.length then ltop k (R[t]?.getD []) else relim k (ltop k (R[t]?.getD [])) row), P ++ [(k : Int)]) := by
      unfold lstep; dsimp only; rw [hf, hh]; dsimp only
      have : (swapO R P.length t)[P.length]?.getD [] = R[t]?.getD [] := by
        rw [swapO_at hpR htR]
        by_cases e : P.length = t
        · rw [if_pos e, e]
        · rw [if_neg e, if_pos rfl]
      rw [this]
    rw [e1, e2]
    have hwide := hB.wide
    dsimp only at hwide
    have htl : ps[t].2.length = m := hwide _ (List.getElem_mem ht)
    have hsw : ∀ q ∈ swapT ps P.length t, q.2.length = m := fun q hq => by rw [swapT_eq hp ht] at hq; exact hwide q (swapP_mem hq)
    have hsl : (swapT ps P.length t).length = ps.length := swapT_len _ _ _
    have hol : (swapO R P.length t).length = R.length := by unfold swapO; simp
    have hL : ps[t].2[k]?.getD 0 ≠ 0 := by
      unfold hit at a3
      rw [List.getElem?_eq_getElem ht] at a3
      simpa using a3
    have hrt := hrow t ht
    rw [List.getElem?_eq_getElem ht] at hrt
    simp only [Option.getD_some] at hrt
    obtain ⟨hT, hTp⟩ := ltop_prop hrt hL
    generalize hTT : ltop k (R[t]?.getD []) = T at *
    have hTl : T.length = m := by rw [hT.len, htl]
    -- rows after the swap
    have hsrow : ∀ u, u < ps.length → PropR ((swapO R P.length t)[u]?.getD []) ((swapT ps P.length t)[u]?.getD rowN).2 := fun u hu => by
      rw [swapO_at hpR htR, swapT_at hp ht]
      split
      · exact hrow _ hp
      · split
        · exact hrow _ ht
        · exact hrow _ hu
    have hfn : f ≠ 0 := hB.ne
    have hLrow : ∀ u, u < ps.length → ((swapO R P.length t).mapIdx (fun u row => if u = P.length then T else relim k T row))[u]?.getD [] = if u = P.length then T else relim k T ((swapO R P.length t)[u]?.getD []) := fun u hu => by
      rw [List.getElem?_mapIdx, List.getElem?_eq_getElem (show u < (swapO R P.length t).length by omega)]; rfl
    have hErow : ∀ u (hu : u < ps.length), ((elimP (ps[t].2[k]?.getD 0) f k P.length ps[t].2 (swapT ps P.length t))[u]?.getD rowN).2.length = m ∧ ∀ j, j < m → ((elimP (ps[t].2[k]?.getD 0) f k P.length ps[t].2 (swapT ps P.length t))[u]?.getD rowN).2[j]?.getD 0 = if u = P.length then ent (swapT ps P.length t) u j else (ent (swapT ps P.length t) u j * ps[t].2[k]?.getD 0 - ent (swapT ps P.length t) u k * ps[t].2[j]?.getD 0).tdiv f := fun u hu => by
      refine ⟨?_, fun j hj => ?_⟩
      · rw [List.getElem?_eq_getElem (by rw [elimP_len, hsl]; exact hu)]
        exact elimP_row htl hsw _ (List.getElem_mem _)
      · have := elimP_ent (lead := ps[t].2[k]?.getD 0) (f := f) (c := k) (k := P.length) htl hsw (i := u) (j := j) (by omega) hj
        rw [← this]; rfl
    have hent : ∀ u j : Nat, ent (swapT ps P.length t) u j = ((swapT ps P.length t)[u]?.getD rowN).2[j]?.getD 0 := fun u j => rfl
    have hswl : ∀ u, u < ps.length → ((swapT ps P.length t)[u]?.getD rowN).2.length = m := fun u hu => by
      rw [List.getElem?_eq_getElem (by omega)]
      exact hsw _ (List.getElem_mem _)
    have out0 : ∀ {xs : List Int} {j : Nat}, xs.length = m → m ≤ j → xs[j]?.getD 0 = 0 := fun h1 h2 => by rw [List.getElem?_eq_none (by omega)]; rfl
    have htop : ∀ j : Nat, ((swapT ps P.length t)[P.length]?.getD rowN).2[j]?.getD 0 = ps[t].2[j]?.getD 0 := fun j => by
      rw [swapT_at hp ht]
      by_cases e : P.length = t
      · rw [if_pos e]; subst e; rw [List.getElem?_eq_getElem hp]; rfl
      · rw [if_neg e, if_pos rfl, List.getElem?_eq_getElem ht]; rfl
    refine ⟨by dsimp only; rw [List.length_mapIdx, elimP_len]; omega, rfl, fun u hu => ?_, fun u hu => ?_⟩
    · dsimp only at hu ⊢
      rw [elimP_len, hsl] at hu
      rw [hLrow u hu]
      obtain ⟨hel, hea⟩ := hErow u hu
      by_cases hup : u = P.length
      · rw [if_pos hup]
        obtain ⟨μ, hμ, hμ2⟩ := hT.mul
        refine ⟨by rw [hTl, hel], ⟨μ, hμ, fun j => ?_⟩, hT.prim⟩
        rw [← hμ2 j]
        by_cases hj : j < m
        · rw [hea j hj, if_pos hup, hent, hup, htop]
        · rw [out0 (j := j) hel (by omega), out0 (j := j) htl (by omega)]
      · rw [if_neg hup]
        refine relim_prop hT (hsrow u hu) (by rw [(hsrow u hu).len, hswl u hu, hTl]) (by rw [hel, hswl u hu]) hfn hL (fun j => ?_)
        by_cases hj : j < m
        · rw [hea j hj, if_neg hup]
          obtain ⟨z, hz⟩ := hex u hu hup j hj
          rw [hz, Int.mul_tdiv_cancel_left _ hfn, Int.mul_comm, ← hz, hent, hent]
        · rw [out0 (j := j) hel (by omega), out0 (j := j) (hswl u hu) (by omega), out0 (j := j) htl (by omega)]; simp
    · dsimp only at hu ⊢
      rw [List.length_append, List.length_singleton] at hu
      rw [hLrow u (by omega)]
      by_cases hup : u = P.length
      · rw [if_pos hup, hup, List.getElem?_append_right (by omega), Nat.sub_self]
        exact hTp
      · rw [if_neg hup, List.getElem?_append_left (by omega)]
        have hu2 : u < P.length := by omega
        have h1 := hpos u hu2
        have hsu : (swapO R P.length t)[u]?.getD [] = R[u]?.getD [] := by rw [swapO_at hpR htR, if_neg (by omega), if_neg (by omega)]
        rw [hsu]
        have hpu := hB.piv u hu2
        have hcu := hB.ck u hu2
        dsimp only at hpu hcu
        rw [hpu] at h1 ⊢
        simp only [Int.toNat_natCast] at h1 ⊢
        refine relim_pos (by rw [(hrow u (by omega)).len, hTl, List.getElem?_eq_getElem (show u < ps.length by omega)]; exact hwide _ (List.getElem_mem _)) hTp ?_ h1
        have h2 := hB.zero t (by dsimp only; omega) (by have := hB.len; dsimp only at this; omega) (c u) hcu
        dsimp only at h2
        rw [ent_row ht] at h2
        exact (hT.zero (c u)).2 h2
theorem RelR.all {M : List (List Int)} {m : Nat} {qs : List Row} {R : List (List Int)} (h : RelR m (R, []) (qs, [], 1)) (hq : qs.map Prod.snd = M) (hm : ∀ r ∈ M, r.length = m) : ∀ k, k ≤ m → RelR m (lredN (R, []) k) (redN (qs, [], 1) k)
  | 0, _ => h
  | k + 1, hk => by
    obtain ⟨os, c, hb⟩ := BInv.all hq hm k (by omega)
    exact (RelR.all h hq hm k (by omega)).step hb (by omega)
theorem RelR.start {m : Nat} (qs : List Row) : RelR m (qs.map (fun q => primL q.2), []) (qs, [], 1) := by
  refine ⟨by rw [List.length_map], rfl, fun t ht => ?_, fun t ht => by simp at ht⟩
  dsimp only at ht ⊢
  rw [List.getElem?_map, List.getElem?_eq_getElem ht]
  exact prim_prop (s := 1) (t := 1) (by decide) (by decide) rfl (fun j => rfl)
end Go.Proofs.Ytpnghgihepnepaa
