/- The numbers of a reduction are minors. -/
import Derived.Test.YtpnghgihepnepaaNg
import Derived.Test.YtpnghgihepnepaaBa
namespace Go.Proofs.Ytpnghgihepnepaa
open Go.RowKit
set_option linter.unusedVariables false
/-! ### Bounds of minors -/
def fb (B : Nat) : Nat → Nat
  | 0 => 1
  | p + 1 => (p + 1) * B * fb B p
theorem iota_bd {R : Bar.Vec} {B M : Nat} (hR : ∀ x, (R x).natAbs ≤ B) : ∀ (n : Nat) {F : Bar.Form}, (∀ ds : List Nat, ds.length = n → (F ds).natAbs ≤ M) → ∀ cs : List Nat, cs.length = n + 1 → (Bar.iota R F cs).natAbs ≤ (n + 1) * B * M := by
  intro n
  induction n with
  | zero =>
    intro F hF cs hc
    match cs, hc with
    | [x], _ =>
      show (R x * F [] - 0).natAbs ≤ _
      rw [Int.sub_zero, Int.natAbs_mul, Nat.zero_add, Nat.one_mul]
      exact Nat.mul_le_mul (hR x) (hF [] rfl)
  | succ n ih =>
    intro F hF cs hc
    match cs, hc with
    | x :: t, hc =>
      have ht : t.length = n + 1 := by simpa using hc
      have h1 := ih (F := fun l => F (x :: l)) (fun ds hd => hF (x :: ds) (by simp [hd])) t ht
      have h2 := Nat.mul_le_mul (hR x) (hF t ht)
      rw [← Int.natAbs_mul] at h2
      show (R x * F t - Bar.iota R (fun l => F (x :: l)) t).natAbs ≤ _
      have h3 := Int.natAbs_sub_le (R x * F t) (Bar.iota R (fun l => F (x :: l)) t)
      have h4 : (n + 1 + 1) * B * M = (n + 1) * B * M + B * M := by
        rw [Nat.add_mul (n + 1) 1 B, Nat.add_mul, Nat.one_mul]
      omega
theorem W_bd {B : Nat} : ∀ (Rs : List Bar.Vec), (∀ R ∈ Rs, ∀ x, (R x).natAbs ≤ B) → ∀ cs : List Nat, cs.length = Rs.length → (Bar.W Rs cs).natAbs ≤ fb B Rs.length
  | [], _, cs, hc => by
    match cs, hc with
    | [], _ => rw [Bar.W]; exact Nat.le_refl _
  | R :: Rs, h, cs, hc => by
    rw [Bar.W_cons]
    exact iota_bd (h R (by simp)) Rs.length (fun ds hd => W_bd Rs (fun S hS => h S (by simp [hS])) ds hd) cs hc
theorem tops_len (o : Nat → Bar.Vec) : ∀ p, (Bar.tops o p).length = p
  | 0 => rfl
  | p + 1 => by show (Bar.tops o p).length + 1 = _; rw [tops_len]
theorem cols_len (c : Nat → Nat) : ∀ p, (Bar.cols c p).length = p
  | 0 => rfl
  | p + 1 => by show (Bar.cols c p).length + 1 = _; rw [cols_len]
theorem tops_bd {o : Nat → Bar.Vec} {B : Nat} (h : ∀ i j, (o i j).natAbs ≤ B) {p : Nat} : ∀ R ∈ Bar.tops o p, ∀ x, (R x).natAbs ≤ B := by
  intro R hR x
  obtain ⟨t, -, rfl⟩ := Bar.mem_tops hR
  exact h t x
theorem D_bd {o : Nat → Bar.Vec} {B : Nat} (h : ∀ i j, (o i j).natAbs ≤ B) (c : Nat → Nat) (p : Nat) : (Bar.D o c p).natAbs ≤ fb B p := by
  have := W_bd (Bar.tops o p) (tops_bd h) (Bar.cols c p) (by rw [tops_len, cols_len])
  rwa [tops_len] at this
theorem X_bd {o : Nat → Bar.Vec} {B : Nat} (h : ∀ i j, (o i j).natAbs ≤ B) (c : Nat → Nat) (p l j : Nat) : (Bar.X o c p l j).natAbs ≤ fb B p := by
  have := W_bd (Bar.tops o p) (tops_bd h) (Bar.cols (Bar.upd c l j) p) (by rw [tops_len, cols_len])
  rwa [tops_len] at this
theorem Y_bd {o : Nat → Bar.Vec} {B : Nat} (h : ∀ i j, (o i j).natAbs ≤ B) (c : Nat → Nat) (p i j : Nat) : (Bar.Y o c p i j).natAbs ≤ fb B (p + 1) := by
  have := W_bd (o i :: Bar.tops o p) (fun R hR x => by
    rcases List.mem_cons.1 hR with rfl | hR
    · exact h i x
    · exact tops_bd h R hR x) (j :: Bar.cols c p) (by simp [tops_len, cols_len])
  rw [List.length_cons, tops_len] at this
  exact this
theorem X_congr {o o' : Nat → Bar.Vec} {c c' : Nat → Nat} {p l : Nat} (j : Nat) (ho : ∀ t, t < p → o t = o' t) (hc : ∀ t, t < p → c t = c' t) : Bar.X o c p l j = Bar.X o' c' p l j := by
  unfold Bar.X
  rw [Bar.tops_congr ho, Bar.cols_congr (c := Bar.upd c l j) (d := Bar.upd c' l j) (fun t ht => by unfold Bar.upd; rw [hc t ht])]
theorem Y_congr {o o' : Nat → Bar.Vec} {c c' : Nat → Nat} {p i i' : Nat} (j : Nat) (ho : ∀ t, t < p → o t = o' t) (hc : ∀ t, t < p → c t = c' t) (hi : o i = o' i') : Bar.Y o c p i j = Bar.Y o' c' p i' j := by
  unfold Bar.Y
  rw [Bar.tops_congr ho, Bar.cols_congr hc, hi]
theorem D_congr {o o' : Nat → Bar.Vec} {c c' : Nat → Nat} {p : Nat} (ho : ∀ t, t < p → o t = o' t) (hc : ∀ t, t < p → c t = c' t) : Bar.D o c p = Bar.D o' c' p := by
  unfold Bar.D
  rw [Bar.tops_congr ho, Bar.cols_congr hc]
/-! ### The state of a reduction -/
def ov (os : List (List Int)) : Nat → Bar.Vec := fun i j => (os[i]?.getD [])[j]?.getD 0
def swapO (os : List (List Int)) (k i : Nat) : List (List Int) := (os.set k (os[i]?.getD [])).set i (os[k]?.getD [])
theorem swapO_at {os : List (List Int)} {k i : Nat} (hk : k < os.length) (hi : i < os.length) (t : Nat) : (swapO os k i)[t]?.getD [] = if t = i then os[k]?.getD [] else if t = k then os[i]?.getD [] else os[t]?.getD [] := by
  unfold swapO
  rw [List.getElem?_set]
  by_cases h1 : i = t
  · subst h1; rw [if_pos rfl, if_pos (by simpa using hi), if_pos rfl]; rfl
  · rw [if_neg h1, if_neg (fun h : t = i => h1 h.symm), List.getElem?_set]
    by_cases h2 : k = t
    · subst h2; rw [if_pos rfl, if_pos hk, if_pos rfl]; rfl
    · rw [if_neg h2, if_neg (fun h : t = k => h2 h.symm)]
theorem swapO_mem {os : List (List Int)} {k i : Nat} (hk : k < os.length) (hi : i < os.length) (r : List Int) : r ∈ swapO os k i ↔ r ∈ os := by
  have hl : (swapO os k i).length = os.length := by unfold swapO; simp
  have gd : ∀ (l : List (List Int)) t (h : t < l.length), l[t]?.getD [] = l[t] := fun l t h => by rw [List.getElem?_eq_getElem h]; rfl
  constructor
  · intro h
    obtain ⟨t, ht, rfl⟩ := List.getElem_of_mem h
    rw [← gd _ t ht, swapO_at hk hi]
    split
    · rw [gd _ k hk]; exact List.getElem_mem _
    · split
      · rw [gd _ i hi]; exact List.getElem_mem _
      · rw [gd _ t (by omega)]; exact List.getElem_mem _
  · intro h
    obtain ⟨t, ht, rfl⟩ := List.getElem_of_mem h
    have mem : ∀ s, s < os.length → (swapO os k i)[s]?.getD [] ∈ swapO os k i := fun s hs => by rw [gd _ s (by omega)]; exact List.getElem_mem _
    by_cases h1 : t = i
    · have := mem k hk
      rw [swapO_at hk hi] at this
      by_cases h3 : k = i
      · rw [if_pos h3, gd _ k hk] at this; subst h1; subst h3; exact this
      · rw [if_neg h3, if_pos rfl, gd _ i hi] at this; subst h1; exact this
    · by_cases h2 : t = k
      · have := mem i hi
        rw [swapO_at hk hi, if_pos rfl, gd _ k hk] at this; subst h2; exact this
      · have := mem t ht
        rw [swapO_at hk hi, if_neg h1, if_neg h2, gd _ t ht] at this; exact this
theorem swapT_at {ps : List Row} {k i : Nat} (hk : k < ps.length) (hi : i < ps.length) (t : Nat) : (swapT ps k i)[t]?.getD rowN = if t = i then ps[k]?.getD rowN else if t = k then ps[i]?.getD rowN else ps[t]?.getD rowN := by
  unfold swapT
  rw [List.getElem?_set]
  by_cases h1 : i = t
  · subst h1; rw [if_pos rfl, if_pos (by simpa using hi), if_pos rfl]; rfl
  · rw [if_neg h1, if_neg (fun h : t = i => h1 h.symm), List.getElem?_set]
    by_cases h2 : k = t
    · subst h2; rw [if_pos rfl, if_pos hk, if_pos rfl]; rfl
    · rw [if_neg h2, if_neg (fun h : t = k => h2 h.symm)]
/-- The elements of row i. -/
def ent (ps : List Row) (i j : Nat) : Int := (ps[i]?.getD rowN).2[j]?.getD 0
theorem findHit_none {ps : List Row} {c : Nat} : ∀ {n i}, findHit ps c n i = none → ∀ t, i ≤ t → t < i + n → ent ps t c = 0 := by
  intro n
  induction n with
  | zero => intro i h t h1 h2; omega
  | succ n ih =>
    intro i h t h1 h2
    unfold findHit at h
    split at h
    · cases h
    · rename_i e
      by_cases h3 : t = i
      · subst h3
        unfold hit at e
        unfold ent
        simpa using e
      · exact ih h t (by omega) (by omega)
structure BInv (M : List (List Int)) (m k : Nat) (s : RSt) (os : List (List Int)) (c : Nat → Nat) : Prop where
  len : s.1.length = os.length
  wide : ∀ q ∈ s.1, q.2.length = m
  mem : ∀ r, r ∈ os ↔ r ∈ M
  ln : os.length = M.length
  piv : ∀ l, l < s.2.1.length → s.2.1[l]?.getD 0 = (c l : Int)
  ple : s.2.1.length ≤ os.length
  asc : ∀ a b, a < b → b < s.2.1.length → c a < c b
  ck : ∀ l, l < s.2.1.length → c l < k
  fac : s.2.2 = Bar.D (ov os) c s.2.1.length
  ne : s.2.2 ≠ 0
  low : ∀ l, l < s.2.1.length → ∀ j, j < m → ent s.1 l j = Bar.X (ov os) c s.2.1.length l j
  high : ∀ i, s.2.1.length ≤ i → i < os.length → ∀ j, j < m → ent s.1 i j = Bar.Y (ov os) c s.2.1.length i j
  zero : ∀ i, s.2.1.length ≤ i → i < os.length → ∀ j, j < k → ent s.1 i j = 0
theorem ent_row {ps : List Row} {i : Nat} (hi : i < ps.length) (j : Nat) : ent ps i j = ps[i].2[j]?.getD 0 := by unfold ent; rw [List.getElem?_eq_getElem hi]; rfl
theorem elimP_ent {lead f : Int} {c k m : Nat} {top : List Int} {ps : List Row} (ht : top.length = m) (hm : ∀ q ∈ ps, q.2.length = m) {i j : Nat} (hi : i < ps.length) (hj : j < m) : ent (elimP lead f c k top ps) i j = if i = k then ent ps i j else (ent ps i j * lead - ent ps i c * top[j]?.getD 0).tdiv f := by
  rw [ent_row (by rw [elimP_len]; exact hi), ent_row hi, ent_row hi]
  have h1 : (elimP lead f c k top ps)[i]'(by rw [elimP_len]; exact hi) = _ := rowsE_at (fun row => elimRow lead (row[c]?.getD 0) f row top) k ps.length 0 ps i (by rw [rowsE_len]; exact hi)
  rw [h1]
  dsimp only
  by_cases e : i = k
  · rw [if_pos e, if_pos e]
  · rw [if_neg e, if_neg e, if_pos hi, elimRow_at (by rw [hm _ (List.getElem_mem hi)]; exact hj) (by rw [ht]; exact hj)]
theorem BInv.step {M : List (List Int)} {m k : Nat} {s : RSt} {os : List (List Int)} {c : Nat → Nat} (h : BInv M m k s os c) (hk : k < m) : ∃ os' c', BInv M m (k + 1) (redStep k s) os' c' := by
  obtain ⟨ps, pv, f⟩ := s
  obtain ⟨hlen, hwide, hmem, hln, hpiv, hple, hasc, hck, hfac, hne, hlow, hhigh, hzero⟩ := h
  dsimp only at *
  cases hh : findHit ps k (ps.length - pv.length) pv.length with
  | none =>
    have e : redStep k (ps, pv, f) = (ps, pv, f) := by unfold redStep; dsimp only; rw [hh]
    rw [e]
    have hz := findHit_none hh
    refine ⟨os, c, hlen, hwide, hmem, hln, hpiv, hple, hasc, fun l hl => by have := hck l hl; omega, hfac, hne, hlow, hhigh, fun i h1 h2 j hj => ?_⟩
    by_cases h3 : j = k
    · subst h3; exact hz i h1 (by omega)
    · exact hzero i h1 h2 j (by omega)
  | some t =>
    obtain ⟨e1, e2, e3⟩ := findHit_some hh
    have hp : pv.length < ps.length := by omega
    have ht : t < ps.length := by omega
    have htop := top_is (c := k) (k := 0) (f := f) hp ht
    have e : redStep k (ps, pv, f) = (elimP (ps[t].2[k]?.getD 0) f k pv.length ps[t].2 (swapT ps pv.length t), pv ++ [(k : Int)], ps[t].2[k]?.getD 0) := by
      unfold redStep; dsimp only; rw [hh]; dsimp only; rw [htop]
    rw [e]
    generalize hpd : pv.length = p at *
    have hpo : p < os.length := by omega
    have hto : t < os.length := by omega
    have hol : (swapO os p t).length = os.length := by unfold swapO; simp
    have hsl : (swapT ps p t).length = ps.length := swapT_len _ _ _
    have htl : ps[t].2.length = m := hwide _ (List.getElem_mem ht)
    have hsw : ∀ q ∈ swapT ps p t, q.2.length = m := fun q hq => by rw [swapT_eq hp ht] at hq; exact hwide q (swapP_mem hq)
    -- the order of the rows
    have so : ∀ i, i < p → ov (swapO os p t) i = ov os i := fun i hi => by
      unfold ov; funext j; rw [swapO_at hpo hto, if_neg (by omega), if_neg (by omega)]
    have sc : ∀ l, l < p → Bar.upd c p k l = c l := fun l hl => by unfold Bar.upd; rw [if_neg (by omega)]
    have scp : Bar.upd c p k p = k := by unfold Bar.upd; rw [if_pos rfl]
    have ent_s : ∀ i j, ent (swapT ps p t) i j = if i = t then ent ps p j else if i = p then ent ps t j else ent ps i j := fun i j => by
      unfold ent; rw [swapT_at hp ht]
      split
      · rfl
      · split <;> rfl
    have ov_s : ∀ i, ov (swapO os p t) i = if i = t then ov os p else if i = p then ov os t else ov os i := fun i => by
      unfold ov; funext j; rw [swapO_at hpo hto]
      split
      · rfl
      · split <;> rfl
    generalize hO : ov (swapO os p t) = o' at *
    generalize hC : Bar.upd c p k = c' at *
    have hD' : f = Bar.D o' c' p := by rw [hfac]; exact D_congr (fun i hi => (so i hi).symm) (fun l hl => (sc l hl).symm)
    have hlow' : ∀ l, l < p → ∀ j, j < m → ent (swapT ps p t) l j = Bar.X o' c' p l j := fun l hl j hj => by
      rw [ent_s, if_neg (by omega), if_neg (by omega), hlow l hl j hj]
      exact X_congr j (fun i hi => (so i hi).symm) (fun l hl => (sc l hl).symm)
    have yc : ∀ i i' j, ov os i = o' i' → Bar.Y (ov os) c p i j = Bar.Y o' c' p i' j := fun i i' j hi => Y_congr j (fun i hi => (so i hi).symm) (fun l hl => (sc l hl).symm) hi
    have hhigh' : ∀ i, p ≤ i → i < os.length → ∀ j, j < m → ent (swapT ps p t) i j = Bar.Y o' c' p i j := fun i h1 h2 j hj => by
      rw [ent_s]
      by_cases h3 : i = t
      · rw [if_pos h3, hhigh p (Nat.le_refl _) hpo j hj]; exact yc p i j (by rw [ov_s, if_pos h3])
      · rw [if_neg h3]
        by_cases h4 : i = p
        · rw [if_pos h4, hhigh t (by omega) hto j hj]; exact yc t i j (by rw [ov_s, if_neg h3, if_pos h4])
        · rw [if_neg h4, hhigh i h1 h2 j hj]; exact yc i i j (by rw [ov_s, if_neg h3, if_neg h4])
    have hzero' : ∀ i, p ≤ i → i < os.length → ∀ j, j < k → ent (swapT ps p t) i j = 0 := fun i h1 h2 j hj => by
      rw [ent_s]
      split
      · exact hzero p (Nat.le_refl _) hpo j hj
      · split
        · exact hzero t (by omega) hto j hj
        · exact hzero i h1 h2 j hj
    have hlead : ps[t].2[k]?.getD 0 = Bar.D o' c' (p + 1) := by
      rw [Bar.D_new, scp, ← hhigh' p (Nat.le_refl _) hpo k hk, ent_s, ent_row ht]
      by_cases h3 : p = t
      · rw [if_pos h3, ent_row hp]; subst h3; rfl
      · rw [if_neg h3, if_pos rfl]
    have htopj : ∀ j, j < m → ps[t].2[j]?.getD 0 = Bar.Y o' c' p p j := fun j hj => by
      rw [← hhigh' p (Nat.le_refl _) hpo j hj, ent_s, ent_row ht]
      by_cases h3 : p = t
      · rw [if_pos h3, ent_row hp]; subst h3; rfl
      · rw [if_neg h3, if_pos rfl]
    have hlz : Bar.D o' c' (p + 1) ≠ 0 := by
      rw [← hlead]
      unfold hit at e3
      rw [List.getElem?_eq_getElem ht] at e3
      simpa using e3
    have hDz : Bar.D o' c' p ≠ 0 := by rw [← hD']; exact hne
    have hpl : (pv ++ [(k : Int)]).length = p + 1 := by simp [hpd]
    have hkz : ∀ i, p ≤ i → i < os.length → ent (swapT ps p t) i k = Bar.Y o' c' p i k := fun i h1 h2 => hhigh' i h1 h2 k hk
    have hnew : ∀ i, i < os.length → ∀ j, j < m → ent (elimP (ps[t].2[k]?.getD 0) f k p ps[t].2 (swapT ps p t)) i j = if i ≤ p then Bar.X o' c' (p + 1) i j else Bar.Y o' c' (p + 1) i j := fun i hi j hj => by
      rw [elimP_ent htl hsw (by omega) hj, hlead, htopj j hj]
      by_cases h1 : i = p
      · rw [if_pos h1, if_pos (by omega), hhigh' i (by omega) hi j hj, h1, Bar.X_new]
      · rw [if_neg h1]
        by_cases h2 : i < p
        · rw [if_pos (by omega), hlow' i h2 j hj, hlow' i h2 k hk]
          have := Bar.X_step o' c' j h2 hDz
          rw [scp] at this
          rw [← this, hD', Int.mul_tdiv_cancel_left _ hDz]
        · rw [if_neg (by omega), hhigh' i (by omega) hi j hj, hhigh' i (by omega) hi k hk]
          have := Bar.Y_step o' c' i j hDz
          rw [scp] at this
          rw [← this, hD', Int.mul_tdiv_cancel_left _ hDz]
    refine ⟨swapO os p t, c', by dsimp only; rw [elimP_len]; omega, fun q hq => elimP_row htl hsw q hq, fun r => by rw [swapO_mem hpo hto]; exact hmem r, by omega, ?_, ?_, ?_, ?_, ?_, ?_, ?_, ?_, ?_⟩
    · intro l hl
      dsimp only at hl ⊢
      rw [hpl] at hl
      by_cases h1 : l < p
      · rw [List.getElem?_append_left (by omega), hpiv l h1, sc l h1]
      · obtain rfl : l = p := by omega
        rw [List.getElem?_append_right (by omega), scp, hpd, Nat.sub_self]; rfl
    · dsimp only; rw [hpl, hol]; omega
    · intro a b hab hb
      dsimp only at hb
      rw [hpl] at hb
      by_cases h1 : b < p
      · rw [sc a (by omega), sc b h1]; exact hasc a b hab h1
      · obtain rfl : b = p := by omega
        rw [sc a hab, scp]; exact hck a hab
    · intro l hl
      dsimp only at hl
      rw [hpl] at hl
      by_cases h1 : l < p
      · rw [sc l h1]; have := hck l h1; omega
      · obtain rfl : l = p := by omega
        rw [scp]; omega
    · dsimp only; rw [hpl, hO]; exact hlead
    · dsimp only; rw [hlead]; exact hlz
    · intro l hl j hj
      dsimp only at hl ⊢
      rw [hpl] at hl ⊢
      rw [hO, hnew l (by omega) j hj, if_pos (by omega)]
    · intro i h1 h2 j hj
      dsimp only at h1 ⊢
      rw [hpl] at h1 ⊢
      rw [hol] at h2
      rw [hO, hnew i h2 j hj, if_neg (by omega)]
    · intro i h1 h2 j hj
      dsimp only at h1 ⊢
      rw [hpl] at h1
      rw [hol] at h2
      rw [elimP_ent htl hsw (by omega) (by omega), if_neg (by omega)]
      by_cases h3 : j = k
      · subst h3; rw [Int.sub_self]; exact Int.zero_tdiv _
      · have z1 := hzero' i (by omega) h2 j (by omega)
        have z2 := hzero' p (Nat.le_refl _) hpo j (by omega)
        rw [hhigh' p (Nat.le_refl _) hpo j (by omega), ← htopj j (by omega)] at z2
        rw [z1, z2]; simp
theorem BInv.start {M : List (List Int)} {m : Nat} {qs : List Row} (hq : qs.map Prod.snd = M) (hm : ∀ r ∈ M, r.length = m) : BInv M m 0 (qs, [], 1) M (fun _ => 0) := by
  have hl : qs.length = M.length := by rw [← hq, List.length_map]
  refine ⟨hl, fun q hq' => hm _ (by rw [← hq]; exact List.mem_map_of_mem hq'), fun r => Iff.rfl, rfl, fun l h => ?_, Nat.zero_le _, fun a b _ h => ?_, fun l h => ?_, ?_, ?_, fun l h => ?_, fun i _ hi j hj => ?_, fun i _ _ j h => ?_⟩
  · simp at h
  · simp at h
  · simp at h
  · show (1 : Int) = Bar.W [] []
    rw [Bar.W]
  · show (1 : Int) ≠ 0
    decide
  · simp at h
  · show ent qs i j = Bar.W [ov M i] [j]
    rw [Bar.W_cons]
    show _ = ov M i j * Bar.W [] [] - 0
    rw [Bar.W]
    unfold ent ov
    rw [← hq, List.getElem?_map]
    cases qs[i]? with
    | none => simp [rowN]
    | some q => simp
  · omega
theorem BInv.all {M : List (List Int)} {m : Nat} {qs : List Row} (hq : qs.map Prod.snd = M) (hm : ∀ r ∈ M, r.length = m) : ∀ k, k ≤ m → ∃ os c, BInv M m k (redN (qs, [], 1) k) os c
  | 0, _ => ⟨M, _, BInv.start hq hm⟩
  | k + 1, h => by
    obtain ⟨os, c, hb⟩ := BInv.all hq hm k (by omega)
    exact hb.step (by omega)
end Go.Proofs.Ytpnghgihepnepaa
