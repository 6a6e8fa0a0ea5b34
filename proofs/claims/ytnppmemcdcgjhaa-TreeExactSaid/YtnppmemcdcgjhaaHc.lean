/- Matchings: how many. -/
import Derived.Test.YtnppmemcdcgjhaaHa
namespace Go.Proofs.Ytnppmemcdcgjhaa
open Go.RowKit
set_option linter.unusedVariables false

theorem len_le_of_sub {α : Type} [DecidableEq α] : ∀ {l k : List α}, l.Nodup → (∀ x ∈ l, x ∈ k) → l.length ≤ k.length
  | [], k, _, _ => Nat.zero_le _
  | x :: l, k, hn, h => by
    rw [List.nodup_cons] at hn
    have hx : x ∈ k := h x (by simp)
    have h1 := len_le_of_sub (l := l) (k := k.erase x) hn.2 (fun y hy => (List.mem_erase_of_ne (by rintro rfl; exact hn.1 hy)).2 (h y (by simp [hy])))
    rw [List.length_erase_of_mem hx] at h1
    have : 0 < k.length := List.length_pos_of_mem hx
    simp only [List.length_cons]
    omega
theorem nodup_map_on {α β : Type} {f : α → β} : ∀ {l : List α}, l.Nodup → (∀ a ∈ l, ∀ b ∈ l, f a = f b → a = b) → (l.map f).Nodup
  | [], _, _ => by simp
  | x :: l, hn, h => by
    rw [List.nodup_cons] at hn
    rw [List.map_cons, List.nodup_cons]
    refine ⟨fun hx => ?_, nodup_map_on hn.2 (fun a ha b hb => h a (by simp [ha]) b (by simp [hb]))⟩
    obtain ⟨y, hy, he⟩ := List.mem_map.1 hx
    have := h y (by simp [hy]) x (by simp) he
    subst this
    exact hn.1 hy
theorem inj_of_nodup {α β : Type} {f : α → β} : ∀ {l : List α}, (l.map f).Nodup → ∀ a ∈ l, ∀ b ∈ l, f a = f b → a = b
  | [], _, a, ha, _, _, _ => by simp at ha
  | x :: l, hn, a, ha, b, hb, he => by
    rw [List.map_cons, List.nodup_cons] at hn
    rcases List.mem_cons.1 ha with rfl | ha'
    · rcases List.mem_cons.1 hb with rfl | hb'
      · rfl
      · exact absurd (List.mem_map.2 ⟨b, hb', he.symm⟩) hn.1
    · rcases List.mem_cons.1 hb with rfl | hb'
      · exact absurd (List.mem_map.2 ⟨a, ha', he⟩) hn.1
      · exact inj_of_nodup hn.2 a ha' b hb' he
theorem nodup_of_map {α β : Type} {f : α → β} : ∀ {l : List α}, (l.map f).Nodup → l.Nodup
  | [], _ => by simp
  | x :: l, hn => by
    rw [List.map_cons, List.nodup_cons] at hn
    rw [List.nodup_cons]
    exact ⟨fun h => hn.1 (List.mem_map_of_mem h), nodup_of_map hn.2⟩

/-- A matching: rows with columns. -/
structure IsM (T : List (List Bool)) (M : List (Nat × Nat)) : Prop where
  edge : ∀ p ∈ M, tb T p.1 p.2 = true
  fst : (M.map Prod.fst).Nodup
  snd : (M.map Prod.snd).Nodup
/-- The greatest size of a matching. -/
def Nu (T : List (List Bool)) (n : Nat) : Prop := (∃ M, IsM T M ∧ M.length = n) ∧ ∀ M, IsM T M → M.length ≤ n
theorem Nu.eq {T : List (List Bool)} {n m : Nat} (h : Nu T n) (k : Nu T m) : n = m := by
  obtain ⟨⟨M, h1, h2⟩, h3⟩ := h
  obtain ⟨⟨M', k1, k2⟩, k3⟩ := k
  have := h3 M' k1
  have := k3 M h1
  omega
def mt (O : List Nat) (r : Nat) : Bool := O.contains (r + 1)
theorem mt_iff {O : List Nat} {r : Nat} : mt O r = true ↔ ∃ j, ow O j = r + 1 := by
  unfold mt ow
  rw [List.contains_iff_mem, List.mem_iff_getElem?]
  constructor
  · rintro ⟨j, hj⟩; exact ⟨j, by rw [hj]; rfl⟩
  · rintro ⟨j, hj⟩
    refine ⟨j, ?_⟩
    cases h : O[j]? with
    | none => rw [h] at hj; simp at hj
    | some x => rw [h] at hj; simpa using hj
structure MostI (T : List (List Bool)) (k : Nat) (O : List Nat) (n : Nat) : Prop where
  edge : EdgeO T O
  inj : InjO O
  low : ∀ j, ow O j ≤ k
  cnt : ((List.range k).filter (mt O)).length = n
  shut : ∃ D C, Shut T O D C ∧ (∀ r, D r → r < k) ∧ ∀ r, r < k → mt O r = false → D r
theorem own_rep (j : Nat) : ow (List.replicate 12 0) j = 0 := by
  unfold ow
  rw [List.getElem?_replicate]
  split <;> rfl
theorem sn_rep (j : Nat) : sn (List.replicate 12 false) j = false := by
  unfold sn
  rw [List.getElem?_replicate]
  split <;> rfl
theorem most_start (T : List (List Bool)) : MostI T 0 (List.replicate 12 0) 0 :=
  ⟨fun j h => absurd (own_rep j) h, fun j k h => absurd (own_rep j) h, fun j => by rw [own_rep]; exact Nat.le_refl _, by simp, fun _ => False, fun _ => False, ⟨fun _ h => h.elim, fun _ h => h.elim⟩, fun _ h => h.elim, fun r h => by omega⟩
theorem MostI.pre {T : List (List Bool)} {k n : Nat} {O : List Nat} (h : MostI T k O n) : AugPre T k O (List.replicate 12 false) :=
  ⟨h.edge, h.inj, fun j hj => by have := h.low j; omega⟩
theorem MostI.win {T : List (List Bool)} {k n : Nat} {O O' : List Nat} {S' : List Bool} (h : MostI T k O n) (w : Win T k O (List.replicate 12 false) O' S') : MostI T (k + 1) O' (n + 1) := by
  have hm : ∀ r, r ≠ k → mt O' r = mt O r := fun r hr => by
    rw [Bool.eq_iff_iff, mt_iff, mt_iff]; exact w.rows r hr
  have hk : mt O' k = true := by
    obtain ⟨j, -, -, hj⟩ := w.new
    exact mt_iff.2 ⟨j, hj⟩
  refine ⟨w.edge, fun a b ha hab => ?_, fun j => ?_, ?_, ?_⟩
  · rcases w.inj a b ha hab with e | ⟨-, e | e⟩
    · exact e
    · rw [sn_rep] at e; cases e
    · rw [sn_rep] at e; cases e
  · cases e : ow O' j with
    | zero => omega
    | succ r =>
      by_cases hr : r = k
      · omega
      · obtain ⟨a, ha⟩ := (w.rows r hr).1 ⟨j, e⟩
        have := h.low a
        omega
  · rw [List.range_succ, List.filter_append, List.length_append]
    have e1 : (List.range k).filter (mt O') = (List.range k).filter (mt O) := List.filter_congr fun r hr => hm r (by have := List.mem_range.1 hr; omega)
    rw [e1, h.cnt]
    simp [hk]
  · obtain ⟨D, C, hs, h1, h2⟩ := h.shut
    obtain ⟨hd, hc⟩ := w.shut D C hs
    refine ⟨D, C, ⟨hs.1, fun j hj => by rw [hc j hj]; exact hs.2 j hj⟩, fun r hr => by have := h1 r hr; omega, fun r hr hx => ?_⟩
    have hrk : r ≠ k := by rintro rfl; rw [hk] at hx; cases hx
    exact h2 r (by omega) (by rw [← hm r hrk]; exact hx)
theorem MostI.lose {T : List (List Bool)} {k n : Nat} {O : List Nat} {S' : List Bool} (h : MostI T k O n) (w : Lose T k O (List.replicate 12 false) S' 12) (h12 : ∀ r j, tb T r j = true → j < 12) : MostI T (k + 1) O n := by
  refine ⟨h.edge, h.inj, fun j => by have := h.low j; omega, ?_, ?_⟩
  · rw [List.range_succ, List.filter_append, List.length_append, h.cnt]
    have : mt O k = false := by
      cases e : mt O k
      · rfl
      · obtain ⟨j, hj⟩ := mt_iff.1 e
        have := h.low j
        omega
    simp [this]
  · obtain ⟨D, C, hs, h1, h2⟩ := h.shut
    refine ⟨fun r => D r ∨ r = k ∨ ∃ j, sn S' j = true ∧ ow O j = r + 1, fun j => C j ∨ sn S' j = true, ⟨fun r hr j hj => ?_, fun j hj => ?_⟩, fun r hr => ?_, fun r hr hx => ?_⟩
    · rcases hr with hr | rfl | ⟨a, ha, hb⟩
      · exact .inl (hs.1 r hr j hj)
      · exact .inr (w.all j (h12 _ _ hj) hj)
      · refine .inr ((w.clos a ha (sn_rep a)).2 j ?_)
        rw [show ow O a - 1 = r by omega]
        exact hj
    · rcases hj with hj | hj
      · exact ⟨(hs.2 j hj).1, .inl (hs.2 j hj).2⟩
      · have := (w.clos j hj (sn_rep j)).1
        exact ⟨this, .inr (.inr ⟨j, hj, by omega⟩)⟩
    · rcases hr with hr | rfl | ⟨a, ha, hb⟩
      · have := h1 r hr; omega
      · omega
      · have := h.low a; omega
    · by_cases e : r = k
      · exact .inr (.inl e)
      · exact .inl (h2 r (by omega) hx)
theorem nodup_filter {α : Type} (p : α → Bool) {l : List α} (h : l.Nodup) : (l.filter p).Nodup := List.Pairwise.sublist List.filter_sublist h
open Classical in
theorem MostI.nu {T : List (List Bool)} {n : Nat} {O : List Nat} (h : MostI T T.length O n) (hb : ∀ r j, tb T r j = true → r < T.length) : Nu T n := by
  constructor
  · have hx : ∀ r ∈ (List.range T.length).filter (mt O), ∃ j, ow O j = r + 1 := fun r hr => mt_iff.1 (List.mem_filter.1 hr).2
    let col : Nat → Nat := fun r => if h : ∃ j, ow O j = r + 1 then h.choose else 0
    have hcol : ∀ r ∈ (List.range T.length).filter (mt O), ow O (col r) = r + 1 := fun r hr => by
      show ow O (if h : ∃ j, ow O j = r + 1 then h.choose else 0) = r + 1
      rw [dif_pos (hx r hr)]
      exact (hx r hr).choose_spec
    have hn : ((List.range T.length).filter (mt O)).Nodup := nodup_filter _ List.nodup_range
    refine ⟨((List.range T.length).filter (mt O)).map (fun r => (r, col r)), ⟨fun p hp => ?_, ?_, ?_⟩, by rw [List.length_map]; exact h.cnt⟩
    · obtain ⟨r, hr, rfl⟩ := List.mem_map.1 hp
      have := h.edge (col r) (by rw [hcol r hr]; omega)
      rw [hcol r hr] at this
      exact this
    · rw [List.map_map]
      exact nodup_map_on hn (fun a _ b _ e => e)
    · rw [List.map_map]
      refine nodup_map_on hn (fun a ha b hb e => ?_)
      have e' : col a = col b := e
      have h1 := hcol a ha
      rw [e', hcol b hb] at h1
      omega
  · intro M hM
    obtain ⟨D, C, hs, h1, h2⟩ := h.shut
    have hcnt := h.cnt
    let f : Nat × Nat → Nat := fun p => if D p.1 then ow O p.2 - 1 else p.1
    have hfD : ∀ p, D p.1 → f p = ow O p.2 - 1 := fun p hp => by show (if D p.1 then ow O p.2 - 1 else p.1) = _; rw [if_pos hp]
    have hfN : ∀ p, ¬ D p.1 → f p = p.1 := fun p hp => by show (if D p.1 then ow O p.2 - 1 else p.1) = _; rw [if_neg hp]
    have hC : ∀ p ∈ M, D p.1 → C p.2 := fun p hp hd => hs.1 _ hd _ (hM.edge p hp)
    have hn : (M.map f).Nodup := by
      refine nodup_map_on (nodup_of_map hM.fst) (fun a ha b hb' e => ?_)
      by_cases da : D a.1
      · have ca := hs.2 _ (hC a ha da)
        rw [hfD a da] at e
        by_cases db : D b.1
        · have cb := hs.2 _ (hC b hb' db)
          rw [hfD b db] at e
          exact inj_of_nodup hM.snd a ha b hb' (h.inj _ _ ca.1 (by have := ca.1; have := cb.1; omega))
        · rw [hfN b db] at e
          exact absurd (e ▸ ca.2) db
      · rw [hfN a da] at e
        by_cases db : D b.1
        · have cb := hs.2 _ (hC b hb' db)
          rw [hfD b db] at e
          exact absurd (e ▸ cb.2) da
        · rw [hfN b db] at e
          exact inj_of_nodup hM.fst a ha b hb' e
    have := len_le_of_sub hn (k := (List.range T.length).filter (mt O)) (fun x hx => by
      obtain ⟨p, hp, rfl⟩ := List.mem_map.1 hx
      rw [List.mem_filter, List.mem_range]
      by_cases dp : D p.1
      · have cp := hs.2 _ (hC p hp dp)
        rw [hfD p dp]
        exact ⟨h1 _ cp.2, mt_iff.2 ⟨p.2, by have := cp.1; omega⟩⟩
      · rw [hfN p dp]
        have hlt := hb _ _ (hM.edge p hp)
        refine ⟨hlt, ?_⟩
        cases e : mt O p.1
        · exact absurd (h2 _ hlt e) dp
        · rfl)
    rw [List.length_map, hcnt] at this
    exact this

end Go.Proofs.Ytnppmemcdcgjhaa
