/- limit: complements undo each other. -/
import Derived.Test.YtahffjoehjpfkaaZs
namespace Go.Proofs.Ytahffjoehjpfkaa
open Go.RowKit
set_option linter.unusedVariables false
theorem maxV_leq : ∀ (a b v : List Int), a.length = b.length → b.length = v.length → leqI (maxV a b) v = (leqI a v && leqI b v)
  | [], [], [], _, _ => rfl
  | x :: a, y :: b, z :: v, h, h' => by
    have ih := maxV_leq a b v (by simpa using h) (by simpa using h')
    have e : maxV (x :: a) (y :: b) = max x y :: maxV a b := rfl
    rw [e]
    simp only [leqI]
    rw [ih]
    have h1 : decide (max x y ≤ z) = (decide (x ≤ z) && decide (y ≤ z)) := by
      rw [← Bool.decide_and]
      exact decide_eq_decide.2 Int.max_le
    rw [h1]
    cases decide (x ≤ z) <;> cases decide (y ≤ z) <;> cases leqI a v <;> rfl
theorem maxV_lenN {a b : List Int} {n : Nat} (ha : a.length = n) (hb : b.length = n) : (maxV a b).length = n := by simp [maxV, ha, hb]
abbrev geqI (a b : List Int) : Bool := leqI b a
theorem over_meet {n : Nat} {a b : List (List Int)} (ha : ∀ v ∈ a, v.length = n) (hb : ∀ v ∈ b, v.length = n) {v : List Int} (hv : v.length = n) :
    Under (fun a b => leqI b a) (meetsL maxV a b) v ↔ Under (fun a b => leqI b a) a v ∧ Under (fun a b => leqI b a) b v := by
  constructor
  · rintro ⟨u, hu, h⟩
    obtain ⟨x, hx, hu⟩ := List.mem_flatMap.1 hu
    obtain ⟨y, hy, rfl⟩ := List.mem_map.1 hu
    dsimp only at h
    rw [maxV_leq x y v (by rw [ha x hx, hb y hy]) (by rw [hv, hb y hy]), Bool.and_eq_true] at h
    exact ⟨⟨x, hx, h.1⟩, ⟨y, hy, h.2⟩⟩
  · rintro ⟨⟨x, hx, h1⟩, ⟨y, hy, h2⟩⟩
    refine ⟨maxV x y, List.mem_flatMap.2 ⟨x, hx, List.mem_map.2 ⟨y, hy, rfl⟩⟩, ?_⟩
    dsimp only at h1 h2 ⊢
    rw [maxV_leq x y v (by rw [ha x hx, hb y hy]) (by rw [hv, hb y hy]), h1, h2]
    rfl
theorem only_leq {n i : Nat} {z : List Int} {x : Int} (hl : z.length = n) (h : ∀ x ∈ z, 0 ≤ x) (hi : i < n) : leqI (onlyL n 0 i x) z = true ↔ x ≤ z[i]?.getD 0 := by
  rw [leqI_iff _ z (by rw [only_len, hl])]
  constructor
  · intro h1
    have := h1 i
    rwa [only_at n i 0 x hi] at this
  · intro h1 j
    by_cases hj : j < n
    · by_cases e : i = j
      · subst e; rw [only_at n i 0 x hi]; exact h1
      · rw [only_off n i j 0 x hj e]; exact getD_ge h j
    · rw [List.getElem?_eq_none (by rw [only_len]; omega), List.getElem?_eq_none (by omega)]; exact Int.le_refl _
theorem zero_leq {n : Nat} {z : List Int} (hl : z.length = n) (h : ∀ x ∈ z, 0 ≤ x) : leqI (List.replicate n 0) z = true := by
  rw [leqI_iff _ z (by simp [hl])]
  intro j
  by_cases hj : j < n
  · rw [show (List.replicate n (0 : Int))[j]?.getD 0 = 0 by simp [hj]]; exact getD_ge h j
  · rw [List.getElem?_eq_none (by simp; omega), List.getElem?_eq_none (by omega)]; exact Int.le_refl _
theorem over_out {n : Nat} {v z : List Int} (hv : v.length = n) (hz : z.length = n) (hz0 : ∀ x ∈ z, 0 ≤ x) (hzm : ∀ x ∈ z, x ≤ 1099511627776) :
    Under (fun a b => leqI b a) (outL (fun x => x != 1099511627776) escD v n) z ↔ leqI z v = false := by
  constructor
  · rintro ⟨u, hu, h⟩
    obtain ⟨i, hi, hp, rfl⟩ := mem_out.1 hu
    unfold escD at h
    rw [hv, only_leq hz hz0 hi] at h
    cases hvz : leqI z v with
    | false => rfl
    | true =>
      have := (leqI_iff z v (by omega)).1 hvz i
      omega
  · intro h
    have h1 : ¬ ∀ i : Nat, z[i]?.getD 0 ≤ v[i]?.getD 0 := fun h2 => by
      rw [(leqI_iff z v (by omega)).2 h2] at h; cases h
    obtain ⟨i, h2⟩ := Classical.not_forall.1 h1
    have hi : i < n := by
      rcases Nat.lt_or_ge i n with h3 | h3
      · exact h3
      · rw [List.getElem?_eq_none (by omega), List.getElem?_eq_none (by omega)] at h2
        exact absurd (Int.le_refl _) h2
    have h0 := getD_le (m := 1099511627776) (by omega) hzm i
    refine ⟨escD v i, mem_out.2 ⟨i, hi, ?_, rfl⟩, ?_⟩
    · rw [bne_iff_ne]; omega
    · dsimp only
      unfold escD
      rw [hv, only_leq hz hz0 hi]
      omega
theorem outD_len {n : Nat} {v u : List Int} (hv : v.length = n) (h : u ∈ outL (fun x => x != 1099511627776) escD v n) : u.length = n := by
  obtain ⟨i, hi, hp, rfl⟩ := mem_out.1 h
  unfold escD
  rw [only_len, hv]
theorem meetsX_len {n : Nat} {a b : List (List Int)} (ha : ∀ v ∈ a, v.length = n) (hb : ∀ v ∈ b, v.length = n) : ∀ v ∈ meetsL maxV a b, v.length = n := fun v hv => by
  obtain ⟨x, hx, h5⟩ := List.mem_flatMap.1 hv
  obtain ⟨u, hu, rfl⟩ := List.mem_map.1 h5
  exact maxV_lenN (ha x hx) (hb u hu)
theorem chain_over {n : Nat} (l : List (List Int)) : ∀ R, (∀ v ∈ l, v.length = n) → AboveC n l R →
    (∀ x ∈ R, x.length = n) ∧ Asc R ∧ ∀ z, z.length = n → (∀ x ∈ z, 0 ≤ x) → (∀ x ∈ z, x ≤ 1099511627776) → (Under (fun a b => leqI b a) R z ↔ ∀ v ∈ l, leqI z v = false) := by
  refine snoc_ind (P := fun l => ∀ R, (∀ v ∈ l, v.length = n) → AboveC n l R →
    (∀ x ∈ R, x.length = n) ∧ Asc R ∧ ∀ z, z.length = n → (∀ x ∈ z, 0 ≤ x) → (∀ x ∈ z, x ≤ 1099511627776) → (Under (fun a b => leqI b a) R z ↔ ∀ v ∈ l, leqI z v = false)) ?_ ?_ l
  · intro R _ h
    rw [Chain.nil h]
    refine ⟨by simp, by unfold Asc; simp, fun z hz h0 hm => ⟨fun _ v hv => absurd hv List.not_mem_nil, fun _ => ⟨_, List.mem_singleton.2 rfl, zero_leq hz h0⟩⟩⟩
  · intro l v ih R hl h
    obtain ⟨R0, h0, ht, hex⟩ := Chain.last h
    obtain ⟨hn0, -, hs0⟩ := ih R0 (fun u hu => hl u (List.mem_append_left _ hu)) h0
    have hv : v.length = n := hl v (by simp)
    have hn1 := meetsX_len hn0 (fun u hu => outD_len hv hu)
    refine ⟨fun x hx => hn1 x ((ht.2 x).1 hx).1, ht.1, fun z hz hz0 hzm => ?_⟩
    rw [ht.under (ord_geq n) hn1 hz hex, over_meet hn0 (fun u hu => outD_len hv hu) hz, hs0 z hz hz0 hzm, over_out hv hz hz0 hzm]
    constructor
    · rintro ⟨h1, h2⟩ u hu
      rcases List.mem_append.1 hu with h3 | h3
      · exact h1 u h3
      · rw [List.mem_singleton.1 h3]; exact h2
    · intro h1
      exact ⟨fun u hu => h1 u (List.mem_append_left _ hu), h1 v (by simp)⟩
def In3 (x : Int) : Prop := x = 0 ∨ x = 1 ∨ x = 2 ∨ x = 3
theorem maxV_in3 : ∀ {a b : List Int}, (∀ x ∈ a, In3 x) → (∀ x ∈ b, In3 x) → ∀ x ∈ maxV a b, In3 x
  | [], _, _, _ => by simp [maxV]
  | _ :: _, [], _, _ => by simp [maxV]
  | x :: a, y :: b, ha, hb => by
    intro z hz
    rw [show maxV (x :: a) (y :: b) = max x y :: maxV a b from rfl, List.mem_cons] at hz
    rcases hz with h | h
    · have h1 := ha x (by simp); have h2 := hb y (by simp)
      rcases Int.le_total x y with h3 | h3
      · rw [h, Int.max_eq_right h3]; exact h2
      · rw [h, Int.max_eq_left h3]; exact h1
    · exact maxV_in3 (fun u hu => ha u (by simp [hu])) (fun u hu => hb u (by simp [hu])) z h
theorem outD_in3 {n : Nat} {v u : List Int} (hv : v.length = n) (h3 : ∀ x ∈ v, In4 x) (h : u ∈ outL (fun x => x != 1099511627776) escD v n) : ∀ x ∈ u, In3 x := by
  obtain ⟨i, hi, hp, rfl⟩ := mem_out.1 h
  intro x hx
  unfold escD onlyL at hx
  have h4 := h3 _ (mem_getD (by omega : i < v.length))
  unfold In4 at h4
  rw [bne_iff_ne] at hp
  rcases List.mem_or_eq_of_mem_set hx with h5 | h5
  · exact .inl (List.eq_of_mem_replicate h5)
  · unfold In3; omega
theorem chain_in3 {n : Nat} (l : List (List Int)) : ∀ R, (∀ v ∈ l, v.length = n ∧ ∀ x ∈ v, In4 x) → AboveC n l R → ∀ v ∈ R, ∀ x ∈ v, In3 x := by
  refine snoc_ind (P := fun l => ∀ R, (∀ v ∈ l, v.length = n ∧ ∀ x ∈ v, In4 x) → AboveC n l R → ∀ v ∈ R, ∀ x ∈ v, In3 x) ?_ ?_ l
  · intro R _ h
    rw [Chain.nil h]
    intro v hv x hx
    rw [List.mem_singleton.1 hv] at hx
    exact .inl (List.eq_of_mem_replicate hx)
  · intro l v ih R hl h
    obtain ⟨R0, h0, ht, hex⟩ := Chain.last h
    have h1 := ih R0 (fun u hu => hl u (List.mem_append_left _ hu)) h0
    obtain ⟨hv, h3⟩ := hl v (by simp)
    intro y hy
    obtain ⟨x, hx, h5⟩ := List.mem_flatMap.1 ((ht.2 y).1 hy).1
    obtain ⟨u, hu, rfl⟩ := List.mem_map.1 h5
    exact maxV_in3 (h1 x hx) (outD_in3 hv h3 hu)
def allU : Nat → List (List Int)
  | 0 => [[]]
  | n + 1 => (allU n).map (0 :: ·) ++ (allU n).map (1 :: ·) ++ (allU n).map (2 :: ·) ++ (allU n).map (3 :: ·)
theorem allU_len : ∀ n, (allU n).length = 4 ^ n
  | 0 => rfl
  | n + 1 => by simp only [allU, List.length_append, List.length_map, allU_len n, Nat.pow_succ]; omega
theorem mem_allU : ∀ (v : List Int), (∀ x ∈ v, In3 x) → v ∈ allU v.length
  | [], _ => by simp [allU]
  | x :: v, h => by
    have h1 := mem_allU v (fun u hu => h u (by simp [hu]))
    simp only [List.length_cons, allU, List.mem_append, List.mem_map]
    rcases h x (by simp) with e | e | e | e
    · exact .inl (.inl (.inl ⟨v, h1, by rw [e]⟩))
    · exact .inl (.inl (.inr ⟨v, h1, by rw [e]⟩))
    · exact .inl (.inr ⟨v, h1, by rw [e]⟩)
    · exact .inr ⟨v, h1, by rw [e]⟩
theorem in3_fin {n : Nat} {z : List Int} (hn : n ≤ 6) (hl : z.length = n) (h : ∀ x ∈ z, In3 x) : finiteB z = true := small_fin hn hl (fun x hx => by have := h x hx; unfold In3 at this; omega)
theorem fin_valid {z : List Int} (h : finiteB z = true) : validB z = true := by
  unfold finiteB at h
  unfold validB
  simp only [Bool.and_eq_true, decide_eq_true_eq, List.all_eq_true] at h ⊢
  exact ⟨h.1, fun x hx => by unfold elemB; rw [h.2 x hx, Bool.or_true]⟩
theorem above_few {n : Nat} {l R : List (List Int)} (h4 : n ≤ 4) (hl : ∀ v ∈ l, v.length = n ∧ ∀ x ∈ v, In4 x) (h : AboveC n l R) : R.length ≤ 256 ∧ ∀ x ∈ R, validB x = true := by
  obtain ⟨hn, ha, -⟩ := chain_over l R (fun v hv => (hl v hv).1) h
  have hi := chain_in3 l R hl h
  have hlen := nodup_sub (A := R) (B := allU n) (asc_nodup ha) (fun x hx => by
    have := mem_allU x (hi x hx)
    rwa [hn x hx] at this)
  have h5 : 4 ^ n ≤ 4 ^ 4 := Nat.pow_le_pow_right (by omega) h4
  rw [allU_len] at hlen
  exact ⟨by omega, fun x hx => fin_valid (in3_fin (n := n) (by omega) (hn x hx) (hi x hx))⟩
theorem in4_bd {x : Int} (h : In4 x) : 0 ≤ x ∧ x ≤ 1099511627776 := by unfold In4 at h; omega
/-- Complements undo each other. -/
theorem chain_back {n : Nat} {c low up again : List (List Int)} (hc : ∀ v ∈ c, v.length = n ∧ ∀ x ∈ v, 0 ≤ x ∧ x ≤ 3) (h1 : BelowC n c low) (h2 : AboveC n low up) (h3 : BelowC n up again) : again = low := by
  obtain ⟨l1, l2, l3, l4⟩ := chain_split c low (fun v hv => (hc v hv).1) h1
  have i1 := chain_in4 c low hc h1
  obtain ⟨u1, u2, u4⟩ := chain_over low up l1 h2
  have i2 := chain_in3 low up (fun v hv => ⟨l1 v hv, i1 v hv⟩) h2
  obtain ⟨a1, a2, a3, a4⟩ := chain_split up again u1 h3
  have i3 := chain_in4 up again (fun v hv => ⟨u1 v hv, fun x hx => by have := i2 v hv x hx; unfold In3 at this; omega⟩) h3
  have key : ∀ z, z.length = n → (∀ x ∈ z, In4 x) → (Under leqI again z ↔ Under leqI low z) := fun z hz hx => by
    rw [a4 z hz (fun x h => (in4_bd (hx x h)).1) (fun x h => (in4_bd (hx x h)).2)]
    have hu := u4 z hz (fun x h => (in4_bd (hx x h)).1) (fun x h => (in4_bd (hx x h)).2)
    constructor
    · intro h
      rcases Classical.em (Under leqI low z) with h5 | h5
      · exact h5
      · obtain ⟨v, hv, h6⟩ := hu.2 (fun v hv => by
          cases h7 : leqI z v with
          | false => rfl
          | true => exact absurd ⟨v, hv, h7⟩ h5)
        dsimp only at h6
        rw [h v hv] at h6
        cases h6
    · rintro ⟨v, hv, h5⟩ u hu5
      cases h7 : leqI u z with
      | false => rfl
      | true =>
        have := hu.1 ⟨u, hu5, h7⟩ v hv
        rw [this] at h5
        cases h5
  have side : ∀ {A B : List (List Int)}, (∀ x ∈ A, x.length = n) → (∀ x ∈ B, x.length = n) → (∀ v ∈ A, ∀ x ∈ v, In4 x) → (∀ v ∈ B, ∀ x ∈ v, In4 x) → Tops leqI A A → (∀ z, z.length = n → (∀ x ∈ z, In4 x) → (Under leqI A z ↔ Under leqI B z)) → ∀ v ∈ A, v ∈ B := fun {A B} hA hB jA jB tA hk v hv => by
    obtain ⟨u, hu, h5⟩ := (hk v (hA v hv) (jA v hv)).1 ⟨v, hv, leqI_refl v⟩
    obtain ⟨x, hx, h6⟩ := (hk u (hB u hu) (jB u hu)).2 ⟨u, hu, leqI_refl u⟩
    have h7 := leqI_trans v u x (by rw [hA v hv, hB u hu]) (by rw [hB u hu, hA x hx]) h5 h6
    obtain rfl : x = v := ((tA.2 v).1 hv).2 x hx h7
    rw [leqI_anti x u (by rw [hA x hx, hB u hu]) h5 h6]
    exact hu
  exact asc_one (n := n) a1 l1 a2 l2 (fun v => ⟨side a1 l1 i3 i1 (tops_self a2 a3) key v, side l1 a1 i1 i3 (tops_self l2 l3) (fun z hz hx => (key z hz hx).symm) v⟩)
theorem snd_take8 (ps : List Row) (k : Nat) (h : k < ps.length) : (ps.take (k + 1)).map Prod.snd = (ps.take k).map Prod.snd ++ [(ps[k]).2] := by rw [List.take_succ_eq_append_getElem h, List.map_append]; rfl

theorem sameall_any (va vb : Value) (ps qs : List Row) (w : World) (h : RowsP w va ps) (h' : RowsP w vb qs) :
    Calls Try.prog 18 #[va, vb] w fun e w' => e = .returned (.bool (ps.map Prod.snd == qs.map Prod.snd)) ∧ Drew w w' := by
  obtain ⟨a, cap, rfl, hl, hc, hr⟩ := h
  obtain ⟨a', cap', rfl, hl1, hc', hr'⟩ := h'
  unfold maxLen at hl hl1
  have HR := Lib.hid hr; have HR' := Lib.hid hr'
  clear hr hr'
  by_cases h3 : ps.length = qs.length
  · have H3 := Lib.hid h3
    have h4 : ((ps.length : Int) != (qs.length : Int)) = false := by simp [h3]
    have hle : ps.length ≤ qs.length := by omega
    clear h3
    go_enter Try.func18, Try.ntmps18
    go_wp2_with fail
    go_loopw [5] (fun i wr => ∃ k n : Nat, k ≤ ps.length ∧ i = .int .i64 k ∧ Hid ((ps.take k).map Prod.snd = (qs.take k).map Prod.snd) ∧ wr = w.drewN n) (fun i _ => ps.length - (intOf i).toNat)
    case atStart => exact ⟨0, 0, Nat.zero_le _, rfl, Lib.hid (by simp), rfl⟩
    case round =>
      obtain ⟨k, n, hk, rfl, HA, rfl⟩ := hrel
      by_cases hlt : k < ps.length
      · have hlt' : k < qs.length := by omega
        obtain ⟨b, off, rfl, hx⟩ := RowsP.at hc hlt
        obtain ⟨b', off', rfl, hx'⟩ := RowsP.at hc' hlt'
        have h1 : (k : Int) < (ps.length : Int) := by omega
        have h2 : (k : Int) < (qs.length : Int) := by omega
        have R1 := Lib.hid (HR.out _ (List.getElem_mem hlt)); have R2 := Lib.hid (HR'.out _ (List.getElem_mem hlt'))
        have HX : Hid ((ps.take (k + 1)).map Prod.snd = (ps.take k).map Prod.snd ++ [(ps[k]).2]) := Lib.hid (snd_take8 ps k hlt)
        have HY : Hid ((qs.take (k + 1)).map Prod.snd = (qs.take k).map Prod.snd ++ [(qs[k]).2]) := Lib.hid (snd_take8 qs k hlt')
        have HN : Hid ((ps[k]).2 ≠ (qs[k]).2 → (ps.map Prod.snd == qs.map Prod.snd) = false) := Lib.hid (by
          intro hne; rw [beq_eq_false_iff_ne]; intro e
          have := congrArg (fun l => l[k]?) e
          simp only [List.getElem?_map, List.getElem?_eq_getElem hlt, List.getElem?_eq_getElem hlt', Option.map_some, Option.some.injEq] at this
          exact hne this)
        clear hc hc'
        generalize ps[k] = p at *
        generalize qs[k] = q at *
        by_cases hp : p.2 = q.2
        · have h3 : (p.2 == q.2) = true := by simp [hp]
          have HP := Lib.hid hp
          clear hp
          go_wp2_with fail
          go_big_quiet ((go_at_call 24; exact (same_any _ _ _ _ _ (R1.out.same (grown_drewN _ _ none)).1 (R2.out.same (grown_drewN _ _ none)).1).mono (fun _ _ ⟨he, hd⟩ => ⟨he, by obtain ⟨m, rfl⟩ := hd; exact ⟨_ + m, by simp [Nat.add_assoc]; rfl⟩⟩)))
          go_wp2_with fail
          go_roundw
          case rel => exact ⟨k + 1, _, by omega, by go_num, Lib.hid (by rw [HX.out, HY.out, HA.out, HP.out]), rfl⟩
          case measure => simp [intOf]; omega
        · have h3 : (p.2 == q.2) = false := by simp [hp]
          have HP := Lib.hid (HN.out hp)
          clear hp
          go_wp2_with fail
          go_big_quiet ((go_at_call 24; exact (same_any _ _ _ _ _ (R1.out.same (grown_drewN _ _ none)).1 (R2.out.same (grown_drewN _ _ none)).1).mono (fun _ _ ⟨he, hd⟩ => ⟨he, by obtain ⟨m, rfl⟩ := hd; exact ⟨_ + m, by simp [Nat.add_assoc]; rfl⟩⟩)))
          go_wp2_with fail
          go_ret
          exact ⟨ret_bool HP.out.symm, (Drew.mk _ _).trans (Drew.mk _ _)⟩
      · clear hc hc'
        have h1 : ¬ (k : Int) < (ps.length : Int) := by omega
        go_wp2_with fail
        go_ret
        exact ⟨ret_bool (by have ha := HA.out; have h3 := H3.out; rw [List.take_of_length_le (by omega), List.take_of_length_le (by omega)] at ha; rw [ha]; simp), Drew.mk _ _⟩
  · have h4 : ((ps.length : Int) != (qs.length : Int)) = true := by simp; omega
    have HN : Hid ((ps.map Prod.snd == qs.map Prod.snd) = false) := Lib.hid (by
      rw [beq_eq_false_iff_ne]; intro e
      have := congrArg List.length e
      simp at this
      exact h3 this)
    clear hc hc' h3
    go_enter Try.func18, Try.ntmps18
    go_wp2_with fail
    go_ret
    exact ⟨ret_bool HN.out.symm, Drew.refl _⟩
end Go.Proofs.Ytahffjoehjpfkaa
