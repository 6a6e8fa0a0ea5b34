/- Linear sets; checkSet at a valid one. -/
import Derived.Test.YtgdnlibklopdiaaSd
import Derived.Test.YtgdnlibklopdiaaAs
namespace Go.Proofs.Ytgdnlibklopdiaa
open Go.RowKit
set_option linter.unusedVariables false

def IsMax (m : Int) (xs : List Int) : Prop := m ∈ xs ∧ ∀ x ∈ xs, x ≤ m
theorem IsMax.next {m : Int} {xs : List Int} {k : Nat} (h : IsMax m (xs.take k)) (hk : k < xs.length) : IsMax (max m (xs[k]?.getD 0)) (xs.take (k + 1)) := by
  rw [take_snoc' xs k hk]
  refine ⟨?_, ?_⟩
  · rcases Int.le_total m (xs[k]?.getD 0) with h1 | h1
    · rw [Int.max_eq_right h1]; simp
    · rw [Int.max_eq_left h1]; exact List.mem_append_left _ h.1
  · intro x hx
    rcases List.mem_append.1 hx with hx | hx
    · have := h.2 x hx; omega
    · simp at hx; subst hx; omega
def Maxs (xs : List Int) (w : World) (e : Ending) (w' : World) : Prop := ∃ m, e = .returned (.int .i64 m) ∧ IsMax m xs ∧ w' = w
theorem max_any (v : Value) (xs : List Int) (w : World) (h : Ints w v xs) (hne : 1 ≤ xs.length) :
    Calls Try.prog 89 #[v] w (Maxs xs w) := by
  obtain ⟨a, cap, rfl, hl, hb, hc⟩ := h
  unfold maxLen at hl
  have h0 : ¬ (xs.length : Int) < 1 := by omega
  obtain ⟨b, off, rfl, hx0⟩ := Ints.at hc (show 0 < xs.length by omega)
  rw [Nat.add_zero] at hx0
  go_enter Try.func89, Try.ntmps89
  go_wp2
  go_loopw [3, 4] (fun m i wr => ∃ (k : Nat) (z : Int), 1 ≤ k ∧ k ≤ xs.length ∧ i = .int .i64 k ∧ m = .int .i64 z ∧ Hid (IsMax z (xs.take k)) ∧ wr = w) (fun _ i _ => xs.length - (intOf i).toNat)
  case atStart => exact ⟨1, _, Nat.le_refl _, by omega, rfl, rfl, Lib.hid (by
    rw [take_snoc' xs 0 (by omega)]
    exact ⟨by simp, by simp⟩), rfl⟩
  case round =>
    obtain ⟨k, z, hk1, hk, rfl, rfl, hm, rfl⟩ := hrel
    by_cases hlt : k < xs.length
    · have HN := Lib.hid (hm.out.next hlt)
      obtain ⟨b, off, hb1, hx⟩ := Ints.at hc hlt
      obtain ⟨rfl, rfl⟩ : _ ∧ _ := by simpa using hb1
      have h1 : (k : Int) < (xs.length : Int) := by omega
      clear hc hx0 hb1 hm
      generalize xs[k]?.getD 0 = x at *
      go_wp2
      go_roundw
      case rel => exact ⟨k + 1, _, by omega, by omega, by go_num, rfl, HN, trivial⟩
      case measure => simp [intOf]; omega
    · have h1 : ¬ (k : Int) < (xs.length : Int) := by omega
      go_wp2
      go_ret
      exact ⟨z, rfl, by have := hm.out; rwa [List.take_of_length_le (by omega)] at this, rfl⟩

/-- A valid set of one dimension. -/
def ValidS (n : Nat) (b : List Int) (ps : List (List Int)) : Prop :=
  1 ≤ n ∧ n ≤ 4 ∧ b.length = n ∧ (∀ x ∈ b, 0 ≤ x ∧ x ≤ 16) ∧ (∀ p ∈ ps, PerOk n p) ∧ ps.length ≤ 3 ∧ Asc ps
/-- A value that reads as a set. -/
def LinV (w : World) (v : Value) (b : List Int) (ps : List (List Int)) : Prop := ∃ vb vp qs, v = .agg #[vb, vp] ∧ RowOk w (vb, b) ∧ RowsP w vp qs ∧ Good vp ∧ qs.map Prod.snd = ps
theorem LinV.same {w w' : World} {v : Value} {b : List Int} {ps : List (List Int)} (h : LinV w v b ps) (g : w.grownBy w' none) : LinV w' v b ps := by
  obtain ⟨vb, vp, qs, hv, h1, h2, h3, h4⟩ := h
  exact ⟨vb, vp, qs, hv, h1.same g, h2.same g, h3, h4⟩
theorem ownP_lit {w : World} {p : Row} (h : RowOk w p) : OwnP (w.alloc (.cells #[p.1] 22)) w.heap.size (.slice (some ⟨w.heap.size, 0, none⟩) 1 1) [p] := by
  refine ⟨World.ownsRow_lit w #[p.1] 1 (Nat.le_refl _) (by decide) rfl, fun q hq => ?_⟩
  rw [List.mem_singleton.1 hq]
  refine ⟨h.same (World.grownBy_alloc _ _ none), fun g h1 h2 => ?_⟩
  simp only [Value.ownBlock, Option.some.injEq] at h2
  have := h.2.2 g h1
  omega
theorem asc_adj {qs : List Row} {n k : Nat} (h : Asc (qs.map Prod.snd)) (hl : ∀ q ∈ qs, q.2.length = n) (h1 : 1 ≤ k) (hk : k < qs.length) : lexI (qs[k - 1]'(by omega)).2 (qs[k]).2 < 0 := by
  have h2 := List.pairwise_iff_getElem.1 h (k - 1) k (by simp; omega) (by simpa using hk) (by omega)
  simp only [List.getElem_map] at h2
  unfold compareI at h2
  rw [hl _ (List.getElem_mem _), hl _ (List.getElem_mem _)] at h2
  simpa using h2

set_option maxRecDepth 100000 in
set_option maxHeartbeats 1500000 in
theorem checkSet_any (n : Nat) (v : Value) (b : List Int) (ps : List (List Int)) (w : World) (h : LinV w v b ps) (hv : ValidS n b ps) :
    Calls Try.prog 64 #[.int .i64 (n : Int), v] w fun e w' => e = .returned (.int .i64 0) ∧ w.grownBy w' none := by
  obtain ⟨vb, vp, qs, rfl, hb, hr, hg, rfl⟩ := h
  have hn1 : 1 ≤ n := hv.1
  have hn4 : n ≤ 4 := hv.2.1
  have hq3 : qs.length ≤ 3 := by have := hv.2.2.2.2.2.1; rwa [List.length_map] at this
  have HB := Lib.hid hb; have HR := Lib.hid hr; have HGd := Lib.hid hg; have HA := Lib.hid hv.2.2.2.2.2.2
  have hbl := hv.2.2.1
  have HP : Hid (∀ q ∈ qs, PerOk n q.2) := Lib.hid (fun q hq => hv.2.2.2.2.1 q.2 (List.mem_map_of_mem hq))
  have HALL : Hid (∀ p ∈ ((vb, b) :: qs : List Row), p.2.length = n ∧ withB 16 p.2 = true) := Lib.hid (by
    intro p hp
    rcases List.mem_cons.1 hp with rfl | hp
    · exact ⟨hbl, withB_iff.2 hv.2.2.2.1⟩
    · have := HP.out p hp
      exact ⟨this.1.1, withB_iff.2 fun x hx => ⟨this.1.2 x hx, this.2.2 x hx⟩⟩)
  have HMX : Hid (∀ k, (hk : k < ((vb, b) :: qs : List Row).length) → 1 ≤ k → Some1 (((vb, b) :: qs : List Row)[k]).2) := Lib.hid (by
    intro k hk h1
    obtain ⟨j, rfl⟩ : ∃ j, k = j + 1 := ⟨k - 1, by omega⟩
    exact (HP.out _ (List.getElem_mem (by simpa using hk))).2.1)
  have HAL : Hid (((vb, b) :: qs : List Row).length = qs.length + 1) := Lib.hid rfl
  clear hb hr hg hv hbl
  obtain ⟨⟨ab, cb, hvb, -, -, -⟩, -, -⟩ := HB.out
  dsimp only at hvb
  subst hvb
  obtain ⟨ap, cp, rfl, -, -, -⟩ := HR.out
  go_enter Try.func64, Try.ntmps64
  have HB1 := Lib.hid (HB.out.same (World.grownBy_alloc w (.cells #[.slice ab b.length cb, .slice ap qs.length cp] 49) none))
  have HR1 := Lib.hid (HR.out.same (grown_after (o := .cells #[.slice ab b.length cb] 22) (World.grownBy_alloc w (.cells #[.slice ab b.length cb, .slice ap qs.length cp] 49) none)))
  have HF : Hid (∀ q ∈ qs, ∀ g, q.1.ownBlock = some g → (Value.slice (some ⟨w.heap.size + 1, 0, none⟩) 1 1).ownBlock ≠ some g) := Lib.hid (by
    intro q hq g h1 h2
    have := (rows_rows HR.out q hq).2.2 g h1
    simp only [Value.ownBlock, Option.some.injEq] at h2
    omega)
  have hsz : (w.alloc (.cells #[.slice ab b.length cb, .slice ap qs.length cp] 49)).heap.size = w.heap.size + 1 := by show (w.heap.push _).size = _; simp
  have hO := ownP_lit HB1.out
  rw [hsz] at hO
  have HO := Lib.hid hO
  clear hO hsz
  go_wp2_with (at_builtin; refine app_all rfl _ _ rfl _ _ [((.slice ab b.length cb, b) : Row)] rfl HO.out _ qs rfl HR1.out HF.out (by simp; omega) (by show _ ≤ ((w.heap.push _).push _).size; simp) ?_)
  intro a2 n2 c2 w2 hn2 ho hg
  have hcell := World.grownBy.cell hg (a := ⟨w.heap.size, 1, none⟩) (v := .slice ap qs.length cp) (by rw [World.cell?, heap_old _ (heap_new _ rfl)]; rfl) (by simp [Value.ownBlock])
  have G2 : Hid (w.grownBy w2 none) := Lib.hid (grown_then (grown_after (grown_after (grown_refl w none))) hg (by rintro j hj; simp only [Value.ownBlock, Option.some.injEq] at hj; exact .inl (by omega)))
  have hrr := ho.rows
  have HQ2 := Lib.hid (HR.out.same G2.out)
  have hall : ((.slice ab b.length cb, b) :: qs : List Row).length ≤ 4 := by have := HAL.out; omega
  have hall1 : 1 ≤ ((.slice ab b.length cb, b) :: qs : List Row).length := by have := HAL.out; omega
  change n2 = ((.slice ab b.length cb, b) :: qs : List Row).length at hn2
  change RowsP _ _ ((.slice ab b.length cb, b) :: qs : List Row) at hrr
  have HR2 := Lib.hid hrr
  subst hn2
  clear ho hg HB1 HR1 HF HO hrr
  generalize ((.slice ab b.length cb, b) :: qs : List Row) = all at *
  go_wp2_with fail
  go_loop [19] (fun i => ∃ k : Nat, i = .int .i64 k ∧ k ≤ all.length) (fun i => all.length - (intOf i).toNat)
  case atStart => exact ⟨0, rfl, Nat.zero_le _⟩
  case round =>
    obtain ⟨k, rfl, hk⟩ := hrel
    by_cases hlt : k < all.length
    · obtain ⟨_, _, hv, _, hc, hrow⟩ := HR2.out
      simp only [Value.slice.injEq] at hv
      obtain ⟨rfl, -, -⟩ := hv
      obtain ⟨b', off', rfl, hx⟩ := RowsP.at hc hlt
      obtain ⟨ak, ck, hvk, -, -, -⟩ := (hrow _ (List.getElem_mem hlt)).1
      have e1 := (HALL.out _ (List.getElem_mem hlt)).1
      rw [hvk, e1] at hx
      have h1 : (k : Int) < (all.length : Int) := by omega
      clear hc hrow hvk e1
      go_wp2_with fail
      go_round
      case rel => exact ⟨k + 1, by go_num, by omega⟩
      case measure => simp [intOf]; omega
    · have h1 : ¬ (k : Int) < (all.length : Int) := by omega
      go_wp2_with fail
      go_loop [30] (fun i => ∃ k : Nat, i = .int .i64 k ∧ k ≤ all.length) (fun i => all.length - (intOf i).toNat)
      case atStart => exact ⟨0, rfl, Nat.zero_le _⟩
      case round =>
        clear h1 hlt hk
        obtain ⟨k, rfl, hk⟩ := hrel
        by_cases hlt : k < all.length
        · obtain ⟨_, _, hv, _, hc, hrow⟩ := HR2.out
          simp only [Value.slice.injEq] at hv
          obtain ⟨rfl, -, -⟩ := hv
          obtain ⟨b', off', rfl, hx⟩ := RowsP.at hc hlt
          have HRK := Lib.hid (hrow _ (List.getElem_mem hlt))
          have HWK := Lib.hid (HALL.out _ (List.getElem_mem hlt))
          have HXK := Lib.hid (HMX.out k hlt)
          have h1 : (k : Int) < (all.length : Int) := by omega
          clear hc hrow
          generalize all[k] = q at *
          by_cases hk0 : k = 0
          · subst hk0
            rw [Nat.add_zero] at hx
            go_wp2_with (go_at_call 66; refine (within_any _ _ _ _ HRK.out.1).mono ?_; rintro e w' ⟨rfl, rfl⟩; rw [HWK.out.2])
            go_round
            case rel => exact ⟨1, by go_num, by omega⟩
            case measure => simp [intOf]; omega
          · have hk1 : (0 : Int) < (k : Int) := by omega
            go_wp2_with (first
              | (go_at_call 66; refine (within_any _ _ _ _ HRK.out.1).mono ?_; rintro e w' ⟨rfl, rfl⟩; rw [HWK.out.2])
              | (go_at_call 89; refine (max_any _ _ _ HRK.out.1 (by rw [HWK.out.1]; exact hn1)).mono ?_; rintro e w' ⟨m, rfl, hm, rfl⟩; have hm0 : ¬ m = 0 := (by obtain ⟨x, hx, h1⟩ := HXK.out (by omega); have := hm.2 x hx; omega); clear hm))
            go_round
            case rel => exact ⟨k + 1, by go_num, by omega⟩
            case measure => simp [intOf]; omega
        · have h1 : ¬ (k : Int) < (all.length : Int) := by omega
          have hq3' : ¬ (3 : Int) < (qs.length : Int) := by omega
          go_wp2_with fail
          go_loopw [10] (fun i wr => ∃ (k m : Nat), i = .int .i64 k ∧ 1 ≤ k ∧ k ≤ max 1 qs.length ∧ wr = w2.drewN m) (fun i _ => qs.length - (intOf i).toNat)
          case atStart => exact ⟨1, 0, rfl, Nat.le_refl _, by omega, rfl⟩
          case round =>
            clear h1 hlt hk
            obtain ⟨k, m, rfl, hk1, hk, rfl⟩ := hrel
            by_cases hlt : k < qs.length
            · have c1 : (w2.drewN m).cell? ⟨w.heap.size, 1, none⟩ = some (.slice ap qs.length cp) := hcell
              obtain ⟨_, _, hv, _, hc, hrow⟩ := HQ2.out
              simp only [Value.slice.injEq] at hv
              obtain ⟨rfl, -, -⟩ := hv
              obtain ⟨b', off', hb', hx⟩ := RowsP.at hc hlt
              obtain ⟨b2, off2, hb2, hx0⟩ := RowsP.at hc (show k - 1 < qs.length by omega)
              subst hb'
              simp only [Option.some.injEq, Addr.mk.injEq, and_true] at hb2
              obtain ⟨rfl, rfl⟩ := hb2
              have HI1 := Lib.hid (hrow _ (List.getElem_mem hlt)).1
              have HI0 := Lib.hid (hrow _ (List.getElem_mem (show k - 1 < qs.length by omega))).1
              have HLT := Lib.hid (asc_adj HA.out (fun q hq => (HP.out q hq).1.1) hk1 hlt)
              have HEQ : Hid ((qs[k - 1]'(by omega)).2.length = (qs[k]).2.length) := Lib.hid (by rw [(HP.out _ (List.getElem_mem _)).1.1, (HP.out _ (List.getElem_mem _)).1.1])
              clear hc hrow
              generalize qs[k] = p1 at *
              generalize qs[k - 1] = p0 at *
              have h1 : (k : Int) < (qs.length : Int) := by omega
              have g1 : IntKind.i64.wrap ((k : Int) - 1) = (k : Int) - 1 := IntWalk.i64_in _ (by omega)
              have g2 : (0 : Int) ≤ (k : Int) - 1 := by omega
              have g3 : ((k : Int) - 1).toNat = k - 1 := by omega
              have g4 : (k : Int) - 1 < (qs.length : Int) := by omega
              have h2 : ¬ (0 : Int) ≤ lexI p0.2 p1.2 := by have := HLT.out; omega
              go_wp2_with fail
              go_quiet ((go_at_call 82; exact quiet_drew ((slcmp_any _ _ _ _ _ (HI0.out.drewN _) (HI1.out.drewN _) HEQ.out).mono (fun e w' h => ⟨h.1, h.2 ▸ Drew.refl _⟩)) (fun m => drew_tail _ _ _ _)))
              go_wp2_with fail
              go_roundw
              case rel => exact ⟨k + 1, _, by go_num, by omega, by omega, rfl⟩
              case measure => simp [intOf]; omega
            · have h1 : ¬ (k : Int) < (qs.length : Int) := by omega
              have c1 : (w2.drewN m).cell? ⟨w.heap.size, 1, none⟩ = some (.slice ap qs.length cp) := hcell
              go_wp2_with fail
              go_ret
              exact ⟨rfl, grown_trans G2.out (grown_drewN _ _ none)⟩

end Go.Proofs.Ytgdnlibklopdiaa
