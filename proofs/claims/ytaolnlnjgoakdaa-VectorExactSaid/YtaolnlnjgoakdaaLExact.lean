/- VectorExact: for every input it answers true. -/
import Derived.Test.YtaolnlnjgoakdaaM
import Derived.Test.YtaolnlnjgoakdaaI
namespace Go.Proofs.Ytaolnlnjgoakdaa
open Go.ChangeShapes Go.WideShapes Go.ChangeAt Go.RowKit
set_option linter.unusedVariables false

theorem Ints.step {w w' : World} {v : Value} {xs : List Int} (h : Ints w v xs) (g : w.grownBy w' none) : Ints w' v xs := h.same g
theorem Ints.drew {w w' : World} {v : Value} {xs : List Int} (h : Ints w v xs) (g : Drew w w') : Ints w' v xs := h.same (g.grown none)
def Since (W w : World) : Prop := W.grownBy w none
theorem Since.step {W w w' : World} (h : Since W w) (g : w.grownBy w' none) : Since W w' := grown_trans h g
theorem Since.drew {W w w' : World} (h : Since W w) (g : Drew w w') : Since W w' := grown_trans h (g.grown none)
def Inp (w : World) (d : Nat) (v : Value) (xs : List Int) : Prop := Ints w v xs ∧ (xs = [] ∨ ∀ g, v.ownBlock = some g → g ≠ d)
theorem Inp.step {w w' : World} {d : Nat} {v : Value} {xs : List Int} (h : Inp w d v xs) (g : w.grownBy w' none) : Inp w' d v xs := ⟨h.1.same g, h.2⟩
theorem ints_nil {w w' : World} {v : Value} (h : Ints w v []) : Ints w' v [] := by
  obtain ⟨a, cap, hv, hl, hb, -⟩ := h
  exact ⟨a, cap, hv, hl, hb, .inl rfl⟩
theorem Inp.deal {w w' : World} {d : Nat} {v : Value} {xs : List Int} (h : Inp w d v xs) (g : w.grownBy w' (some d)) : Inp w' d v xs := by
  obtain ⟨hi, rfl | hd⟩ := h
  · exact ⟨ints_nil hi, .inl rfl⟩
  · exact ⟨hi.kept g (by rintro k ⟨⟩ e; exact hd _ e rfl), .inr hd⟩
theorem Inp.of {w w' : World} {d : Nat} {a : Option Addr} {n cap : Nat} {xs : List Int} (h : Ints w (.slice a n cap) xs) (g : w.grownBy w' none) (hd : w.heap.size ≤ d) : Inp w' d (.slice a n cap) xs := by
  refine ⟨h.same g, ?_⟩
  rcases h.lt with h | h
  · exact .inl h
  · refine .inr ?_
    intro k hk
    cases a with
    | none => simp [Value.ownBlock] at hk
    | some b => simp only [Value.ownBlock, Option.some.injEq] at hk; have := h b rfl; omega
theorem addR_bd (a b : List Int) : ∀ z ∈ (addR a b).2, -9223372036854775808 ≤ z ∧ z ≤ 9223372036854775807 := by
  unfold addR
  split
  · simp
  · rename_i h
    split
    · have h1 := checkI_zero (by omega : checkI a b = 0)
      exact zip_bounds (validB_le h1.1).2 (validB_le h1.2.1).2
    · simp
theorem maxR_bd (a b : List Int) : ∀ z ∈ (maxR a b).2, -9223372036854775808 ≤ z ∧ z ≤ 9223372036854775807 := by
  unfold maxR
  split
  · simp
  · rename_i h
    have h1 := checkI_zero (by omega : checkI a b = 0)
    exact zip_bd max _ _ (fun z => -9223372036854775808 ≤ z ∧ z ≤ 9223372036854775807) (by intro x y hx hy; omega) a b (validB_le h1.1).2 (validB_le h1.2.1).2
theorem minR_bd (a b : List Int) : ∀ z ∈ (minR a b).2, -9223372036854775808 ≤ z ∧ z ≤ 9223372036854775807 := by
  unfold minR
  split
  · simp
  · rename_i h
    have h1 := checkI_zero (by omega : checkI a b = 0)
    exact zip_bd min _ _ (fun z => -9223372036854775808 ≤ z ∧ z ≤ 9223372036854775807) (by intro x y hx hy; omega) a b (validB_le h1.1).2 (validB_le h1.2.1).2
theorem subR_bd (a b : List Int) : ∀ z ∈ (subR a b).2, -9223372036854775808 ≤ z ∧ z ≤ 9223372036854775807 := by
  unfold subR
  split
  · simp
  · rename_i h
    split
    · simp
    · split
      · simp at h
        exact zip_bd subI _ _ (fun z => -9223372036854775808 ≤ z ∧ z ≤ 9223372036854775807) (by intro x y hx hy; unfold subI; split <;> omega) a b (validB_le h.1).2 (finiteB_le h.2).2
      · simp

/-- The rows of the table that the law goes through. -/
def Pair (w : World) (g k : Nat) : Prop := ∃ vx vy X Y, w.cell? ⟨g, k * 2, none⟩ = some vx ∧ w.cell? ⟨g, k * 2 + 1, none⟩ = some vy ∧ Ints w vx X ∧ Ints w vy Y
theorem Pair.same {w w' : World} {g k : Nat} (h : Pair w g k) (hg : w.grownBy w' none) : Pair w' g k := by
  obtain ⟨vx, vy, X, Y, h1, h2, h3, h4⟩ := h
  exact ⟨vx, vy, X, Y, hg.cell h1 (by simp), hg.cell h2 (by simp), h3.same hg, h4.same hg⟩

set_option maxHeartbeats 8000000 in
set_option maxRecDepth 100000 in
theorem walkVectorExact (a0 : Option Addr) (len0 cap0 : Nat) (z0 : List Int) (a1 : Option Addr) (len1 cap1 : Nat) (z1 : List Int) (a2 : Option Addr) (len2 cap2 : Nat) (z2 : List Int) (w : World)
    (w0 : IsRow .i64 w a0 len0 cap0 z0) (w1 : IsRow .i64 w a1 len1 cap1 z1) (w2 : IsRow .i64 w a2 len2 cap2 z2) :
    Calls Try.prog 3 #[.slice a0 len0 cap0, .slice a1 len1 cap1, .slice a2 len2 cap2] w fun e w' => e = .returned (.bool true) ∧ Below w.heap.size w w' := by
  obtain ⟨hI, hlen⟩ := w0.ints
  generalize z0.take len0 = zs at hI hlen
  subst hlen
  obtain ⟨hA, hlen⟩ := w1.ints
  generalize z1.take len1 = As at hA hlen
  subst hlen
  obtain ⟨hB, hlen⟩ := w2.ints
  generalize z2.take len2 = Bs at hB hlen
  subst hlen
  have HI := Lib.hid hI; have HA := Lib.hid hA; have HB := Lib.hid hB
  clear hI hA hB w0 w1 w2
  by_cases hfew : (zs.length : Int) ≤ 400 ∧ (As.length : Int) ≤ 40 ∧ (Bs.length : Int) ≤ 40
  · obtain ⟨hfew, hla, hlb⟩ := hfew
    go_enter Try.func3, Try.ntmps3
    go_wp2_with fail
    refine (awake_any _).mono ?_
    rintro e w1 ⟨rfl, hg⟩
    have HG := Lib.hid hg
    clear hg
    go_wp2_with fail
    refine (few_any _ _ _ _).mono ?_
    rintro e w2 ⟨rfl, rfl⟩
    rw [decide_eq_true hfew]
    go_wp2_with fail
    refine (new_st (HI.out.same HG.out) HG.out).mono ?_
    rintro e w3 ⟨p, d, rfl, hs⟩
    have HS := Lib.hid hs
    have Via := Lib.hid (Inp.of HA.out hs.2.1 hs.2.2); have Vib := Lib.hid (Inp.of HB.out hs.2.1 hs.2.2)
    clear hs HG HI HA HB
    go_wp2_with fail
    refine (next_st HS.out _ (by omega) (by omega)).mono ?_
    rintro e w4 ⟨n, rfl, hn0, hn1, hs, hg⟩
    replace Via := Lib.hid (Via.out.deal hg)
    replace Vib := Lib.hid (Vib.out.deal hg)
    replace HS := Lib.hid hs
    clear hs hg
    go_wp2_with fail
    refine (vector_st HS.out _ (by omega)).mono ?_
    rintro e w5 ⟨v1, X1, rfl, hlX1, hpX1, hv, hs, hg⟩
    replace Via := Lib.hid (Via.out.deal hg)
    replace Vib := Lib.hid (Vib.out.deal hg)
    have Vv1 := Lib.hid hv; replace HS := Lib.hid hs; have LX1 := Lib.hid hlX1; have PX1 := Lib.hid hpX1
    clear hv hs hg hlX1 hpX1
    obtain ⟨b1, c1, rfl, -⟩ := Vv1.out.slice
    go_wp2_with fail
    refine (vectorF_st HS.out _ (by omega)).mono ?_
    rintro e w6 ⟨v2, X2, rfl, hlX2, hpX2, hv, hs, hg⟩
    replace Via := Lib.hid (Via.out.deal hg)
    replace Vib := Lib.hid (Vib.out.deal hg)
    replace Vv1 := Lib.hid (Vv1.out.deal hg)
    have Vv2 := Lib.hid hv; replace HS := Lib.hid hs; have LX2 := Lib.hid hlX2; have PX2 := Lib.hid hpX2
    clear hv hs hg hlX2 hpX2
    obtain ⟨b2, c2, rfl, -⟩ := Vv2.out.slice
    go_wp2_with fail
    refine (vectorF_st HS.out _ (by omega)).mono ?_
    rintro e w7 ⟨v3, X3, rfl, hlX3, hpX3, hv, hs, hg⟩
    replace Via := Lib.hid (Via.out.deal hg)
    replace Vib := Lib.hid (Vib.out.deal hg)
    replace Vv1 := Lib.hid (Vv1.out.deal hg)
    replace Vv2 := Lib.hid (Vv2.out.deal hg)
    have Vv3 := Lib.hid hv; replace HS := Lib.hid hs; have LX3 := Lib.hid hlX3; have PX3 := Lib.hid hpX3
    clear hv hs hg hlX3 hpX3
    obtain ⟨b3, c3, rfl, -⟩ := Vv3.out.slice
    go_wp2_with fail
    refine (vector_st HS.out _ (by omega)).mono ?_
    rintro e w8 ⟨v4, X4, rfl, hlX4, hpX4, hv, hs, hg⟩
    replace Via := Lib.hid (Via.out.deal hg)
    replace Vib := Lib.hid (Vib.out.deal hg)
    replace Vv1 := Lib.hid (Vv1.out.deal hg)
    replace Vv2 := Lib.hid (Vv2.out.deal hg)
    replace Vv3 := Lib.hid (Vv3.out.deal hg)
    have Vv4 := Lib.hid hv; replace HS := Lib.hid hs; have LX4 := Lib.hid hlX4; have PX4 := Lib.hid hpX4
    clear hv hs hg hlX4 hpX4
    obtain ⟨b4, c4, rfl, -⟩ := Vv4.out.slice
    go_wp2_with fail
    refine (vector_st HS.out _ (by omega)).mono ?_
    rintro e w9 ⟨v5, X5, rfl, hlX5, hpX5, hv, hs, hg⟩
    replace Via := Lib.hid (Via.out.deal hg)
    replace Vib := Lib.hid (Vib.out.deal hg)
    replace Vv1 := Lib.hid (Vv1.out.deal hg)
    replace Vv2 := Lib.hid (Vv2.out.deal hg)
    replace Vv3 := Lib.hid (Vv3.out.deal hg)
    replace Vv4 := Lib.hid (Vv4.out.deal hg)
    have Vv5 := Lib.hid hv; replace HS := Lib.hid hs; have LX5 := Lib.hid hlX5; have PX5 := Lib.hid hpX5
    clear hv hs hg hlX5 hpX5
    obtain ⟨b5, c5, rfl, -⟩ := Vv5.out.slice
    go_wp2_with fail
    generalize hW : World.alloc _ _ = W
    have hcell : W.heap[w9.heap.size]? = some (.cells #[.slice a1 As.length cap1, .slice a2 Bs.length cap2, .slice b1 X1.length c1, .slice b2 X2.length c2, .slice b3 X3.length c3, .slice b4 X4.length c4, .slice a1 As.length cap1, .slice a1 As.length cap1, .slice b5 X5.length c5, .slice a2 Bs.length cap2] 28 (0, 0)) := by rw [← hW]; exact heap_new _ rfl
    have hg : w9.grownBy W none := hW ▸ World.grownBy_alloc _ _ none
    clear hW
    have iA := (Via.out.step hg).1; have iB := (Vib.out.step hg).1
    have i1 := (Vv1.out.step hg).1; have i2 := (Vv2.out.step hg).1; have i3 := (Vv3.out.step hg).1; have i4 := (Vv4.out.step hg).1; have i5 := (Vv5.out.step hg).1
    replace HS := Lib.hid (HS.out.step hg)
    have hP : ∀ k, k < 5 → Pair W w9.heap.size k := by
      intro k hk
      match k, hk with
      | 0, _ => exact ⟨_, _, _, _, by simp [World.cell?, hcell], by simp [World.cell?, hcell], iA, iB⟩
      | 1, _ => exact ⟨_, _, _, _, by simp [World.cell?, hcell], by simp [World.cell?, hcell], i1, i2⟩
      | 2, _ => exact ⟨_, _, _, _, by simp [World.cell?, hcell], by simp [World.cell?, hcell], i3, i4⟩
      | 3, _ => exact ⟨_, _, _, _, by simp [World.cell?, hcell], by simp [World.cell?, hcell], iA, iA⟩
      | 4, _ => exact ⟨_, _, _, _, by simp [World.cell?, hcell], by simp [World.cell?, hcell], i5, iB⟩
    have HP := Lib.hid hP
    clear hP hcell hg iA iB i1 i2 i3 i4 i5 Via Vib Vv1 Vv2 Vv3 Vv4 Vv5 LX1 LX2 LX3 LX4 LX5 PX1 PX2 PX3 PX4 PX5
    generalize w9.heap.size = g at HP ⊢
    go_loopw [70] (fun i wr => ∃ k : Nat, i = .int .i64 k ∧ k ≤ 5 ∧ Hid (W.grownBy wr none)) (fun i _ => 5 - (intOf i).toNat)
    case atStart => exact ⟨0, rfl, by omega, Lib.hid (grown_refl _ _)⟩
    case round =>
      obtain ⟨k, rfl, hk, hg⟩ := hrel
      by_cases hlt : k < 5
      · obtain ⟨vx, vy, X, Y, c0, c1, iX, iY⟩ := (HP.out k hlt).same hg.out
        have IX := Lib.hid iX; have IY := Lib.hid iY
        obtain ⟨ax, cx, rfl, -⟩ := iX
        obtain ⟨ay, cy, rfl, -⟩ := iY
        have h1 : (k : Int) < 5 := by omega
        go_wp2_with fail
        go_quiet (fail)
        go_wp2_with fail
        generalize hW1 : World.drewN _ _ = W1
        have hg1 : wr.grownBy W1 none := by rw [← hW1]; exact grown_trans (World.grownBy_alloc _ _ none) (grown_drewN _ _ none)
        clear hW1
        have VX := Lib.hid (IX.out.same hg1); have VY := Lib.hid (IY.out.same hg1); have VG : Hid (Since W W1) := Lib.hid (grown_trans hg.out hg1)
        clear IX IY hg hg1 c0 c1 HP HS
        go_wp2_with fail
        refine (valid_any _ _ _ VX.out).mono ?_
        rintro e w1 ⟨rfl, rfl⟩
        go_wp2_with fail
        refine (rvalid_any _ _ _ VX.out).mono ?_
        rintro e w2 ⟨rfl, rfl⟩
        go_wp2_with fail
        refine (finite_any _ _ _ VX.out).mono ?_
        rintro e w3 ⟨rfl, rfl⟩
        go_wp2_with fail
        refine (rfinite_any _ _ _ VX.out).mono ?_
        rintro e w4 ⟨rfl, rfl⟩
        go_wp2_with fail
        refine (leq_any _ _ _ _ _ VX.out VY.out).mono ?_
        rintro e w5 ⟨rfl, rfl⟩
        go_wp2_with fail
        refine (rleq_any _ _ _ _ _ VX.out VY.out).mono ?_
        rintro e w6 ⟨rfl, hd⟩
        replace VX := Lib.hid (VX.out.drew hd)
        replace VY := Lib.hid (VY.out.drew hd)
        replace VG := Lib.hid (VG.out.drew hd)
        clear hd
        go_wp2_with fail
        refine (compare_any _ _ _ _ _ VX.out VY.out).mono ?_
        rintro e w7 ⟨rfl, rfl⟩
        go_wp2_with fail
        refine (rcompare_any _ _ _ _ _ VX.out VY.out).mono ?_
        rintro e w8 ⟨rfl, hd⟩
        replace VX := Lib.hid (VX.out.drew hd)
        replace VY := Lib.hid (VY.out.drew hd)
        replace VG := Lib.hid (VG.out.drew hd)
        clear hd
        go_wp2_with fail
        refine (add_any _ _ _ _ _ VX.out VY.out).mono ?_
        rintro e w9 ⟨u1, rfl, ho, hg⟩
        replace VX := Lib.hid (VX.out.step hg)
        replace VY := Lib.hid (VY.out.step hg)
        replace VG := Lib.hid (VG.out.step hg)
        have Vu1 := Lib.hid (ho.ints (addR_bd X Y))
        clear ho hg
        go_wp2_with fail
        refine (radd_any _ _ _ _ _ VX.out VY.out).mono ?_
        rintro e w10 ⟨u2, rfl, ho, hg⟩
        replace VX := Lib.hid (VX.out.step hg)
        replace VY := Lib.hid (VY.out.step hg)
        replace VG := Lib.hid (VG.out.step hg)
        replace Vu1 := Lib.hid (Vu1.out.step hg)
        have Vu2 := Lib.hid (ho.ints (addR_bd X Y))
        clear ho hg
        go_wp2_with fail
        refine (sub_any _ _ _ _ _ VX.out VY.out).mono ?_
        rintro e w11 ⟨u3, rfl, ho, hg⟩
        replace VX := Lib.hid (VX.out.step hg)
        replace VY := Lib.hid (VY.out.step hg)
        replace VG := Lib.hid (VG.out.step hg)
        replace Vu1 := Lib.hid (Vu1.out.step hg)
        replace Vu2 := Lib.hid (Vu2.out.step hg)
        have Vu3 := Lib.hid (ho.ints (subR_bd X Y))
        clear ho hg
        go_wp2_with fail
        refine (rsub_any _ _ _ _ _ VX.out VY.out).mono ?_
        rintro e w12 ⟨u4, rfl, ho, hg⟩
        replace VX := Lib.hid (VX.out.step hg)
        replace VY := Lib.hid (VY.out.step hg)
        replace VG := Lib.hid (VG.out.step hg)
        replace Vu1 := Lib.hid (Vu1.out.step hg)
        replace Vu2 := Lib.hid (Vu2.out.step hg)
        replace Vu3 := Lib.hid (Vu3.out.step hg)
        have Vu4 := Lib.hid (ho.ints (subR_bd X Y))
        clear ho hg
        go_wp2_with fail
        refine (same_any _ _ _ _ _ Vu1.out Vu2.out).mono ?_
        rintro e w13 ⟨rfl, hd⟩
        replace VX := Lib.hid (VX.out.drew hd)
        replace VY := Lib.hid (VY.out.drew hd)
        replace VG := Lib.hid (VG.out.drew hd)
        replace Vu1 := Lib.hid (Vu1.out.drew hd)
        replace Vu2 := Lib.hid (Vu2.out.drew hd)
        replace Vu3 := Lib.hid (Vu3.out.drew hd)
        replace Vu4 := Lib.hid (Vu4.out.drew hd)
        clear hd
        rw [beq_self_eq_true]
        go_wp2_with fail
        refine (same_any _ _ _ _ _ Vu3.out Vu4.out).mono ?_
        rintro e w14 ⟨rfl, hd⟩
        replace VX := Lib.hid (VX.out.drew hd)
        replace VY := Lib.hid (VY.out.drew hd)
        replace VG := Lib.hid (VG.out.drew hd)
        replace Vu1 := Lib.hid (Vu1.out.drew hd)
        replace Vu2 := Lib.hid (Vu2.out.drew hd)
        replace Vu3 := Lib.hid (Vu3.out.drew hd)
        replace Vu4 := Lib.hid (Vu4.out.drew hd)
        clear hd
        rw [beq_self_eq_true]
        clear Vu1 Vu2 Vu3 Vu4
        go_wp2_with fail
        refine (max_any _ _ _ _ _ VX.out VY.out).mono ?_
        rintro e w15 ⟨u1, rfl, ho, hg⟩
        replace VX := Lib.hid (VX.out.step hg)
        replace VY := Lib.hid (VY.out.step hg)
        replace VG := Lib.hid (VG.out.step hg)
        have Vu1 := Lib.hid (ho.ints (maxR_bd X Y))
        clear ho hg
        go_wp2_with fail
        refine (rmax_any _ _ _ _ _ VX.out VY.out).mono ?_
        rintro e w16 ⟨u2, rfl, ho, hg⟩
        replace VX := Lib.hid (VX.out.step hg)
        replace VY := Lib.hid (VY.out.step hg)
        replace VG := Lib.hid (VG.out.step hg)
        replace Vu1 := Lib.hid (Vu1.out.step hg)
        have Vu2 := Lib.hid (ho.ints (maxR_bd X Y))
        clear ho hg
        go_wp2_with fail
        refine (min_any _ _ _ _ _ VX.out VY.out).mono ?_
        rintro e w17 ⟨u3, rfl, ho, hg⟩
        replace VX := Lib.hid (VX.out.step hg)
        replace VY := Lib.hid (VY.out.step hg)
        replace VG := Lib.hid (VG.out.step hg)
        replace Vu1 := Lib.hid (Vu1.out.step hg)
        replace Vu2 := Lib.hid (Vu2.out.step hg)
        have Vu3 := Lib.hid (ho.ints (minR_bd X Y))
        clear ho hg
        go_wp2_with fail
        refine (rmin_any _ _ _ _ _ VX.out VY.out).mono ?_
        rintro e w18 ⟨u4, rfl, ho, hg⟩
        replace VX := Lib.hid (VX.out.step hg)
        replace VY := Lib.hid (VY.out.step hg)
        replace VG := Lib.hid (VG.out.step hg)
        replace Vu1 := Lib.hid (Vu1.out.step hg)
        replace Vu2 := Lib.hid (Vu2.out.step hg)
        replace Vu3 := Lib.hid (Vu3.out.step hg)
        have Vu4 := Lib.hid (ho.ints (minR_bd X Y))
        clear ho hg
        go_wp2_with fail
        refine (same_any _ _ _ _ _ Vu1.out Vu2.out).mono ?_
        rintro e w19 ⟨rfl, hd⟩
        replace VX := Lib.hid (VX.out.drew hd)
        replace VY := Lib.hid (VY.out.drew hd)
        replace VG := Lib.hid (VG.out.drew hd)
        replace Vu1 := Lib.hid (Vu1.out.drew hd)
        replace Vu2 := Lib.hid (Vu2.out.drew hd)
        replace Vu3 := Lib.hid (Vu3.out.drew hd)
        replace Vu4 := Lib.hid (Vu4.out.drew hd)
        clear hd
        rw [beq_self_eq_true]
        go_wp2_with fail
        refine (same_any _ _ _ _ _ Vu3.out Vu4.out).mono ?_
        rintro e w20 ⟨rfl, hd⟩
        replace VX := Lib.hid (VX.out.drew hd)
        replace VY := Lib.hid (VY.out.drew hd)
        replace VG := Lib.hid (VG.out.drew hd)
        replace Vu1 := Lib.hid (Vu1.out.drew hd)
        replace Vu2 := Lib.hid (Vu2.out.drew hd)
        replace Vu3 := Lib.hid (Vu3.out.drew hd)
        replace Vu4 := Lib.hid (Vu4.out.drew hd)
        clear hd
        rw [beq_self_eq_true]
        go_wp2_with fail
        go_roundw
        case rel => exact ⟨k + 1, by go_num, by omega, VG⟩
        case measure => simp [intOf]; omega
      · have h1 : ¬ (k : Int) < 5 := by omega
        go_wp2_with fail
        go_ret
        exact ⟨rfl, (HS.out.step hg.out).below⟩
  · go_enter Try.func3, Try.ntmps3
    go_wp2_with fail
    refine (awake_any _).mono ?_
    rintro e w1 ⟨rfl, hg⟩
    have HG := Lib.hid hg
    clear hg
    go_wp2_with fail
    refine (few_any _ _ _ _).mono ?_
    rintro e w2 ⟨rfl, rfl⟩
    by_cases h1 : (zs.length : Int) ≤ 400
    · rw [decide_eq_true h1]
      by_cases h2 : (As.length : Int) ≤ 40
      · have h3 : (40 : Int) < Bs.length := by omega
        clear hfew
        go_wp2_with fail
        refine (awake_any _).mono ?_
        rintro e w3 ⟨rfl, hg⟩
        replace HG := Lib.hid (grown_trans HG.out hg)
        clear hg
        go_wp2_with fail
        go_ret
        exact ⟨rfl, below_of HG.out⟩
      · have h3 : (40 : Int) < As.length := by omega
        clear hfew
        go_wp2_with fail
        refine (awake_any _).mono ?_
        rintro e w3 ⟨rfl, hg⟩
        replace HG := Lib.hid (grown_trans HG.out hg)
        clear hg
        go_wp2_with fail
        go_ret
        exact ⟨rfl, below_of HG.out⟩
    · rw [decide_eq_false h1]
      clear hfew
      go_wp2_with fail
      refine (awake_any _).mono ?_
      rintro e w3 ⟨rfl, hg⟩
      replace HG := Lib.hid (grown_trans HG.out hg)
      clear hg
      go_wp2_with fail
      go_ret
      exact ⟨rfl, below_of HG.out⟩

/-! ### VectorExact: the statement, from its walk -/
set_option maxRecDepth 100000 in
theorem liftedVectorExact (os : Os) (started : os.Started) (H : Type) (enc : TypeId × Value → H) :
    ReturnsInHanded {} Try.checked os 3 .any (Rows.vectorExactSpec.pre6 enc Try.prog Try.f3 Rows.vectorExactRow.domain false) (Rows.vectorExactSpec.post enc Try.prog Try.f3 false true false false) := by
  refine returnsInHanded_of_change (C := Try.checked) own started (by kernel_rfl) Try.func3
    (ChangeSpec.witness6 (enc := enc) (C := Try.checked) false ⟨#[], #[.slice none 0 0, .slice none 0 0, .slice none 0 0], []⟩ 8 (by kernel_rfl) (by kernel_rfl) (by kernel_rfl) (by kernel_rfl)) ?_
  intro W base args ds gs before hval0 hW hcnd _
  have hval : ∀ (j : Nat) t v, Try.f3.params[j]? = some t → args[j]? = some v → Value.okWide Try.prog W .any base t v := hval0
  have hW' := hW
  obtain ⟨p, q, hA0, hV, rfl, hfz, hnd⟩ := hW
  have hA : DataW.TrodAll enc Try.prog W 0 (fun _ => true) true Try.f3.params.toList args.toList ds p := hA0
  rw [Try.params3] at hA hval
  obtain ⟨v0, vs0, d0, ds0, p0, q0, hargs, rfl, rfl, h0, r0⟩ := trodAll_cons hA
  obtain ⟨v1, vs1, d1, ds1, p1, q1, rfl, rfl, rfl, h1, r1⟩ := trodAll_cons r0
  obtain ⟨v2, vs2, d2, ds2, p2, q2, rfl, rfl, rfl, h2, r2⟩ := trodAll_cons r1
  obtain ⟨rfl, rfl, rfl⟩ := trodAll_nil r2
  obtain rfl : args = #[v0, v1, v2] := by cases args; simp_all
  obtain ⟨rfl, rfl⟩ := trodVars_none hV
  obtain ⟨a0, len0, cap0, rfl⟩ := okWide_slice Try.underlying22 (hval 0 22 v0 rfl rfl)
  have k0 := h0
  have lt0 : ∀ x ∈ p0, x.block < W.heap.size := by obtain ⟨m, hm⟩ := k0; exact DataW.trod_lt m _ _ _ hm
  obtain ⟨z0, w0⟩ : ∃ zs, IsRow .i64 W a0 len0 cap0 zs := by
    obtain ⟨fuel, hf⟩ := h0
    rcases open_ints Try.underlying22 Try.underlying3 (by kernel_rfl) hf with ⟨hcs, _⟩ | ⟨x, l, c, zs, hcs, _, hl, hm, hz, _, hcell, hwz⟩
    · simp [Value.cells] at hcs
      obtain ⟨rfl, rfl, rfl⟩ := hcs
      exact ⟨[], .inl ⟨rfl, rfl, rfl, rfl⟩⟩
    · simp [Value.cells] at hcs
      obtain ⟨rfl, rfl, rfl⟩ := hcs
      exact ⟨zs, .inr ⟨_, rfl, hl, hm, by simpa using hz, hcell, hwz⟩⟩
  obtain ⟨a1, len1, cap1, rfl⟩ := okWide_slice Try.underlying22 (hval 1 22 v1 rfl rfl)
  have k1 := h1
  have lt1 : ∀ x ∈ p1, x.block < W.heap.size := by obtain ⟨m, hm⟩ := k1; exact DataW.trod_lt m _ _ _ hm
  obtain ⟨z1, w1⟩ : ∃ zs, IsRow .i64 W a1 len1 cap1 zs := by
    obtain ⟨fuel, hf⟩ := h1
    rcases open_ints Try.underlying22 Try.underlying3 (by kernel_rfl) hf with ⟨hcs, _⟩ | ⟨x, l, c, zs, hcs, _, hl, hm, hz, _, hcell, hwz⟩
    · simp [Value.cells] at hcs
      obtain ⟨rfl, rfl, rfl⟩ := hcs
      exact ⟨[], .inl ⟨rfl, rfl, rfl, rfl⟩⟩
    · simp [Value.cells] at hcs
      obtain ⟨rfl, rfl, rfl⟩ := hcs
      exact ⟨zs, .inr ⟨_, rfl, hl, hm, by simpa using hz, hcell, hwz⟩⟩
  obtain ⟨a2, len2, cap2, rfl⟩ := okWide_slice Try.underlying22 (hval 2 22 v2 rfl rfl)
  have k2 := h2
  have lt2 : ∀ x ∈ p2, x.block < W.heap.size := by obtain ⟨m, hm⟩ := k2; exact DataW.trod_lt m _ _ _ hm
  obtain ⟨z2, w2⟩ : ∃ zs, IsRow .i64 W a2 len2 cap2 zs := by
    obtain ⟨fuel, hf⟩ := h2
    rcases open_ints Try.underlying22 Try.underlying3 (by kernel_rfl) hf with ⟨hcs, _⟩ | ⟨x, l, c, zs, hcs, _, hl, hm, hz, _, hcell, hwz⟩
    · simp [Value.cells] at hcs
      obtain ⟨rfl, rfl, rfl⟩ := hcs
      exact ⟨[], .inl ⟨rfl, rfl, rfl, rfl⟩⟩
    · simp [Value.cells] at hcs
      obtain ⟨rfl, rfl, rfl⟩ := hcs
      exact ⟨zs, .inr ⟨_, rfl, hl, hm, by simpa using hz, hcell, hwz⟩⟩
  clear hA0 hval0
  refine (walkVectorExact a0 len0 cap0 z0 a1 len1 cap1 z1 a2 len2 cap2 z2 W w0 w1 w2).mono fun e W' ⟨he, bel⟩ => ?_
  subst he
  exact ⟨_, rfl, _, _, _, [], _, [], hW', trodAll_mk1 (shut_bool Try.underlying4 _), (trodAll_cons_mk (Below.trod laidOut (by kernel_rfl) (of_decide_eq_true (by kernel_rfl)) k0 bel lt0) (trodAll_cons_mk (Below.trod laidOut (by kernel_rfl) (of_decide_eq_true (by kernel_rfl)) k1 bel lt1) (trodAll_cons_mk (Below.trod laidOut (by kernel_rfl) (of_decide_eq_true (by kernel_rfl)) k2 bel lt2) trodAll_mk0))), rfl, bel.frame _, fun h => by cases h⟩

theorem vectorExact_holds : Rows.VectorExactSaid :=
  OpenClaim.holds_of_wide 3 Try.f3 rfl rfl rfl rfl rfl rfl rfl ⟨rfl, rfl, rfl, rfl, rfl⟩ rfl rfl rfl rfl rfl (by kernel_rfl) Try.func3 (by kernel_rfl)
    (of_decide_eq_true (by kernel_rfl)) (by unfold Func.isWrapper; first | (rw [if_pos (by decide +kernel)]; kernel_rfl) | (rw [if_neg (by decide +kernel)]; exact ⟨rfl, rfl⟩))
    (fun os started H enc _ => liftedVectorExact os started H enc)
#print axioms vectorExact_holds
end Go.Proofs.Ytaolnlnjgoakdaa
