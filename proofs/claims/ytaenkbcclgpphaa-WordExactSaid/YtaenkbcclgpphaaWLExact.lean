/- WordExact: for every input it answers true. -/
import Derived.Test.YtaenkbcclgpphaaWs
import Derived.Test.YtaenkbcclgpphaaXj
namespace Go.Proofs.Ytaenkbcclgpphaa
open Go.ChangeShapes Go.WideShapes Go.ChangeAt Go.RowKit
set_option linter.unusedVariables false


theorem okWide_slice_lt {P : Program} {w : World} {r : Reach} {base : Nat} {t e : TypeId} {a : Addr} {len cap : Nat} (ht : P.underlying t = some (.slice e)) (h : Value.okWide P w r base t (.slice (some a) len cap)) : a.block < w.heap.size := by
  simp only [Value.okWide, ht, Cell.okWide, Cell.ok] at h
  obtain ⟨-, -, -, -, row, cells, hs, -⟩ := h
  unfold World.shape? at hs
  rcases Nat.lt_or_ge a.block w.heap.size with h1 | h1
  · exact h1
  · rw [Array.getElem?_eq_none h1] at hs; simp at hs
/-- A row that came in. -/
def RowB (w : World) (a : Option Addr) (len cap : Nat) (zs : List Int) : Prop := IsRow .i64 w a len cap zs ∧ ∀ x, a = some x → x.block < w.heap.size
theorem RowB.row {w : World} {a : Option Addr} {len cap : Nat} {zs : List Int} (h : RowB w a len cap zs) : RowOk w (.slice a len cap, zs.take len) ∧ (zs.take len).length = len := by
  obtain ⟨hi, hl⟩ := h.1.ints
  refine ⟨⟨hi, ?_, ?_⟩, hl⟩
  · rcases h.1 with ⟨rfl, rfl, rfl, -⟩ | ⟨x, rfl, h1, -⟩
    · exact Good.nil
    · exact Good.some _ h1
  · intro g hg
    cases a with
    | none => simp [Value.ownBlock] at hg
    | some x => simp only [Value.ownBlock, Option.some.injEq] at hg; have := h.2 x rfl; omega
/-- A row that is not the deck's. -/
def RIn (w : World) (d : Nat) (v : Value) (xs : List Int) : Prop := RowOk w (v, xs) ∧ ∀ g, v.ownBlock = some g → g ≠ d
theorem RIn.step {w w' : World} {d : Nat} {v : Value} {xs : List Int} (h : RIn w d v xs) (g : w.grownBy w' none) : RIn w' d v xs := ⟨h.1.same g, h.2⟩
theorem RIn.drew {w w' : World} {d : Nat} {v : Value} {xs : List Int} (h : RIn w d v xs) (g : Drew w w') : RIn w' d v xs := h.step (g.grown none)
theorem RIn.deal {w w' : World} {d : Nat} {v : Value} {xs : List Int} (h : RIn w d v xs) (g : w.grownBy w' (some d)) : RIn w' d v xs :=
  ⟨h.1.kept g (by rintro k ⟨⟩ e; exact h.2 _ e rfl), h.2⟩
theorem RIn.of {w w' : World} {d : Nat} {v : Value} {xs : List Int} (h : RowOk w (v, xs)) (g : w.grownBy w' none) (hd : w.heap.size ≤ d) : RIn w' d v xs :=
  ⟨h.same g, fun k hk => by have := h.2.2 k hk; omega⟩
theorem RowsP.step {w w' : World} {v : Value} {ps : List Row} (h : RowsP w v ps) (g : w.grownBy w' none) : RowsP w' v ps := h.same g
theorem RowsP.drew {w w' : World} {v : Value} {ps : List Row} (h : RowsP w v ps) (g : Drew w w') : RowsP w' v ps := h.same (g.grown none)
theorem RowOk.step {w w' : World} {p : Row} (h : RowOk w p) (g : w.grownBy w' none) : RowOk w' p := h.same g
theorem RowOk.drew {w w' : World} {p : Row} (h : RowOk w p) (g : Drew w w') : RowOk w' p := h.same (g.grown none)
def Since (W w : World) : Prop := W.grownBy w none
theorem Since.step {W w w' : World} (h : Since W w) (g : w.grownBy w' none) : Since W w' := grown_trans h g
theorem Since.drew {W w w' : World} (h : Since W w) (g : Drew w w') : Since W w' := grown_trans h (g.grown none)

/-- The rows of the table that the law goes through. -/
def Pair (w : World) (g k : Nat) : Prop := ∃ vx vy X Y, w.cell? ⟨g, k * 2, none⟩ = some vx ∧ w.cell? ⟨g, k * 2 + 1, none⟩ = some vy ∧ RowOk w (vx, X) ∧ RowOk w (vy, Y)
theorem Pair.same {w w' : World} {g k : Nat} (h : Pair w g k) (hg : w.grownBy w' none) : Pair w' g k := by
  obtain ⟨vx, vy, X, Y, h1, h2, h3, h4⟩ := h
  exact ⟨vx, vy, X, Y, hg.cell h1 (by simp), hg.cell h2 (by simp), h3.same hg, h4.same hg⟩

set_option maxHeartbeats 16000000 in
set_option maxRecDepth 100000 in
theorem walkWordExact (a0 : Option Addr) (len0 cap0 : Nat) (z0 : List Int) (a1 : Option Addr) (len1 cap1 : Nat) (z1 : List Int) (a2 : Option Addr) (len2 cap2 : Nat) (z2 : List Int) (a3 : Option Addr) (len3 cap3 : Nat) (z3 : List Int) (w : World)
    (w0 : RowB w a0 len0 cap0 z0) (w1 : RowB w a1 len1 cap1 z1) (w2 : RowB w a2 len2 cap2 z2) (w3 : RowB w a3 len3 cap3 z3) :
    Calls Try.prog 3 #[.slice a0 len0 cap0, .slice a1 len1 cap1, .slice a2 len2 cap2, .slice a3 len3 cap3] w fun e w' => e = .returned (.bool true) ∧ Below w.heap.size w w' := by
  obtain ⟨hI, hlen⟩ := w0.row
  generalize z0.take len0 = zs at hI hlen
  subst hlen
  obtain ⟨hA, hlen⟩ := w1.row
  generalize z1.take len1 = As at hA hlen
  subst hlen
  obtain ⟨hB, hlen⟩ := w2.row
  generalize z2.take len2 = Bs at hB hlen
  subst hlen
  obtain ⟨hC, hlen⟩ := w3.row
  generalize z3.take len3 = Cs at hC hlen
  subst hlen
  have HI := Lib.hid hI.1; have HA := Lib.hid hA; have HB := Lib.hid hB; have HC := Lib.hid hC
  clear hI hA hB hC w0 w1 w2 w3
  by_cases hfew : (zs.length : Int) ≤ 400 ∧ (As.length : Int) ≤ 40 ∧ (Bs.length : Int) ≤ 40 ∧ (Cs.length : Int) ≤ 40
  · obtain ⟨hfew, hla, hlb, hlc⟩ := hfew
    go_enter Try.func3, Try.ntmps3
    go_wp2_with fail
    refine (awake02_any _).mono ?_
    rintro e w1 ⟨rfl, hg⟩
    have HG := Lib.hid hg
    clear hg
    go_wp2_with fail
    refine (few_any _ _ _ _).mono ?_
    rintro e w2 ⟨rfl, rfl⟩
    rw [decide_eq_true hfew]
    go_wp2_with fail
    refine (new_st (HI.out.same HG.out) HG.out).mono ?_
    rintro e w3 ⟨p, d, rfl, hs⟩
    have HS := Lib.hid hs
    have Via := Lib.hid (RIn.of HA.out hs.2.1 hs.2.2); have Vib := Lib.hid (RIn.of HB.out hs.2.1 hs.2.2); have Vic := Lib.hid (RIn.of HC.out hs.2.1 hs.2.2)
    clear hs HG HI HA HB HC
    go_wp2_with fail
    refine (word_st HS.out 3 5 (by omega) (by omega) (by omega) (by omega)).mono ?_
    rintro e w4 ⟨v1, X1, rfl, hlX1, hpX1, hv, hs, hg⟩
    replace Via := Lib.hid (Via.out.deal hg)
    replace Vib := Lib.hid (Vib.out.deal hg)
    replace Vic := Lib.hid (Vic.out.deal hg)
    have Vv1 := Lib.hid hv; replace HS := Lib.hid hs; have LX1 := Lib.hid hlX1; have PX1 := Lib.hid hpX1
    clear hv hs hg hlX1 hpX1
    obtain ⟨b1, c1, rfl, -⟩ := Vv1.out.slice
    go_wp2_with fail
    refine (word_st HS.out 3 10 (by omega) (by omega) (by omega) (by omega)).mono ?_
    rintro e w5 ⟨v2, X2, rfl, hlX2, hpX2, hv, hs, hg⟩
    replace Via := Lib.hid (Via.out.deal hg)
    replace Vib := Lib.hid (Vib.out.deal hg)
    replace Vic := Lib.hid (Vic.out.deal hg)
    replace Vv1 := Lib.hid (Vv1.out.deal hg)
    have Vv2 := Lib.hid hv; replace HS := Lib.hid hs; have LX2 := Lib.hid hlX2; have PX2 := Lib.hid hpX2
    clear hv hs hg hlX2 hpX2
    obtain ⟨b2, c2, rfl, -⟩ := Vv2.out.slice
    go_wp2_with fail
    refine (word_st HS.out 2 4 (by omega) (by omega) (by omega) (by omega)).mono ?_
    rintro e w6 ⟨v3, X3, rfl, hlX3, hpX3, hv, hs, hg⟩
    replace Via := Lib.hid (Via.out.deal hg)
    replace Vib := Lib.hid (Vib.out.deal hg)
    replace Vic := Lib.hid (Vic.out.deal hg)
    replace Vv1 := Lib.hid (Vv1.out.deal hg)
    replace Vv2 := Lib.hid (Vv2.out.deal hg)
    have Vv3 := Lib.hid hv; replace HS := Lib.hid hs; have LX3 := Lib.hid hlX3; have PX3 := Lib.hid hpX3
    clear hv hs hg hlX3 hpX3
    obtain ⟨b3, c3, rfl, -⟩ := Vv3.out.slice
    go_wp2_with fail
    refine (word_st HS.out 2 5 (by omega) (by omega) (by omega) (by omega)).mono ?_
    rintro e w7 ⟨v4, X4, rfl, hlX4, hpX4, hv, hs, hg⟩
    replace Via := Lib.hid (Via.out.deal hg)
    replace Vib := Lib.hid (Vib.out.deal hg)
    replace Vic := Lib.hid (Vic.out.deal hg)
    replace Vv1 := Lib.hid (Vv1.out.deal hg)
    replace Vv2 := Lib.hid (Vv2.out.deal hg)
    replace Vv3 := Lib.hid (Vv3.out.deal hg)
    have Vv4 := Lib.hid hv; replace HS := Lib.hid hs; have LX4 := Lib.hid hlX4; have PX4 := Lib.hid hpX4
    clear hv hs hg hlX4 hpX4
    obtain ⟨b4, c4, rfl, -⟩ := Vv4.out.slice
    go_wp2_with fail
    refine (word_st HS.out 2 6 (by omega) (by omega) (by omega) (by omega)).mono ?_
    rintro e w8 ⟨v5, X5, rfl, hlX5, hpX5, hv, hs, hg⟩
    replace Via := Lib.hid (Via.out.deal hg)
    replace Vib := Lib.hid (Vib.out.deal hg)
    replace Vic := Lib.hid (Vic.out.deal hg)
    replace Vv1 := Lib.hid (Vv1.out.deal hg)
    replace Vv2 := Lib.hid (Vv2.out.deal hg)
    replace Vv3 := Lib.hid (Vv3.out.deal hg)
    replace Vv4 := Lib.hid (Vv4.out.deal hg)
    have Vv5 := Lib.hid hv; replace HS := Lib.hid hs; have LX5 := Lib.hid hlX5; have PX5 := Lib.hid hpX5
    clear hv hs hg hlX5 hpX5
    obtain ⟨b5, c5, rfl, -⟩ := Vv5.out.slice
    go_wp2_with fail
    refine (word_st HS.out 2 6 (by omega) (by omega) (by omega) (by omega)).mono ?_
    rintro e w9 ⟨v6, X6, rfl, hlX6, hpX6, hv, hs, hg⟩
    replace Via := Lib.hid (Via.out.deal hg)
    replace Vib := Lib.hid (Vib.out.deal hg)
    replace Vic := Lib.hid (Vic.out.deal hg)
    replace Vv1 := Lib.hid (Vv1.out.deal hg)
    replace Vv2 := Lib.hid (Vv2.out.deal hg)
    replace Vv3 := Lib.hid (Vv3.out.deal hg)
    replace Vv4 := Lib.hid (Vv4.out.deal hg)
    replace Vv5 := Lib.hid (Vv5.out.deal hg)
    have Vv6 := Lib.hid hv; replace HS := Lib.hid hs; have LX6 := Lib.hid hlX6; have PX6 := Lib.hid hpX6
    clear hv hs hg hlX6 hpX6
    obtain ⟨b6, c6, rfl, -⟩ := Vv6.out.slice
    go_wp2_with fail
    generalize hW : World.alloc _ _ = W
    have hcell : W.heap[w9.heap.size]? = some (.cells #[.slice a1 As.length cap1, .slice a2 Bs.length cap2, .slice b1 X1.length c1, .slice b2 X2.length c2, .slice b3 X3.length c3, .slice b4 X4.length c4, .slice a1 As.length cap1, .slice a1 As.length cap1, .slice b5 X5.length c5, .slice b6 X6.length c6] 27 (0, 0)) := by rw [← hW]; exact heap_new _ rfl
    have hg : w9.grownBy W none := hW ▸ World.grownBy_alloc _ _ none
    clear hW
    have iA := (Via.out.step hg).1; have iB := (Vib.out.step hg).1; have HPL := Lib.hid (Vic.out.step hg).1
    have i1 := (Vv1.out.step hg).1; have i2 := (Vv2.out.step hg).1; have i3 := (Vv3.out.step hg).1; have i4 := (Vv4.out.step hg).1; have i5 := (Vv5.out.step hg).1; have i6 := (Vv6.out.step hg).1
    replace HS := Lib.hid (HS.out.step hg)
    have hP : ∀ k, k < 5 → Pair W w9.heap.size k := by
      intro k hk
      match k, hk with
      | 0, _ => exact ⟨_, _, _, _, by simp [World.cell?, hcell], by simp [World.cell?, hcell], iA, iB⟩
      | 1, _ => exact ⟨_, _, _, _, by simp [World.cell?, hcell], by simp [World.cell?, hcell], i1, i2⟩
      | 2, _ => exact ⟨_, _, _, _, by simp [World.cell?, hcell], by simp [World.cell?, hcell], i3, i4⟩
      | 3, _ => exact ⟨_, _, _, _, by simp [World.cell?, hcell], by simp [World.cell?, hcell], iA, iA⟩
      | 4, _ => exact ⟨_, _, _, _, by simp [World.cell?, hcell], by simp [World.cell?, hcell], i5, i6⟩
    have HP := Lib.hid hP
    clear hP hcell hg iA iB i1 i2 i3 i4 i5 i6 Via Vib Vic Vv1 Vv2 Vv3 Vv4 Vv5 Vv6 LX1 LX2 LX3 LX4 LX5 LX6 PX1 PX2 PX3 PX4 PX5 PX6
    generalize w9.heap.size = g at HP ⊢
    go_loopw [70] (fun i wr => ∃ k : Nat, i = .int .i64 k ∧ k ≤ 5 ∧ Hid (W.grownBy wr none)) (fun i _ => 5 - (intOf i).toNat)
    case atStart => exact ⟨0, rfl, by omega, Lib.hid (grown_refl _ _)⟩
    case round =>
      obtain ⟨k, rfl, hk, hg⟩ := hrel
      by_cases hlt : k < 5
      · obtain ⟨vx, vy, X, Y, c0, c1, iX, iY⟩ := (HP.out k hlt).same hg.out
        have IX := Lib.hid iX; have IY := Lib.hid iY
        obtain ⟨⟨ax, cx, hvx, -⟩, -⟩ := iX
        obtain ⟨⟨ay, cy, hvy, -⟩, -⟩ := iY
        dsimp only at hvx hvy
        subst hvx hvy
        have h1 : (k : Int) < 5 := by omega
        go_wp2_with fail
        go_big_quiet (fail)
        go_wp2_with fail
        generalize hW1 : World.drewN _ _ = W1
        have hg1 : wr.grownBy W1 none := by rw [← hW1]; exact grown_trans (World.grownBy_alloc _ _ none) (grown_drewN _ _ none)
        clear hW1
        have VX := Lib.hid (IX.out.same hg1); have VY := Lib.hid (IY.out.same hg1); have VG : Hid (Since W W1) := Lib.hid (grown_trans hg.out hg1); have VPL := Lib.hid ((HPL.out.same hg.out).same hg1)
        clear IX IY hg hg1 c0 c1 HP HS
        go_wp2_with fail
        refine (validW_any _ _ _ VX.out.1).mono ?_
        rintro e w1 ⟨rfl, rfl⟩
        go_wp2_with fail
        refine (rvalidW_any _ _ _ VX.out.1).mono ?_
        rintro e w2 ⟨rfl, rfl⟩
        go_wp2_with fail
        refine (wcompare_any _ _ _ _ _ VX.out.1 VY.out.1).mono ?_
        rintro e w3 ⟨rfl, rfl⟩
        go_wp2_with fail
        refine (rwcompare_any _ _ _ _ _ VX.out.1 VY.out.1).mono ?_
        rintro e w4 ⟨rfl, hd⟩
        replace VX := Lib.hid (VX.out.drew hd)
        replace VY := Lib.hid (VY.out.drew hd)
        replace VG := Lib.hid (VG.out.drew hd)
        replace VPL := Lib.hid (VPL.out.drew hd)
        clear hd
        go_wp2_with fail
        refine (leqW_any _ _ _ _ _ VX.out.1 VY.out.1).mono ?_
        rintro e w5 ⟨rfl, hg⟩
        replace VX := Lib.hid (VX.out.step hg)
        replace VY := Lib.hid (VY.out.step hg)
        replace VG := Lib.hid (VG.out.step hg)
        replace VPL := Lib.hid (VPL.out.step hg)
        clear hg
        go_wp2_with fail
        refine (rleqW_any _ _ _ _ _ VX.out.1 VY.out.1).mono ?_
        rintro e w6 ⟨rfl, hg⟩
        replace VX := Lib.hid (VX.out.step hg)
        replace VY := Lib.hid (VY.out.step hg)
        replace VG := Lib.hid (VG.out.step hg)
        replace VPL := Lib.hid (VPL.out.step hg)
        clear hg
        go_wp2_with fail
        refine (embedW_any _ _ _ _ _ VX.out.1 VY.out.1).mono ?_
        rintro e w7 ⟨u1, rfl, ho, hg⟩
        replace VX := Lib.hid (VX.out.step hg)
        replace VY := Lib.hid (VY.out.step hg)
        replace VG := Lib.hid (VG.out.step hg)
        replace VPL := Lib.hid (VPL.out.step hg)
        have Vu1 := Lib.hid (ho.row embed_bd)
        clear ho hg
        go_wp2_with fail
        refine (rembedW_any _ _ _ _ _ VX.out.1 VY.out.1).mono ?_
        rintro e w8 ⟨u2, rfl, ho, hg⟩
        replace VX := Lib.hid (VX.out.step hg)
        replace VY := Lib.hid (VY.out.step hg)
        replace VG := Lib.hid (VG.out.step hg)
        replace VPL := Lib.hid (VPL.out.step hg)
        replace Vu1 := Lib.hid (Vu1.out.step hg)
        have Vu2 := Lib.hid (ho.row embed_bd)
        clear ho hg
        go_wp2_with fail
        refine (same_any _ _ _ _ _ Vu1.out.1 Vu2.out.1).mono ?_
        rintro e w9 ⟨rfl, hd⟩
        replace VX := Lib.hid (VX.out.drew hd)
        replace VY := Lib.hid (VY.out.drew hd)
        replace VG := Lib.hid (VG.out.drew hd)
        replace VPL := Lib.hid (VPL.out.drew hd)
        replace Vu1 := Lib.hid (Vu1.out.drew hd)
        replace Vu2 := Lib.hid (Vu2.out.drew hd)
        clear hd
        rw [beq_self_eq_true]
        go_wp2_with fail
        refine (provesW_any _ _ _ _ _ _ _ VX.out.1 VY.out.1 VPL.out.1).mono ?_
        rintro e w10 ⟨rfl, hd⟩
        replace VX := Lib.hid (VX.out.drew hd)
        replace VY := Lib.hid (VY.out.drew hd)
        replace VG := Lib.hid (VG.out.drew hd)
        replace VPL := Lib.hid (VPL.out.drew hd)
        replace Vu1 := Lib.hid (Vu1.out.drew hd)
        replace Vu2 := Lib.hid (Vu2.out.drew hd)
        clear hd
        go_wp2_with fail
        refine (rprovesW_any _ _ _ _ _ _ _ VX.out.1 VY.out.1 VPL.out.1).mono ?_
        rintro e w11 ⟨rfl, hd⟩
        replace VX := Lib.hid (VX.out.drew hd)
        replace VY := Lib.hid (VY.out.drew hd)
        replace VG := Lib.hid (VG.out.drew hd)
        replace VPL := Lib.hid (VPL.out.drew hd)
        replace Vu1 := Lib.hid (Vu1.out.drew hd)
        replace Vu2 := Lib.hid (Vu2.out.drew hd)
        clear hd
        go_wp2_with fail
        refine (provesW_any _ _ _ _ _ _ _ VX.out.1 VY.out.1 Vu2.out.1).mono ?_
        rintro e w12 ⟨rfl, hd⟩
        replace VX := Lib.hid (VX.out.drew hd)
        replace VY := Lib.hid (VY.out.drew hd)
        replace VG := Lib.hid (VG.out.drew hd)
        replace VPL := Lib.hid (VPL.out.drew hd)
        replace Vu1 := Lib.hid (Vu1.out.drew hd)
        replace Vu2 := Lib.hid (Vu2.out.drew hd)
        clear hd
        go_wp2_with fail
        refine (rprovesW_any _ _ _ _ _ _ _ VX.out.1 VY.out.1 Vu2.out.1).mono ?_
        rintro e w13 ⟨rfl, hd⟩
        replace VX := Lib.hid (VX.out.drew hd)
        replace VY := Lib.hid (VY.out.drew hd)
        replace VG := Lib.hid (VG.out.drew hd)
        replace VPL := Lib.hid (VPL.out.drew hd)
        replace Vu1 := Lib.hid (Vu1.out.drew hd)
        replace Vu2 := Lib.hid (Vu2.out.drew hd)
        clear hd
        clear Vu1 Vu2 VPL
        go_wp2_with fail
        refine (mergeW_any _ _ _ _ _ VX.out VY.out).mono ?_
        rintro e w14 ⟨vs, qs, rfl, ho, hm, hg⟩
        replace VX := Lib.hid (VX.out.step hg)
        replace VY := Lib.hid (VY.out.step hg)
        replace VG := Lib.hid (VG.out.step hg)
        have Vs := Lib.hid (ho.rows); have Ms := Lib.hid hm
        clear ho hm hg
        go_wp2_with fail
        refine (rmergeW_any _ _ _ _ _ VX.out VY.out).mono ?_
        rintro e w15 ⟨vt, qt, rfl, ho, hm, hg⟩
        replace VX := Lib.hid (VX.out.step hg)
        replace VY := Lib.hid (VY.out.step hg)
        replace VG := Lib.hid (VG.out.step hg)
        replace Vs := Lib.hid (Vs.out.step hg)
        have Vt := Lib.hid (ho); have Mt := Lib.hid hm
        clear ho hm hg
        go_wp2_with fail
        refine (sameall_any _ _ _ _ _ Vs.out Vt.out).mono ?_
        rintro e w16 ⟨rfl, hd⟩
        replace VX := Lib.hid (VX.out.drew hd)
        replace VY := Lib.hid (VY.out.drew hd)
        replace VG := Lib.hid (VG.out.drew hd)
        replace Vs := Lib.hid (Vs.out.drew hd)
        replace Vt := Lib.hid (Vt.out.drew hd)
        clear hd
        rw [Ms.out, Mt.out, beq_self_eq_true]
        clear Vs Vt Ms Mt
        go_wp2_with fail
        refine (drops_any _ _ _ VY.out).mono ?_
        rintro e w17 ⟨vs, qs, rfl, ho, hm, hg⟩
        replace VX := Lib.hid (VX.out.step hg)
        replace VY := Lib.hid (VY.out.step hg)
        replace VG := Lib.hid (VG.out.step hg)
        have Vs := Lib.hid (ho.rows); have Ms := Lib.hid hm
        clear ho hm hg
        go_wp2_with fail
        refine (rdrops_any _ _ _ VY.out).mono ?_
        rintro e w18 ⟨vt, qt, rfl, ho, hgd, hm, hg⟩
        replace VX := Lib.hid (VX.out.step hg)
        replace VY := Lib.hid (VY.out.step hg)
        replace VG := Lib.hid (VG.out.step hg)
        replace Vs := Lib.hid (Vs.out.step hg)
        have Vt := Lib.hid (ho); have Mt := Lib.hid hm
        clear ho hm hg
        go_wp2_with fail
        refine (sameall_any _ _ _ _ _ Vs.out Vt.out).mono ?_
        rintro e w19 ⟨rfl, hd⟩
        replace VX := Lib.hid (VX.out.drew hd)
        replace VY := Lib.hid (VY.out.drew hd)
        replace VG := Lib.hid (VG.out.drew hd)
        replace Vs := Lib.hid (Vs.out.drew hd)
        replace Vt := Lib.hid (Vt.out.drew hd)
        clear hd
        rw [Ms.out, Mt.out, beq_self_eq_true]
        clear Vs Vt Ms Mt
        go_wp2_with fail
        go_roundw
        case rel => exact ⟨k + 1, by go_num, by omega, VG⟩
        case measure => simp [intOf]; omega
      · have h1 : ¬ (k : Int) < 5 := by omega
        go_wp2_with fail
        go_ret
        exact ⟨rfl, (HS.out.step hg.out).below⟩
  · go_enter Try.func3, Try.ntmps3
    go_wp2_with fail
    refine (awake02_any _).mono ?_
    rintro e w1 ⟨rfl, hg⟩
    have HG := Lib.hid hg
    clear hg
    go_wp2_with fail
    refine (few_any _ _ _ _).mono ?_
    rintro e w2 ⟨rfl, rfl⟩
    by_cases h1 : (zs.length : Int) ≤ 400
    · rw [decide_eq_true h1]
      by_cases h2 : (As.length : Int) ≤ 40
      · by_cases h3 : (Bs.length : Int) ≤ 40
        · have h4 : (40 : Int) < Cs.length := by omega
          clear hfew
          go_wp2_with fail
          refine (awake02_any _).mono ?_
          rintro e w3 ⟨rfl, hg⟩
          replace HG := Lib.hid (grown_trans HG.out hg)
          clear hg
          go_wp2_with fail
          go_ret
          exact ⟨rfl, below_of HG.out⟩
        · have h4 : (40 : Int) < Bs.length := by omega
          clear hfew
          go_wp2_with fail
          refine (awake02_any _).mono ?_
          rintro e w3 ⟨rfl, hg⟩
          replace HG := Lib.hid (grown_trans HG.out hg)
          clear hg
          go_wp2_with fail
          go_ret
          exact ⟨rfl, below_of HG.out⟩
      · have h4 : (40 : Int) < As.length := by omega
        clear hfew
        go_wp2_with fail
        refine (awake02_any _).mono ?_
        rintro e w3 ⟨rfl, hg⟩
        replace HG := Lib.hid (grown_trans HG.out hg)
        clear hg
        go_wp2_with fail
        go_ret
        exact ⟨rfl, below_of HG.out⟩
    · rw [decide_eq_false h1]
      clear hfew
      go_wp2_with fail
      refine (awake02_any _).mono ?_
      rintro e w3 ⟨rfl, hg⟩
      replace HG := Lib.hid (grown_trans HG.out hg)
      clear hg
      go_wp2_with fail
      go_ret
      exact ⟨rfl, below_of HG.out⟩

/-! ### WordExact: the statement, from its walk -/
set_option maxRecDepth 100000 in
theorem liftedWordExact (os : Os) (started : os.Started) (H : Type) (enc : TypeId × Value → H) :
    ReturnsInHanded {} Try.checked os 3 .any (Rows.wordExactSpec.pre6 enc Try.prog Try.f3 Rows.wordExactRow.domain false) (Rows.wordExactSpec.post enc Try.prog Try.f3 false true false false) := by
  refine returnsInHanded_of_change (C := Try.checked) own started (by kernel_rfl) Try.func3
    (ChangeSpec.witness6 (enc := enc) (C := Try.checked) false ⟨#[], #[.slice none 0 0, .slice none 0 0, .slice none 0 0, .slice none 0 0], []⟩ 8 (by kernel_rfl) (by kernel_rfl) (by kernel_rfl) (by kernel_rfl)) ?_
  intro W base args ds gs before hval0 hW hcnd _
  have hval : ∀ (j : Nat) t v, Try.f3.params[j]? = some t → args[j]? = some v → Value.okWide Try.prog W .any base t v := hval0
  have hW' := hW
  obtain ⟨p, q, hA0, hV, rfl, hfz, hnd⟩ := hW
  have hA : DataW.TrodAll enc Try.prog W 0 (fun _ => true) true Try.f3.params.toList args.toList ds p := hA0
  rw [Try.params3] at hA hval
  obtain ⟨v0, vs0, d0, ds0, p0, q0, hargs, rfl, rfl, h0, r0⟩ := trodAll_cons hA
  obtain ⟨v1, vs1, d1, ds1, p1, q1, rfl, rfl, rfl, h1, r1⟩ := trodAll_cons r0
  obtain ⟨v2, vs2, d2, ds2, p2, q2, rfl, rfl, rfl, h2, r2⟩ := trodAll_cons r1
  obtain ⟨v3, vs3, d3, ds3, p3, q3, rfl, rfl, rfl, h3, r3⟩ := trodAll_cons r2
  obtain ⟨rfl, rfl, rfl⟩ := trodAll_nil r3
  obtain rfl : args = #[v0, v1, v2, v3] := by cases args; simp_all
  obtain ⟨rfl, rfl⟩ := trodVars_none hV
  obtain ⟨a0, len0, cap0, rfl⟩ := okWide_slice Try.underlying22 (hval 0 22 v0 rfl rfl)
  have k0 := h0
  have b0 : ∀ x, a0 = some x → x.block < W.heap.size := fun x hx => okWide_slice_lt Try.underlying22 (by subst hx; exact hval 0 22 _ rfl rfl)
  have lt0 : ∀ x ∈ p0, x.block < W.heap.size := by obtain ⟨m, hm⟩ := k0; exact DataW.trod_lt m _ _ _ hm
  obtain ⟨z0, w0⟩ : ∃ zs, IsRow .i64 W a0 len0 cap0 zs := by
    obtain ⟨fuel, hf⟩ := h0
    rcases open_ints Try.underlying22 Try.underlying3 (by kernel_rfl) hf with ⟨hcs, _⟩ | ⟨x, l, c, zs, hcs, _, hl, hm, hz, _, hcell, hwz⟩
    · simp [Value.cells] at hcs
      obtain ⟨rfl, rfl, rfl⟩ := hcs
      exact ⟨[], .inl ⟨rfl, rfl, rfl, rfl⟩⟩
    · simp [Value.cells] at hcs
      obtain ⟨rfl, rfl, rfl⟩ := hcs
      exact ⟨zs, .inr ⟨_, rfl, hl, hm, by simpa using hz, hcell, hwz⟩⟩
  obtain ⟨a1, len1, cap1, rfl⟩ := okWide_slice Try.underlying22 (hval 1 22 v1 rfl rfl)
  have k1 := h1
  have b1 : ∀ x, a1 = some x → x.block < W.heap.size := fun x hx => okWide_slice_lt Try.underlying22 (by subst hx; exact hval 1 22 _ rfl rfl)
  have lt1 : ∀ x ∈ p1, x.block < W.heap.size := by obtain ⟨m, hm⟩ := k1; exact DataW.trod_lt m _ _ _ hm
  obtain ⟨z1, w1⟩ : ∃ zs, IsRow .i64 W a1 len1 cap1 zs := by
    obtain ⟨fuel, hf⟩ := h1
    rcases open_ints Try.underlying22 Try.underlying3 (by kernel_rfl) hf with ⟨hcs, _⟩ | ⟨x, l, c, zs, hcs, _, hl, hm, hz, _, hcell, hwz⟩
    · simp [Value.cells] at hcs
      obtain ⟨rfl, rfl, rfl⟩ := hcs
      exact ⟨[], .inl ⟨rfl, rfl, rfl, rfl⟩⟩
    · simp [Value.cells] at hcs
      obtain ⟨rfl, rfl, rfl⟩ := hcs
      exact ⟨zs, .inr ⟨_, rfl, hl, hm, by simpa using hz, hcell, hwz⟩⟩
  obtain ⟨a2, len2, cap2, rfl⟩ := okWide_slice Try.underlying22 (hval 2 22 v2 rfl rfl)
  have k2 := h2
  have b2 : ∀ x, a2 = some x → x.block < W.heap.size := fun x hx => okWide_slice_lt Try.underlying22 (by subst hx; exact hval 2 22 _ rfl rfl)
  have lt2 : ∀ x ∈ p2, x.block < W.heap.size := by obtain ⟨m, hm⟩ := k2; exact DataW.trod_lt m _ _ _ hm
  obtain ⟨z2, w2⟩ : ∃ zs, IsRow .i64 W a2 len2 cap2 zs := by
    obtain ⟨fuel, hf⟩ := h2
    rcases open_ints Try.underlying22 Try.underlying3 (by kernel_rfl) hf with ⟨hcs, _⟩ | ⟨x, l, c, zs, hcs, _, hl, hm, hz, _, hcell, hwz⟩
    · simp [Value.cells] at hcs
      obtain ⟨rfl, rfl, rfl⟩ := hcs
      exact ⟨[], .inl ⟨rfl, rfl, rfl, rfl⟩⟩
    · simp [Value.cells] at hcs
      obtain ⟨rfl, rfl, rfl⟩ := hcs
      exact ⟨zs, .inr ⟨_, rfl, hl, hm, by simpa using hz, hcell, hwz⟩⟩
  obtain ⟨a3, len3, cap3, rfl⟩ := okWide_slice Try.underlying22 (hval 3 22 v3 rfl rfl)
  have k3 := h3
  have b3 : ∀ x, a3 = some x → x.block < W.heap.size := fun x hx => okWide_slice_lt Try.underlying22 (by subst hx; exact hval 3 22 _ rfl rfl)
  have lt3 : ∀ x ∈ p3, x.block < W.heap.size := by obtain ⟨m, hm⟩ := k3; exact DataW.trod_lt m _ _ _ hm
  obtain ⟨z3, w3⟩ : ∃ zs, IsRow .i64 W a3 len3 cap3 zs := by
    obtain ⟨fuel, hf⟩ := h3
    rcases open_ints Try.underlying22 Try.underlying3 (by kernel_rfl) hf with ⟨hcs, _⟩ | ⟨x, l, c, zs, hcs, _, hl, hm, hz, _, hcell, hwz⟩
    · simp [Value.cells] at hcs
      obtain ⟨rfl, rfl, rfl⟩ := hcs
      exact ⟨[], .inl ⟨rfl, rfl, rfl, rfl⟩⟩
    · simp [Value.cells] at hcs
      obtain ⟨rfl, rfl, rfl⟩ := hcs
      exact ⟨zs, .inr ⟨_, rfl, hl, hm, by simpa using hz, hcell, hwz⟩⟩
  clear hA0 hval0
  refine (walkWordExact a0 len0 cap0 z0 a1 len1 cap1 z1 a2 len2 cap2 z2 a3 len3 cap3 z3 W ⟨w0, b0⟩ ⟨w1, b1⟩ ⟨w2, b2⟩ ⟨w3, b3⟩).mono fun e W' ⟨he, bel⟩ => ?_
  subst he
  exact ⟨_, rfl, _, _, _, [], _, [], hW', trodAll_mk1 (shut_bool Try.underlying4 _), (trodAll_cons_mk (Below.trod laidOut (by kernel_rfl) (of_decide_eq_true (by kernel_rfl)) k0 bel lt0) (trodAll_cons_mk (Below.trod laidOut (by kernel_rfl) (of_decide_eq_true (by kernel_rfl)) k1 bel lt1) (trodAll_cons_mk (Below.trod laidOut (by kernel_rfl) (of_decide_eq_true (by kernel_rfl)) k2 bel lt2) (trodAll_cons_mk (Below.trod laidOut (by kernel_rfl) (of_decide_eq_true (by kernel_rfl)) k3 bel lt3) trodAll_mk0)))), rfl, bel.frame _, fun h => by cases h⟩

theorem wordExact_holds : Rows.WordExactSaid :=
  OpenClaim.holds_of_wide 3 Try.f3 rfl rfl rfl rfl rfl rfl rfl ⟨rfl, rfl, rfl, rfl, rfl⟩ rfl rfl rfl rfl rfl (by kernel_rfl) Try.func3 (by kernel_rfl)
    (of_decide_eq_true (by kernel_rfl)) (by unfold Func.isWrapper; first | (rw [if_pos (by decide +kernel)]; kernel_rfl) | (rw [if_neg (by decide +kernel)]; exact ⟨rfl, rfl⟩))
    (fun os started H enc _ => liftedWordExact os started H enc)
#print axioms wordExact_holds
end Go.Proofs.Ytaenkbcclgpphaa
