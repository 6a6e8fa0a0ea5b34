/- PriorityExact: for every input it answers true. -/
import Derived.Test.YtaenkbcclgpphaaPt
namespace Go.Proofs.Ytaenkbcclgpphaa
open Go.ChangeShapes Go.WideShapes Go.ChangeAt Go.RowKit
set_option linter.unusedVariables false


theorem okWide_slice_lt {P : Program} {w : World} {r : Reach} {base : Nat} {t e : TypeId} {a : Addr} {len cap : Nat} (ht : P.underlying t = some (.slice e)) (h : Value.okWide P w r base t (.slice (some a) len cap)) : a.block < w.heap.size := by
  simp only [Value.okWide, ht, Cell.okWide, Cell.ok] at h
  obtain ⟨-, -, -, -, row, cells, hs, -⟩ := h
  unfold World.shape? at hs
  rcases Nat.lt_or_ge a.block w.heap.size with h1 | h1
  · exact h1
  · rw [Array.getElem?_eq_none h1] at hs; simp at hs
/-- A row that came in. -/
def RowB (w : World) (a : Option Addr) (len cap : Nat) (zs : List Int) : Prop := IsRow .i64 w a len cap zs ∧ ∀ x, a = some x → x.block < w.heap.size
theorem RowB.row {w : World} {a : Option Addr} {len cap : Nat} {zs : List Int} (h : RowB w a len cap zs) : RowOk w (.slice a len cap, zs.take len) ∧ (zs.take len).length = len := by
  obtain ⟨hi, hl⟩ := h.1.ints
  refine ⟨⟨hi, ?_, ?_⟩, hl⟩
  · rcases h.1 with ⟨rfl, rfl, rfl, -⟩ | ⟨x, rfl, h1, -⟩
    · exact Good.nil
    · exact Good.some _ h1
  · intro g hg
    cases a with
    | none => simp [Value.ownBlock] at hg
    | some x => simp only [Value.ownBlock, Option.some.injEq] at hg; have := h.2 x rfl; omega
/-- A row that is not the deck's. -/
def RIn (w : World) (d : Nat) (v : Value) (xs : List Int) : Prop := RowOk w (v, xs) ∧ ∀ g, v.ownBlock = some g → g ≠ d
theorem RIn.step {w w' : World} {d : Nat} {v : Value} {xs : List Int} (h : RIn w d v xs) (g : w.grownBy w' none) : RIn w' d v xs := ⟨h.1.same g, h.2⟩
theorem RIn.drew {w w' : World} {d : Nat} {v : Value} {xs : List Int} (h : RIn w d v xs) (g : Drew w w') : RIn w' d v xs := h.step (g.grown none)
theorem RIn.deal {w w' : World} {d : Nat} {v : Value} {xs : List Int} (h : RIn w d v xs) (g : w.grownBy w' (some d)) : RIn w' d v xs :=
  ⟨h.1.kept g (by rintro k ⟨⟩ e; exact h.2 _ e rfl), h.2⟩
theorem RIn.of {w w' : World} {d : Nat} {v : Value} {xs : List Int} (h : RowOk w (v, xs)) (g : w.grownBy w' none) (hd : w.heap.size ≤ d) : RIn w' d v xs :=
  ⟨h.same g, fun k hk => by have := h.2.2 k hk; omega⟩
theorem RowsP.step {w w' : World} {v : Value} {ps : List Row} (h : RowsP w v ps) (g : w.grownBy w' none) : RowsP w' v ps := h.same g
theorem RowsP.drew {w w' : World} {v : Value} {ps : List Row} (h : RowsP w v ps) (g : Drew w w') : RowsP w' v ps := h.same (g.grown none)
theorem RowOk.step {w w' : World} {p : Row} (h : RowOk w p) (g : w.grownBy w' none) : RowOk w' p := h.same g
theorem RowOk.drew {w w' : World} {p : Row} (h : RowOk w p) (g : Drew w w') : RowOk w' p := h.same (g.grown none)
def Since (W w : World) : Prop := W.grownBy w none
theorem Since.step {W w w' : World} (h : Since W w) (g : w.grownBy w' none) : Since W w' := grown_trans h g
theorem Since.drew {W w w' : World} (h : Since W w) (g : Drew w w') : Since W w' := grown_trans h (g.grown none)

def Pair (w : World) (g k : Nat) : Prop := ∃ vx vy X Y, w.cell? ⟨g, k * 2, none⟩ = some vx ∧ w.cell? ⟨g, k * 2 + 1, none⟩ = some vy ∧ RowOk w (vx, X) ∧ RowOk w (vy, Y) ∧ Y.length ≤ 100
theorem Pair.same {w w' : World} {g k : Nat} (h : Pair w g k) (hg : w.grownBy w' none) : Pair w' g k := by
  obtain ⟨vx, vy, X, Y, h1, h2, h3, h4, h5⟩ := h
  exact ⟨vx, vy, X, Y, hg.cell h1 (by simp), hg.cell h2 (by simp), h3.same hg, h4.same hg, h5⟩
/-- A row of ranks in the table of them. -/
def RankAt (w : World) (d g k : Nat) : Prop := g ≠ d ∧ ∃ v X, w.cell? ⟨g, k, none⟩ = some v ∧ RIn w d v X
theorem RankAt.deal {w w' : World} {d g k : Nat} (h : RankAt w d g k) (hg : w.grownBy w' (some d)) : RankAt w' d g k := by
  obtain ⟨h0, v, X, h1, h2⟩ := h
  exact ⟨h0, v, X, hg.cell h1 (by intro e; cases e; exact h0 rfl), h2.deal hg⟩
theorem RVec.rin {w : World} {d : Nat} {v : Value} {xs : List Int} (h : RVec w d v xs) : RIn w d v xs := ⟨h.1, fun g hg e => by have := h.2 g hg; omega⟩
theorem grown_deal {w w1 w2 : World} {d : Nat} (h : w.grownBy w1 (some d)) (h' : w1.grownBy w2 (some d)) : w.grownBy w2 (some d) := grown_then h h' (fun g e => .inr e)

/-- What changed since W but the deck. -/
def Far (W : World) (d : Nat) (w : World) : Prop := W.grownBy w (some d)
theorem Far.of {W w : World} {d : Nat} (h : W.grownBy w (some d)) : Far W d w := h
theorem Far.deal {W w w' : World} {d : Nat} (h : Far W d w) (g : w.grownBy w' (some d)) : Far W d w' := grown_deal h g
theorem Far.step {W w w' : World} {d : Nat} (h : Far W d w) (g : w.grownBy w' none) : Far W d w' := grown_then h g (by simp)

set_option maxHeartbeats 4000000 in
set_option maxRecDepth 100000 in
theorem walkPriorityExact (a0 : Option Addr) (len0 cap0 : Nat) (z0 : List Int) (a1 : Option Addr) (len1 cap1 : Nat) (z1 : List Int) (a2 : Option Addr) (len2 cap2 : Nat) (z2 : List Int) (a3 : Option Addr) (len3 cap3 : Nat) (z3 : List Int) (a4 : Option Addr) (len4 cap4 : Nat) (z4 : List Int) (most : Int) (w : World)
    (w0 : RowB w a0 len0 cap0 z0) (w1 : RowB w a1 len1 cap1 z1) (w2 : RowB w a2 len2 cap2 z2) (w3 : RowB w a3 len3 cap3 z3) (w4 : RowB w a4 len4 cap4 z4) (w5 : (Lit.int .i64 most).wf = true) :
    Calls Try.prog 8 #[.slice a0 len0 cap0, .slice a1 len1 cap1, .slice a2 len2 cap2, .slice a3 len3 cap3, .slice a4 len4 cap4, .int .i64 most] w fun e w' => e = .returned (.bool true) ∧ Below w.heap.size w w' := by
  obtain ⟨hzs, hlen⟩ := w0.row
  generalize z0.take len0 = zs at hzs hlen
  subst hlen
  obtain ⟨hRs, hlen⟩ := w1.row
  generalize z1.take len1 = Rs at hRs hlen
  subst hlen
  obtain ⟨hAs, hlen⟩ := w2.row
  generalize z2.take len2 = As at hAs hlen
  subst hlen
  obtain ⟨hBs, hlen⟩ := w3.row
  generalize z3.take len3 = Bs at hBs hlen
  subst hlen
  obtain ⟨hCs, hlen⟩ := w4.row
  generalize z4.take len4 = Cs at hCs hlen
  subst hlen
  have HI := Lib.hid hzs.1; have HRs := Lib.hid hRs; have HA := Lib.hid hAs; have HB := Lib.hid hBs; have HC := Lib.hid hCs
  clear hzs hRs hAs hBs hCs w0 w1 w2 w3 w4 w5
  by_cases hfew : (zs.length : Int) ≤ 400 ∧ (Rs.length : Int) ≤ 12 ∧ (As.length : Int) ≤ 30 ∧ (Bs.length : Int) ≤ 30 ∧ (Cs.length : Int) ≤ 30
  · obtain ⟨hfew, hlr, hla, hlb, hlc⟩ := hfew
    go_enter Try.func8, Try.ntmps8
    go_wp2_with fail
    refine (awake05_any _).mono ?_
    rintro e w1 ⟨rfl, hg⟩
    have HG := Lib.hid hg
    clear hg
    go_wp2_with fail
    refine (few_any _ _ _ _).mono ?_
    rintro e w2 ⟨rfl, rfl⟩
    rw [decide_eq_true hfew]
    go_wp2_with fail
    refine (new_st (HI.out.same HG.out) HG.out).mono ?_
    rintro e w3 ⟨p, d, rfl, hs⟩
    have HS := Lib.hid hs
    have Vir := Lib.hid (RIn.of HRs.out hs.2.1 hs.2.2); have Via := Lib.hid (RIn.of HA.out hs.2.1 hs.2.2); have Vib := Lib.hid (RIn.of HB.out hs.2.1 hs.2.2); have Vic := Lib.hid (RIn.of HC.out hs.2.1 hs.2.2)
    clear hs HG HI HRs HA HB HC
    go_wp2_with fail
    refine (ranks_st HS.out 2 (by omega) (by omega)).mono ?_
    rintro e w4 ⟨v1, X1, rfl, hlX1, hpX1, hv, hs, hg⟩
    replace Vir := Lib.hid (Vir.out.deal hg)
    replace Via := Lib.hid (Via.out.deal hg)
    replace Vib := Lib.hid (Vib.out.deal hg)
    replace Vic := Lib.hid (Vic.out.deal hg)
    have Vv1 := Lib.hid hv; replace HS := Lib.hid hs; have LX1 := Lib.hid hlX1; have PX1 := Lib.hid hpX1
    have KX1 := Lib.hid (ranks_ok hlX1 (by omega) (by omega) hpX1)
    clear hv hs hg hlX1 hpX1
    obtain ⟨b1, c1, rfl, -⟩ := Vv1.out.slice
    go_wp2_with fail
    refine (ranks_st HS.out 3 (by omega) (by omega)).mono ?_
    rintro e w5 ⟨v2, X2, rfl, hlX2, hpX2, hv, hs, hg⟩
    replace Vir := Lib.hid (Vir.out.deal hg)
    replace Via := Lib.hid (Via.out.deal hg)
    replace Vib := Lib.hid (Vib.out.deal hg)
    replace Vic := Lib.hid (Vic.out.deal hg)
    replace Vv1 := Lib.hid (Vv1.out.deal hg)
    have Vv2 := Lib.hid hv; replace HS := Lib.hid hs; have LX2 := Lib.hid hlX2; have PX2 := Lib.hid hpX2
    have KX2 := Lib.hid (ranks_ok hlX2 (by omega) (by omega) hpX2)
    clear hv hs hg hlX2 hpX2
    obtain ⟨b2, c2, rfl, -⟩ := Vv2.out.slice
    go_wp2_with fail
    generalize hW : World.alloc _ _ = W
    have hcell : W.heap[w5.heap.size]? = some (.cells #[.slice a1 Rs.length cap1, .slice b1 X1.length c1, .slice b2 X2.length c2] 22 (0, 0)) := by rw [← hW]; exact heap_new _ rfl
    have hg : w5.grownBy W none := hW ▸ World.grownBy_alloc _ _ none
    clear hW
    have hds := HS.out.lt
    have iR := Vir.out.step hg; have i1 := Vv1.out.rin.step hg; have i2 := Vv2.out.rin.step hg
    replace Via := Lib.hid (Via.out.step hg); replace Vib := Lib.hid (Vib.out.step hg); replace Vic := Lib.hid (Vic.out.step hg)
    replace HS := Lib.hid (HS.out.step hg)
    have hT : ∀ k, k < 3 → RankAt W d w5.heap.size k := by
      intro k hk
      refine ⟨by omega, ?_⟩
      match k, hk with
      | 0, _ => exact ⟨_, _, by simp [World.cell?, hcell], iR⟩
      | 1, _ => exact ⟨_, _, by simp [World.cell?, hcell], i1⟩
      | 2, _ => exact ⟨_, _, by simp [World.cell?, hcell], i2⟩
    have HT := Lib.hid hT
    clear hT hcell hg iR i1 i2 Vir Vv1 Vv2 LX1 LX2 PX1 PX2 KX1 KX2 hds
    generalize w5.heap.size = gt at HT ⊢
    go_loopw [67] (fun i wr => ∃ k : Nat, i = .int .i64 k ∧ k ≤ 3 ∧ Hid (St w wr p d) ∧ Hid (W.grownBy wr (some d))) (fun i _ => 3 - (intOf i).toNat)
    case atStart => exact ⟨0, rfl, by omega, HS, Lib.hid (grown_refl _ _)⟩
    case round =>
      obtain ⟨k, rfl, hk, hs, hg⟩ := hrel
      rename World => wo
      by_cases hlt : k < 3
      · obtain ⟨-, vr, R, c0, iR⟩ := (HT.out k hlt).deal hg.out
        have Vr := Lib.hid iR
        obtain ⟨⟨⟨ar, cr, hvr, -⟩, -⟩, -⟩ := iR
        dsimp only at hvr
        subst hvr
        have h1 : (k : Int) < 3 := by omega
        replace Via := Lib.hid (Via.out.deal hg.out); replace Vib := Lib.hid (Vib.out.deal hg.out); replace Vic := Lib.hid (Vic.out.deal hg.out)
        replace HS := hs
        have VGG := Lib.hid (Far.of hg.out)
        clear hs
        go_wp2_with fail
        refine (word_st HS.out 2 3 (by omega) (by omega) (by omega) (by omega)).mono ?_
        rintro e w21 ⟨v1, X1, rfl, hlX1, hpX1, hv, hs, hg⟩
        replace Via := Lib.hid (Via.out.deal hg)
        replace Vib := Lib.hid (Vib.out.deal hg)
        replace Vic := Lib.hid (Vic.out.deal hg)
        replace Vr := Lib.hid (Vr.out.deal hg)
        replace VGG := Lib.hid (VGG.out.deal hg)
        have Vv1 := Lib.hid hv; replace HS := Lib.hid hs; have LX1 := Lib.hid hlX1; have PX1 := Lib.hid hpX1
        clear hv hs hg hlX1 hpX1
        obtain ⟨b1, c1, rfl, -⟩ := Vv1.out.slice
        go_wp2_with fail
        refine (word_st HS.out 2 8 (by omega) (by omega) (by omega) (by omega)).mono ?_
        rintro e w22 ⟨v2, X2, rfl, hlX2, hpX2, hv, hs, hg⟩
        replace Via := Lib.hid (Via.out.deal hg)
        replace Vib := Lib.hid (Vib.out.deal hg)
        replace Vic := Lib.hid (Vic.out.deal hg)
        replace Vr := Lib.hid (Vr.out.deal hg)
        replace VGG := Lib.hid (VGG.out.deal hg)
        replace Vv1 := Lib.hid (Vv1.out.deal hg)
        have Vv2 := Lib.hid hv; replace HS := Lib.hid hs; have LX2 := Lib.hid hlX2; have PX2 := Lib.hid hpX2
        clear hv hs hg hlX2 hpX2
        obtain ⟨b2, c2, rfl, -⟩ := Vv2.out.slice
        go_wp2_with fail
        refine (word_st HS.out 3 4 (by omega) (by omega) (by omega) (by omega)).mono ?_
        rintro e w23 ⟨v3, X3, rfl, hlX3, hpX3, hv, hs, hg⟩
        replace Via := Lib.hid (Via.out.deal hg)
        replace Vib := Lib.hid (Vib.out.deal hg)
        replace Vic := Lib.hid (Vic.out.deal hg)
        replace Vr := Lib.hid (Vr.out.deal hg)
        replace VGG := Lib.hid (VGG.out.deal hg)
        replace Vv1 := Lib.hid (Vv1.out.deal hg)
        replace Vv2 := Lib.hid (Vv2.out.deal hg)
        have Vv3 := Lib.hid hv; replace HS := Lib.hid hs; have LX3 := Lib.hid hlX3; have PX3 := Lib.hid hpX3
        clear hv hs hg hlX3 hpX3
        obtain ⟨b3, c3, rfl, -⟩ := Vv3.out.slice
        go_wp2_with fail
        refine (word_st HS.out 3 12 (by omega) (by omega) (by omega) (by omega)).mono ?_
        rintro e w24 ⟨v4, X4, rfl, hlX4, hpX4, hv, hs, hg⟩
        replace Via := Lib.hid (Via.out.deal hg)
        replace Vib := Lib.hid (Vib.out.deal hg)
        replace Vic := Lib.hid (Vic.out.deal hg)
        replace Vr := Lib.hid (Vr.out.deal hg)
        replace VGG := Lib.hid (VGG.out.deal hg)
        replace Vv1 := Lib.hid (Vv1.out.deal hg)
        replace Vv2 := Lib.hid (Vv2.out.deal hg)
        replace Vv3 := Lib.hid (Vv3.out.deal hg)
        have Vv4 := Lib.hid hv; replace HS := Lib.hid hs; have LX4 := Lib.hid hlX4; have PX4 := Lib.hid hpX4
        clear hv hs hg hlX4 hpX4
        obtain ⟨b4, c4, rfl, -⟩ := Vv4.out.slice
        go_wp2_with fail
        generalize hW2 : World.alloc _ _ = W2
        have hcell : W2.heap[w24.heap.size]? = some (.cells #[.slice a2 As.length cap2, .slice a3 Bs.length cap3, .slice b1 X1.length c1, .slice b2 X2.length c2, .slice b3 X3.length c3, .slice b4 X4.length c4, .slice a3 Bs.length cap3, .slice a3 Bs.length cap3] 27 (0, 0)) := by rw [← hW2]; exact heap_new _ rfl
        have hg4 : w24.grownBy W2 none := hW2 ▸ World.grownBy_alloc _ _ none
        clear hW2
        have iA := (Via.out.step hg4).1; have iB := (Vib.out.step hg4).1; have HPL := Lib.hid (Vic.out.step hg4).1; have HRR := Lib.hid (Vr.out.step hg4).1
        have i1 := (Vv1.out.step hg4).1; have i2 := (Vv2.out.step hg4).1; have i3 := (Vv3.out.step hg4).1; have i4 := (Vv4.out.step hg4).1
        replace HS := Lib.hid (HS.out.step hg4); replace VGG := Lib.hid (VGG.out.step hg4)
        have l2 := LX2.out; have l4 := LX4.out
        have hP : ∀ k, k < 4 → Pair W2 w24.heap.size k := by
          intro k hk
          match k, hk with
          | 0, _ => exact ⟨_, _, _, _, by simp [World.cell?, hcell], by simp [World.cell?, hcell], iA, iB, by omega⟩
          | 1, _ => exact ⟨_, _, _, _, by simp [World.cell?, hcell], by simp [World.cell?, hcell], i1, i2, by omega⟩
          | 2, _ => exact ⟨_, _, _, _, by simp [World.cell?, hcell], by simp [World.cell?, hcell], i3, i4, by omega⟩
          | 3, _ => exact ⟨_, _, _, _, by simp [World.cell?, hcell], by simp [World.cell?, hcell], iB, iB, by omega⟩
        have HP := Lib.hid hP
        have HRD := Lib.hid Vr.out.2
        clear l2 l4 hP hcell hg4 iA iB i1 i2 i3 i4 Via Vib Vic Vv1 Vv2 Vv3 Vv4 LX1 LX2 LX3 LX4 PX1 PX2 PX3 PX4
        generalize w24.heap.size = g at HP ⊢
        go_loopw [89] (fun i wr => ∃ k2 : Nat, i = .int .i64 k2 ∧ k2 ≤ 4 ∧ Hid (W2.grownBy wr none)) (fun i _ => 4 - (intOf i).toNat)
        case atStart => exact ⟨0, rfl, by omega, Lib.hid (grown_refl _ _)⟩
        case round =>
          obtain ⟨k2, rfl, hk2, hg2⟩ := hrel
          rename World => wr
          by_cases hlt2 : k2 < 4
          · obtain ⟨vx, vy, X, Y, c0, c1, iX, iY, hyl⟩ := (HP.out k2 hlt2).same hg2.out
            have IX := Lib.hid iX; have IY := Lib.hid iY; have HYL := Lib.hid hyl; clear hyl
            obtain ⟨⟨ax, cx, hvx, -⟩, -⟩ := iX
            obtain ⟨⟨ay, cy, hvy, -⟩, -⟩ := iY
            dsimp only at hvx hvy
            subst hvx hvy
            have h2 : (k2 : Int) < 4 := by omega
            go_wp2_with fail
            go_big_quiet (fail)
            go_wp2_with fail
            generalize hW1 : World.drewN _ _ = W1
            have hg1 : wr.grownBy W1 none := by rw [← hW1]; exact grown_trans (World.grownBy_alloc _ _ none) (grown_drewN _ _ none)
            clear hW1
            have VX := Lib.hid (IX.out.same hg1); have VY := Lib.hid (IY.out.same hg1); have VG : Hid (Since W2 W1) := Lib.hid (grown_trans hg2.out hg1); have VPL := Lib.hid ((HPL.out.same hg2.out).same hg1); have VR := Lib.hid ((HRR.out.same hg2.out).same hg1)
            clear IX IY hg2 hg1 c0 c1 HP
            go_wp2_with fail
            refine (embedP_any _ _ _ _ _ _ _ VR.out.1 VX.out VY.out).mono ?_
            rintro e w41 ⟨u1, rfl, ho, hg⟩
            replace VX := Lib.hid (VX.out.step hg)
            replace VY := Lib.hid (VY.out.step hg)
            replace VG := Lib.hid (VG.out.step hg)
            replace VPL := Lib.hid (VPL.out.step hg)
            replace VR := Lib.hid (VR.out.step hg)
            have Vu1 := Lib.hid (ho.row (embedP_bd HYL.out))
            clear ho hg
            go_wp2_with fail
            refine (rembedP_any _ _ _ _ _ _ _ VR.out.1 VX.out VY.out).mono ?_
            rintro e w42 ⟨u2, rfl, ho, hg⟩
            replace VX := Lib.hid (VX.out.step hg)
            replace VY := Lib.hid (VY.out.step hg)
            replace VG := Lib.hid (VG.out.step hg)
            replace VPL := Lib.hid (VPL.out.step hg)
            replace VR := Lib.hid (VR.out.step hg)
            replace Vu1 := Lib.hid (Vu1.out.step hg)
            have Vu2 := Lib.hid (ho.row (embedP_bd HYL.out))
            clear ho hg
            go_wp2_with fail
            refine (same_any _ _ _ _ _ Vu1.out.1 Vu2.out.1).mono ?_
            rintro e w43 ⟨rfl, hg⟩
            replace VX := Lib.hid (VX.out.drew hg)
            replace VY := Lib.hid (VY.out.drew hg)
            replace VG := Lib.hid (VG.out.drew hg)
            replace VPL := Lib.hid (VPL.out.drew hg)
            replace VR := Lib.hid (VR.out.drew hg)
            replace Vu1 := Lib.hid (Vu1.out.drew hg)
            replace Vu2 := Lib.hid (Vu2.out.drew hg)
            clear hg
            rw [beq_self_eq_true]
            clear Vu1
            go_wp2_with fail
            refine (validP_any _ _ _ _ _ VR.out.1 VX.out.1).mono ?_
            rintro e w44 ⟨rfl, rfl⟩
            go_wp2_with fail
            refine (rvalidP_any _ _ _ _ _ VR.out.1 VX.out.1).mono ?_
            rintro e w45 ⟨rfl, rfl⟩
            go_wp2_with fail
            refine (leqP_any _ _ _ _ _ _ _ VR.out.1 VX.out VY.out).mono ?_
            rintro e w46 ⟨rfl, hg⟩
            replace VX := Lib.hid (VX.out.step hg)
            replace VY := Lib.hid (VY.out.step hg)
            replace VG := Lib.hid (VG.out.step hg)
            replace VPL := Lib.hid (VPL.out.step hg)
            replace VR := Lib.hid (VR.out.step hg)
            replace Vu2 := Lib.hid (Vu2.out.step hg)
            clear hg
            go_wp2_with fail
            refine (rleqP_any _ _ _ _ _ _ _ VR.out.1 VX.out VY.out).mono ?_
            rintro e w47 ⟨rfl, hg⟩
            replace VX := Lib.hid (VX.out.step hg)
            replace VY := Lib.hid (VY.out.step hg)
            replace VG := Lib.hid (VG.out.step hg)
            replace VPL := Lib.hid (VPL.out.step hg)
            replace VR := Lib.hid (VR.out.step hg)
            replace Vu2 := Lib.hid (Vu2.out.step hg)
            clear hg
            go_wp2_with fail
            refine (dropsP_any _ _ _ _ _ VR.out.1 VY.out).mono ?_
            rintro e w48 ⟨vs, qs, rfl, ho, hm, hg⟩
            replace VX := Lib.hid (VX.out.step hg)
            replace VY := Lib.hid (VY.out.step hg)
            replace VG := Lib.hid (VG.out.step hg)
            replace VPL := Lib.hid (VPL.out.step hg)
            replace VR := Lib.hid (VR.out.step hg)
            replace Vu2 := Lib.hid (Vu2.out.step hg)
            have Vs := Lib.hid (ho.rows); have Ms := Lib.hid hm
            clear ho hm hg
            go_wp2_with fail
            refine (rdropsP_any _ _ _ _ _ VR.out.1 VY.out).mono ?_
            rintro e w49 ⟨vt, qt, rfl, ho, hgd, hm, hg⟩
            replace VX := Lib.hid (VX.out.step hg)
            replace VY := Lib.hid (VY.out.step hg)
            replace VG := Lib.hid (VG.out.step hg)
            replace VPL := Lib.hid (VPL.out.step hg)
            replace VR := Lib.hid (VR.out.step hg)
            replace Vu2 := Lib.hid (Vu2.out.step hg)
            replace Vs := Lib.hid (Vs.out.step hg)
            have Vt := Lib.hid (ho); have Mt := Lib.hid hm
            clear ho hm hg
            go_wp2_with fail
            refine (sameall_any _ _ _ _ _ Vs.out Vt.out).mono ?_
            rintro e w50 ⟨rfl, hg⟩
            replace VX := Lib.hid (VX.out.drew hg)
            replace VY := Lib.hid (VY.out.drew hg)
            replace VG := Lib.hid (VG.out.drew hg)
            replace VPL := Lib.hid (VPL.out.drew hg)
            replace VR := Lib.hid (VR.out.drew hg)
            replace Vu2 := Lib.hid (Vu2.out.drew hg)
            replace Vs := Lib.hid (Vs.out.drew hg)
            replace Vt := Lib.hid (Vt.out.drew hg)
            clear hg
            rw [Ms.out, Mt.out, beq_self_eq_true]
            clear Vs Vt Ms Mt
            go_wp2_with fail
            refine (provesP_any _ _ _ _ _ _ _ _ _ VR.out.1 VX.out VY.out VPL.out.1).mono ?_
            rintro e w51 ⟨rfl, hg⟩
            replace VX := Lib.hid (VX.out.drew hg)
            replace VY := Lib.hid (VY.out.drew hg)
            replace VG := Lib.hid (VG.out.drew hg)
            replace VPL := Lib.hid (VPL.out.drew hg)
            replace VR := Lib.hid (VR.out.drew hg)
            replace Vu2 := Lib.hid (Vu2.out.drew hg)
            clear hg
            go_wp2_with fail
            refine (rprovesP_any _ _ _ _ _ _ _ _ _ VR.out.1 VX.out VY.out VPL.out.1).mono ?_
            rintro e w52 ⟨rfl, hg⟩
            replace VX := Lib.hid (VX.out.drew hg)
            replace VY := Lib.hid (VY.out.drew hg)
            replace VG := Lib.hid (VG.out.drew hg)
            replace VPL := Lib.hid (VPL.out.drew hg)
            replace VR := Lib.hid (VR.out.drew hg)
            replace Vu2 := Lib.hid (Vu2.out.drew hg)
            clear hg
            go_wp2_with fail
            refine (provesP_any _ _ _ _ _ _ _ _ _ VR.out.1 VX.out VY.out Vu2.out.1).mono ?_
            rintro e w53 ⟨rfl, hg⟩
            replace VX := Lib.hid (VX.out.drew hg)
            replace VY := Lib.hid (VY.out.drew hg)
            replace VG := Lib.hid (VG.out.drew hg)
            replace VPL := Lib.hid (VPL.out.drew hg)
            replace VR := Lib.hid (VR.out.drew hg)
            replace Vu2 := Lib.hid (Vu2.out.drew hg)
            clear hg
            go_wp2_with fail
            refine (rprovesP_any _ _ _ _ _ _ _ _ _ VR.out.1 VX.out VY.out Vu2.out.1).mono ?_
            rintro e w54 ⟨rfl, hg⟩
            replace VX := Lib.hid (VX.out.drew hg)
            replace VY := Lib.hid (VY.out.drew hg)
            replace VG := Lib.hid (VG.out.drew hg)
            replace VPL := Lib.hid (VPL.out.drew hg)
            replace VR := Lib.hid (VR.out.drew hg)
            replace Vu2 := Lib.hid (Vu2.out.drew hg)
            clear hg
            go_wp2_with fail
            go_roundw
            case rel => exact ⟨k2 + 1, by go_num, by omega, VG⟩
            case measure => simp [intOf]; omega
          · have h2 : ¬ (k2 : Int) < 4 := by omega
            replace HS := Lib.hid (HS.out.step hg2.out); replace VGG := Lib.hid (VGG.out.step hg2.out); replace HRR := Lib.hid (HRR.out.same hg2.out)
            clear hg2
            rename World => wn
            go_wp2_with fail
            refine (next_st HS.out 4 (by omega) (by omega)).mono ?_
            rintro e w60 ⟨y, rfl, hy0, hy1, hs, hg⟩
            replace VGG := Lib.hid (VGG.out.deal hg)
            have HRQ := Lib.hid ((show RIn wn d _ R from ⟨HRR.out, HRD.out⟩).deal hg)
            have HS := Lib.hid hs
            clear hs hg
            go_wp2_with fail
            generalize hW3 : World.alloc _ _ = W3
            have hcell : W3.heap[w60.heap.size]? = some (.cells #[.int .i64 most, .int .i64 y, .int .i64 (-1)] 3 (0, 0)) := by rw [← hW3]; exact heap_new _ rfl
            have hg4 : w60.grownBy W3 none := hW3 ▸ World.grownBy_alloc _ _ none
            clear hW3
            have hC : ∀ k, k < 3 → ∃ m : Int, W3.cell? ⟨w60.heap.size, k, none⟩ = some (.int .i64 m) := by
              intro k hk
              match k, hk with
              | 0, _ => exact ⟨most, by simp [World.cell?, hcell]⟩
              | 1, _ => exact ⟨y, by simp [World.cell?, hcell]⟩
              | 2, _ => exact ⟨-1, by simp [World.cell?, hcell]⟩
            have HC3 := Lib.hid hC
            replace HS := Lib.hid (HS.out.step hg4); replace VGG := Lib.hid (VGG.out.step hg4); have HRX := Lib.hid (HRQ.out.step hg4)
            clear hC hcell hg4 HRQ
            generalize w60.heap.size = g3 at HC3 ⊢
            go_loopw [180] (fun i wr => ∃ k3 : Nat, i = .int .i64 k3 ∧ k3 ≤ 3 ∧ Hid (W3.grownBy wr none)) (fun i _ => 3 - (intOf i).toNat)
            case atStart => exact ⟨0, rfl, by omega, Lib.hid (grown_refl _ _)⟩
            case round =>
              obtain ⟨k3, rfl, hk3, hg5⟩ := hrel
              rename World => wt
              by_cases hlt3 : k3 < 3
              · obtain ⟨m, hm⟩ := HC3.out k3 hlt3
                replace hm := hg5.out.cell hm (by simp)
                have h3 : (k3 : Int) < 3 := by omega
                have VR := Lib.hid (HRX.out.step hg5.out).1
                cases hrb : ranksB R
                · have HRB := Lib.hid hrb
                  clear hrb
                  go_wp2_with fail
                  refine (pfalling_bad _ _ _ _ VR.out.1 HRB.out).mono ?_
                  rintro e w70 ⟨rfl, rfl⟩
                  go_wp2_with fail
                  refine (rFalling_bad _ _ _ _ VR.out.1 HRB.out).mono ?_
                  rintro e w71 ⟨rfl, rfl⟩
                  go_wp2_with fail
                  refine (sameall_any _ _ [] [] _ ⟨none, 0, rfl, Nat.zero_le _, .inl rfl, by simp⟩ ⟨none, 0, rfl, Nat.zero_le _, .inl rfl, by simp⟩).mono ?_
                  rintro e w72 ⟨rfl, hd⟩
                  rw [beq_self_eq_true]
                  have G9 := Lib.hid (grown_trans hg5.out (hd.grown none))
                  clear hd
                  go_wp2_with fail
                  go_roundw
                  case rel => exact ⟨k3 + 1, by go_num, by omega, G9⟩
                  case measure => simp [intOf]; omega
                · have HRB := Lib.hid hrb
                  have HM6 : Hid (∀ r ∈ R, r ≤ m → r < ((6 : Nat) : Int)) := Lib.hid (fun r h _ => by have := ((ranksB_le hrb).2.2 r h); omega)
                  clear hrb
                  go_wp2_with fail
                  refine (pfalling_any 6 _ _ _ _ VR.out.1 HRB.out HM6.out (by omega)).mono ?_
                  rintro e w70 ⟨v7, q7, rfl, ho7, hm7, hg7, -⟩
                  have O7 := Lib.hid ho7.rows; have M7 := Lib.hid hm7; have G7 := Lib.hid hg7
                  replace VR := Lib.hid (VR.out.same hg7)
                  clear ho7 hm7 hg7
                  go_wp2_with fail
                  refine (rFalling_any _ _ _ _ VR.out.1 HRB.out).mono ?_
                  rintro e w71 ⟨v8, q8, rfl, ho8, hm8, hg8⟩
                  have O8 := Lib.hid ho8; have M8 := Lib.hid hm8; have G8 := Lib.hid (grown_trans (grown_trans hg5.out G7.out) hg8)
                  replace O7 := Lib.hid (O7.out.same hg8)
                  clear ho8 hm8 hg8
                  go_wp2_with fail
                  refine (sameall_any _ _ _ _ _ O7.out O8.out).mono ?_
                  rintro e w72 ⟨rfl, hd⟩
                  rw [M7.out, M8.out, beq_self_eq_true]
                  have G9 := Lib.hid (grown_trans G8.out (hd.grown none))
                  clear hd
                  go_wp2_with fail
                  go_roundw
                  case rel => exact ⟨k3 + 1, by go_num, by omega, G9⟩
                  case measure => simp [intOf]; omega
              · have h3 : ¬ (k3 : Int) < 3 := by omega
                replace HS := Lib.hid (HS.out.step hg5.out); replace VGG := Lib.hid (VGG.out.step hg5.out)
                go_wp2_with fail
                go_roundw
                case rel => exact ⟨k + 1, by go_num, by omega, HS, VGG⟩
                case measure => simp [intOf]; omega
      · have h1 : ¬ (k : Int) < 3 := by omega
        go_wp2_with fail
        go_ret
        exact ⟨rfl, hs.out.below⟩
  · go_enter Try.func8, Try.ntmps8
    go_wp2_with fail
    refine (awake05_any _).mono ?_
    rintro e w1 ⟨rfl, hg⟩
    have HG := Lib.hid hg
    clear hg
    go_wp2_with fail
    refine (few_any _ _ _ _).mono ?_
    rintro e w2 ⟨rfl, rfl⟩
    by_cases h1 : (zs.length : Int) ≤ 400
    · rw [decide_eq_true h1]
      by_cases h0 : (Rs.length : Int) ≤ 12
      · by_cases h2 : (As.length : Int) ≤ 30
        · by_cases h3 : (Bs.length : Int) ≤ 30
          · have h4 : (30 : Int) < Cs.length := by omega
            clear hfew
            go_wp2_with fail
            refine (awake05_any _).mono ?_
            rintro e w3 ⟨rfl, hg⟩
            replace HG := Lib.hid (grown_trans HG.out hg)
            clear hg
            go_wp2_with fail
            go_ret
            exact ⟨rfl, below_of HG.out⟩
          · have h4 : (30 : Int) < Bs.length := by omega
            clear hfew
            go_wp2_with fail
            refine (awake05_any _).mono ?_
            rintro e w3 ⟨rfl, hg⟩
            replace HG := Lib.hid (grown_trans HG.out hg)
            clear hg
            go_wp2_with fail
            go_ret
            exact ⟨rfl, below_of HG.out⟩
        · have h4 : (30 : Int) < As.length := by omega
          clear hfew
          go_wp2_with fail
          refine (awake05_any _).mono ?_
          rintro e w3 ⟨rfl, hg⟩
          replace HG := Lib.hid (grown_trans HG.out hg)
          clear hg
          go_wp2_with fail
          go_ret
          exact ⟨rfl, below_of HG.out⟩
      · have h4 : (12 : Int) < Rs.length := by omega
        clear hfew
        go_wp2_with fail
        refine (awake05_any _).mono ?_
        rintro e w3 ⟨rfl, hg⟩
        replace HG := Lib.hid (grown_trans HG.out hg)
        clear hg
        go_wp2_with fail
        go_ret
        exact ⟨rfl, below_of HG.out⟩
    · rw [decide_eq_false h1]
      clear hfew
      go_wp2_with fail
      refine (awake05_any _).mono ?_
      rintro e w3 ⟨rfl, hg⟩
      replace HG := Lib.hid (grown_trans HG.out hg)
      clear hg
      go_wp2_with fail
      go_ret
      exact ⟨rfl, below_of HG.out⟩

/-! ### PriorityExact: the statement, from its walk -/
set_option maxRecDepth 100000 in
theorem liftedPriorityExact (os : Os) (started : os.Started) (H : Type) (enc : TypeId × Value → H) :
    ReturnsInHanded {} Try.checked os 8 .any (Rows.priorityExactSpec.pre6 enc Try.prog Try.f8 Rows.priorityExactRow.domain false) (Rows.priorityExactSpec.post enc Try.prog Try.f8 false true false false) := by
  refine returnsInHanded_of_change (C := Try.checked) own started (by kernel_rfl) Try.func8
    (ChangeSpec.witness6 (enc := enc) (C := Try.checked) false ⟨#[], #[.slice none 0 0, .slice none 0 0, .slice none 0 0, .slice none 0 0, .slice none 0 0, .int .i64 0], []⟩ 8 (by kernel_rfl) (by kernel_rfl) (by kernel_rfl) (by kernel_rfl)) ?_
  intro W base args ds gs before hval0 hW hcnd _
  have hval : ∀ (j : Nat) t v, Try.f8.params[j]? = some t → args[j]? = some v → Value.okWide Try.prog W .any base t v := hval0
  have hW' := hW
  obtain ⟨p, q, hA0, hV, rfl, hfz, hnd⟩ := hW
  have hA : DataW.TrodAll enc Try.prog W 0 (fun _ => true) true Try.f8.params.toList args.toList ds p := hA0
  rw [Try.params8] at hA hval
  obtain ⟨v0, vs0, d0, ds0, p0, q0, hargs, rfl, rfl, h0, r0⟩ := trodAll_cons hA
  obtain ⟨v1, vs1, d1, ds1, p1, q1, rfl, rfl, rfl, h1, r1⟩ := trodAll_cons r0
  obtain ⟨v2, vs2, d2, ds2, p2, q2, rfl, rfl, rfl, h2, r2⟩ := trodAll_cons r1
  obtain ⟨v3, vs3, d3, ds3, p3, q3, rfl, rfl, rfl, h3, r3⟩ := trodAll_cons r2
  obtain ⟨v4, vs4, d4, ds4, p4, q4, rfl, rfl, rfl, h4, r4⟩ := trodAll_cons r3
  obtain ⟨v5, vs5, d5, ds5, p5, q5, rfl, rfl, rfl, h5, r5⟩ := trodAll_cons r4
  obtain ⟨rfl, rfl, rfl⟩ := trodAll_nil r5
  obtain rfl : args = #[v0, v1, v2, v3, v4, v5] := by cases args; simp_all
  obtain ⟨rfl, rfl⟩ := trodVars_none hV
  obtain ⟨a0, len0, cap0, rfl⟩ := okWide_slice Try.underlying22 (hval 0 22 v0 rfl rfl)
  have k0 := h0
  have b0 : ∀ x, a0 = some x → x.block < W.heap.size := fun x hx => okWide_slice_lt Try.underlying22 (by subst hx; exact hval 0 22 _ rfl rfl)
  have lt0 : ∀ x ∈ p0, x.block < W.heap.size := by obtain ⟨m, hm⟩ := k0; exact DataW.trod_lt m _ _ _ hm
  obtain ⟨z0, w0⟩ : ∃ zs, IsRow .i64 W a0 len0 cap0 zs := by
    obtain ⟨fuel, hf⟩ := h0
    rcases open_ints Try.underlying22 Try.underlying3 (by kernel_rfl) hf with ⟨hcs, _⟩ | ⟨x, l, c, zs, hcs, _, hl, hm, hz, _, hcell, hwz⟩
    · simp [Value.cells] at hcs
      obtain ⟨rfl, rfl, rfl⟩ := hcs
      exact ⟨[], .inl ⟨rfl, rfl, rfl, rfl⟩⟩
    · simp [Value.cells] at hcs
      obtain ⟨rfl, rfl, rfl⟩ := hcs
      exact ⟨zs, .inr ⟨_, rfl, hl, hm, by simpa using hz, hcell, hwz⟩⟩
  obtain ⟨a1, len1, cap1, rfl⟩ := okWide_slice Try.underlying22 (hval 1 22 v1 rfl rfl)
  have k1 := h1
  have b1 : ∀ x, a1 = some x → x.block < W.heap.size := fun x hx => okWide_slice_lt Try.underlying22 (by subst hx; exact hval 1 22 _ rfl rfl)
  have lt1 : ∀ x ∈ p1, x.block < W.heap.size := by obtain ⟨m, hm⟩ := k1; exact DataW.trod_lt m _ _ _ hm
  obtain ⟨z1, w1⟩ : ∃ zs, IsRow .i64 W a1 len1 cap1 zs := by
    obtain ⟨fuel, hf⟩ := h1
    rcases open_ints Try.underlying22 Try.underlying3 (by kernel_rfl) hf with ⟨hcs, _⟩ | ⟨x, l, c, zs, hcs, _, hl, hm, hz, _, hcell, hwz⟩
    · simp [Value.cells] at hcs
      obtain ⟨rfl, rfl, rfl⟩ := hcs
      exact ⟨[], .inl ⟨rfl, rfl, rfl, rfl⟩⟩
    · simp [Value.cells] at hcs
      obtain ⟨rfl, rfl, rfl⟩ := hcs
      exact ⟨zs, .inr ⟨_, rfl, hl, hm, by simpa using hz, hcell, hwz⟩⟩
  obtain ⟨a2, len2, cap2, rfl⟩ := okWide_slice Try.underlying22 (hval 2 22 v2 rfl rfl)
  have k2 := h2
  have b2 : ∀ x, a2 = some x → x.block < W.heap.size := fun x hx => okWide_slice_lt Try.underlying22 (by subst hx; exact hval 2 22 _ rfl rfl)
  have lt2 : ∀ x ∈ p2, x.block < W.heap.size := by obtain ⟨m, hm⟩ := k2; exact DataW.trod_lt m _ _ _ hm
  obtain ⟨z2, w2⟩ : ∃ zs, IsRow .i64 W a2 len2 cap2 zs := by
    obtain ⟨fuel, hf⟩ := h2
    rcases open_ints Try.underlying22 Try.underlying3 (by kernel_rfl) hf with ⟨hcs, _⟩ | ⟨x, l, c, zs, hcs, _, hl, hm, hz, _, hcell, hwz⟩
    · simp [Value.cells] at hcs
      obtain ⟨rfl, rfl, rfl⟩ := hcs
      exact ⟨[], .inl ⟨rfl, rfl, rfl, rfl⟩⟩
    · simp [Value.cells] at hcs
      obtain ⟨rfl, rfl, rfl⟩ := hcs
      exact ⟨zs, .inr ⟨_, rfl, hl, hm, by simpa using hz, hcell, hwz⟩⟩
  obtain ⟨a3, len3, cap3, rfl⟩ := okWide_slice Try.underlying22 (hval 3 22 v3 rfl rfl)
  have k3 := h3
  have b3 : ∀ x, a3 = some x → x.block < W.heap.size := fun x hx => okWide_slice_lt Try.underlying22 (by subst hx; exact hval 3 22 _ rfl rfl)
  have lt3 : ∀ x ∈ p3, x.block < W.heap.size := by obtain ⟨m, hm⟩ := k3; exact DataW.trod_lt m _ _ _ hm
  obtain ⟨z3, w3⟩ : ∃ zs, IsRow .i64 W a3 len3 cap3 zs := by
    obtain ⟨fuel, hf⟩ := h3
    rcases open_ints Try.underlying22 Try.underlying3 (by kernel_rfl) hf with ⟨hcs, _⟩ | ⟨x, l, c, zs, hcs, _, hl, hm, hz, _, hcell, hwz⟩
    · simp [Value.cells] at hcs
      obtain ⟨rfl, rfl, rfl⟩ := hcs
      exact ⟨[], .inl ⟨rfl, rfl, rfl, rfl⟩⟩
    · simp [Value.cells] at hcs
      obtain ⟨rfl, rfl, rfl⟩ := hcs
      exact ⟨zs, .inr ⟨_, rfl, hl, hm, by simpa using hz, hcell, hwz⟩⟩
  obtain ⟨a4, len4, cap4, rfl⟩ := okWide_slice Try.underlying22 (hval 4 22 v4 rfl rfl)
  have k4 := h4
  have b4 : ∀ x, a4 = some x → x.block < W.heap.size := fun x hx => okWide_slice_lt Try.underlying22 (by subst hx; exact hval 4 22 _ rfl rfl)
  have lt4 : ∀ x ∈ p4, x.block < W.heap.size := by obtain ⟨m, hm⟩ := k4; exact DataW.trod_lt m _ _ _ hm
  obtain ⟨z4, w4⟩ : ∃ zs, IsRow .i64 W a4 len4 cap4 zs := by
    obtain ⟨fuel, hf⟩ := h4
    rcases open_ints Try.underlying22 Try.underlying3 (by kernel_rfl) hf with ⟨hcs, _⟩ | ⟨x, l, c, zs, hcs, _, hl, hm, hz, _, hcell, hwz⟩
    · simp [Value.cells] at hcs
      obtain ⟨rfl, rfl, rfl⟩ := hcs
      exact ⟨[], .inl ⟨rfl, rfl, rfl, rfl⟩⟩
    · simp [Value.cells] at hcs
      obtain ⟨rfl, rfl, rfl⟩ := hcs
      exact ⟨zs, .inr ⟨_, rfl, hl, hm, by simpa using hz, hcell, hwz⟩⟩
  obtain ⟨a5, rfl, rfl, rfl, w5⟩ := open_int Try.underlying3 (hval 5 3 v5 rfl rfl) h5
  clear hA0 hval0
  refine (walkPriorityExact a0 len0 cap0 z0 a1 len1 cap1 z1 a2 len2 cap2 z2 a3 len3 cap3 z3 a4 len4 cap4 z4 a5 W ⟨w0, b0⟩ ⟨w1, b1⟩ ⟨w2, b2⟩ ⟨w3, b3⟩ ⟨w4, b4⟩ w5).mono fun e W' ⟨he, bel⟩ => ?_
  subst he
  exact ⟨_, rfl, _, _, _, [], _, [], hW', trodAll_mk1 (shut_bool Try.underlying4 _), (trodAll_cons_mk (Below.trod laidOut (by kernel_rfl) (of_decide_eq_true (by kernel_rfl)) k0 bel lt0) (trodAll_cons_mk (Below.trod laidOut (by kernel_rfl) (of_decide_eq_true (by kernel_rfl)) k1 bel lt1) (trodAll_cons_mk (Below.trod laidOut (by kernel_rfl) (of_decide_eq_true (by kernel_rfl)) k2 bel lt2) (trodAll_cons_mk (Below.trod laidOut (by kernel_rfl) (of_decide_eq_true (by kernel_rfl)) k3 bel lt3) (trodAll_cons_mk (Below.trod laidOut (by kernel_rfl) (of_decide_eq_true (by kernel_rfl)) k4 bel lt4) (trodAll_cons_mk (shut_int Try.underlying3 w5) trodAll_mk0)))))), rfl, bel.frame _, fun h => by cases h⟩

theorem priorityExact_holds : Rows.PriorityExactSaid :=
  OpenClaim.holds_of_wide 8 Try.f8 rfl rfl rfl rfl rfl rfl rfl ⟨rfl, rfl, rfl, rfl, rfl⟩ rfl rfl rfl rfl rfl (by kernel_rfl) Try.func8 (by kernel_rfl)
    (of_decide_eq_true (by kernel_rfl)) (by unfold Func.isWrapper; first | (rw [if_pos (by decide +kernel)]; kernel_rfl) | (rw [if_neg (by decide +kernel)]; exact ⟨rfl, rfl⟩))
    (fun os started H enc _ => liftedPriorityExact os started H enc)
#print axioms priorityExact_holds
end Go.Proofs.Ytaenkbcclgpphaa
