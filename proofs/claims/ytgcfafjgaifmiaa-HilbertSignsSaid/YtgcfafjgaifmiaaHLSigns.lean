/- HilbertSigns: for every input it answers true. -/
import Derived.Test.YtgcfafjgaifmiaaEt
import Derived.BigRegion
import Derived.Deep.RegionHeld3
namespace Go.Proofs.Ytgcfafjgaifmiaa
open Go.ChangeShapes Go.WideShapes Go.ChangeAt Go.RowKit
set_option linter.unusedVariables false

set_option maxRecDepth 100000 in
set_option maxHeartbeats 2000000 in
theorem walkHilbertSigns (a0 : Option Addr) (len0 cap0 : Nat) (z0 : List Int) (w : World) (w0 : IsRow .i64 w a0 len0 cap0 z0) :
    Calls Try.prog 7 #[.slice a0 len0 cap0] w fun e w' => e = .returned (.bool true) ∧ Below w.heap.size w w' := by
  obtain ⟨hI, hlen⟩ := w0.ints
  generalize z0.take len0 = zs at hI hlen
  subst hlen
  have HI := Lib.hid hI
  clear hI w0
  by_cases hfew : (zs.length : Int) ≤ 400
  · go_enter Try.func7, Try.ntmps7
    go_wp2_with fail
    refine (awake12_any _).mono ?_
    rintro e w1 ⟨rfl, hg⟩
    have HG := Lib.hid hg
    clear hg
    go_wp2_with fail
    refine (few_any _ _ _ _).mono ?_
    rintro e w2 ⟨rfl, rfl⟩
    rw [decide_eq_true hfew]
    go_wp2_with fail
    refine (new_st (HI.out.same HG.out) HG.out).mono ?_
    rintro e w3 ⟨p, d, rfl, hs⟩
    have HS := Lib.hid hs
    clear hs HG HI
    go_wp2_with fail
    refine (next_st HS.out _ (by omega) (by omega)).mono ?_
    rintro e w4 ⟨yr, rfl, hyr0, hyr1, hs, hg⟩
    replace HS := Lib.hid hs
    clear hs hg
    obtain ⟨r, hr⟩ : ∃ r : Nat, 1 + yr = (r : Int) := ⟨(1 + yr).toNat, by omega⟩
    have hr1 : 1 ≤ r := by omega
    have hr2 : r ≤ 3 := by omega
    have ir : IntKind.i64.wrap (1 + yr) = (r : Int) := by rw [hr]; exact IntWalk.i64_in _ (by omega)
    clear hr hyr0 hyr1
    go_wp2_with fail
    refine (next_st HS.out _ (by omega) (by omega)).mono ?_
    rintro e w5 ⟨yc, rfl, hyc0, hyc1, hs, hg⟩
    replace HS := Lib.hid hs
    clear hs hg
    obtain ⟨c, hc⟩ : ∃ c : Nat, 1 + yc = (c : Int) := ⟨(1 + yc).toNat, by omega⟩
    have hc1 : 1 ≤ c := by omega
    have hc2 : c ≤ 4 := by omega
    have ic : IntKind.i64.wrap (1 + yc) = (c : Int) := by rw [hc]; exact IntWalk.i64_in _ (by omega)
    clear hc hyc0 hyc1
    go_wp2_with fail
    clear ir ic
    refine (matrix_st HS.out r c (by omega) (by omega)).mono ?_
    rintro e w6 ⟨vm, ps, rfl, hpl, hdm, hM, hs, hg⟩
    have HMvm := Lib.hid (MatD.mk HS.out hM)
    replace HS := Lib.hid hs; have HOKvm := Lib.hid (dealt_ok hpl hdm hr1 (by omega) hc1 (by omega) (by omega))
    clear hpl hdm hM hs hg
    obtain ⟨aM, cM, rfl⟩ := HMvm.out.slice
    have hpl2 : ps.length ≤ 3 := by have := HOKvm.out.1; omega
    have hpl1 : 1 ≤ ps.length := by have := HOKvm.out.1; omega
    have hpl3 : (ps.length : Int) ≤ 3 := by omega
    go_wp2_with fail
    refine (small_st HS.out (r : Int) 3 (by omega) (by omega) (by omega)).mono ?_
    rintro e w7 ⟨vb, bs, rfl, hul, hub, hv, hs, hg⟩
    replace HMvm := Lib.hid (HMvm.out.deal hg); have VB := Lib.hid hv
    replace HS := Lib.hid hs; have HBL : Hid (bs.length = r) := Lib.hid (by rw [hul]; rfl); have HBB := Lib.hid hub
    have HBO : Hid (RightOk r bs) := Lib.hid ⟨HBL.out, fun z hz => by have := HBB.out z hz; omega⟩
    clear hul hub hv hs hg
    obtain ⟨aB, cB, rfl, -⟩ := VB.out.slice
    have ir1 : IntKind.i64.wrap ((r : Int) - 1) = (r : Int) - 1 := IntWalk.i64_in _ (by omega)
    obtain ⟨B, hB⟩ : ∃ B, B = w7.heap.size := ⟨_, rfl⟩
    have HSG : Hid (Sg w p d B (.slice aM ps.length cM) ps (.slice aB bs.length cB) bs (.slice none 0 0, []) (.slice none 0 0) [] (.slice none 0 0) [] w7) := Lib.hid (by
      subst hB
      refine ⟨HS.out, HMvm.out, VB.out, OwnP.nil _ _, OwnI.nil _ _, by simp, HMvm.out.low, fun g hg => ?_, HS.out.lt, Nat.le_refl _, ⟨⟨none, 0, rfl, Nat.zero_le _, (by simp), .inl rfl⟩, Good.nil, (by intro g hg; cases hg)⟩, (by intro g hg; cases hg), (by simp), (by intro g hg; cases hg)⟩
      rcases VB.out.1.lt with e | e
      · have := HBL.out; rw [e] at this; simp at this; omega
      · cases aB with
        | none => cases hg
        | some x => cases hg; exact e x rfl)
    have HTU : Hid (Turned (ps.map Prod.snd) bs r [] []) := Lib.hid (Turned.zero (by rw [List.length_map, HOKvm.out.1]; exact Nat.le_refl _))
    clear HS HMvm VB hB
    go_wp2_with fail
    clear ir1
    go_loopw [9, 7, 8] (fun i v7 v8 wr => ∃ (m : Nat) (q : Row) (T : List Row) (R : List Int) (a7 : Option Addr) (c7 : Nat) (a8 : Option Addr) (c8 : Nat), i = .int .i64 ((m : Int) - 1) ∧ m ≤ r ∧ v7 = .slice a7 T.length c7 ∧ v8 = .slice a8 R.length c8 ∧ Hid (Sg w p d B (.slice aM ps.length cM) ps (.slice aB bs.length cB) bs q v7 T v8 R wr) ∧ Hid (Turned (ps.map Prod.snd) bs m T R)) (fun i _ _ _ => ((match i with | .int _ z => z + 1 | _ => 0) : Int).toNat)
    case atStart => exact ⟨r, _, [], [], none, 0, none, 0, rfl, Nat.le_refl _, rfl, rfl, HSG, HTU⟩
    case round =>
      clear HSG HTU
      obtain ⟨m, q, T, R, a7, c7, a8, c8, rfl, hm, rfl, rfl, HSG, HTU⟩ := hrel
      rename World => wk
      by_cases hm0 : 0 < m
      · obtain ⟨i, hi⟩ : ∃ i, m = i + 1 := ⟨m - 1, by omega⟩
        subst hi
        have e0 : ((i + 1 : Nat) : Int) - 1 = (i : Int) := by omega
        rw [e0]
        have hi3 : i < r := hm
        have h4 : (0 : Int) ≤ (i : Int) := by omega
        clear hm hm0 e0
        go_wp2_with fail
        refine (next_st HSG.out.st 2 (by omega) (by omega)).mono ?_
        rintro e w8 ⟨y, rfl, hy0, hy1, hs, hg⟩
        replace HSG := Lib.hid (HSG.out.deal hs hg)
        clear hs hg
        have j1 : IntKind.i64.wrap (2 * y) = 2 * y := IntWalk.i64_in _ (by omega)
        obtain ⟨s, hs⟩ : ∃ s, 1 - 2 * y = s := ⟨_, rfl⟩
        have j2 : IntKind.i64.wrap (1 - 2 * y) = s := by rw [hs]; exact IntWalk.i64_in _ (by omega)
        have HSN : Hid (s = 1 ∨ s = -1) := Lib.hid (by omega)
        have hip : i < ps.length := by have := HOKvm.out.1; omega
        have hip' : (i : Int) < (ps.length : Int) := by omega
        obtain ⟨bq, oq, a2, c2, rfl, hcell, -, hri⟩ := HSG.out.mat.rows.row hip
        have HRI := Lib.hid hri
        have HQK := Lib.hid (HOKvm.out.2.2.2.2.2.2 _ (List.getElem_mem hip))
        have HPI : Hid ((ps.map Prod.snd)[i]'(by simpa using hip) = ps[i].2) := Lib.hid (by rw [List.getElem_map])
        clear hri hs hy0 hy1
        go_wp2_with fail
        clear j1 j2 hcell
        obtain ⟨x, hx⟩ : ∃ x, ps[i].2 = x := ⟨_, rfl⟩
        rw [hx] at HRI HQK HPI ⊢
        clear hx
        have hxl : x.length ≤ 4 := by have := HQK.out.1; omega
        have HG0 := Lib.hid (grown_refl w8 none)
        go_loopw [59, 11] (fun j v wr => ∃ k : Nat, j = .int .i64 k ∧ k ≤ x.length ∧ Hid (OwnI wr w8.heap.size v ((x.map (fun z => s * z)).take k)) ∧ Hid (w8.grownBy wr none)) (fun j _ _ => x.length - (intOf j).toNat)
        case atStart => exact ⟨0, rfl, Nat.zero_le _, Lib.hid (by simpa using OwnI.nil _ _), HG0⟩
        case round =>
          obtain ⟨k, rfl, hk, hO, hG⟩ := hrel
          rename World => wj
          by_cases hkb : k < x.length
          · have h5 : (k : Int) < (x.length : Int) := by omega
            have i3 : IntKind.i64.wrap ((k : Int) + 1) = (k : Int) + 1 := IntWalk.i64_in _ (by omega)
            obtain ⟨_, _, hv, _, _, hxc⟩ := HRI.out.same hG.out
            simp only [Value.slice.injEq] at hv
            obtain ⟨rfl, -, rfl⟩ := hv
            obtain ⟨bb, ob, rfl, hcy⟩ := Ints.at hxc hkb
            have hxb := mem_at (P := fun y => -16 ≤ y ∧ y ≤ 16) HQK.out.2 hkb
            have HNX : Hid ((x.map (fun z => s * z)).take k ++ [s * x[k]?.getD 0] = (x.map (fun z => s * z)).take (k + 1)) := Lib.hid (by
              rw [List.take_succ_eq_append_getElem (by simpa using hkb), List.getElem_map, List.getElem?_eq_getElem hkb]; rfl)
            generalize x[k]?.getD 0 = z at *
            have m1 : IntKind.i64.wrap (s * z) = s * z := IntWalk.i64_in _ (by rcases HSN.out with rfl | rfl <;> omega)
            have HKL : Hid (((x.map (fun z => s * z)).take k).length ≤ 1000000000000) := Lib.hid (by rw [List.length_take]; omega)
            clear hxc hxb
            go_wp2_with (at_builtin; refine app_int rfl _ _ rfl w8.heap.size _ ((x.map (fun z => s * z)).take k) rfl (hO.out.kept (World.grownBy_alloc _ _ none) (by simp)) wj.heap.size (s * z) rfl (by simp) HKL.out (by have := hG.out.size; simp; omega) ?_)
            intro v' w9 ho2 hg2
            have HO9 := Lib.hid ho2; have HG9 := Lib.hid (grown_then (grown_trans hG.out (World.grownBy_alloc _ _ none)) hg2 (fun j hj => .inl (hO.out.fresh j hj).1))
            clear ho2 hg2 hcy m1
            go_wp2_with fail
            go_roundw
            case rel => exact ⟨k + 1, by go_num, by omega, Lib.hid (by rw [← HNX.out]; exact HO9.out), HG9⟩
            case measure => simp [intOf]; omega
          · obtain rfl : k = x.length := by omega
            have h5 : ¬ (x.length : Int) < (x.length : Int) := by omega
            obtain ⟨a11, c11, rfl⟩ := ownI_open hO.out
            obtain ⟨xs, hxs⟩ : ∃ xs, xs = x.map (fun z => s * z) := ⟨_, rfl⟩
            have hOX : OwnI wj w8.heap.size (.slice a11 xs.length c11) xs := by
              have := hO.out
              rw [List.take_of_length_le (by simp), ← hxs] at this
              exact this
            have hxl2 : ((x.map (fun z => s * z)).take x.length).length = xs.length := by rw [List.take_of_length_le (by simp), ← hxs]
            rw [hxl2]
            have HXS := Lib.hid hxs
            have HQ := Lib.hid (hOX.row (fun z hz => by
              rw [hxs] at hz
              obtain ⟨y', hy', rfl⟩ := List.mem_map.1 hz
              have := HQK.out.2 y' hy'
              rcases HSN.out with rfl | rfl <;> omega))
            have H7 : Hid (∀ g, (Value.slice a11 xs.length c11).ownBlock = some g → (Value.slice a7 T.length c7).ownBlock ≠ some g) := Lib.hid (fun g e e2 => by
              have h1 := (hOX.fresh g e).1
              have h2 := (HSG.out.own7.fresh g e2).2
              omega)
            have H8 : ∀ g, (Value.slice a11 xs.length c11).ownBlock = some g → (Value.slice a8 R.length c8).ownBlock ≠ some g := fun g e e2 => by
              have h1 := (hOX.fresh g e).1
              have h2 := (HSG.out.own8.fresh g e2).2
              omega
            have HSW := Lib.hid ((HSG.out.grow hG.out).with (q' := (.slice a11 xs.length c11, xs)) HQ.out H8 (fun g e => Nat.le_trans HSG.out.hB (hOX.fresh g e).1))
            have hbl : i < bs.length := by have := HBL.out; omega
            have hbl' : (i : Int) < (bs.length : Int) := by omega
            obtain ⟨_, _, hv, _, _, hbc⟩ := HSW.out.vec.1
            simp only [Value.slice.injEq] at hv
            obtain ⟨rfl, -, rfl⟩ := hv
            obtain ⟨bb, ob, rfl, hcb⟩ := Ints.at hbc hbl
            have hbb := mem_at (P := fun y => 0 ≤ y ∧ y ≤ 3) HBB.out hbl
            have HTN := Lib.hid (HTU.out.next (s := s) (v := .slice a11 xs.length c11) (by simpa using hip) hbl HSN.out)
            rw [HPI.out, ← HXS.out] at HTN
            rw [show bs[i] = bs[i]?.getD 0 by rw [List.getElem?_eq_getElem hbl]; rfl] at HTN
            obtain ⟨z, hz⟩ : ∃ z, bs[i]?.getD 0 = z := ⟨_, rfl⟩
            have HZ := Lib.hid hz
            rw [hz] at HTN hcb hbb
            clear hz
            have H7B : Hid (∀ g, (Value.slice a7 T.length c7).ownBlock = some g → ¬ wj.heap.size ≤ g) := Lib.hid (fun g e => by have := (HSW.out.own7.fresh g e).2; omega)
            have HTL : Hid (T.length ≤ 1000000) := Lib.hid (by have h1 := HTU.out.len.1; rw [List.length_map] at h1; omega)
            have HRL : Hid (R.length ≤ 1000000) := Lib.hid (by have h1 := HTU.out.len.2; rw [List.length_map] at h1; omega)
            have m1 : IntKind.i64.wrap (s * z) = s * z := IntWalk.i64_in _ (by rcases HSN.out with rfl | rfl <;> omega)
            have i9 : IntKind.i64.wrap ((i : Int) - 1) = (i : Int) - 1 := IntWalk.i64_in _ (by omega)
            have HCB := Lib.hid hcb
            clear hbc hOX hxl2 hxs H8 HSG hO hG hcb
            have hcb : wj.cell? ⟨bb, ob + i, none⟩ = some (.int .i64 z) := HSW.out.cellb HZ.out hbl
            have hcbd : wj.drew.cell? ⟨bb, ob + i, none⟩ = some (.int .i64 z) := hcb
            have hcb2 : (wj.alloc (.cells #[.slice a11 xs.length c11] 22)).cell? ⟨bb, ob + i, none⟩ = some (.int .i64 z) := HSW.out.al.cellb HZ.out hbl
            have hcb2d : (wj.alloc (.cells #[.slice a11 xs.length c11] 22)).drew.cell? ⟨bb, ob + i, none⟩ = some (.int .i64 z) := hcb2
            go_wp2_with fail
            go_region_law (first
              | (refine step_sg7 rfl (.tmp 70) (.tmp 72) rfl (v7 := .slice a7 T.length c7) (by kernel_rfl) (show Sg w p d B (.slice (some ⟨bq, oq, none⟩) ps.length cM) ps (.slice (some ⟨bb, ob, none⟩) bs.length cB) bs (.slice a11 xs.length c11, xs) (.slice a7 T.length c7) T (.slice a8 R.length c8) R _ from HSW.out.al.dr) H7.out HTL.out (wj.heap.size) (by kernel_rfl) (cN1 wj (.slice a11 xs.length c11) 22) ?_; intro v7' w73 ho hg; have hcb73 := ho.cellb HZ.out hbl; obtain ⟨T', hT'⟩ : ∃ T', T' = T ++ [(.slice a11 xs.length c11, xs)] := ⟨_, rfl⟩; rw [← hT'] at ho; have HTT := Lib.hid hT'; obtain ⟨a7', c7', rfl⟩ := ho.own7.slice; replace HSW := Lib.hid ho; clear ho hg hT')
              | (refine step_sg7 rfl (.tmp 70) (.tmp 72) rfl (v7 := .slice a7 T.length c7) (by kernel_rfl) (show Sg w p d B (.slice (some ⟨bq, oq, none⟩) ps.length cM) ps (.slice (some ⟨bb, ob, none⟩) bs.length cB) bs (.slice a11 xs.length c11, xs) (.slice a7 T.length c7) T (.slice a8 R.length c8) R _ from HSW.out.al.al.dr) H7.out HTL.out (wj.heap.size) (by kernel_rfl) (cN2 wj (.slice a11 xs.length c11) 22 (.cells #[.int .i64 (s * z)] 3)) ?_; intro v7' w73 ho hg; have HC81 := Lib.hid (hg.cell (cN3 wj (.int .i64 (s * z)) 3 (.cells #[.slice a11 xs.length c11] 22)) (fun e => H7B.out _ e.symm (by first | exact Nat.le_refl _ | exact Nat.le_succ _))); have hcb73 := ho.cellb HZ.out hbl; obtain ⟨T', hT'⟩ : ∃ T', T' = T ++ [(.slice a11 xs.length c11, xs)] := ⟨_, rfl⟩; rw [← hT'] at ho; have HTT := Lib.hid hT'; obtain ⟨a7', c7', rfl⟩ := ho.own7.slice; replace HSW := Lib.hid ho; clear ho hg hT')
              | (refine step_sg7 rfl (.tmp 70) (.tmp 72) rfl (v7 := .slice a7 T.length c7) (by kernel_rfl) (show Sg w p d B (.slice (some ⟨bq, oq, none⟩) ps.length cM) ps (.slice (some ⟨bb, ob, none⟩) bs.length cB) bs (.slice a11 xs.length c11, xs) (.slice a7 T.length c7) T (.slice a8 R.length c8) R _ from HSW.out.al.al.dr) H7.out HTL.out (wj.heap.size + 1) (by kernel_rfl) (cN3 wj (.slice a11 xs.length c11) 22 (.cells #[.int .i64 (s * z)] 3)) ?_; intro v7' w73 ho hg; have HC81 := Lib.hid (hg.cell (cN2 wj (.int .i64 (s * z)) 3 (.cells #[.slice a11 xs.length c11] 22)) (fun e => H7B.out _ e.symm (by first | exact Nat.le_refl _ | exact Nat.le_succ _))); have hcb73 := ho.cellb HZ.out hbl; obtain ⟨T', hT'⟩ : ∃ T', T' = T ++ [(.slice a11 xs.length c11, xs)] := ⟨_, rfl⟩; rw [← hT'] at ho; have HTT := Lib.hid hT'; obtain ⟨a7', c7', rfl⟩ := ho.own7.slice; replace HSW := Lib.hid ho; clear ho hg hT')
              | (refine step_sg8 rfl (.tmp 74) (.tmp 81) rfl (v8 := .slice a8 R.length c8) (by kernel_rfl) (show Sg w p d B (.slice (some ⟨bq, oq, none⟩) ps.length cM) ps (.slice (some ⟨bb, ob, none⟩) bs.length cB) bs (.slice a11 xs.length c11, xs) (.slice a7' T'.length c7') T' (.slice a8 R.length c8) R _ from HSW.out.al) HRL.out (s * z) (w73.heap.size) (by kernel_rfl) (cell_new1 w73 (.int .i64 (s * z)) 3) ?_; intro v8' w82 ho hg; obtain ⟨R', hR'⟩ : ∃ R', R' = R ++ [s * z] := ⟨_, rfl⟩; rw [← hR'] at ho; have HRR := Lib.hid hR'; obtain ⟨a8', c8', rfl⟩ := ownI_open ho.own8; replace HSW := Lib.hid ho; clear ho hg hR')
              | (refine step_sg8 rfl (.tmp 74) (.tmp 81) rfl (v8 := .slice a8 R.length c8) (by kernel_rfl) (show Sg w p d B (.slice (some ⟨bq, oq, none⟩) ps.length cM) ps (.slice (some ⟨bb, ob, none⟩) bs.length cB) bs (.slice a11 xs.length c11, xs) (.slice a7' T'.length c7') T' (.slice a8 R.length c8) R _ from HSW.out) HRL.out (s * z) (wj.heap.size + 1) (by kernel_rfl) HC81.out ?_; intro v8' w82 ho hg; obtain ⟨R', hR'⟩ : ∃ R', R' = R ++ [s * z] := ⟨_, rfl⟩; rw [← hR'] at ho; have HRR := Lib.hid hR'; obtain ⟨a8', c8', rfl⟩ := ownI_open ho.own8; replace HSW := Lib.hid ho; clear ho hg hR')
              | (refine step_sg8 rfl (.tmp 74) (.tmp 81) rfl (v8 := .slice a8 R.length c8) (by kernel_rfl) (show Sg w p d B (.slice (some ⟨bq, oq, none⟩) ps.length cM) ps (.slice (some ⟨bb, ob, none⟩) bs.length cB) bs (.slice a11 xs.length c11, xs) (.slice a7' T'.length c7') T' (.slice a8 R.length c8) R _ from HSW.out) HRL.out (s * z) (wj.heap.size) (by kernel_rfl) HC81.out ?_; intro v8' w82 ho hg; obtain ⟨R', hR'⟩ : ∃ R', R' = R ++ [s * z] := ⟨_, rfl⟩; rw [← hR'] at ho; have HRR := Lib.hid hR'; obtain ⟨a8', c8', rfl⟩ := ownI_open ho.own8; replace HSW := Lib.hid ho; clear ho hg hR'))
            all_goals
              have HTN2 : Hid (Turned (ps.map Prod.snd) bs i T' R') := Lib.hid (by rw [HTT.out, HRR.out]; exact HTN.out)
              clear HTN HTT HRR m1 hcb hcbd hcb2 hcb2d hcb73
              go_wp2_with fail
              go_roundw
              case rel => exact ⟨i, _, T', R', a7', c7', a8', c8', rfl, by omega, rfl, rfl, HSW, HTN2⟩
              case measure => (simp; try omega)
      · obtain rfl : m = 0 := by omega
        have e0 : ((0 : Nat) : Int) - 1 = -1 := rfl
        rw [e0]
        have h4 : ¬ (0 : Int) ≤ -1 := by omega
        obtain ⟨hok, hro⟩ := HTU.out.ok HOKvm.out HBO.out
        have HTK := Lib.hid hok; have HRO := Lib.hid hro
        have HS1 : Hid (∀ x, solB T R x = solB ps bs x) := Lib.hid (fun x => turned_sol HTU.out (by rw [HOKvm.out.1, HBL.out]))
        have HS2 : Hid (∀ x, solB T (zerosL r) x = solB ps (zerosL r) x) := Lib.hid (fun x => turned_sol (HTU.out.zeros (by rw [List.length_map]; exact HOKvm.out.1)) (by rw [HOKvm.out.1]; simp [zerosL]))
        have HVM := Lib.hid HSG.out.mat.rows; have HVB := Lib.hid HSG.out.vec.1; have HVT := Lib.hid HSG.out.own7.rows
        have HVR : Hid (Ints wk (.slice a8 R.length c8) R) := Lib.hid (HSG.out.own8.ints (fun z hz => by have := hro.2 z hz; omega))
        have HSS := Lib.hid HSG.out.st
        clear HSG HTU hok hro e0 hm
        go_wp2_with fail
        refine (Minimal_any (mst := 4) HVM.out HOKvm.out (by omega) (by omega) HVB.out HBO.out (by omega)).mono ?_
        rintro e w21 ⟨vx, xq, rfl, ho, hq, hg⟩
        have X1 := Lib.hid ho.rowsP; have X2 := Lib.hid hq
        obtain ⟨ax, cx, rfl⟩ := ho.slice
        replace HVM := Lib.hid (HVM.out.same hg); replace HVT := Lib.hid (HVT.out.same hg); replace HVR := Lib.hid (HVR.out.same hg); replace HSS := Lib.hid (HSS.out.step hg)
        clear ho hq hg
        go_wp2_with fail
        refine (Minimal_any (mst := 4) HVT.out HTK.out (by omega) (by omega) HVR.out HRO.out (by omega)).mono ?_
        rintro e w22 ⟨vy, yq, rfl, ho, hq, hg⟩
        rw [good_congr HS1.out] at hq
        have Y1 := Lib.hid ho.rowsP; have Y2 := Lib.hid hq
        obtain ⟨ay, cy, rfl⟩ := ho.slice
        replace HVM := Lib.hid (HVM.out.same hg); replace HVT := Lib.hid (HVT.out.same hg); replace X1 := Lib.hid (X1.out.same hg); replace HSS := Lib.hid (HSS.out.step hg)
        clear ho hq hg
        go_wp2_with fail
        refine (Free_any (mst := 4) HVM.out HOKvm.out (by omega) (by omega) (by omega)).mono ?_
        rintro e w23 ⟨vu, uq, rfl, ho, hq, hg⟩
        have U1 := Lib.hid ho.rowsP; have U2 := Lib.hid hq
        obtain ⟨au, cu, rfl⟩ := ho.slice
        replace HVT := Lib.hid (HVT.out.same hg); replace X1 := Lib.hid (X1.out.same hg); replace Y1 := Lib.hid (Y1.out.same hg); replace HSS := Lib.hid (HSS.out.step hg)
        clear ho hq hg
        go_wp2_with fail
        refine (Free_any (mst := 4) HVT.out HTK.out (by omega) (by omega) (by omega)).mono ?_
        rintro e w24 ⟨vw, wq, rfl, ho, hq, hg⟩
        rw [good_congr HS2.out] at hq
        have W1 := Lib.hid ho.rowsP; have W2 := Lib.hid hq
        obtain ⟨aw, cw, rfl⟩ := ho.slice
        replace X1 := Lib.hid (X1.out.same hg); replace Y1 := Lib.hid (Y1.out.same hg); replace U1 := Lib.hid (U1.out.same hg); replace HSS := Lib.hid (HSS.out.step hg)
        clear ho hq hg
        go_wp2_with fail
        refine (sameall_any _ _ _ _ _ X1.out Y1.out).mono ?_
        rintro e w25 ⟨rfl, hd⟩
        rw [X2.out, Y2.out, beq_self_eq_true]
        have hg := hd.grown none
        replace U1 := Lib.hid (U1.out.same hg); replace W1 := Lib.hid (W1.out.same hg); replace HSS := Lib.hid (HSS.out.step hg)
        clear hd hg
        go_wp2_with fail
        refine (sameall_any _ _ _ _ _ U1.out W1.out).mono ?_
        rintro e w26 ⟨rfl, hd⟩
        rw [U2.out, W2.out, beq_self_eq_true]
        replace HSS := Lib.hid (HSS.out.drew hd)
        clear hd
        go_wp2_with fail
        go_ret
        exact ⟨rfl, HSS.out.below⟩
  · go_enter Try.func7, Try.ntmps7
    go_wp2_with fail
    refine (awake12_any _).mono ?_
    rintro e w1 ⟨rfl, hg⟩
    have HG := Lib.hid hg
    clear hg
    go_wp2_with fail
    refine (few_any _ _ _ _).mono ?_
    rintro e w2 ⟨rfl, rfl⟩
    rw [decide_eq_false (by omega)]
    go_wp2_with fail
    refine (awake12_any _).mono ?_
    rintro e w3 ⟨rfl, hg⟩
    have HG := Lib.hid (grown_trans HG.out hg)
    clear hg
    go_wp2_with fail
    go_ret
    exact ⟨rfl, below_of HG.out⟩

/-! ### HilbertSigns: the statement, from its walk -/
set_option maxRecDepth 100000 in
theorem liftedHilbertSigns (os : Os) (started : os.Started) (H : Type) (enc : TypeId × Value → H) :
    ReturnsInHanded {} Try.checked os 7 .any (Rows.hilbertSignsSpec.pre6 enc Try.prog Try.f7 Rows.hilbertSignsRow.domain false) (Rows.hilbertSignsSpec.post enc Try.prog Try.f7 false true false false) := by
  refine returnsInHanded_of_change (C := Try.checked) own started (by kernel_rfl) Try.func7
    (ChangeSpec.witness6 (enc := enc) (C := Try.checked) false ⟨#[], #[.slice none 0 0], []⟩ 8 (by kernel_rfl) (by kernel_rfl) (by kernel_rfl) (by kernel_rfl)) ?_
  intro W base args ds gs before hval0 hW hcnd _
  have hval : ∀ (j : Nat) t v, Try.f7.params[j]? = some t → args[j]? = some v → Value.okWide Try.prog W .any base t v := hval0
  have hW' := hW
  obtain ⟨p, q, hA0, hV, rfl, hfz, hnd⟩ := hW
  have hA : DataW.TrodAll enc Try.prog W 0 (fun _ => true) true Try.f7.params.toList args.toList ds p := hA0
  rw [Try.params7] at hA hval
  obtain ⟨v0, vs0, d0, ds0, p0, q0, hargs, rfl, rfl, h0, r0⟩ := trodAll_cons hA
  obtain ⟨rfl, rfl, rfl⟩ := trodAll_nil r0
  obtain rfl : args = #[v0] := by cases args; simp_all
  obtain ⟨rfl, rfl⟩ := trodVars_none hV
  obtain ⟨a0, len0, cap0, rfl⟩ := okWide_slice Try.underlying22 (hval 0 22 v0 rfl rfl)
  have k0 := h0
  have lt0 : ∀ x ∈ p0, x.block < W.heap.size := by obtain ⟨m, hm⟩ := k0; exact DataW.trod_lt m _ _ _ hm
  obtain ⟨z0, w0⟩ : ∃ zs, IsRow .i64 W a0 len0 cap0 zs := by
    obtain ⟨fuel, hf⟩ := h0
    rcases open_ints Try.underlying22 Try.underlying3 (by kernel_rfl) hf with ⟨hcs, _⟩ | ⟨x, l, c, zs, hcs, _, hl, hm, hz, _, hcell, hwz⟩
    · simp [Value.cells] at hcs
      obtain ⟨rfl, rfl, rfl⟩ := hcs
      exact ⟨[], .inl ⟨rfl, rfl, rfl, rfl⟩⟩
    · simp [Value.cells] at hcs
      obtain ⟨rfl, rfl, rfl⟩ := hcs
      exact ⟨zs, .inr ⟨_, rfl, hl, hm, by simpa using hz, hcell, hwz⟩⟩
  clear hA0 hval0
  refine (walkHilbertSigns a0 len0 cap0 z0 W w0).mono fun e W' ⟨he, bel⟩ => ?_
  subst he
  exact ⟨_, rfl, _, _, _, [], _, [], hW', trodAll_mk1 (shut_bool Try.underlying4 _), (trodAll_cons_mk (Below.trod laidOut (by kernel_rfl) (of_decide_eq_true (by kernel_rfl)) k0 bel lt0) trodAll_mk0), rfl, bel.frame _, fun h => by cases h⟩

theorem hilbertSigns_holds : Rows.HilbertSignsSaid :=
  OpenClaim.holds_of_wide 7 Try.f7 rfl rfl rfl rfl rfl rfl rfl ⟨rfl, rfl, rfl, rfl, rfl⟩ rfl rfl rfl rfl rfl (by kernel_rfl) Try.func7 (by kernel_rfl)
    (of_decide_eq_true (by kernel_rfl)) (by unfold Func.isWrapper; first | (rw [if_pos (by decide +kernel)]; kernel_rfl) | (rw [if_neg (by decide +kernel)]; exact ⟨rfl, rfl⟩))
    (fun os started H enc _ => liftedHilbertSigns os started H enc)
#print axioms hilbertSigns_holds
end Go.Proofs.Ytgcfafjgaifmiaa
