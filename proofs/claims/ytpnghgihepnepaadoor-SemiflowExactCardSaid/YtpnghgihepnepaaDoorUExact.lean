/- SemiflowExact: for every input it answers true. -/
import Derived.Test.YtpnghgihepnepaaDoorU34
import Derived.Test.YtpnghgihepnepaaDoorU18
import Derived.StillTailTactics
import Derived.Outline
import Derived.Deep.Matrix
import Derived.Test.YtpnghgihepnepaaDoorCards
import Derived.Test.YtpnghgihepnepaaDoorTie
import Derived.BigRegion
import Derived.Deep.RegionHeld3
namespace Go.Proofs.YtpnghgihepnepaaDoor
open Go.ChangeShapes Go.WideShapes Go.ChangeAt Go.RowKit Go.Deep
set_option linter.unusedVariables false

set_option maxRecDepth 100000 in
set_option maxHeartbeats 8000000 in
theorem walkSemiflowExact (a0 : Option Addr) (len0 cap0 : Nat) (z0 : List Int) (w : World) (w0 : IsRow .i64 w a0 len0 cap0 z0) (aa : Option Addr) (ca : Nat) (ms : List Row) (hra : RowsI w (.slice aa ms.length ca) ms) (ay : Option Addr) (ly cy : Nat) (zy : List Int) (wy : RowB w ay ly cy zy) (ast : Option Addr) (ls cst : Nat) (zst : List Int) (ws : RowB w ast ls cst zst)
    (av : Option Addr) (lv cv : Nat) (zv : List Int) (wv : RowB w av lv cv zv) (place : Int) (hT : TabW w) :
    Calls Tryd.prog 3 #[.slice a0 len0 cap0, .slice aa ms.length ca, .slice ay ly cy, .slice ast ls cst, .slice av lv cv, .int .i64 place] w fun e w' => e = .returned (.bool true) ∧ Below w.heap.size w w' := by
  obtain ⟨hI, hlen⟩ := w0.ints
  generalize z0.take len0 = zs at hI hlen
  subst hlen
  obtain ⟨hY, hlen⟩ := wy.row
  generalize zy.take ly = ys at hY hlen
  subst hlen
  obtain ⟨hS, hlen⟩ := ws.row
  generalize zst.take ls = st at hS hlen
  subst hlen
  obtain ⟨hX, hlen⟩ := wv.row
  generalize zv.take lv = xs at hX hlen
  subst hlen
  have HI := Lib.hid hI; have HRA := Lib.hid hra; have HYI := Lib.hid hY; have HSI := Lib.hid hS; have HXI := Lib.hid hX; have HT := Lib.hid hT
  clear hI w0 hra hY hS hX wy ws wv hT
  by_cases hfew : (zs.length : Int) ≤ 400
  case neg =>
    go_enter Tryd.func3, Tryd.ntmps3
    go_wp2_with fail
    refine (awake11_any _ HT.out).mono ?_
    rintro e w1 ⟨rfl, hg⟩
    have HG := Lib.hid hg
    clear hg
    go_wp2_with fail
    refine (few_any _ _ _ _).mono ?_
    rintro e w2 ⟨rfl, rfl⟩
    rw [decide_eq_false (by omega)]
    go_wp2_with fail
    refine (awake11_any _ (HT.out.same HG.out)).mono ?_
    rintro e w9 ⟨rfl, hg⟩
    have HGX := Lib.hid (grown_trans HG.out hg)
    clear hg
    go_wp2_with fail
    go_ret
    exact ⟨rfl, below_of HGX.out⟩
  go_enter Tryd.func3, Tryd.ntmps3
  go_wp2_with fail
  refine (awake11_any _ HT.out).mono ?_
  rintro e w1 ⟨rfl, hg⟩
  have HG := Lib.hid hg
  clear hg
  go_wp2_with fail
  refine (few_any _ _ _ _).mono ?_
  rintro e w2 ⟨rfl, rfl⟩
  rw [decide_eq_true hfew]
  go_wp2_with fail
  refine (narrow11_any _ ms _ (HRA.out.same HG.out)).mono ?_
  rintro e w2 ⟨⟨B1, rfl, hml⟩, rfl⟩
  have HML0 := Lib.hid hml
  clear hml
  cases B1 with
  | false =>
    go_wp2_with fail
    refine (awake11_any _ (HT.out.same HG.out)).mono ?_
    rintro e w9 ⟨rfl, hg⟩
    have HGX := Lib.hid (grown_trans HG.out hg)
    clear hg
    go_wp2_with fail
    go_ret
    exact ⟨rfl, below_of HGX.out⟩
  | true =>
  by_cases hy20 : (20 : Int) < (ys.length : Int)
  ·
    go_wp2_with fail
    refine (awake11_any _ (HT.out.same HG.out)).mono ?_
    rintro e w9 ⟨rfl, hg⟩
    have HGX := Lib.hid (grown_trans HG.out hg)
    clear hg
    go_wp2_with fail
    go_ret
    exact ⟨rfl, below_of HGX.out⟩
  by_cases hs20 : (20 : Int) < (st.length : Int)
  ·
    go_wp2_with fail
    refine (awake11_any _ (HT.out.same HG.out)).mono ?_
    rintro e w9 ⟨rfl, hg⟩
    have HGX := Lib.hid (grown_trans HG.out hg)
    clear hg
    go_wp2_with fail
    go_ret
    exact ⟨rfl, below_of HGX.out⟩
  by_cases hx20 : (20 : Int) < (xs.length : Int)
  ·
    go_wp2_with fail
    refine (awake11_any _ (HT.out.same HG.out)).mono ?_
    rintro e w9 ⟨rfl, hg⟩
    have HGX := Lib.hid (grown_trans HG.out hg)
    clear hg
    go_wp2_with fail
    go_ret
    exact ⟨rfl, below_of HGX.out⟩
  go_wp2_with fail
  refine (new_st (HI.out.same HG.out) HG.out).mono ?_
  rintro e w3 ⟨p, d, rfl, hs⟩
  have HS := Lib.hid hs
  have XA := Lib.hid (HRA.out.x hs)
  have XY : Hid (RIn w3 d (.slice ay ys.length cy) ys) := Lib.hid (RIn.of HYI.out hs.2.1 hs.2.2)
  have XST : Hid (RIn w3 d (.slice ast st.length cst) st) := Lib.hid (RIn.of HSI.out hs.2.1 hs.2.2)
  have XV : Hid (RIn w3 d (.slice av xs.length cv) xs) := Lib.hid (RIn.of HXI.out hs.2.1 hs.2.2)
  have HMS : Hid (ms.length ≤ 1000) := Lib.hid (by have := HML0.out (by trivial); omega)
  clear hs HG HI hy20 hs20 hx20 HML0
  go_wp2_with fail
  refine (next_st HS.out _ (by omega) (by omega)).mono ?_
  rintro e w4 ⟨y, rfl, hy0, hy1, hs, hg⟩
  replace XA := Lib.hid (XA.out.deal hg); replace XY := Lib.hid (XY.out.deal hg); replace XST := Lib.hid (XST.out.deal hg); replace XV := Lib.hid (XV.out.deal hg)
  replace HS := Lib.hid hs
  clear hs hg
  obtain ⟨r, hr⟩ : ∃ r : Nat, 1 + y = (r : Int) := ⟨(1 + y).toNat, by omega⟩
  have hr1 : 1 ≤ r := by omega
  have hr2 : r ≤ 5 := by omega
  have ir : IntKind.i64.wrap (1 + y) = (r : Int) := by rw [hr]; exact IntWalk.i64_in _ (by omega)
  clear hr hy0 hy1
  go_wp2_with fail
  refine (next_st HS.out _ (by omega) (by omega)).mono ?_
  rintro e w4 ⟨y, rfl, hy0, hy1, hs, hg⟩
  replace XA := Lib.hid (XA.out.deal hg); replace XY := Lib.hid (XY.out.deal hg); replace XST := Lib.hid (XST.out.deal hg); replace XV := Lib.hid (XV.out.deal hg)
  replace HS := Lib.hid hs
  clear hs hg
  obtain ⟨c, hc⟩ : ∃ c : Nat, 1 + y = (c : Int) := ⟨(1 + y).toNat, by omega⟩
  have hc1 : 1 ≤ c := by omega
  have hc2 : c ≤ 4 := by omega
  have ic : IntKind.i64.wrap (1 + y) = (c : Int) := by rw [hc]; exact IntWalk.i64_in _ (by omega)
  clear hc hy0 hy1
  go_wp2_with fail
  refine (matrix_st HS.out r c (by omega) (by omega)).mono ?_
  rintro e w6 ⟨v1, m1, rfl, hm1, -, hM, hs, hg⟩
  replace XA := Lib.hid (XA.out.deal hg); replace XY := Lib.hid (XY.out.deal hg); replace XST := Lib.hid (XST.out.deal hg); replace XV := Lib.hid (XV.out.deal hg)
  have X1 := Lib.hid (MatD.mk HS.out hM).rowsX
  have HM1 : Hid (m1.length ≤ 1000) := Lib.hid (by omega)
  replace HS := Lib.hid hs
  obtain ⟨a1, cp1, rfl⟩ := X1.out.slice
  clear hM hs hg hm1
  go_wp2_with fail
  refine (next_st HS.out _ (by omega) (by omega)).mono ?_
  rintro e w4 ⟨y, rfl, hy0, hy1, hs, hg⟩
  replace XA := Lib.hid (XA.out.deal hg); replace XY := Lib.hid (XY.out.deal hg); replace XST := Lib.hid (XST.out.deal hg); replace XV := Lib.hid (XV.out.deal hg); replace X1 := Lib.hid (X1.out.deal hg)
  replace HS := Lib.hid hs
  clear hs hg
  obtain ⟨c3, hc3⟩ : ∃ c3 : Nat, 1 + y = (c3 : Int) := ⟨(1 + y).toNat, by omega⟩
  have hc31 : 1 ≤ c3 := by omega
  have hc32 : c3 ≤ 2 := by omega
  have ic3 : IntKind.i64.wrap (1 + y) = (c3 : Int) := by rw [hc3]; exact IntWalk.i64_in _ (by omega)
  clear hc3 hy0 hy1
  go_wp2_with fail
  refine (matrix_st HS.out r c3 (by omega) (by omega)).mono ?_
  rintro e w7 ⟨v2, m2, rfl, hm2, -, hM, hs, hg⟩
  replace XA := Lib.hid (XA.out.deal hg); replace XY := Lib.hid (XY.out.deal hg); replace XST := Lib.hid (XST.out.deal hg); replace XV := Lib.hid (XV.out.deal hg); replace X1 := Lib.hid (X1.out.deal hg)
  have X2 := Lib.hid (MatD.mk HS.out hM).rowsX
  have HM2 : Hid (m2.length ≤ 1000) := Lib.hid (by omega)
  replace HS := Lib.hid hs
  obtain ⟨a2, cp2, rfl⟩ := X2.out.slice
  clear hM hs hg hm2
  clear ir ic ic3
  go_wp2_with fail
  generalize hwb : World.alloc _ _ = WB
  have hg : w7.grownBy WB none := by rw [← hwb]; exact World.grownBy_alloc _ _ none
  have HF : Hid (MatsB WB d w7.heap.size 3) := Lib.hid (by
    intro k hk
    obtain rfl | rfl | rfl : k = 0 ∨ k = 1 ∨ k = 2 := by omega
    · exact ⟨_, _, _, _, by rw [← hwb, World.cell?, heap_new _ rfl]; rfl, XA.out.same hg, rfl, HMS.out, HS.out.lt⟩
    · exact ⟨_, _, _, _, by rw [← hwb, World.cell?, heap_new _ rfl]; rfl, X1.out.same hg, rfl, HM1.out, HS.out.lt⟩
    · exact ⟨_, _, _, _, by rw [← hwb, World.cell?, heap_new _ rfl]; rfl, X2.out.same hg, rfl, HM2.out, HS.out.lt⟩)
  replace XY := Lib.hid (XY.out.step hg); replace XST := Lib.hid (XST.out.step hg); replace XV := Lib.hid (XV.out.step hg); replace HS := Lib.hid (HS.out.step hg)
  obtain ⟨BB, hBB⟩ : ∃ BB, w7.heap.size = BB := ⟨_, rfl⟩
  rw [hBB] at HF ⊢
  clear hwb hg XA X1 X2 hBB
  go_loopw [89] (fun i wr => ∃ k : Nat, i = .int .i64 k ∧ k ≤ 3 ∧ Hid (MatsB wr d BB 3) ∧ Hid (RIn wr d (.slice ay ys.length cy) ys) ∧ Hid (RIn wr d (.slice ast st.length cst) st) ∧ Hid (RIn wr d (.slice av xs.length cv) xs) ∧ Hid (St w wr p d)) (fun i _ => 3 - (intOf i).toNat)
  case atStart => exact ⟨0, rfl, Nat.zero_le _, HF, XY, XST, XV, HS⟩
  case round =>
    clear HF XY XST XV HS
    obtain ⟨k, rfl, hk, HF, XY, XST, XV, HS⟩ := hrel
    rename World => wk
    by_cases hk3 : k < 3
    · have h2 : (k : Int) < 3 := by omega
      have i1 : IntKind.i64.wrap ((k : Int) + 1) = (k : Int) + 1 := IntWalk.i64_in _ (by omega)
      obtain ⟨am, nm, cm, mt, hc0, hM, hmn, -, -⟩ := HF.out k hk3
      subst hmn
      have XM := Lib.hid hM
      clear hM
      obtain ⟨rsO, erO, hP, hR⟩ := of_u mt
      have HPC := Lib.hid hP; have HRC := Lib.hid hR
      clear hP hR
      go_wp2_with fail
      clear hc0
      refine (HPC.out _ _ (HT.out.same HS.out.2.1) XM.out.1).mono ?_
      rintro e w20 ⟨y1, q1, rfl, h1, h2, hg⟩
      have R1 := Lib.hid h1; have E1 := Lib.hid h2
      replace XM := Lib.hid (XM.out.same hg); replace XY := Lib.hid (XY.out.step hg); replace XST := Lib.hid (XST.out.step hg); replace XV := Lib.hid (XV.out.step hg); replace HF := Lib.hid (HF.out.step hg); replace HS := Lib.hid (HS.out.step hg)
      obtain ⟨ay1, cy1, rfl, -⟩ : ∃ a cap, y1 = .slice a q1.length cap ∧ True := by obtain ⟨a, cap, h, -⟩ := h1; exact ⟨a, cap, h, trivial⟩
      clear h1 h2 hg
      go_wp2_with fail
      refine (HRC.out _ _ XM.out.1).mono ?_
      rintro e w21 ⟨y2, q2, rfl, h1, h2, hg⟩
      have R2 := Lib.hid h1; have E2 := Lib.hid h2; replace R1 := Lib.hid (R1.out.same hg)
      replace XM := Lib.hid (XM.out.same hg); replace XY := Lib.hid (XY.out.step hg); replace XST := Lib.hid (XST.out.step hg); replace XV := Lib.hid (XV.out.step hg); replace HF := Lib.hid (HF.out.step hg); replace HS := Lib.hid (HS.out.step hg)
      obtain ⟨ay2, cy2, rfl, -⟩ : ∃ a cap, y2 = .slice a q2.length cap ∧ True := by obtain ⟨a, cap, h, -⟩ := h1; exact ⟨a, cap, h, trivial⟩
      clear h1 h2 hg HPC HRC
      have e1 : (erO != erO) = false := by simp
      go_wp2_with fail
      refine (sameall_any _ _ _ _ _ R1.out R2.out).mono ?_
      rintro e w22 ⟨rfl, hd⟩
      have hg := hd.grown none
      have e4 : (q1.map Prod.snd == q2.map Prod.snd) = true := by rw [E1.out, E2.out]; simp
      rw [e4]
      replace XM := Lib.hid (XM.out.same hg); replace XY := Lib.hid (XY.out.step hg); replace XST := Lib.hid (XST.out.step hg); replace XV := Lib.hid (XV.out.step hg); replace HF := Lib.hid (HF.out.step hg); replace HS := Lib.hid (HS.out.step hg)
      clear hd hg e4 R1 R2 E1 E2
      obtain ⟨hb, hP, hR⟩ := holds_u mt ys
      have HPC := Lib.hid hP; have HRC := Lib.hid hR
      clear hP hR
      go_wp2_with fail
      refine (HPC.out _ _ _ XM.out.1 XY.out.1.1).mono ?_
      rintro e w23 ⟨rfl, hg⟩
      replace XM := Lib.hid (XM.out.same hg); replace XY := Lib.hid (XY.out.step hg); replace XST := Lib.hid (XST.out.step hg); replace XV := Lib.hid (XV.out.step hg); replace HF := Lib.hid (HF.out.step hg); replace HS := Lib.hid (HS.out.step hg)
      clear hg
      go_wp2_with fail
      refine (HRC.out _ _ _ XM.out.1 XY.out.1.1).mono ?_
      rintro e w24 ⟨rfl, hg⟩
      replace XM := Lib.hid (XM.out.same hg); replace XY := Lib.hid (XY.out.step hg); replace XST := Lib.hid (XST.out.step hg); replace XV := Lib.hid (XV.out.step hg); replace HF := Lib.hid (HF.out.step hg); replace HS := Lib.hid (HS.out.step hg)
      clear hg HPC HRC
      have e2 : (hb != hb) = false := by simp
      go_wp2_with fail
      refine (small_row HS.out (r : Int) 5 (by omega) (by omega) (by omega)).mono ?_
      rintro e w11 ⟨vs, us, rfl, -, -, hu, hs, hg⟩
      replace XM := Lib.hid (XM.out.deal hg); replace XY := Lib.hid (XY.out.deal hg); replace XST := Lib.hid (XST.out.deal hg); replace XV := Lib.hid (XV.out.deal hg); replace HF := Lib.hid (HF.out.deal hg)
      have XS := Lib.hid hu
      replace HS := Lib.hid hs
      obtain ⟨au, cu, rfl, -⟩ := slice_of (v := vs) (xs := us) hu.1.1
      clear hu hs hg e1 e2
      go_wp2_with fail
      generalize hwb : World.alloc _ _ = W5
      have hg : w11.grownBy W5 none := by rw [← hwb]; exact World.grownBy_alloc _ _ none
      have HV : Hid (VecsB W5 d w11.heap.size 2) := Lib.hid (by
        intro j hj
        obtain rfl | rfl : j = 0 ∨ j = 1 := by omega
        · exact ⟨_, _, _, _, by rw [← hwb, World.cell?, heap_new _ rfl]; rfl, XST.out.step hg, rfl, HS.out.lt⟩
        · exact ⟨_, _, _, _, by rw [← hwb, World.cell?, heap_new _ rfl]; rfl, XS.out.step hg, rfl, HS.out.lt⟩)
      replace XM := Lib.hid (XM.out.same hg); replace XY := Lib.hid (XY.out.step hg); replace XST := Lib.hid (XST.out.step hg); replace XV := Lib.hid (XV.out.step hg); replace HF := Lib.hid (HF.out.step hg); replace HS := Lib.hid (HS.out.step hg)
      obtain ⟨BV, hBV⟩ : ∃ BV, w11.heap.size = BV := ⟨_, rfl⟩
      rw [hBV] at HV ⊢
      clear hwb hg XS hBV
      go_loopw [127] (fun i wr => ∃ j : Nat, i = .int .i64 j ∧ j ≤ 2 ∧ Hid (RowsX wr d (.slice am mt.length cm) mt) ∧ Hid (RIn wr d (.slice ay ys.length cy) ys) ∧ Hid (RIn wr d (.slice ast st.length cst) st) ∧ Hid (RIn wr d (.slice av xs.length cv) xs) ∧ Hid (VecsB wr d BV 2) ∧ Hid (MatsB wr d BB 3) ∧ Hid (St w wr p d)) (fun i _ => 2 - (intOf i).toNat)
      case atStart => exact ⟨0, rfl, Nat.zero_le _, XM, XY, XST, XV, HV, HF, HS⟩
      case round =>
        clear XM XY XST XV HV HF HS
        obtain ⟨j, rfl, hj, XM, XY, XST, XV, HV, HF, HS⟩ := hrel
        rename World => wj
        by_cases hj2 : j < 2
        · have h3 : (j : Int) < 2 := by omega
          have i2 : IntKind.i64.wrap ((j : Int) + 1) = (j : Int) + 1 := IntWalk.i64_in _ (by omega)
          obtain ⟨au, nu, cu, us, hcu, hxu, hnu, -⟩ := HV.out j hj2
          subst hnu
          have XU := Lib.hid hxu
          clear hxu
          go_wp2_with fail
          clear hcu
          refine (next_st HS.out _ (by omega) (by omega)).mono ?_
          rintro e w24 ⟨yn, rfl, hy0, hy1, hs, hg⟩
          replace XM := Lib.hid (XM.out.deal hg); replace XU := Lib.hid (XU.out.deal hg); replace XY := Lib.hid (XY.out.deal hg); replace XST := Lib.hid (XST.out.deal hg); replace XV := Lib.hid (XV.out.deal hg); replace HV := Lib.hid (HV.out.deal hg); replace HF := Lib.hid (HF.out.deal hg)
          replace HS := Lib.hid hs
          clear hs hg
          go_wp2_with fail
          generalize hwb : World.alloc _ _ = W3
          have hg : w24.grownBy W3 none := by rw [← hwb]; exact World.grownBy_alloc _ _ none
          have HN : Hid (∀ t, t < 2 → ∃ nv : Int, W3.cell? ⟨w24.heap.size, t, none⟩ = some (.int .i64 nv)) := Lib.hid (by
            intro t ht
            obtain rfl | rfl : t = 0 ∨ t = 1 := by omega
            · exact ⟨_, by rw [← hwb, World.cell?, heap_new _ rfl]; rfl⟩
            · exact ⟨_, by rw [← hwb, World.cell?, heap_new _ rfl]; rfl⟩)
          replace XM := Lib.hid (XM.out.same hg); replace XU := Lib.hid (XU.out.step hg); replace XY := Lib.hid (XY.out.step hg); replace XST := Lib.hid (XST.out.step hg); replace XV := Lib.hid (XV.out.step hg); replace HV := Lib.hid (HV.out.step hg); replace HF := Lib.hid (HF.out.step hg); replace HS := Lib.hid (HS.out.step hg)
          have G3 := Lib.hid (grown_refl W3 none)
          clear hwb hg
          go_loopw [137] (fun i wr => ∃ t : Nat, i = .int .i64 t ∧ t ≤ 2 ∧ Hid (W3.grownBy wr none)) (fun i _ => 2 - (intOf i).toNat)
          case atStart => exact ⟨0, rfl, Nat.zero_le _, G3⟩
          case round =>
            clear G3
            obtain ⟨t, rfl, ht, G3⟩ := hrel
            rename World => wt
            by_cases ht2 : t < 2
            · have h4 : (t : Int) < 2 := by omega
              have i3 : IntKind.i64.wrap ((t : Int) + 1) = (t : Int) + 1 := IntWalk.i64_in _ (by omega)
              obtain ⟨nv, hcn⟩ := HN.out t ht2
              have hcn2 := G3.out.cell hcn (by simp)
              clear hcn
              have hg := G3.out
              replace XM := Lib.hid (XM.out.same hg); replace XU := Lib.hid (XU.out.step hg); replace HS := Lib.hid (HS.out.step hg)
              clear hg
              obtain ⟨zb, okb, erb, hP, hR⟩ := bound_u mt us nv
              have HPC := Lib.hid hP; have HRC := Lib.hid hR
              clear hP hR
              go_wp2_with fail
              refine (HPC.out _ _ _ (HT.out.same HS.out.2.1) XM.out.1 XU.out.1.1).mono ?_
              rintro e w30 ⟨rfl, hg⟩
              replace XM := Lib.hid (XM.out.same hg); replace XU := Lib.hid (XU.out.step hg); replace G3 := Lib.hid (grown_trans G3.out hg); replace HS := Lib.hid (HS.out.step hg)
              clear hg
              go_wp2_with fail
              refine (HRC.out _ _ _ XM.out.1 XU.out.1.1).mono ?_
              rintro e w31 ⟨rfl, hg⟩
              replace XM := Lib.hid (XM.out.same hg); replace XU := Lib.hid (XU.out.step hg); replace G3 := Lib.hid (grown_trans G3.out hg); replace HS := Lib.hid (HS.out.step hg)
              clear hg HPC HRC
              have e1 : (zb != zb) = false := by simp
              have e2 : (okb != okb) = false := by simp
              have e3 : (erb != erb) = false := by simp
              go_wp2_with fail
              go_roundw
              case rel => exact ⟨t + 1, by go_num, by omega, G3⟩
              case measure => (simp [intOf]; try omega)
            · obtain rfl : t = 2 := by omega
              have h4 : ¬ (((2 : Nat) : Int)) < 2 := by omega
              have hg := G3.out
              replace XM := Lib.hid (XM.out.same hg); replace XU := Lib.hid (XU.out.step hg); replace XY := Lib.hid (XY.out.step hg); replace XST := Lib.hid (XST.out.step hg); replace XV := Lib.hid (XV.out.step hg); replace HV := Lib.hid (HV.out.step hg); replace HF := Lib.hid (HF.out.step hg); replace HS := Lib.hid (HS.out.step hg)
              clear hg HN G3
              go_wp2_with fail
              refine (small_row HS.out (r : Int) 5 (by omega) (by omega) (by omega)).mono ?_
              rintro e w41 ⟨vs2, us2, rfl, -, -, hu, hs, hg⟩
              replace XM := Lib.hid (XM.out.deal hg); replace XU := Lib.hid (XU.out.deal hg); replace XY := Lib.hid (XY.out.deal hg); replace XST := Lib.hid (XST.out.deal hg); replace XV := Lib.hid (XV.out.deal hg); replace HV := Lib.hid (HV.out.deal hg); replace HF := Lib.hid (HF.out.deal hg)
              have XS := Lib.hid hu
              replace HS := Lib.hid hs
              obtain ⟨ax2, cx2, rfl, -⟩ := slice_of (v := vs2) (xs := us2) hu.1.1
              clear hu hs hg
              go_wp2_with fail
              generalize hwb : World.alloc _ _ = W6
              have hg : w41.grownBy W6 none := by rw [← hwb]; exact World.grownBy_alloc _ _ none
              have HW : Hid (VecsB W6 d w41.heap.size 2) := Lib.hid (by
                intro j hj
                obtain rfl | rfl : j = 0 ∨ j = 1 := by omega
                · exact ⟨_, _, _, _, by rw [← hwb, World.cell?, heap_new _ rfl]; rfl, XV.out.step hg, rfl, HS.out.lt⟩
                · exact ⟨_, _, _, _, by rw [← hwb, World.cell?, heap_new _ rfl]; rfl, XS.out.step hg, rfl, HS.out.lt⟩)
              replace XM := Lib.hid (XM.out.same hg); replace XU := Lib.hid (XU.out.step hg); replace XY := Lib.hid (XY.out.step hg); replace XST := Lib.hid (XST.out.step hg); replace XV := Lib.hid (XV.out.step hg); replace HV := Lib.hid (HV.out.step hg); replace HF := Lib.hid (HF.out.step hg); replace HS := Lib.hid (HS.out.step hg)
              obtain ⟨BW, hBW⟩ : ∃ BW, w41.heap.size = BW := ⟨_, rfl⟩
              rw [hBW] at HW ⊢
              have G6 := Lib.hid (grown_refl W6 none)
              clear hwb hg XS hBW
              go_loopw [177] (fun i wr => ∃ t : Nat, i = .int .i64 t ∧ t ≤ 2 ∧ Hid (W6.grownBy wr none)) (fun i _ => 2 - (intOf i).toNat)
              case atStart => exact ⟨0, rfl, Nat.zero_le _, G6⟩
              case round =>
                clear G6
                obtain ⟨t, rfl, ht, G6⟩ := hrel
                rename World => wt
                by_cases ht2 : t < 2
                · have h4 : (t : Int) < 2 := by omega
                  have i3 : IntKind.i64.wrap ((t : Int) + 1) = (t : Int) + 1 := IntWalk.i64_in _ (by omega)
                  obtain ⟨az, nz, cz, zs, hcz, hxz, hnz, -⟩ := HW.out t ht2
                  subst hnz
                  have XZ := Lib.hid (hxz.step G6.out)
                  have hcz2 := G6.out.cell hcz (by simp)
                  clear hxz hcz
                  have hg := G6.out
                  replace XM := Lib.hid (XM.out.same hg); replace XU := Lib.hid (XU.out.step hg); replace XY := Lib.hid (XY.out.step hg); replace HS := Lib.hid (HS.out.step hg)
                  clear hg
                  obtain ⟨ok1, er1, hP, hR⟩ := allows_u mt us zs
                  have HPC := Lib.hid hP; have HRC := Lib.hid hR
                  clear hP hR
                  go_wp2_with fail
                  refine (HPC.out _ _ _ _ (HT.out.same HS.out.2.1) XM.out.1 XU.out.1.1 XZ.out.1.1).mono ?_
                  rintro e w30 ⟨rfl, hg⟩
                  replace XM := Lib.hid (XM.out.same hg); replace XU := Lib.hid (XU.out.step hg); replace XY := Lib.hid (XY.out.step hg); replace XZ := Lib.hid (XZ.out.step hg); replace G6 := Lib.hid (grown_trans G6.out hg); replace HS := Lib.hid (HS.out.step hg)
                  clear hg
                  go_wp2_with fail
                  refine (HRC.out _ _ _ _ XM.out.1 XU.out.1.1 XZ.out.1.1).mono ?_
                  rintro e w31 ⟨rfl, hg⟩
                  replace XM := Lib.hid (XM.out.same hg); replace XU := Lib.hid (XU.out.step hg); replace XY := Lib.hid (XY.out.step hg); replace XZ := Lib.hid (XZ.out.step hg); replace G6 := Lib.hid (grown_trans G6.out hg); replace HS := Lib.hid (HS.out.step hg)
                  clear hg HPC HRC
                  obtain ⟨zv, er2, hP, hR⟩ := value_u ys zs
                  have HPC := Lib.hid hP; have HRC := Lib.hid hR
                  clear hP hR
                  go_wp2_with fail
                  refine (HPC.out _ _ _ XY.out.1.1 XZ.out.1.1).mono ?_
                  rintro e w32 ⟨rfl, hg⟩
                  replace XM := Lib.hid (XM.out.same hg); replace XU := Lib.hid (XU.out.step hg); replace XY := Lib.hid (XY.out.step hg); replace XZ := Lib.hid (XZ.out.step hg); replace G6 := Lib.hid (grown_trans G6.out hg); replace HS := Lib.hid (HS.out.step hg)
                  clear hg
                  go_wp2_with fail
                  refine (HRC.out _ _ _ XY.out.1.1 XZ.out.1.1).mono ?_
                  rintro e w33 ⟨rfl, hg⟩
                  replace XM := Lib.hid (XM.out.same hg); replace XU := Lib.hid (XU.out.step hg); replace XY := Lib.hid (XY.out.step hg); replace XZ := Lib.hid (XZ.out.step hg); replace G6 := Lib.hid (grown_trans G6.out hg); replace HS := Lib.hid (HS.out.step hg)
                  clear hg HPC HRC
                  have e1 : (ok1 != ok1) = false := by simp
                  have e2 : (er1 != er1) = false := by simp
                  have e3 : (zv != zv) = false := by simp
                  have e4 : (er2 != er2) = false := by simp
                  go_wp2_with fail
                  go_roundw
                  case rel => exact ⟨t + 1, by go_num, by omega, G6⟩
                  case measure => (simp [intOf]; try omega)
                · obtain rfl : t = 2 := by omega
                  have h4 : ¬ (((2 : Nat) : Int)) < 2 := by omega
                  have hg := G6.out
                  replace XM := Lib.hid (XM.out.same hg); replace XU := Lib.hid (XU.out.step hg); replace XY := Lib.hid (XY.out.step hg); replace XST := Lib.hid (XST.out.step hg); replace XV := Lib.hid (XV.out.step hg); replace HV := Lib.hid (HV.out.step hg); replace HF := Lib.hid (HF.out.step hg); replace HS := Lib.hid (HS.out.step hg)
                  clear hg HW G6
                  go_wp2_with fail
                  go_roundw
                  case rel => exact ⟨j + 1, by go_num, by omega, XM, XY, XST, XV, HV, HF, HS⟩
                  case measure => (simp [intOf]; try omega)
        · obtain rfl : j = 2 := by omega
          have h3 : ¬ (((2 : Nat) : Int)) < 2 := by omega
          clear HV
          go_wp2_with fail
          go_roundw
          case rel => exact ⟨k + 1, by go_num, by omega, HF, XY, XST, XV, HS⟩
          case measure => (simp [intOf]; try omega)
    · obtain rfl : k = 3 := by omega
      have h2 : ¬ (((3 : Nat) : Int)) < 3 := by omega
      go_wp2_with fail
      go_ret
      exact ⟨rfl, HS.out.below⟩

/-! ### SemiflowExact: the statement and its card, from the walk -/
theorem contractSemiflowExact (H : Type) (enc : TypeId × Value → H) (W : World) (base : Nat) (args : Array Value) (ds gs : List (DataW H)) (before : List MemPlace)
    (hval0 : ∀ (j : Nat) t v, Tryd.f3.params[j]? = some t → args[j]? = some v → Value.okWide Tryd.prog W .any base t v)
    (hW : DataW.Whole enc Tryd.prog Tryd.f3.params.toList Rows.semiflowExactSpec.vars false W args.toList ds gs before) (hL : laidMetH Tryd.prog Rows.semiflowExactRow.laid W) :
    Calls Tryd.prog 3 args W fun e W' => ∃ v, e = .returned v ∧ Rows.semiflowExactSpec.post enc Tryd.prog Tryd.f3 false true false false W args v W' := by
  have hval : ∀ (j : Nat) t v, Tryd.f3.params[j]? = some t → args[j]? = some v → Value.okWide Tryd.prog W .any base t v := hval0
  have hW' := hW
  obtain ⟨p, q, hA0, hV, rfl, hfz, hnd⟩ := hW
  have hA : DataW.TrodAll enc Tryd.prog W 0 (fun _ => true) true Tryd.f3.params.toList args.toList ds p := hA0
  rw [Tryd.params3] at hA hval
  obtain ⟨v0, vs0, d0, ds0, p0, q0, hargs, rfl, rfl, h0, r0⟩ := trodAll_cons hA
  obtain ⟨v1, vs1, d1, ds1, p1, q1, rfl, rfl, rfl, h1, r1⟩ := trodAll_cons r0
  obtain ⟨v2, vs2, d2, ds2, p2, q2, rfl, rfl, rfl, h2, r2⟩ := trodAll_cons r1
  obtain ⟨v3, vs3, d3, ds3, p3, q3, rfl, rfl, rfl, h3, r3⟩ := trodAll_cons r2
  obtain ⟨v4, vs4, d4, ds4, p4, q4, rfl, rfl, rfl, h4, r4⟩ := trodAll_cons r3
  obtain ⟨v5, vs5, d5, ds5, p5, q5, rfl, rfl, rfl, h5, r5⟩ := trodAll_cons r4
  obtain ⟨rfl, rfl, rfl⟩ := trodAll_nil r5
  obtain rfl : args = #[v0, v1, v2, v3, v4, v5] := by cases args; simp_all
  obtain ⟨rfl, rfl⟩ := trodVars_none hV
  obtain ⟨a0, len0, cap0, rfl⟩ := okWide_slice Tryd.underlying22 (hval 0 22 v0 rfl rfl)
  have k0 := h0
  have lt0 : ∀ x ∈ p0, x.block < W.heap.size := by obtain ⟨m, hm⟩ := k0; exact DataW.trod_lt m _ _ _ hm
  obtain ⟨z0, w0⟩ : ∃ zs, IsRow .i64 W a0 len0 cap0 zs := by
    obtain ⟨fuel, hf⟩ := h0
    rcases open_ints Tryd.underlying22 Tryd.underlying3 (by kernel_rfl) hf with ⟨hcs, _⟩ | ⟨x, l, c, zs, hcs, _, hl, hm, hz, _, hcell, hwz⟩
    · simp [Value.cells] at hcs
      obtain ⟨rfl, rfl, rfl⟩ := hcs
      exact ⟨[], .inl ⟨rfl, rfl, rfl, rfl⟩⟩
    · simp [Value.cells] at hcs
      obtain ⟨rfl, rfl, rfl⟩ := hcs
      exact ⟨zs, .inr ⟨_, rfl, hl, hm, by simpa using hz, hcell, hwz⟩⟩
  obtain ⟨a1, len1, cap1, rfl⟩ := okWide_slice Tryd.underlying23 (hval 1 23 v1 rfl rfl)
  have k1 := h1
  have lt1 : ∀ x ∈ p1, x.block < W.heap.size := by obtain ⟨m, hm⟩ := k1; exact DataW.trod_lt m _ _ _ hm
  obtain ⟨ms, hlen1, hr1⟩ : ∃ ps : List Row, len1 = ps.length ∧ RowsI W (.slice a1 ps.length cap1) ps := by
    obtain ⟨fuel, hf⟩ := h1
    rcases open_int_rows Tryd.underlying23 Tryd.underlying22 Tryd.underlying3 (by kernel_rfl) (by kernel_rfl) hf with ⟨hcs, _⟩ | ⟨x, l, c, A, L, C, Z, hcs, _, hl, hm, _, hx⟩
    · simp [Value.cells] at hcs
      obtain ⟨rfl, rfl, rfl⟩ := hcs
      exact ⟨[], rfl, (rowsP_nil W).toI⟩
    · simp [Value.cells] at hcs
      obtain ⟨rfl, rfl, rfl⟩ := hcs
      exact irows_in hl hm hx
  subst hlen1
  obtain ⟨a2, len2, cap2, rfl⟩ := okWide_slice Tryd.underlying22 (hval 2 22 v2 rfl rfl)
  have k2 := h2
  have b2 : ∀ x, a2 = some x → x.block < W.heap.size := fun x hx => okWide_slice_lt Tryd.underlying22 (by subst hx; exact hval 2 22 _ rfl rfl)
  have lt2 : ∀ x ∈ p2, x.block < W.heap.size := by obtain ⟨m, hm⟩ := k2; exact DataW.trod_lt m _ _ _ hm
  obtain ⟨z2, w2⟩ : ∃ zs, IsRow .i64 W a2 len2 cap2 zs := by
    obtain ⟨fuel, hf⟩ := h2
    rcases open_ints Tryd.underlying22 Tryd.underlying3 (by kernel_rfl) hf with ⟨hcs, _⟩ | ⟨x, l, c, zs, hcs, _, hl, hm, hz, _, hcell, hwz⟩
    · simp [Value.cells] at hcs
      obtain ⟨rfl, rfl, rfl⟩ := hcs
      exact ⟨[], .inl ⟨rfl, rfl, rfl, rfl⟩⟩
    · simp [Value.cells] at hcs
      obtain ⟨rfl, rfl, rfl⟩ := hcs
      exact ⟨zs, .inr ⟨_, rfl, hl, hm, by simpa using hz, hcell, hwz⟩⟩
  obtain ⟨a3, len3, cap3, rfl⟩ := okWide_slice Tryd.underlying22 (hval 3 22 v3 rfl rfl)
  have k3 := h3
  have b3 : ∀ x, a3 = some x → x.block < W.heap.size := fun x hx => okWide_slice_lt Tryd.underlying22 (by subst hx; exact hval 3 22 _ rfl rfl)
  have lt3 : ∀ x ∈ p3, x.block < W.heap.size := by obtain ⟨m, hm⟩ := k3; exact DataW.trod_lt m _ _ _ hm
  obtain ⟨z3, w3⟩ : ∃ zs, IsRow .i64 W a3 len3 cap3 zs := by
    obtain ⟨fuel, hf⟩ := h3
    rcases open_ints Tryd.underlying22 Tryd.underlying3 (by kernel_rfl) hf with ⟨hcs, _⟩ | ⟨x, l, c, zs, hcs, _, hl, hm, hz, _, hcell, hwz⟩
    · simp [Value.cells] at hcs
      obtain ⟨rfl, rfl, rfl⟩ := hcs
      exact ⟨[], .inl ⟨rfl, rfl, rfl, rfl⟩⟩
    · simp [Value.cells] at hcs
      obtain ⟨rfl, rfl, rfl⟩ := hcs
      exact ⟨zs, .inr ⟨_, rfl, hl, hm, by simpa using hz, hcell, hwz⟩⟩
  obtain ⟨a4, len4, cap4, rfl⟩ := okWide_slice Tryd.underlying22 (hval 4 22 v4 rfl rfl)
  have k4 := h4
  have b4 : ∀ x, a4 = some x → x.block < W.heap.size := fun x hx => okWide_slice_lt Tryd.underlying22 (by subst hx; exact hval 4 22 _ rfl rfl)
  have lt4 : ∀ x ∈ p4, x.block < W.heap.size := by obtain ⟨m, hm⟩ := k4; exact DataW.trod_lt m _ _ _ hm
  obtain ⟨z4, w4⟩ : ∃ zs, IsRow .i64 W a4 len4 cap4 zs := by
    obtain ⟨fuel, hf⟩ := h4
    rcases open_ints Tryd.underlying22 Tryd.underlying3 (by kernel_rfl) hf with ⟨hcs, _⟩ | ⟨x, l, c, zs, hcs, _, hl, hm, hz, _, hcell, hwz⟩
    · simp [Value.cells] at hcs
      obtain ⟨rfl, rfl, rfl⟩ := hcs
      exact ⟨[], .inl ⟨rfl, rfl, rfl, rfl⟩⟩
    · simp [Value.cells] at hcs
      obtain ⟨rfl, rfl, rfl⟩ := hcs
      exact ⟨zs, .inr ⟨_, rfl, hl, hm, by simpa using hz, hcell, hwz⟩⟩
  obtain ⟨a5, rfl, rfl, rfl, w5⟩ := open_int Tryd.underlying3 (hval 5 3 v5 rfl rfl) h5
  clear hA0 hval0
  refine (walkSemiflowExact a0 len0 cap0 z0 W w0 a1 cap1 ms hr1 a2 len2 cap2 z2 ⟨w2, b2⟩ a3 len3 cap3 z3 ⟨w3, b3⟩ a4 len4 cap4 z4 ⟨w4, b4⟩ a5 (tabW_of hL)).mono fun e W' ⟨he, bel⟩ => ?_
  subst he
  exact ⟨_, rfl, _, _, _, [], _, [], hW', trodAll_mk1 (shut_bool Tryd.underlying4 _), (trodAll_cons_mk (Below.trod laidOut (by kernel_rfl) (of_decide_eq_true (by kernel_rfl)) k0 bel lt0) (trodAll_cons_mk (Below.trod laidOut (by kernel_rfl) (of_decide_eq_true (by kernel_rfl)) k1 bel lt1) (trodAll_cons_mk (Below.trod laidOut (by kernel_rfl) (of_decide_eq_true (by kernel_rfl)) k2 bel lt2) (trodAll_cons_mk (Below.trod laidOut (by kernel_rfl) (of_decide_eq_true (by kernel_rfl)) k3 bel lt3) (trodAll_cons_mk (Below.trod laidOut (by kernel_rfl) (of_decide_eq_true (by kernel_rfl)) k4 bel lt4) (trodAll_cons_mk (shut_int Tryd.underlying3 w5) trodAll_mk0)))))), rfl, bel.frame _, fun h => by cases h⟩
theorem laid_met6 (os : Os) : laidMet Tryd.prog tabs ((laidWorld os).forCall (fun _ _ => 0) ⟨#[], #[.slice none 0 0, .slice none 0 0, .slice none 0 0, .slice none 0 0, .slice none 0 0, .int .i64 0], []⟩).memory :=
  laidMet_of_run' 8 (by kernel_rfl) (by kernel_rfl)
theorem readsSemiflowExact (os : Os) {H : Type} (enc : TypeId × Value → H) : ∃ ds places, DataW.whole enc Tryd.prog ((laidWorld os).forCall (fun _ _ => 0) ⟨#[], #[.slice none 0 0, .slice none 0 0, .slice none 0 0, .slice none 0 0, .slice none 0 0, .int .i64 0], []⟩).memory Tryd.f3.params.toList Rows.semiflowExactSpec.vars false (#[.slice none 0 0, .slice none 0 0, .slice none 0 0, .slice none 0 0, .slice none 0 0, .int .i64 0] : Array Value).toList 8 = some (ds, [], places) :=
  ⟨[.nil, .nil, .nil, .nil, .nil, .lit (.int .i64 0)], [], by kernel_rfl⟩
set_option maxRecDepth 100000 in
theorem liftedSemiflowExact (os : Os) (started : os.Started) (H : Type) (enc : TypeId × Value → H) (F : Stop.Interp) :
    ReturnsInHanded {} Tryd.checked os 3 .any ((OpenSpec.ofChange Rows.semiflowExactSpec).preRow enc Tryd.prog Tryd.f3 Rows.semiflowExactRow.domain false Rows.semiflowExactRow.laid) (((OpenSpec.ofChange Rows.semiflowExactSpec).at F).post enc Tryd.prog Tryd.f3 false true false false) := by
  obtain ⟨ds, places, hx⟩ := readsSemiflowExact os enc
  refine returnsInHanded_of_row (C := Tryd.checked) (s := OpenSpec.ofChange Rows.semiflowExactSpec) ownK started (by kernel_rfl) Tryd.func3
    (witness_row_at (enc := enc) (C := Tryd.checked) false (laidWorld os) #[.slice none 0 0, .slice none 0 0, .slice none 0 0, .slice none 0 0, .slice none 0 0, .int .i64 0] rfl (by kernel_rfl) (by kernel_rfl) (by kernel_rfl)
      (OpenSpec.preRow_of_cond 8 hx (by kernel_rfl) (fun k hk => by cases hk) (by kernel_rfl) (laid_met6 os))) ?_
  intro W base args ds gs before hval hW _ _ _ hL _ _
  exact contractSemiflowExact H enc W base args ds gs before hval hW hL
theorem semiflowExact_said : Rows.SemiflowExactSaid :=
  OpenClaim.holds_of_cond 3 Tryd.f3 rfl rfl rfl rfl rfl rfl rfl ⟨rfl, rfl, rfl, rfl, rfl⟩ rfl rfl rfl rfl rfl (by kernel_rfl) Tryd.func3 (by kernel_rfl)
    (of_decide_eq_true (by kernel_rfl)) (by unfold Func.isWrapper; first | (rw [if_pos (by decide +kernel)]; kernel_rfl) | (rw [if_neg (by decide +kernel)]; exact ⟨rfl, rfl⟩))
    (fun os started H enc _ F => by rw [OpenClaim.pre_eq_preRow]; exact liftedSemiflowExact os started H enc F)
theorem plainSemiflowExact (f : FuncId) (fn : Func) (hf : Tryd.pinned.checked.prog.funcNamed "coverability/coverabilitylaw11.SemiflowExact" = some f) (hfn : Tryd.pinned.checked.prog.funcs[f]? = some fn) :
    false = Tryd.pinned.checked.prog.looks [] ∧ ∀ (j : Nat) t, fn.params[j]? = some t → Tryd.pinned.checked.prog.wantsStandIn t = false := by
  obtain rfl : f = 3 := Option.some.inj ((show Tryd.prog.funcNamed "coverability/coverabilitylaw11.SemiflowExact" = some 3 by kernel_rfl).symm.trans hf) |>.symm
  obtain rfl : fn = Tryd.f3 := (Option.some.inj (Tryd.func3.symm.trans hfn)).symm
  refine ⟨by kernel_rfl, fun j t ht => ?_⟩
  rw [Tryd.params3] at ht
  have h1 : t = 22 ∨ t = 23 ∨ t = 3 := by
    have := Array.mem_of_getElem? ht
    simp at this
    grind
  rcases h1 with rfl | rfl | rfl
  · exact (show Tryd.prog.wantsStandIn 22 = false by kernel_rfl)
  · exact (show Tryd.prog.wantsStandIn 23 = false by kernel_rfl)
  · exact (show Tryd.prog.wantsStandIn 3 = false by kernel_rfl)
theorem semiflowExact_card : Rows.SemiflowExactCardSaid :=
  Claim7.holds_tied_plain_at .later [] _ _ _ _ semiflowExact_said (fun _ h => by cases h) (by kernel_rfl) (fun _ h => by cases h) semiflowExact_row_tie rfl ⟨rfl, rfl⟩ (by kernel_rfl) rfl plainSemiflowExact (by kernel_rfl)
#print axioms semiflowExact_card
end Go.Proofs.YtpnghgihepnepaaDoor
