/- HilbertExact: for every input it answers true. -/
import Derived.Test.YtgcfafjgaifmiaaFu
import Derived.Deep.Matrix
namespace Go.Proofs.Ytgcfafjgaifmiaa
open Go.ChangeShapes Go.WideShapes Go.ChangeAt Go.RowKit Go.Deep
set_option linter.unusedVariables false

set_option maxRecDepth 100000 in
set_option maxHeartbeats 8000000 in
theorem walkHilbertExact (a0 : Option Addr) (len0 cap0 : Nat) (z0 : List Int) (w : World) (w0 : IsRow .i64 w a0 len0 cap0 z0) (aa : Option Addr) (ca : Nat) (ms : List Row) (hra : RowsI w (.slice aa ms.length ca) ms) (ab : Option Addr) (lb cb : Nat) (zb : List Int) (wb : RowB w ab lb cb zb)
    (av : Option Addr) (lv cv : Nat) (zv : List Int) (wv : RowB w av lv cv zv) (most : Int) :
    Calls Try.prog 3 #[.slice a0 len0 cap0, .slice aa ms.length ca, .slice ab lb cb, .slice av lv cv, .int .i64 most] w fun e w' => e = .returned (.bool true) ∧ Below w.heap.size w w' := by
  obtain ⟨hI, hlen⟩ := w0.ints
  generalize z0.take len0 = zs at hI hlen
  subst hlen
  obtain ⟨hB, hlen⟩ := wb.row
  generalize zb.take lb = bs at hB hlen
  subst hlen
  obtain ⟨hX, hlen⟩ := wv.row
  generalize zv.take lv = xs at hX hlen
  subst hlen
  have HI := Lib.hid hI; have HRA := Lib.hid hra; have HBI := Lib.hid hB; have HXI := Lib.hid hX
  clear hI w0 hra hB hX wb wv
  by_cases hfew : (zs.length : Int) ≤ 400
  case neg =>
    go_enter Try.func3, Try.ntmps3
    go_wp2_with fail
    refine (awake12_any _).mono ?_
    rintro e w1 ⟨rfl, hg⟩
    have HG := Lib.hid hg
    clear hg
    go_wp2_with fail
    refine (few_any _ _ _ _).mono ?_
    rintro e w2 ⟨rfl, rfl⟩
    rw [decide_eq_false (by omega)]
    go_wp2_with fail
    refine (awake12_any _).mono ?_
    rintro e w9 ⟨rfl, hg⟩
    have HGX := Lib.hid (grown_trans HG.out hg)
    clear hg
    go_wp2_with fail
    go_ret
    exact ⟨rfl, below_of HGX.out⟩
  go_enter Try.func3, Try.ntmps3
  go_wp2_with fail
  refine (awake12_any _).mono ?_
  rintro e w1 ⟨rfl, hg⟩
  have HG := Lib.hid hg
  clear hg
  go_wp2_with fail
  refine (few_any _ _ _ _).mono ?_
  rintro e w2 ⟨rfl, rfl⟩
  rw [decide_eq_true hfew]
  go_wp2_with fail
  refine (narrow12_any _ ms _ (HRA.out.same HG.out)).mono ?_
  rintro e w2 ⟨⟨B1, rfl, hml⟩, rfl⟩
  have HML0 := Lib.hid hml
  clear hml
  cases B1 with
  | false =>
    go_wp2_with fail
    refine (awake12_any _).mono ?_
    rintro e w9 ⟨rfl, hg⟩
    have HGX := Lib.hid (grown_trans HG.out hg)
    clear hg
    go_wp2_with fail
    go_ret
    exact ⟨rfl, below_of HGX.out⟩
  | true =>
  by_cases hb20 : (20 : Int) < (bs.length : Int)
  ·
    go_wp2_with fail
    refine (awake12_any _).mono ?_
    rintro e w9 ⟨rfl, hg⟩
    have HGX := Lib.hid (grown_trans HG.out hg)
    clear hg
    go_wp2_with fail
    go_ret
    exact ⟨rfl, below_of HGX.out⟩
  by_cases hx20 : (20 : Int) < (xs.length : Int)
  ·
    go_wp2_with fail
    refine (awake12_any _).mono ?_
    rintro e w9 ⟨rfl, hg⟩
    have HGX := Lib.hid (grown_trans HG.out hg)
    clear hg
    go_wp2_with fail
    go_ret
    exact ⟨rfl, below_of HGX.out⟩
  go_wp2_with fail
  refine (new_st (HI.out.same HG.out) HG.out).mono ?_
  rintro e w3 ⟨p, d, rfl, hs⟩
  have HS := Lib.hid hs
  have XA := Lib.hid (HRA.out.x hs)
  have XB : Hid (RIn w3 d (.slice ab bs.length cb) bs) := Lib.hid (RIn.of HBI.out hs.2.1 hs.2.2)
  have HZ : Hid (RIn w3 d (.slice av xs.length cv) xs) := Lib.hid (RIn.of HXI.out hs.2.1 hs.2.2)
  have HMS : Hid (ms.length ≤ 1000) := Lib.hid (by have := HML0.out (by trivial); omega)
  clear hs HG HI hb20 hx20 HML0
  go_wp2_with fail
  refine (next_st HS.out _ (by omega) (by omega)).mono ?_
  rintro e w4 ⟨y, rfl, hy0, hy1, hs, hg⟩
  replace XA := Lib.hid (XA.out.deal hg); replace XB := Lib.hid (XB.out.deal hg); replace HZ := Lib.hid (HZ.out.deal hg)
  replace HS := Lib.hid hs
  clear hs hg
  obtain ⟨r, hr⟩ : ∃ r : Nat, 1 + y = (r : Int) := ⟨(1 + y).toNat, by omega⟩
  have hr1 : 1 ≤ r := by omega
  have hr2 : r ≤ 3 := by omega
  have ir : IntKind.i64.wrap (1 + y) = (r : Int) := by rw [hr]; exact IntWalk.i64_in _ (by omega)
  clear hr hy0 hy1
  go_wp2_with fail
  refine (next_st HS.out _ (by omega) (by omega)).mono ?_
  rintro e w4 ⟨y, rfl, hy0, hy1, hs, hg⟩
  replace XA := Lib.hid (XA.out.deal hg); replace XB := Lib.hid (XB.out.deal hg); replace HZ := Lib.hid (HZ.out.deal hg)
  replace HS := Lib.hid hs
  clear hs hg
  obtain ⟨c, hc⟩ : ∃ c : Nat, 1 + y = (c : Int) := ⟨(1 + y).toNat, by omega⟩
  have hc1 : 1 ≤ c := by omega
  have hc2 : c ≤ 4 := by omega
  have ic : IntKind.i64.wrap (1 + y) = (c : Int) := by rw [hc]; exact IntWalk.i64_in _ (by omega)
  clear hc hy0 hy1
  go_wp2_with fail
  refine (matrix_st HS.out r c (by omega) (by omega)).mono ?_
  rintro e w6 ⟨v1, m1, rfl, hm1, -, hM, hs, hg⟩
  replace XA := Lib.hid (XA.out.deal hg); replace XB := Lib.hid (XB.out.deal hg); replace HZ := Lib.hid (HZ.out.deal hg)
  have X1 := Lib.hid (MatD.mk HS.out hM).rowsX
  have HM1 : Hid (m1.length ≤ 1000) := Lib.hid (by omega)
  replace HS := Lib.hid hs
  obtain ⟨a1, cp1, rfl⟩ := X1.out.slice
  clear hM hs hg hm1 ir ic
  go_wp2_with fail
  generalize hwb : World.alloc _ _ = WB
  have hg : w6.grownBy WB none := by rw [← hwb]; exact World.grownBy_alloc _ _ none
  have HF : Hid (MatsB WB d w6.heap.size 2) := Lib.hid (by
    intro k hk
    obtain rfl | rfl : k = 0 ∨ k = 1 := by omega
    · exact ⟨_, _, _, _, by rw [← hwb, World.cell?, heap_new _ rfl]; rfl, XA.out.same hg, rfl, HMS.out, HS.out.lt⟩
    · exact ⟨_, _, _, _, by rw [← hwb, World.cell?, heap_new _ rfl]; rfl, X1.out.same hg, rfl, HM1.out, HS.out.lt⟩)
  replace XB := Lib.hid (XB.out.step hg); replace HZ := Lib.hid (HZ.out.step hg); replace HS := Lib.hid (HS.out.step hg)
  obtain ⟨BB, hBB⟩ : ∃ BB, w6.heap.size = BB := ⟨_, rfl⟩
  rw [hBB] at HF ⊢
  clear hwb hg XA X1 hBB
  go_loopw [68] (fun i wr => ∃ k : Nat, i = .int .i64 k ∧ k ≤ 2 ∧ Hid (MatsB wr d BB 2) ∧ Hid (RIn wr d (.slice ab bs.length cb) bs) ∧ Hid (RIn wr d (.slice av xs.length cv) xs) ∧ Hid (St w wr p d)) (fun i _ => 2 - (intOf i).toNat)
  case atStart => exact ⟨0, rfl, Nat.zero_le _, HF, XB, HZ, HS⟩
  case round =>
    clear HF XB HZ HS
    obtain ⟨k, rfl, hk, HF, XB, HZ, HS⟩ := hrel
    rename World => wk
    by_cases hk2 : k < 2
    · have h2 : (k : Int) < 2 := by omega
      have i1 : IntKind.i64.wrap ((k : Int) + 1) = (k : Int) + 1 := IntWalk.i64_in _ (by omega)
      obtain ⟨am, nm, cm, mt, hc0, hM, hmn, hml, -⟩ := HF.out k hk2
      subst hmn
      have XM := Lib.hid hM; have HML := Lib.hid hml
      clear hM hml
      go_wp2_with fail
      clear hc0
      refine (small_row HS.out (r : Int) 3 (by omega) (by omega) (by omega)).mono ?_
      rintro e w11 ⟨vs, us, rfl, -, -, hu, hs, hg⟩
      replace XM := Lib.hid (XM.out.deal hg); replace XB := Lib.hid (XB.out.deal hg); replace HZ := Lib.hid (HZ.out.deal hg); replace HF := Lib.hid (HF.out.deal hg)
      have XS := Lib.hid hu
      replace HS := Lib.hid hs
      obtain ⟨au, cu, rfl, -⟩ : ∃ a cap, vs = .slice a us.length cap ∧ True := by obtain ⟨a, cap, h, -⟩ := hu.1.1; exact ⟨a, cap, h, trivial⟩
      clear hu hs hg
      go_wp2_with fail
      generalize hwb : World.alloc _ _ = W5
      have hg : w11.grownBy W5 none := by rw [← hwb]; exact World.grownBy_alloc _ _ none
      have HV : Hid (VecsB W5 d w11.heap.size 2) := Lib.hid (by
        intro j hj
        obtain rfl | rfl : j = 0 ∨ j = 1 := by omega
        · exact ⟨_, _, _, _, by rw [← hwb, World.cell?, heap_new _ rfl]; rfl, XB.out.step hg, rfl, HS.out.lt⟩
        · exact ⟨_, _, _, _, by rw [← hwb, World.cell?, heap_new _ rfl]; rfl, XS.out.step hg, rfl, HS.out.lt⟩)
      replace XM := Lib.hid (XM.out.same hg); replace XB := Lib.hid (XB.out.step hg); replace HZ := Lib.hid (HZ.out.step hg); replace HF := Lib.hid (HF.out.step hg); replace HS := Lib.hid (HS.out.step hg)
      obtain ⟨BV, hBV⟩ : ∃ BV, w11.heap.size = BV := ⟨_, rfl⟩
      rw [hBV] at HV ⊢
      clear hwb hg XS hBV
      go_loopw [78] (fun i wr => ∃ j : Nat, i = .int .i64 j ∧ j ≤ 2 ∧ Hid (RowsX wr d (.slice am mt.length cm) mt) ∧ Hid (RIn wr d (.slice av xs.length cv) xs) ∧ Hid (VecsB wr d BV 2) ∧ Hid (MatsB wr d BB 2) ∧ Hid (RIn wr d (.slice ab bs.length cb) bs) ∧ Hid (St w wr p d)) (fun i _ => 2 - (intOf i).toNat)
      case atStart => exact ⟨0, rfl, Nat.zero_le _, XM, HZ, HV, HF, XB, HS⟩
      case round =>
        clear XM HZ HV HF XB HS
        obtain ⟨j, rfl, hj, XM, HZ, HV, HF, XB, HS⟩ := hrel
        rename World => wj
        by_cases hj2 : j < 2
        · have h3 : (j : Int) < 2 := by omega
          have i2 : IntKind.i64.wrap ((j : Int) + 1) = (j : Int) + 1 := IntWalk.i64_in _ (by omega)
          obtain ⟨au, nu, cu, us, hcu, hxu, hnu, -⟩ := HV.out j hj2
          subst hnu
          have XU := Lib.hid hxu
          clear hxu
          obtain ⟨ec, hP, hR⟩ := hcheck_u mt us
          have HPC := Lib.hid hP; have HRC := Lib.hid hR.1
          clear hP hR
          go_wp2_with fail
          clear hcu
          refine (HPC.out _ _ _ XM.out.1 XU.out.1.1).mono ?_
          rintro e w20 ⟨rfl, hw⟩
          replace hw := hw.symm
          subst hw
          go_wp2_with fail
          refine (HRC.out _ _ _ XM.out.1 XU.out.1.1).mono ?_
          rintro e w21 ⟨rfl, hg⟩
          replace XM := Lib.hid (XM.out.same hg); replace XU := Lib.hid (XU.out.step hg); replace HZ := Lib.hid (HZ.out.step hg); replace HV := Lib.hid (HV.out.step hg); replace HF := Lib.hid (HF.out.step hg); replace XB := Lib.hid (XB.out.step hg); replace HS := Lib.hid (HS.out.step hg)
          clear hg HPC HRC
          have e1 : (ec != ec) = false := by simp
          obtain ⟨es, hP, hR⟩ := hsolves_u mt us xs
          have HPC := Lib.hid hP; have HRC := Lib.hid hR
          clear hP hR
          go_wp2_with fail
          refine (HPC.out _ _ _ _ XM.out.1 XU.out.1.1 HZ.out.1.1).mono ?_
          rintro e w22 ⟨rfl, hg⟩
          replace XM := Lib.hid (XM.out.same hg); replace XU := Lib.hid (XU.out.step hg); replace HZ := Lib.hid (HZ.out.step hg); replace HV := Lib.hid (HV.out.step hg); replace HF := Lib.hid (HF.out.step hg); replace XB := Lib.hid (XB.out.step hg); replace HS := Lib.hid (HS.out.step hg)
          clear hg
          go_wp2_with fail
          refine (HRC.out _ _ _ _ XM.out.1 XU.out.1.1 HZ.out.1.1).mono ?_
          rintro e w23 ⟨rfl, hg⟩
          replace XM := Lib.hid (XM.out.same hg); replace XU := Lib.hid (XU.out.step hg); replace HZ := Lib.hid (HZ.out.step hg); replace HV := Lib.hid (HV.out.step hg); replace HF := Lib.hid (HF.out.step hg); replace XB := Lib.hid (XB.out.step hg); replace HS := Lib.hid (HS.out.step hg)
          clear hg HPC HRC
          have e2 : (es != es) = false := by simp
          go_wp2_with fail
          refine (next_st HS.out _ (by omega) (by omega)).mono ?_
          rintro e w24 ⟨yn, rfl, hy0, hy1, hs, hg⟩
          replace XM := Lib.hid (XM.out.deal hg); replace XU := Lib.hid (XU.out.deal hg); replace HZ := Lib.hid (HZ.out.deal hg); replace HV := Lib.hid (HV.out.deal hg); replace HF := Lib.hid (HF.out.deal hg); replace XB := Lib.hid (XB.out.deal hg)
          replace HS := Lib.hid hs
          clear hs hg e1 e2
          go_wp2_with fail
          generalize hwb : World.alloc _ _ = W3
          have hg : w24.grownBy W3 none := by rw [← hwb]; exact World.grownBy_alloc _ _ none
          have HN : Hid (∀ t, t < 2 → ∃ nv : Int, W3.cell? ⟨w24.heap.size, t, none⟩ = some (.int .i64 nv)) := Lib.hid (by
            intro t ht
            obtain rfl | rfl : t = 0 ∨ t = 1 := by omega
            · exact ⟨_, by rw [← hwb, World.cell?, heap_new _ rfl]; rfl⟩
            · exact ⟨_, by rw [← hwb, World.cell?, heap_new _ rfl]; rfl⟩)
          replace XM := Lib.hid (XM.out.same hg); replace XU := Lib.hid (XU.out.step hg); replace HZ := Lib.hid (HZ.out.step hg); replace HV := Lib.hid (HV.out.step hg); replace HF := Lib.hid (HF.out.step hg); replace XB := Lib.hid (XB.out.step hg); replace HS := Lib.hid (HS.out.step hg)
          have G3 := Lib.hid (grown_refl W3 none)
          clear hwb hg
          go_loopw [105] (fun i wr => ∃ t : Nat, i = .int .i64 t ∧ t ≤ 2 ∧ Hid (W3.grownBy wr none)) (fun i _ => 2 - (intOf i).toNat)
          case atStart => exact ⟨0, rfl, Nat.zero_le _, G3⟩
          case round =>
            clear G3
            obtain ⟨t, rfl, ht, G3⟩ := hrel
            rename World => wt
            by_cases ht2 : t < 2
            · have h4 : (t : Int) < 2 := by omega
              have i3 : IntKind.i64.wrap ((t : Int) + 1) = (t : Int) + 1 := IntWalk.i64_in _ (by omega)
              have hcn := HN.out t ht2
              obtain ⟨nv, hcn⟩ := hcn
              have hcn2 := G3.out.cell hcn (by simp)
              clear hcn
              replace XM := Lib.hid (XM.out.same G3.out); replace XU := Lib.hid (XU.out.step G3.out)
              by_cases hn5 : (5 : Int) < nv
              · by_cases hn10 : nv ≤ (10 : Int)
                ·
                  obtain ⟨rs1, er1, hP, hR⟩ := minimal_u mt us 5
                  have HPC := Lib.hid hP; have HRC := Lib.hid hR
                  clear hP hR
                  go_wp2_with fail
                  refine (HPC.out _ _ _ XM.out.1 XU.out.1.1).mono ?_
                  rintro e w20 ⟨y1, q1, rfl, h1, h2, hg⟩
                  have R1 := Lib.hid h1; have E1 := Lib.hid h2
                  replace XM := Lib.hid (XM.out.same hg); replace XU := Lib.hid (XU.out.step hg); replace G3 := Lib.hid (grown_trans G3.out hg)
                  obtain ⟨ay1, cy1, rfl, -⟩ : ∃ a cap, y1 = .slice a q1.length cap ∧ True := by obtain ⟨a, cap, h, -⟩ := h1; exact ⟨a, cap, h, trivial⟩
                  clear h1 h2 hg
                  go_wp2_with fail
                  refine (HRC.out _ _ _ XM.out.1 XU.out.1.1).mono ?_
                  rintro e w21 ⟨y2, q2, rfl, h1, h2, hg⟩
                  have R2 := Lib.hid h1; have E2 := Lib.hid h2; replace R1 := Lib.hid (R1.out.same hg)
                  replace XM := Lib.hid (XM.out.same hg); replace XU := Lib.hid (XU.out.step hg); replace G3 := Lib.hid (grown_trans G3.out hg)
                  obtain ⟨ay2, cy2, rfl, -⟩ : ∃ a cap, y2 = .slice a q2.length cap ∧ True := by obtain ⟨a, cap, h, -⟩ := h1; exact ⟨a, cap, h, trivial⟩
                  clear h1 h2 hg
                  have e1 : (er1 != er1) = false := by simp
                  go_wp2_with fail
                  refine (sameall_any _ _ _ _ _ R1.out R2.out).mono ?_
                  rintro e w22 ⟨rfl, hd⟩
                  have hg := hd.grown none
                  have e4 : (q1.map Prod.snd == q2.map Prod.snd) = true := by rw [E1.out, E2.out]; simp
                  rw [e4]
                  replace XM := Lib.hid (XM.out.same hg); replace XU := Lib.hid (XU.out.step hg); replace G3 := Lib.hid (grown_trans G3.out hg)
                  clear hd hg e4 R1 R2 E1 E2 HPC HRC e1
                  obtain ⟨rs2, er2, hP, hR⟩ := free_u mt 5 HML.out
                  have HPC := Lib.hid hP; have HRC := Lib.hid hR
                  clear hP hR
                  go_wp2_with fail
                  refine (HPC.out _ _ XM.out.1).mono ?_
                  rintro e w20 ⟨y1, q1, rfl, h1, h2, hg⟩
                  have R1 := Lib.hid h1; have E1 := Lib.hid h2
                  replace XM := Lib.hid (XM.out.same hg); replace XU := Lib.hid (XU.out.step hg); replace G3 := Lib.hid (grown_trans G3.out hg)
                  obtain ⟨ay1, cy1, rfl, -⟩ : ∃ a cap, y1 = .slice a q1.length cap ∧ True := by obtain ⟨a, cap, h, -⟩ := h1; exact ⟨a, cap, h, trivial⟩
                  clear h1 h2 hg
                  go_wp2_with fail
                  refine (HRC.out _ _ XM.out.1).mono ?_
                  rintro e w21 ⟨y2, q2, rfl, h1, h2, hg⟩
                  have R2 := Lib.hid h1; have E2 := Lib.hid h2; replace R1 := Lib.hid (R1.out.same hg)
                  replace XM := Lib.hid (XM.out.same hg); replace XU := Lib.hid (XU.out.step hg); replace G3 := Lib.hid (grown_trans G3.out hg)
                  obtain ⟨ay2, cy2, rfl, -⟩ : ∃ a cap, y2 = .slice a q2.length cap ∧ True := by obtain ⟨a, cap, h, -⟩ := h1; exact ⟨a, cap, h, trivial⟩
                  clear h1 h2 hg
                  have e1 : (er2 != er2) = false := by simp
                  go_wp2_with fail
                  refine (sameall_any _ _ _ _ _ R1.out R2.out).mono ?_
                  rintro e w22 ⟨rfl, hd⟩
                  have hg := hd.grown none
                  have e4 : (q1.map Prod.snd == q2.map Prod.snd) = true := by rw [E1.out, E2.out]; simp
                  rw [e4]
                  replace XM := Lib.hid (XM.out.same hg); replace XU := Lib.hid (XU.out.step hg); replace G3 := Lib.hid (grown_trans G3.out hg)
                  clear hd hg e4 R1 R2 E1 E2 HPC HRC e1
                  go_wp2_with fail
                  go_roundw
                  case rel => exact ⟨t + 1, by go_num, by omega, G3⟩
                  case measure => (simp [intOf]; try omega)
                ·
                  obtain ⟨rs1, er1, hP, hR⟩ := minimal_u mt us nv
                  have HPC := Lib.hid hP; have HRC := Lib.hid hR
                  clear hP hR
                  go_wp2_with fail
                  refine (HPC.out _ _ _ XM.out.1 XU.out.1.1).mono ?_
                  rintro e w20 ⟨y1, q1, rfl, h1, h2, hg⟩
                  have R1 := Lib.hid h1; have E1 := Lib.hid h2
                  replace XM := Lib.hid (XM.out.same hg); replace XU := Lib.hid (XU.out.step hg); replace G3 := Lib.hid (grown_trans G3.out hg)
                  obtain ⟨ay1, cy1, rfl, -⟩ : ∃ a cap, y1 = .slice a q1.length cap ∧ True := by obtain ⟨a, cap, h, -⟩ := h1; exact ⟨a, cap, h, trivial⟩
                  clear h1 h2 hg
                  go_wp2_with fail
                  refine (HRC.out _ _ _ XM.out.1 XU.out.1.1).mono ?_
                  rintro e w21 ⟨y2, q2, rfl, h1, h2, hg⟩
                  have R2 := Lib.hid h1; have E2 := Lib.hid h2; replace R1 := Lib.hid (R1.out.same hg)
                  replace XM := Lib.hid (XM.out.same hg); replace XU := Lib.hid (XU.out.step hg); replace G3 := Lib.hid (grown_trans G3.out hg)
                  obtain ⟨ay2, cy2, rfl, -⟩ : ∃ a cap, y2 = .slice a q2.length cap ∧ True := by obtain ⟨a, cap, h, -⟩ := h1; exact ⟨a, cap, h, trivial⟩
                  clear h1 h2 hg
                  have e1 : (er1 != er1) = false := by simp
                  go_wp2_with fail
                  refine (sameall_any _ _ _ _ _ R1.out R2.out).mono ?_
                  rintro e w22 ⟨rfl, hd⟩
                  have hg := hd.grown none
                  have e4 : (q1.map Prod.snd == q2.map Prod.snd) = true := by rw [E1.out, E2.out]; simp
                  rw [e4]
                  replace XM := Lib.hid (XM.out.same hg); replace XU := Lib.hid (XU.out.step hg); replace G3 := Lib.hid (grown_trans G3.out hg)
                  clear hd hg e4 R1 R2 E1 E2 HPC HRC e1
                  obtain ⟨rs2, er2, hP, hR⟩ := free_u mt nv HML.out
                  have HPC := Lib.hid hP; have HRC := Lib.hid hR
                  clear hP hR
                  go_wp2_with fail
                  refine (HPC.out _ _ XM.out.1).mono ?_
                  rintro e w20 ⟨y1, q1, rfl, h1, h2, hg⟩
                  have R1 := Lib.hid h1; have E1 := Lib.hid h2
                  replace XM := Lib.hid (XM.out.same hg); replace XU := Lib.hid (XU.out.step hg); replace G3 := Lib.hid (grown_trans G3.out hg)
                  obtain ⟨ay1, cy1, rfl, -⟩ : ∃ a cap, y1 = .slice a q1.length cap ∧ True := by obtain ⟨a, cap, h, -⟩ := h1; exact ⟨a, cap, h, trivial⟩
                  clear h1 h2 hg
                  go_wp2_with fail
                  refine (HRC.out _ _ XM.out.1).mono ?_
                  rintro e w21 ⟨y2, q2, rfl, h1, h2, hg⟩
                  have R2 := Lib.hid h1; have E2 := Lib.hid h2; replace R1 := Lib.hid (R1.out.same hg)
                  replace XM := Lib.hid (XM.out.same hg); replace XU := Lib.hid (XU.out.step hg); replace G3 := Lib.hid (grown_trans G3.out hg)
                  obtain ⟨ay2, cy2, rfl, -⟩ : ∃ a cap, y2 = .slice a q2.length cap ∧ True := by obtain ⟨a, cap, h, -⟩ := h1; exact ⟨a, cap, h, trivial⟩
                  clear h1 h2 hg
                  have e1 : (er2 != er2) = false := by simp
                  go_wp2_with fail
                  refine (sameall_any _ _ _ _ _ R1.out R2.out).mono ?_
                  rintro e w22 ⟨rfl, hd⟩
                  have hg := hd.grown none
                  have e4 : (q1.map Prod.snd == q2.map Prod.snd) = true := by rw [E1.out, E2.out]; simp
                  rw [e4]
                  replace XM := Lib.hid (XM.out.same hg); replace XU := Lib.hid (XU.out.step hg); replace G3 := Lib.hid (grown_trans G3.out hg)
                  clear hd hg e4 R1 R2 E1 E2 HPC HRC e1
                  go_wp2_with fail
                  go_roundw
                  case rel => exact ⟨t + 1, by go_num, by omega, G3⟩
                  case measure => (simp [intOf]; try omega)
              ·
                obtain ⟨rs1, er1, hP, hR⟩ := minimal_u mt us nv
                have HPC := Lib.hid hP; have HRC := Lib.hid hR
                clear hP hR
                go_wp2_with fail
                refine (HPC.out _ _ _ XM.out.1 XU.out.1.1).mono ?_
                rintro e w20 ⟨y1, q1, rfl, h1, h2, hg⟩
                have R1 := Lib.hid h1; have E1 := Lib.hid h2
                replace XM := Lib.hid (XM.out.same hg); replace XU := Lib.hid (XU.out.step hg); replace G3 := Lib.hid (grown_trans G3.out hg)
                obtain ⟨ay1, cy1, rfl, -⟩ : ∃ a cap, y1 = .slice a q1.length cap ∧ True := by obtain ⟨a, cap, h, -⟩ := h1; exact ⟨a, cap, h, trivial⟩
                clear h1 h2 hg
                go_wp2_with fail
                refine (HRC.out _ _ _ XM.out.1 XU.out.1.1).mono ?_
                rintro e w21 ⟨y2, q2, rfl, h1, h2, hg⟩
                have R2 := Lib.hid h1; have E2 := Lib.hid h2; replace R1 := Lib.hid (R1.out.same hg)
                replace XM := Lib.hid (XM.out.same hg); replace XU := Lib.hid (XU.out.step hg); replace G3 := Lib.hid (grown_trans G3.out hg)
                obtain ⟨ay2, cy2, rfl, -⟩ : ∃ a cap, y2 = .slice a q2.length cap ∧ True := by obtain ⟨a, cap, h, -⟩ := h1; exact ⟨a, cap, h, trivial⟩
                clear h1 h2 hg
                have e1 : (er1 != er1) = false := by simp
                go_wp2_with fail
                refine (sameall_any _ _ _ _ _ R1.out R2.out).mono ?_
                rintro e w22 ⟨rfl, hd⟩
                have hg := hd.grown none
                have e4 : (q1.map Prod.snd == q2.map Prod.snd) = true := by rw [E1.out, E2.out]; simp
                rw [e4]
                replace XM := Lib.hid (XM.out.same hg); replace XU := Lib.hid (XU.out.step hg); replace G3 := Lib.hid (grown_trans G3.out hg)
                clear hd hg e4 R1 R2 E1 E2 HPC HRC e1
                obtain ⟨rs2, er2, hP, hR⟩ := free_u mt nv HML.out
                have HPC := Lib.hid hP; have HRC := Lib.hid hR
                clear hP hR
                go_wp2_with fail
                refine (HPC.out _ _ XM.out.1).mono ?_
                rintro e w20 ⟨y1, q1, rfl, h1, h2, hg⟩
                have R1 := Lib.hid h1; have E1 := Lib.hid h2
                replace XM := Lib.hid (XM.out.same hg); replace XU := Lib.hid (XU.out.step hg); replace G3 := Lib.hid (grown_trans G3.out hg)
                obtain ⟨ay1, cy1, rfl, -⟩ : ∃ a cap, y1 = .slice a q1.length cap ∧ True := by obtain ⟨a, cap, h, -⟩ := h1; exact ⟨a, cap, h, trivial⟩
                clear h1 h2 hg
                go_wp2_with fail
                refine (HRC.out _ _ XM.out.1).mono ?_
                rintro e w21 ⟨y2, q2, rfl, h1, h2, hg⟩
                have R2 := Lib.hid h1; have E2 := Lib.hid h2; replace R1 := Lib.hid (R1.out.same hg)
                replace XM := Lib.hid (XM.out.same hg); replace XU := Lib.hid (XU.out.step hg); replace G3 := Lib.hid (grown_trans G3.out hg)
                obtain ⟨ay2, cy2, rfl, -⟩ : ∃ a cap, y2 = .slice a q2.length cap ∧ True := by obtain ⟨a, cap, h, -⟩ := h1; exact ⟨a, cap, h, trivial⟩
                clear h1 h2 hg
                have e1 : (er2 != er2) = false := by simp
                go_wp2_with fail
                refine (sameall_any _ _ _ _ _ R1.out R2.out).mono ?_
                rintro e w22 ⟨rfl, hd⟩
                have hg := hd.grown none
                have e4 : (q1.map Prod.snd == q2.map Prod.snd) = true := by rw [E1.out, E2.out]; simp
                rw [e4]
                replace XM := Lib.hid (XM.out.same hg); replace XU := Lib.hid (XU.out.step hg); replace G3 := Lib.hid (grown_trans G3.out hg)
                clear hd hg e4 R1 R2 E1 E2 HPC HRC e1
                go_wp2_with fail
                go_roundw
                case rel => exact ⟨t + 1, by go_num, by omega, G3⟩
                case measure => (simp [intOf]; try omega)
            · obtain rfl : t = 2 := by omega
              have h4 : ¬ (((2 : Nat) : Int)) < 2 := by omega
              have hg := G3.out
              replace XM := Lib.hid (XM.out.same hg); replace HZ := Lib.hid (HZ.out.step hg); replace HV := Lib.hid (HV.out.step hg); replace HF := Lib.hid (HF.out.step hg); replace XB := Lib.hid (XB.out.step hg); replace HS := Lib.hid (HS.out.step hg)
              clear hg
              go_wp2_with fail
              go_roundw
              case rel => exact ⟨j + 1, by go_num, by omega, XM, HZ, HV, HF, XB, HS⟩
              case measure => (simp [intOf]; try omega)
        · obtain rfl : j = 2 := by omega
          have h3 : ¬ (((2 : Nat) : Int)) < 2 := by omega
          clear HV
          go_wp2_with fail
          have hg := grown_drew wj none
          replace XM := Lib.hid (XM.out.same hg); replace HZ := Lib.hid (HZ.out.step hg); replace HF := Lib.hid (HF.out.step hg); replace XB := Lib.hid (XB.out.step hg); replace HS := Lib.hid (HS.out.step hg)
          clear hg
          obtain ⟨O, hmk, hom⟩ := made_ints c (by omega)
          have HOM := Lib.hid hom
          clear hom
          go_region_law (first
            | (refine step_call 164 14 _ _ _ _ _ Try.f14 _ Try.func14 (by kernel_rfl) rfl [p, .int .i64 (c : Int), .int .i64 2] (by kernel_rfl) _ (small_row (w := wj.drew) HS.out (c : Int) 2 (by omega) (by omega) (by omega)) ?_; rintro e wq ⟨vs, us2, rfl, -, -, hu, hs, hg⟩; replace XM := Lib.hid (XM.out.deal hg); replace HZ := Lib.hid (HZ.out.deal hg); replace HF := Lib.hid (HF.out.deal hg); replace XB := Lib.hid (XB.out.deal hg); (try replace XK := Lib.hid (XK.out.deal hg)); have XS := Lib.hid hu; replace HS := Lib.hid hs; clear hu hs hg; obtain ⟨asl, csl, rfl, -⟩ := slice_of (v := vs) (xs := us2) XS.out.1.1; refine ⟨_, rfl, ?_⟩)
            | (have hg := World.grownBy_alloc wj.drew O none; have XK : Hid (RIn (wj.drew.alloc O) d (.slice (some ⟨wj.drew.heap.size, 0, none⟩) c c) (List.replicate c 0)) := Lib.hid ⟨(HOM.out wj.drew).row (zeros_bd c), fun g hg' e => by have := ((HOM.out wj.drew).fresh g hg').1; have := HS.out.lt; omega⟩; replace XM := Lib.hid (XM.out.same hg); replace HZ := Lib.hid (HZ.out.step hg); replace HF := Lib.hid (HF.out.step hg); replace XB := Lib.hid (XB.out.step hg); replace HS := Lib.hid (HS.out.step hg); clear hg; refine step_call 164 14 _ _ _ _ _ Try.f14 _ Try.func14 (by kernel_rfl) rfl [p, .int .i64 (c : Int), .int .i64 2] (by kernel_rfl) _ (small_row (w := wj.drew.alloc O) HS.out (c : Int) 2 (by omega) (by omega) (by omega)) ?_; rintro e wq ⟨vs, us2, rfl, -, -, hu, hs, hg⟩; replace XM := Lib.hid (XM.out.deal hg); replace HZ := Lib.hid (HZ.out.deal hg); replace HF := Lib.hid (HF.out.deal hg); replace XB := Lib.hid (XB.out.deal hg); (try replace XK := Lib.hid (XK.out.deal hg)); have XS := Lib.hid hu; replace HS := Lib.hid hs; clear hu hs hg; obtain ⟨asl, csl, rfl, -⟩ := slice_of (v := vs) (xs := us2) XS.out.1.1; refine ⟨_, rfl, ?_⟩))
          all_goals
            clear hmk
            go_wp2_with fail
            go_simp
          all_goals
            first
              | (have hnone := XK.out; clear hnone)
              | (have hg := World.grownBy_alloc wq O none
                 have XK : Hid (RIn (wq.alloc O) d (.slice (some ⟨wq.heap.size, 0, none⟩) c c) (List.replicate c 0)) := Lib.hid ⟨(HOM.out wq).row (zeros_bd c), fun g hg' e => by have := ((HOM.out wq).fresh g hg').1; have := HS.out.lt; omega⟩
                 replace XM := Lib.hid (XM.out.same hg); replace HZ := Lib.hid (HZ.out.step hg); replace HF := Lib.hid (HF.out.step hg); replace XB := Lib.hid (XB.out.step hg); replace HS := Lib.hid (HS.out.step hg); replace XS := Lib.hid (XS.out.step hg)
                 clear hg
                 have hsz : wq.heap.size + 1 = (wq.alloc O).heap.size := by show _ = (wq.heap.push _).size; simp
                 rw [hsz]
                 clear hsz
                 generalize wq.heap.size = BK at *
                 generalize wq.alloc O = wq at *)
          all_goals
            generalize hwb : World.alloc _ _ = W6
            have hg : wq.grownBy W6 none := by rw [← hwb]; exact World.grownBy_alloc _ _ none
            have HV : Hid (VecsB W6 d wq.heap.size 3) := Lib.hid (by
              intro j hj
              obtain rfl | rfl | rfl : j = 0 ∨ j = 1 ∨ j = 2 := by omega
              · exact ⟨_, _, _, _, by rw [← hwb, World.cell?, heap_new _ rfl]; rfl, HZ.out.step hg, rfl, HS.out.lt⟩
              · exact ⟨_, _, _, _, by rw [← hwb, World.cell?, heap_new _ rfl]; rfl, XS.out.step hg, rfl, HS.out.lt⟩
              · exact ⟨_, _, _, _, by rw [← hwb, World.cell?, heap_new _ rfl]; rfl, XK.out.step hg, by simp, HS.out.lt⟩)
            replace XM := Lib.hid (XM.out.same hg); replace HZ := Lib.hid (HZ.out.step hg); replace HF := Lib.hid (HF.out.step hg); replace XB := Lib.hid (XB.out.step hg); replace HS := Lib.hid (HS.out.step hg)
            obtain ⟨BW, hBW⟩ : ∃ BW, wq.heap.size = BW := ⟨_, rfl⟩
            rw [hBW] at HV ⊢
            have G6 := Lib.hid (grown_refl W6 none)
            clear hwb hg XS XK hBW
            go_loopw [169] (fun i wr => ∃ t : Nat, i = .int .i64 t ∧ t ≤ 3 ∧ Hid (W6.grownBy wr none)) (fun i _ => 3 - (intOf i).toNat)
            case atStart => exact ⟨0, rfl, Nat.zero_le _, G6⟩
            case round =>
              clear G6
              obtain ⟨t, rfl, ht, G6⟩ := hrel
              rename World => wt
              by_cases ht3 : t < 3
              · have h4 : (t : Int) < 3 := by omega
                have i3 : IntKind.i64.wrap ((t : Int) + 1) = (t : Int) + 1 := IntWalk.i64_in _ (by omega)
                obtain ⟨au, nu, cu, us, hcu, hxu, hnu, -⟩ := HV.out t ht3
                subst hnu
                have XU := Lib.hid (hxu.step G6.out)
                have hcu2 := G6.out.cell hcu (by simp)
                clear hxu hcu
                replace XM := Lib.hid (XM.out.same G6.out)
                obtain ⟨rs4, er4, hP, hR⟩ := split_u mt us HML.out
                have HPC := Lib.hid hP; have HRC := Lib.hid hR
                clear hP hR
                go_wp2_with fail
                refine (HPC.out _ _ _ XM.out.1 XU.out.1).mono ?_
                rintro e w20 ⟨y1, q1, rfl, h1, h2, hg⟩
                have R1 := Lib.hid h1; have E1 := Lib.hid h2
                replace XM := Lib.hid (XM.out.same hg); replace XU := Lib.hid (XU.out.step hg); replace G6 := Lib.hid (grown_trans G6.out hg)
                obtain ⟨ay1, cy1, rfl, -⟩ : ∃ a cap, y1 = .slice a q1.length cap ∧ True := by obtain ⟨a, cap, h, -⟩ := h1; exact ⟨a, cap, h, trivial⟩
                clear h1 h2 hg
                go_wp2_with fail
                refine (HRC.out _ _ _ XM.out.1 XU.out.1).mono ?_
                rintro e w21 ⟨y2, q2, rfl, h1, h2, hg⟩
                have R2 := Lib.hid h1; have E2 := Lib.hid h2; replace R1 := Lib.hid (R1.out.same hg)
                replace XM := Lib.hid (XM.out.same hg); replace XU := Lib.hid (XU.out.step hg); replace G6 := Lib.hid (grown_trans G6.out hg)
                obtain ⟨ay2, cy2, rfl, -⟩ : ∃ a cap, y2 = .slice a q2.length cap ∧ True := by obtain ⟨a, cap, h, -⟩ := h1; exact ⟨a, cap, h, trivial⟩
                clear h1 h2 hg
                have e1 : (er4 != er4) = false := by simp
                go_wp2_with fail
                refine (sameall_any _ _ _ _ _ R1.out R2.out).mono ?_
                rintro e w22 ⟨rfl, hd⟩
                have hg := hd.grown none
                have e4 : (q1.map Prod.snd == q2.map Prod.snd) = true := by rw [E1.out, E2.out]; simp
                rw [e4]
                replace XM := Lib.hid (XM.out.same hg); replace XU := Lib.hid (XU.out.step hg); replace G6 := Lib.hid (grown_trans G6.out hg)
                clear hd hg e4 R1 R2 E1 E2 HPC HRC e1
                go_wp2_with fail
                go_roundw
                case rel => exact ⟨t + 1, by go_num, by omega, G6⟩
                case measure => (simp [intOf]; try omega)
              · obtain rfl : t = 3 := by omega
                have h4 : ¬ (((3 : Nat) : Int)) < 3 := by omega
                have hg := G6.out
                replace HZ := Lib.hid (HZ.out.step hg); replace HF := Lib.hid (HF.out.step hg); replace XB := Lib.hid (XB.out.step hg); replace HS := Lib.hid (HS.out.step hg)
                clear hg
                go_wp2_with fail
                go_roundw
                case rel => exact ⟨k + 1, by go_num, by omega, HF, XB, HZ, HS⟩
                case measure => (simp [intOf]; try omega)
    · obtain rfl : k = 2 := by omega
      have h2 : ¬ (((2 : Nat) : Int)) < 2 := by omega
      go_wp2_with fail
      go_ret
      exact ⟨rfl, HS.out.below⟩


/-! ### HilbertExact: the statement, from its walk -/
set_option maxRecDepth 100000 in
theorem liftedHilbertExact (os : Os) (started : os.Started) (H : Type) (enc : TypeId × Value → H) :
    ReturnsInHanded {} Try.checked os 3 .any (Rows.hilbertExactSpec.pre6 enc Try.prog Try.f3 Rows.hilbertExactRow.domain false) (Rows.hilbertExactSpec.post enc Try.prog Try.f3 false true false false) := by
  refine returnsInHanded_of_change (C := Try.checked) own started (by kernel_rfl) Try.func3
    (ChangeSpec.witness6 (enc := enc) (C := Try.checked) false ⟨#[], #[.slice none 0 0, .slice none 0 0, .slice none 0 0, .slice none 0 0, .int .i64 0], []⟩ 8 (by kernel_rfl) (by kernel_rfl) (by kernel_rfl) (by kernel_rfl)) ?_
  intro W base args ds gs before hval0 hW hcnd _
  have hval : ∀ (j : Nat) t v, Try.f3.params[j]? = some t → args[j]? = some v → Value.okWide Try.prog W .any base t v := hval0
  have hW' := hW
  obtain ⟨p, q, hA0, hV, rfl, hfz, hnd⟩ := hW
  have hA : DataW.TrodAll enc Try.prog W 0 (fun _ => true) true Try.f3.params.toList args.toList ds p := hA0
  rw [Try.params3] at hA hval
  obtain ⟨v0, vs0, d0, ds0, p0, q0, hargs, rfl, rfl, h0, r0⟩ := trodAll_cons hA
  obtain ⟨v1, vs1, d1, ds1, p1, q1, rfl, rfl, rfl, h1, r1⟩ := trodAll_cons r0
  obtain ⟨v2, vs2, d2, ds2, p2, q2, rfl, rfl, rfl, h2, r2⟩ := trodAll_cons r1
  obtain ⟨v3, vs3, d3, ds3, p3, q3, rfl, rfl, rfl, h3, r3⟩ := trodAll_cons r2
  obtain ⟨v4, vs4, d4, ds4, p4, q4, rfl, rfl, rfl, h4, r4⟩ := trodAll_cons r3
  obtain ⟨rfl, rfl, rfl⟩ := trodAll_nil r4
  obtain rfl : args = #[v0, v1, v2, v3, v4] := by cases args; simp_all
  obtain ⟨rfl, rfl⟩ := trodVars_none hV
  obtain ⟨a0, len0, cap0, rfl⟩ := okWide_slice Try.underlying22 (hval 0 22 v0 rfl rfl)
  have k0 := h0
  have lt0 : ∀ x ∈ p0, x.block < W.heap.size := by obtain ⟨m, hm⟩ := k0; exact DataW.trod_lt m _ _ _ hm
  obtain ⟨z0, w0⟩ : ∃ zs, IsRow .i64 W a0 len0 cap0 zs := by
    obtain ⟨fuel, hf⟩ := h0
    rcases open_ints Try.underlying22 Try.underlying3 (by kernel_rfl) hf with ⟨hcs, _⟩ | ⟨x, l, c, zs, hcs, _, hl, hm, hz, _, hcell, hwz⟩
    · simp [Value.cells] at hcs
      obtain ⟨rfl, rfl, rfl⟩ := hcs
      exact ⟨[], .inl ⟨rfl, rfl, rfl, rfl⟩⟩
    · simp [Value.cells] at hcs
      obtain ⟨rfl, rfl, rfl⟩ := hcs
      exact ⟨zs, .inr ⟨_, rfl, hl, hm, by simpa using hz, hcell, hwz⟩⟩
  obtain ⟨a1, len1, cap1, rfl⟩ := okWide_slice Try.underlying23 (hval 1 23 v1 rfl rfl)
  have k1 := h1
  have lt1 : ∀ x ∈ p1, x.block < W.heap.size := by obtain ⟨m, hm⟩ := k1; exact DataW.trod_lt m _ _ _ hm
  obtain ⟨ms, hlen1, hr1⟩ : ∃ ps : List Row, len1 = ps.length ∧ RowsI W (.slice a1 ps.length cap1) ps := by
    obtain ⟨fuel, hf⟩ := h1
    rcases open_int_rows Try.underlying23 Try.underlying22 Try.underlying3 (by kernel_rfl) (by kernel_rfl) hf with ⟨hcs, _⟩ | ⟨x, l, c, A, L, C, Z, hcs, _, hl, hm, _, hx⟩
    · simp [Value.cells] at hcs
      obtain ⟨rfl, rfl, rfl⟩ := hcs
      exact ⟨[], rfl, (rowsP_nil' W).toI⟩
    · simp [Value.cells] at hcs
      obtain ⟨rfl, rfl, rfl⟩ := hcs
      exact irows_in hl hm hx
  subst hlen1
  obtain ⟨a2, len2, cap2, rfl⟩ := okWide_slice Try.underlying22 (hval 2 22 v2 rfl rfl)
  have k2 := h2
  have b2 : ∀ x, a2 = some x → x.block < W.heap.size := fun x hx => okWide_slice_lt Try.underlying22 (by subst hx; exact hval 2 22 _ rfl rfl)
  have lt2 : ∀ x ∈ p2, x.block < W.heap.size := by obtain ⟨m, hm⟩ := k2; exact DataW.trod_lt m _ _ _ hm
  obtain ⟨z2, w2⟩ : ∃ zs, IsRow .i64 W a2 len2 cap2 zs := by
    obtain ⟨fuel, hf⟩ := h2
    rcases open_ints Try.underlying22 Try.underlying3 (by kernel_rfl) hf with ⟨hcs, _⟩ | ⟨x, l, c, zs, hcs, _, hl, hm, hz, _, hcell, hwz⟩
    · simp [Value.cells] at hcs
      obtain ⟨rfl, rfl, rfl⟩ := hcs
      exact ⟨[], .inl ⟨rfl, rfl, rfl, rfl⟩⟩
    · simp [Value.cells] at hcs
      obtain ⟨rfl, rfl, rfl⟩ := hcs
      exact ⟨zs, .inr ⟨_, rfl, hl, hm, by simpa using hz, hcell, hwz⟩⟩
  obtain ⟨a3, len3, cap3, rfl⟩ := okWide_slice Try.underlying22 (hval 3 22 v3 rfl rfl)
  have k3 := h3
  have b3 : ∀ x, a3 = some x → x.block < W.heap.size := fun x hx => okWide_slice_lt Try.underlying22 (by subst hx; exact hval 3 22 _ rfl rfl)
  have lt3 : ∀ x ∈ p3, x.block < W.heap.size := by obtain ⟨m, hm⟩ := k3; exact DataW.trod_lt m _ _ _ hm
  obtain ⟨z3, w3⟩ : ∃ zs, IsRow .i64 W a3 len3 cap3 zs := by
    obtain ⟨fuel, hf⟩ := h3
    rcases open_ints Try.underlying22 Try.underlying3 (by kernel_rfl) hf with ⟨hcs, _⟩ | ⟨x, l, c, zs, hcs, _, hl, hm, hz, _, hcell, hwz⟩
    · simp [Value.cells] at hcs
      obtain ⟨rfl, rfl, rfl⟩ := hcs
      exact ⟨[], .inl ⟨rfl, rfl, rfl, rfl⟩⟩
    · simp [Value.cells] at hcs
      obtain ⟨rfl, rfl, rfl⟩ := hcs
      exact ⟨zs, .inr ⟨_, rfl, hl, hm, by simpa using hz, hcell, hwz⟩⟩
  obtain ⟨a4, rfl, rfl, rfl, w4⟩ := open_int Try.underlying3 (hval 4 3 v4 rfl rfl) h4
  clear hA0 hval0
  refine (walkHilbertExact a0 len0 cap0 z0 W w0 a1 cap1 ms hr1 a2 len2 cap2 z2 ⟨w2, b2⟩ a3 len3 cap3 z3 ⟨w3, b3⟩ a4).mono fun e W' ⟨he, bel⟩ => ?_
  subst he
  exact ⟨_, rfl, _, _, _, [], _, [], hW', trodAll_mk1 (shut_bool Try.underlying4 _), (trodAll_cons_mk (Below.trod laidOut (by kernel_rfl) (of_decide_eq_true (by kernel_rfl)) k0 bel lt0) (trodAll_cons_mk (Below.trod laidOut (by kernel_rfl) (of_decide_eq_true (by kernel_rfl)) k1 bel lt1) (trodAll_cons_mk (Below.trod laidOut (by kernel_rfl) (of_decide_eq_true (by kernel_rfl)) k2 bel lt2) (trodAll_cons_mk (Below.trod laidOut (by kernel_rfl) (of_decide_eq_true (by kernel_rfl)) k3 bel lt3) (trodAll_cons_mk (shut_int Try.underlying3 w4) trodAll_mk0))))), rfl, bel.frame _, fun h => by cases h⟩

theorem hilbertExact_holds : Rows.HilbertExactSaid :=
  OpenClaim.holds_of_wide 3 Try.f3 rfl rfl rfl rfl rfl rfl rfl ⟨rfl, rfl, rfl, rfl, rfl⟩ rfl rfl rfl rfl rfl (by kernel_rfl) Try.func3 (by kernel_rfl)
    (of_decide_eq_true (by kernel_rfl)) (by unfold Func.isWrapper; first | (rw [if_pos (by decide +kernel)]; kernel_rfl) | (rw [if_neg (by decide +kernel)]; exact ⟨rfl, rfl⟩))
    (fun os started H enc _ => liftedHilbertExact os started H enc)
#print axioms hilbertExact_holds
end Go.Proofs.Ytgcfafjgaifmiaa
