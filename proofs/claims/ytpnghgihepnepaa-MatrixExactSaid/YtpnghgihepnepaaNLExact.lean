/- MatrixExact: for every input it answers true. -/
import Derived.Test.YtpnghgihepnepaaCd
import Derived.Test.YtpnghgihepnepaaNl
import Derived.Deep.Matrix
namespace Go.Proofs.Ytpnghgihepnepaa
open Go.ChangeShapes Go.WideShapes Go.ChangeAt Go.RowKit Go.Deep
set_option linter.unusedVariables false

theorem okWide_slice_lt {P : Program} {w : World} {r : Reach} {base : Nat} {t e : TypeId} {a : Addr} {len cap : Nat} (ht : P.underlying t = some (.slice e)) (h : Value.okWide P w r base t (.slice (some a) len cap)) : a.block < w.heap.size := by
  simp only [Value.okWide, ht, Cell.okWide, Cell.ok] at h
  obtain ⟨-, -, -, -, row, cells, hs, -⟩ := h
  unfold World.shape? at hs
  rcases Nat.lt_or_ge a.block w.heap.size with h1 | h1
  · exact h1
  · rw [Array.getElem?_eq_none h1] at hs; simp at hs
/-- The five pairs in their block: both matrices of each. -/
def Fives (w : World) (d B : Nat) : Prop := ∀ k, k < 5 → ∃ a n c m a' n' c' m', w.cell? ⟨B, k * 2, none⟩ = some (.slice a n c) ∧ w.cell? ⟨B, k * 2 + 1, none⟩ = some (.slice a' n' c') ∧ RowsX w d (.slice a n c) m ∧ RowsX w d (.slice a' n' c') m' ∧ n = m.length ∧ n' = m'.length ∧ d < B
theorem Fives.kept {w w' : World} {d B : Nat} {row : Option Nat} (h : Fives w d B) (g : w.grownBy w' row) (hr : row = none ∨ row = some d) : Fives w' d B := by
  intro k hk
  obtain ⟨a, n, c, m, a', n', c', m', h1, h2, h3, h4, h5, h6, h7⟩ := h k hk
  have hn : ∀ g : Nat, g = B → some g ≠ row := fun g e => by
    rcases hr with hr | hr <;> rw [hr] <;> simp
    omega
  exact ⟨a, n, c, m, a', n', c', m', g.cell h1 (hn _ rfl), g.cell h2 (hn _ rfl), h3.kept g hr, h4.kept g hr, h5, h6, h7⟩
theorem Fives.same {w w' : World} {d B : Nat} (h : Fives w d B) (g : w.grownBy w' none) : Fives w' d B := h.kept g (.inl rfl)
theorem Fives.deal {w w' : World} {d B : Nat} (h : Fives w d B) (g : w.grownBy w' (some d)) : Fives w' d B := h.kept g (.inr rfl)

set_option maxRecDepth 100000 in
set_option maxHeartbeats 8000000 in
theorem walkMatrixExact (a0 : Option Addr) (len0 cap0 : Nat) (z0 : List Int) (w : World) (w0 : IsRow .i64 w a0 len0 cap0 z0) (aa : Option Addr) (ca : Nat) (ms : List Row) (hra : RowsI w (.slice aa ms.length ca) ms) (ab : Option Addr) (cb : Nat) (bs : List Row) (hrb : RowsI w (.slice ab bs.length cb) bs)
    (av : Option Addr) (cv : Nat) (xs : List Int) (hm : Ints w (.slice av xs.length cv) xs) (hmb : ∀ k, (Value.slice av xs.length cv).ownBlock = some k → k < w.heap.size) :
    Calls Try.prog 3 #[.slice a0 len0 cap0, .slice aa ms.length ca, .slice ab bs.length cb, .slice av xs.length cv] w fun e w' => e = .returned (.bool true) ∧ Below w.heap.size w w' := by
  obtain ⟨hI, hlen⟩ := w0.ints
  generalize z0.take len0 = zs at hI hlen
  subst hlen
  have HI := Lib.hid hI; have HRA := Lib.hid hra; have HRB := Lib.hid hrb; have HMI := Lib.hid hm; have HMB := Lib.hid hmb
  clear hI w0 hra hrb hm hmb
  by_cases hfew : (zs.length : Int) ≤ 400
  case neg =>
    go_enter Try.func3, Try.ntmps3
    go_wp2_with fail
    refine (awake10_any _).mono ?_
    rintro e w1 ⟨rfl, hg⟩
    have HG := Lib.hid hg
    clear hg
    go_wp2_with fail
    refine (few_any _ _ _ _).mono ?_
    rintro e w2 ⟨rfl, rfl⟩
    rw [decide_eq_false (by omega)]
    go_wp2_with fail
    refine (awake10_any _).mono ?_
    rintro e w9 ⟨rfl, hg⟩
    have HGX := Lib.hid (grown_trans HG.out hg)
    clear hg
    go_wp2_with fail
    go_ret
    exact ⟨rfl, below_of HGX.out⟩
  go_enter Try.func3, Try.ntmps3
  go_wp2_with fail
  refine (awake10_any _).mono ?_
  rintro e w1 ⟨rfl, hg⟩
  have HG := Lib.hid hg
  clear hg
  go_wp2_with fail
  refine (few_any _ _ _ _).mono ?_
  rintro e w2 ⟨rfl, rfl⟩
  rw [decide_eq_true hfew]
  go_wp2_with fail
  refine (narrow_any _ ms _ (HRA.out.same HG.out)).mono ?_
  rintro e w2 ⟨⟨B1, rfl⟩, rfl⟩
  cases B1 with
  | false =>
    go_wp2_with fail
    refine (awake10_any _).mono ?_
    rintro e w9 ⟨rfl, hg⟩
    have HGX := Lib.hid (grown_trans HG.out hg)
    clear hg
    go_wp2_with fail
    go_ret
    exact ⟨rfl, below_of HGX.out⟩
  | true =>
  go_wp2_with fail
  refine (narrow_any _ bs _ (HRB.out.same HG.out)).mono ?_
  rintro e w2 ⟨⟨B2, rfl⟩, rfl⟩
  cases B2 with
  | false =>
    go_wp2_with fail
    refine (awake10_any _).mono ?_
    rintro e w9 ⟨rfl, hg⟩
    have HGX := Lib.hid (grown_trans HG.out hg)
    clear hg
    go_wp2_with fail
    go_ret
    exact ⟨rfl, below_of HGX.out⟩
  | true =>
  by_cases hx20 : (20 : Int) < (xs.length : Int)
  ·
    go_wp2_with fail
    refine (awake10_any _).mono ?_
    rintro e w9 ⟨rfl, hg⟩
    have HGX := Lib.hid (grown_trans HG.out hg)
    clear hg
    go_wp2_with fail
    go_ret
    exact ⟨rfl, below_of HGX.out⟩
  go_wp2_with fail
  refine (new_st (HI.out.same HG.out) HG.out).mono ?_
  rintro e w3 ⟨p, d, rfl, hs⟩
  have HS := Lib.hid hs
  have XA := Lib.hid (HRA.out.x hs); have XB := Lib.hid (HRB.out.x hs)
  have XV : Hid (IntX w3 d (.slice av xs.length cv) xs) := Lib.hid ⟨HMI.out.same hs.2.1, fun e => by have := HMB.out d e; have := hs.2.2; omega⟩
  clear hs HG HI hx20
  go_wp2_with fail
  refine (next_st HS.out _ (by omega) (by omega)).mono ?_
  rintro e w4 ⟨y, rfl, hy0, hy1, hs, hg⟩
  replace XA := Lib.hid (XA.out.deal hg); replace XB := Lib.hid (XB.out.deal hg); replace XV := Lib.hid (XV.out.deal hg)
  replace HS := Lib.hid hs
  clear hs hg
  obtain ⟨r, hr⟩ : ∃ r : Nat, 1 + y = (r : Int) := ⟨(1 + y).toNat, by omega⟩
  have hr1 : 1 ≤ r := by omega
  have hr2 : r ≤ 6 := by omega
  have ir : IntKind.i64.wrap (1 + y) = (r : Int) := by rw [hr]; exact IntWalk.i64_in _ (by omega)
  clear hr hy0 hy1
  go_wp2_with fail
  refine (next_st HS.out _ (by omega) (by omega)).mono ?_
  rintro e w4 ⟨y, rfl, hy0, hy1, hs, hg⟩
  replace XA := Lib.hid (XA.out.deal hg); replace XB := Lib.hid (XB.out.deal hg); replace XV := Lib.hid (XV.out.deal hg)
  replace HS := Lib.hid hs
  clear hs hg
  obtain ⟨c, hc⟩ : ∃ r : Nat, 1 + y = (r : Int) := ⟨(1 + y).toNat, by omega⟩
  have hc1 : 1 ≤ c := by omega
  have hc2 : c ≤ 12 := by omega
  have ic : IntKind.i64.wrap (1 + y) = (c : Int) := by rw [hc]; exact IntWalk.i64_in _ (by omega)
  clear hc hy0 hy1
  go_wp2_with fail
  refine (matrix_st HS.out r c (by omega) (by omega)).mono ?_
  rintro e w6 ⟨v1, m1, rfl, -, -, hM, hs, hg⟩
  replace XA := Lib.hid (XA.out.deal hg); replace XB := Lib.hid (XB.out.deal hg); replace XV := Lib.hid (XV.out.deal hg)
  have X1 := Lib.hid (MatD.mk HS.out hM).rowsX
  replace HS := Lib.hid hs
  obtain ⟨a1, cp1, rfl⟩ := X1.out.slice
  clear hM hs hg
  go_wp2_with fail
  refine (next_st HS.out _ (by omega) (by omega)).mono ?_
  rintro e w4 ⟨y, rfl, hy0, hy1, hs, hg⟩
  replace XA := Lib.hid (XA.out.deal hg); replace XB := Lib.hid (XB.out.deal hg); replace XV := Lib.hid (XV.out.deal hg); replace X1 := Lib.hid (X1.out.deal hg)
  replace HS := Lib.hid hs
  clear hs hg
  obtain ⟨s, hs⟩ : ∃ r : Nat, 1 + y = (r : Int) := ⟨(1 + y).toNat, by omega⟩
  have hs1 : 1 ≤ s := by omega
  have hs2 : s ≤ 6 := by omega
  have is : IntKind.i64.wrap (1 + y) = (s : Int) := by rw [hs]; exact IntWalk.i64_in _ (by omega)
  clear hs hy0 hy1
  go_wp2_with fail
  refine (matrix_st HS.out c s (by omega) (by omega)).mono ?_
  rintro e w6 ⟨v2, m2, rfl, -, -, hM, hs, hg⟩
  replace XA := Lib.hid (XA.out.deal hg); replace XB := Lib.hid (XB.out.deal hg); replace XV := Lib.hid (XV.out.deal hg); replace X1 := Lib.hid (X1.out.deal hg)
  have X2 := Lib.hid (MatD.mk HS.out hM).rowsX
  replace HS := Lib.hid hs
  obtain ⟨a2, cp2, rfl⟩ := X2.out.slice
  clear hM hs hg
  go_wp2_with fail
  refine (matrix_st HS.out c r (by omega) (by omega)).mono ?_
  rintro e w6 ⟨v3, m3, rfl, -, -, hM, hs, hg⟩
  replace XA := Lib.hid (XA.out.deal hg); replace XB := Lib.hid (XB.out.deal hg); replace XV := Lib.hid (XV.out.deal hg); replace X1 := Lib.hid (X1.out.deal hg); replace X2 := Lib.hid (X2.out.deal hg)
  have X3 := Lib.hid (MatD.mk HS.out hM).rowsX
  replace HS := Lib.hid hs
  obtain ⟨a3, cp3, rfl⟩ := X3.out.slice
  clear hM hs hg
  go_wp2_with fail
  refine (matrix_st HS.out 7 7 (by omega) (by omega)).mono ?_
  rintro e w6 ⟨v4, m4, rfl, -, -, hM, hs, hg⟩
  replace XA := Lib.hid (XA.out.deal hg); replace XB := Lib.hid (XB.out.deal hg); replace XV := Lib.hid (XV.out.deal hg); replace X1 := Lib.hid (X1.out.deal hg); replace X2 := Lib.hid (X2.out.deal hg); replace X3 := Lib.hid (X3.out.deal hg)
  have X4 := Lib.hid (MatD.mk HS.out hM).rowsX
  replace HS := Lib.hid hs
  obtain ⟨a4, cp4, rfl⟩ := X4.out.slice
  clear hM hs hg
  go_wp2_with fail
  have HBN := heap_new (w := w6) (g := w6.heap.size) (.cells #[.slice aa ms.length ca, .slice ab bs.length cb, .slice a1 m1.length cp1, .slice a2 m2.length cp2, .slice a3 m3.length cp3, .slice a1 m1.length cp1, .slice a1 m1.length cp1, .slice aa ms.length ca, .slice a4 m4.length cp4, .slice a1 m1.length cp1] 31) rfl
  have hg := World.grownBy_alloc w6 (.cells #[.slice aa ms.length ca, .slice ab bs.length cb, .slice a1 m1.length cp1, .slice a2 m2.length cp2, .slice a3 m3.length cp3, .slice a1 m1.length cp1, .slice a1 m1.length cp1, .slice aa ms.length ca, .slice a4 m4.length cp4, .slice a1 m1.length cp1] 31) none
  obtain ⟨BB, hBB⟩ : ∃ BB, w6.heap.size = BB := ⟨_, rfl⟩
  have hdB : d < BB := by rw [← hBB]; exact HS.out.lt
  rw [hBB] at HBN ⊢
  generalize w6.alloc (.cells #[.slice aa ms.length ca, .slice ab bs.length cb, .slice a1 m1.length cp1, .slice a2 m2.length cp2, .slice a3 m3.length cp3, .slice a1 m1.length cp1, .slice a1 m1.length cp1, .slice aa ms.length ca, .slice a4 m4.length cp4, .slice a1 m1.length cp1] 31) = WB at *
  have HF : Hid (Fives WB d BB) := Lib.hid (by
    intro k hk
    obtain rfl | rfl | rfl | rfl | rfl : k = 0 ∨ k = 1 ∨ k = 2 ∨ k = 3 ∨ k = 4 := by omega
    · exact ⟨_, _, _, _, _, _, _, _, by unfold World.cell?; dsimp only; rw [HBN]; rfl, by unfold World.cell?; dsimp only; rw [HBN]; rfl, XA.out.same hg, XB.out.same hg, rfl, rfl, hdB⟩
    · exact ⟨_, _, _, _, _, _, _, _, by unfold World.cell?; dsimp only; rw [HBN]; rfl, by unfold World.cell?; dsimp only; rw [HBN]; rfl, X1.out.same hg, X2.out.same hg, rfl, rfl, hdB⟩
    · exact ⟨_, _, _, _, _, _, _, _, by unfold World.cell?; dsimp only; rw [HBN]; rfl, by unfold World.cell?; dsimp only; rw [HBN]; rfl, X3.out.same hg, X1.out.same hg, rfl, rfl, hdB⟩
    · exact ⟨_, _, _, _, _, _, _, _, by unfold World.cell?; dsimp only; rw [HBN]; rfl, by unfold World.cell?; dsimp only; rw [HBN]; rfl, X1.out.same hg, XA.out.same hg, rfl, rfl, hdB⟩
    · exact ⟨_, _, _, _, _, _, _, _, by unfold World.cell?; dsimp only; rw [HBN]; rfl, by unfold World.cell?; dsimp only; rw [HBN]; rfl, X4.out.same hg, X1.out.same hg, rfl, rfl, hdB⟩)
  replace XV := Lib.hid (XV.out.same hg); replace HS := Lib.hid (HS.out.step hg)
  clear HBN hg XA XB X1 X2 X3 X4 hdB ir ic is
  go_loopw [92] (fun i wr => ∃ k : Nat, i = .int .i64 k ∧ k ≤ 5 ∧ Hid (Fives wr d BB) ∧ Hid (IntX wr d (.slice av xs.length cv) xs) ∧ Hid (St w wr p d)) (fun i _ => 5 - (intOf i).toNat)
  case atStart => exact ⟨0, rfl, Nat.zero_le _, HF, XV, HS⟩
  case round =>
    clear HF XV HS
    obtain ⟨k, rfl, hk, HF, XV, HS⟩ := hrel
    rename World => wk
    by_cases hk5 : k < 5
    · have h2 : (k : Int) < 5 := by omega
      have i1 : IntKind.i64.wrap ((k : Int) + 1) = (k : Int) + 1 := IntWalk.i64_in _ (by omega)
      obtain ⟨am, nm, cm, mt, ao, no, co, ot, hc0, hc1, hM, hO, hmn, hon, -⟩ := HF.out k hk5
      subst hmn hon
      have XM := Lib.hid hM; have XO := Lib.hid hO
      clear hM hO
      go_wp2_with fail
      clear hc0 hc1
      generalize hwb : World.alloc _ _ = wb
      have B2 : Hid (wb.cell? ⟨wk.heap.size, 0, none⟩ = some (.slice am mt.length cm) ∧ wb.cell? ⟨wk.heap.size, 1, none⟩ = some (.slice ao ot.length co)) := Lib.hid (by
        rw [← hwb]
        exact ⟨by rw [World.cell?, heap_new _ rfl]; rfl, by rw [World.cell?, heap_new _ rfl]; rfl⟩)
      have hg : wk.grownBy wb none := by rw [← hwb]; exact World.grownBy_alloc _ _ none
      replace XM := Lib.hid (XM.out.same hg); replace XO := Lib.hid (XO.out.same hg); replace XV := Lib.hid (XV.out.same hg); replace HS := Lib.hid (HS.out.step hg); replace HF := Lib.hid (HF.out.same hg)
      have c0 := B2.out.1; have c1 := B2.out.2
      clear hwb hg B2
      go_big_quiet (fail)
      clear c0 c1
      have hg := grown_drewN wb nq none
      replace XM := Lib.hid (XM.out.same hg); replace XO := Lib.hid (XO.out.same hg); replace XV := Lib.hid (XV.out.same hg); replace HS := Lib.hid (HS.out.step hg); replace HF := Lib.hid (HF.out.same hg)
      generalize wb.drewN nq = w10 at *
      clear hg
      obtain ⟨ec, hP, hR⟩ := check_u mt
      have HPC := Lib.hid hP; have HRC := Lib.hid hR
      clear hP hR
      go_wp2_with fail
      refine (HPC.out _ _ XM.out.1).mono ?_
      rintro e w20 ⟨rfl, hg⟩
      replace XM := Lib.hid (XM.out.same hg); replace XO := Lib.hid (XO.out.same hg); replace XV := Lib.hid (XV.out.same hg); replace HS := Lib.hid (HS.out.step hg); replace HF := Lib.hid (HF.out.same hg)
      clear hg
      go_wp2_with fail
      refine (HRC.out _ _ XM.out.1).mono ?_
      rintro e w21 ⟨rfl, hg⟩
      replace XM := Lib.hid (XM.out.same hg); replace XO := Lib.hid (XO.out.same hg); replace XV := Lib.hid (XV.out.same hg); replace HS := Lib.hid (HS.out.step hg); replace HF := Lib.hid (HF.out.same hg)
      clear hg HPC HRC
      have e1 : (ec != ec) = false := by simp
      obtain ⟨rs1, er1, hP, hR⟩ := transpose_u mt
      have HPC := Lib.hid hP; have HRC := Lib.hid hR
      clear hP hR
      go_wp2_with fail
      refine (HPC.out _ _ XM.out.1).mono ?_
      rintro e w20 ⟨y1, q1, rfl, h1, h2, hg⟩
      have R1 := Lib.hid h1; have E1 := Lib.hid h2
      replace XM := Lib.hid (XM.out.same hg); replace XO := Lib.hid (XO.out.same hg); replace XV := Lib.hid (XV.out.same hg); replace HS := Lib.hid (HS.out.step hg); replace HF := Lib.hid (HF.out.same hg)
      clear h1 h2 hg
      go_wp2_with fail
      refine (HRC.out _ _ XM.out.1).mono ?_
      rintro e w21 ⟨y2, q2, rfl, h1, h2, hg⟩
      have R2 := Lib.hid h1; have E2 := Lib.hid h2; replace R1 := Lib.hid (R1.out.same hg)
      replace XM := Lib.hid (XM.out.same hg); replace XO := Lib.hid (XO.out.same hg); replace XV := Lib.hid (XV.out.same hg); replace HS := Lib.hid (HS.out.step hg); replace HF := Lib.hid (HF.out.same hg)
      clear h1 h2 hg
      have e1 : (er1 != er1) = false := by simp
      go_wp2_with fail
      refine (sameall_any _ _ _ _ _ R1.out R2.out).mono ?_
      rintro e w22 ⟨rfl, hd⟩
      have hg := hd.grown none
      have e4 : (q1.map Prod.snd == q2.map Prod.snd) = true := by rw [E1.out, E2.out]; simp
      rw [e4]
      replace XM := Lib.hid (XM.out.same hg); replace XO := Lib.hid (XO.out.same hg); replace XV := Lib.hid (XV.out.same hg); replace HS := Lib.hid (HS.out.step hg); replace HF := Lib.hid (HF.out.same hg)
      clear hd hg e4 R1 R2 E1 E2 HPC HRC e1
      obtain ⟨rs2, er2, hP, hR⟩ := multiply_u mt ot
      have HPC := Lib.hid hP; have HRC := Lib.hid hR
      clear hP hR
      go_wp2_with fail
      refine (HPC.out _ _ _ XM.out.1 XO.out.1).mono ?_
      rintro e w20 ⟨y1, q1, rfl, h1, h2, hg⟩
      have R1 := Lib.hid h1; have E1 := Lib.hid h2
      replace XM := Lib.hid (XM.out.same hg); replace XO := Lib.hid (XO.out.same hg); replace XV := Lib.hid (XV.out.same hg); replace HS := Lib.hid (HS.out.step hg); replace HF := Lib.hid (HF.out.same hg)
      clear h1 h2 hg
      go_wp2_with fail
      refine (HRC.out _ _ _ XM.out.1 XO.out.1).mono ?_
      rintro e w21 ⟨y2, q2, rfl, h1, h2, hg⟩
      have R2 := Lib.hid h1; have E2 := Lib.hid h2; replace R1 := Lib.hid (R1.out.same hg)
      replace XM := Lib.hid (XM.out.same hg); replace XO := Lib.hid (XO.out.same hg); replace XV := Lib.hid (XV.out.same hg); replace HS := Lib.hid (HS.out.step hg); replace HF := Lib.hid (HF.out.same hg)
      clear h1 h2 hg
      have e1 : (er2 != er2) = false := by simp
      go_wp2_with fail
      refine (sameall_any _ _ _ _ _ R1.out R2.out).mono ?_
      rintro e w22 ⟨rfl, hd⟩
      have hg := hd.grown none
      have e4 : (q1.map Prod.snd == q2.map Prod.snd) = true := by rw [E1.out, E2.out]; simp
      rw [e4]
      replace XM := Lib.hid (XM.out.same hg); replace XO := Lib.hid (XO.out.same hg); replace XV := Lib.hid (XV.out.same hg); replace HS := Lib.hid (HS.out.step hg); replace HF := Lib.hid (HF.out.same hg)
      clear hd hg e4 R1 R2 E1 E2 HPC HRC e1
      obtain ⟨rs3, er3, hP, hR⟩ := kernel_u mt
      have HPC := Lib.hid hP; have HRC := Lib.hid hR
      clear hP hR
      go_wp2_with fail
      refine (HPC.out _ _ XM.out.1).mono ?_
      rintro e w20 ⟨y1, q1, rfl, h1, h2, hg⟩
      have R1 := Lib.hid h1; have E1 := Lib.hid h2
      replace XM := Lib.hid (XM.out.same hg); replace XO := Lib.hid (XO.out.same hg); replace XV := Lib.hid (XV.out.same hg); replace HS := Lib.hid (HS.out.step hg); replace HF := Lib.hid (HF.out.same hg)
      clear h1 h2 hg
      go_wp2_with fail
      refine (HRC.out _ _ XM.out.1).mono ?_
      rintro e w21 ⟨y2, q2, rfl, h1, h2, hg⟩
      have R2 := Lib.hid h1; have E2 := Lib.hid h2; replace R1 := Lib.hid (R1.out.same hg)
      replace XM := Lib.hid (XM.out.same hg); replace XO := Lib.hid (XO.out.same hg); replace XV := Lib.hid (XV.out.same hg); replace HS := Lib.hid (HS.out.step hg); replace HF := Lib.hid (HF.out.same hg)
      clear h1 h2 hg
      have e1 : (er3 != er3) = false := by simp
      go_wp2_with fail
      refine (sameall_any _ _ _ _ _ R1.out R2.out).mono ?_
      rintro e w22 ⟨rfl, hd⟩
      have hg := hd.grown none
      have e4 : (q1.map Prod.snd == q2.map Prod.snd) = true := by rw [E1.out, E2.out]; simp
      rw [e4]
      replace XM := Lib.hid (XM.out.same hg); replace XO := Lib.hid (XO.out.same hg); replace XV := Lib.hid (XV.out.same hg); replace HS := Lib.hid (HS.out.step hg); replace HF := Lib.hid (HF.out.same hg)
      clear hd hg e4 R1 R2 E1 E2 HPC HRC e1
      obtain ⟨nk, ek, hP, hR⟩ := rank_u mt
      have HPC := Lib.hid hP; have HRC := Lib.hid hR
      clear hP hR
      go_wp2_with fail
      refine (HPC.out _ _ XM.out.1).mono ?_
      rintro e w20 ⟨rfl, hg⟩
      replace XM := Lib.hid (XM.out.same hg); replace XO := Lib.hid (XO.out.same hg); replace XV := Lib.hid (XV.out.same hg); replace HS := Lib.hid (HS.out.step hg); replace HF := Lib.hid (HF.out.same hg)
      clear hg
      go_wp2_with fail
      refine (HRC.out _ _ XM.out.1).mono ?_
      rintro e w21 ⟨rfl, hg⟩
      replace XM := Lib.hid (XM.out.same hg); replace XO := Lib.hid (XO.out.same hg); replace XV := Lib.hid (XV.out.same hg); replace HS := Lib.hid (HS.out.step hg); replace HF := Lib.hid (HF.out.same hg)
      clear hg HPC HRC
      have e2 : (nk != nk) = false := by simp
      have e3 : (ek != ek) = false := by simp
      go_wp2_with fail
      refine (small_st HS.out (c : Int) 9 (by omega) (by omega) (by omega)).mono ?_
      rintro e w22 ⟨vs, us, rfl, -, -, hv, hs, hg⟩
      replace XM := Lib.hid (XM.out.deal hg); replace XO := Lib.hid (XO.out.deal hg); replace XV := Lib.hid (XV.out.deal hg); replace HF := Lib.hid (HF.out.deal hg)
      have XS := Lib.hid hv.x
      replace HS := Lib.hid hs
      obtain ⟨au, cu, rfl, -⟩ := hv.slice
      clear hv hs hg e1 e2 e3
      go_wp2_with fail
      generalize hwb : World.alloc _ _ = W5
      have hg : w22.grownBy W5 none := by rw [← hwb]; exact World.grownBy_alloc _ _ none
      have HV : Hid (∀ j, j < 2 → ∃ a c us', W5.cell? ⟨w22.heap.size, j, none⟩ = some (.slice a (List.length us') c) ∧ IntX W5 d (.slice a (List.length us') c) us') := Lib.hid (by
        intro j hj
        obtain rfl | rfl : j = 0 ∨ j = 1 := by omega
        · exact ⟨_, _, xs, by rw [← hwb, World.cell?, heap_new _ rfl]; rfl, XV.out.same hg⟩
        · exact ⟨_, _, us, by rw [← hwb, World.cell?, heap_new _ rfl]; rfl, XS.out.same hg⟩)
      replace XM := Lib.hid (XM.out.same hg); replace XO := Lib.hid (XO.out.same hg); replace XV := Lib.hid (XV.out.same hg); replace HS := Lib.hid (HS.out.step hg); replace HF := Lib.hid (HF.out.same hg)
      have HG5 := Lib.hid (grown_refl W5 none)
      clear hwb hg XS
      go_loopw [188] (fun i wr => ∃ j : Nat, i = .int .i64 j ∧ j ≤ 2 ∧ Hid (W5.grownBy wr none)) (fun i _ => 2 - (intOf i).toNat)
      case atStart => exact ⟨0, rfl, Nat.zero_le _, HG5⟩
      case round =>
        clear HG5
        obtain ⟨j, rfl, hj, HG5⟩ := hrel
        rename World => wt
        by_cases hj2 : j < 2
        · have h3 : (j : Int) < 2 := by omega
          have i2 : IntKind.i64.wrap ((j : Int) + 1) = (j : Int) + 1 := IntWalk.i64_in _ (by omega)
          obtain ⟨a9, c9, us', hc9, hx9⟩ := HV.out j hj2
          have hc := HG5.out.cell hc9 (by simp)
          have X9 := Lib.hid (hx9.same HG5.out)
          obtain ⟨zs', er9, hP, hR⟩ := apply_u mt us'
          have HPC := Lib.hid hP; have HRC := Lib.hid hR
          clear hP hR hc9 hx9
          go_wp2_with fail
          refine (HPC.out _ _ _ (XM.out.same HG5.out).1 X9.out.1).mono ?_
          rintro e w30 ⟨y1, rfl, h1, hg⟩
          have R1 := Lib.hid h1; have G30 := Lib.hid (grown_trans HG5.out hg); replace X9 := Lib.hid (X9.out.same hg)
          clear h1 hg hc
          go_wp2_with fail
          refine (HRC.out _ _ _ (XM.out.same G30.out).1 X9.out.1).mono ?_
          rintro e w31 ⟨y2, rfl, h1, hg⟩
          have R2 := Lib.hid h1; replace R1 := Lib.hid (R1.out.same hg); have G31 := Lib.hid (grown_trans G30.out hg)
          clear h1 hg
          have e1 : (er9 != er9) = false := by simp
          go_wp2_with fail
          refine (same_any _ _ _ _ _ R1.out R2.out).mono ?_
          rintro e w32 ⟨rfl, hd⟩
          have G32 := Lib.hid (grown_trans G31.out (hd.grown none))
          have e4 : (zs' == zs') = true := by simp
          rw [e4]
          clear hd e4 R1 R2
          go_wp2_with fail
          go_roundw
          case rel => exact ⟨j + 1, by go_num, by omega, G32⟩
          case measure => (simp [intOf]; try omega)
        · obtain rfl : j = 2 := by omega
          have h3 : ¬ (((2 : Nat) : Int)) < 2 := by omega
          replace XV := Lib.hid (XV.out.same HG5.out); replace HS := Lib.hid (HS.out.step HG5.out); replace HF := Lib.hid (HF.out.same HG5.out)
          go_wp2_with fail
          go_roundw
          case rel => exact ⟨k + 1, by go_num, by omega, HF, XV, HS⟩
          case measure => (simp [intOf]; try omega)
    · obtain rfl : k = 5 := by omega
      have h2 : ¬ (((5 : Nat) : Int)) < 5 := by omega
      go_wp2_with fail
      go_ret
      exact ⟨rfl, HS.out.below⟩


/-! ### MatrixExact: the statement, from its walk -/
set_option maxRecDepth 100000 in
theorem liftedMatrixExact (os : Os) (started : os.Started) (H : Type) (enc : TypeId × Value → H) :
    ReturnsInHanded {} Try.checked os 3 .any (Rows.matrixExactSpec.pre6 enc Try.prog Try.f3 Rows.matrixExactRow.domain false) (Rows.matrixExactSpec.post enc Try.prog Try.f3 false true false false) := by
  refine returnsInHanded_of_change (C := Try.checked) own started (by kernel_rfl) Try.func3
    (ChangeSpec.witness6 (enc := enc) (C := Try.checked) false ⟨#[], #[.slice none 0 0, .slice none 0 0, .slice none 0 0, .slice none 0 0], []⟩ 8 (by kernel_rfl) (by kernel_rfl) (by kernel_rfl) (by kernel_rfl)) ?_
  intro W base args ds gs before hval0 hW hcnd _
  have hval : ∀ (j : Nat) t v, Try.f3.params[j]? = some t → args[j]? = some v → Value.okWide Try.prog W .any base t v := hval0
  have hW' := hW
  obtain ⟨p, q, hA0, hV, rfl, hfz, hnd⟩ := hW
  have hA : DataW.TrodAll enc Try.prog W 0 (fun _ => true) true Try.f3.params.toList args.toList ds p := hA0
  rw [Try.params3] at hA hval
  obtain ⟨v0, vs0, d0, ds0, p0, q0, hargs, rfl, rfl, h0, r0⟩ := trodAll_cons hA
  obtain ⟨v1, vs1, d1, ds1, p1, q1, rfl, rfl, rfl, h1, r1⟩ := trodAll_cons r0
  obtain ⟨v2, vs2, d2, ds2, p2, q2, rfl, rfl, rfl, h2, r2⟩ := trodAll_cons r1
  obtain ⟨v3, vs3, d3, ds3, p3, q3, rfl, rfl, rfl, h3, r3⟩ := trodAll_cons r2
  obtain ⟨rfl, rfl, rfl⟩ := trodAll_nil r3
  obtain rfl : args = #[v0, v1, v2, v3] := by cases args; simp_all
  obtain ⟨rfl, rfl⟩ := trodVars_none hV
  obtain ⟨a0, len0, cap0, rfl⟩ := okWide_slice Try.underlying22 (hval 0 22 v0 rfl rfl)
  have k0 := h0
  have lt0 : ∀ x ∈ p0, x.block < W.heap.size := by obtain ⟨m, hm⟩ := k0; exact DataW.trod_lt m _ _ _ hm
  obtain ⟨z0, w0⟩ : ∃ zs, IsRow .i64 W a0 len0 cap0 zs := by
    obtain ⟨fuel, hf⟩ := h0
    rcases open_ints Try.underlying22 Try.underlying3 (by kernel_rfl) hf with ⟨hcs, _⟩ | ⟨x, l, c, zs, hcs, _, hl, hm, hz, _, hcell, hwz⟩
    · simp [Value.cells] at hcs
      obtain ⟨rfl, rfl, rfl⟩ := hcs
      exact ⟨[], .inl ⟨rfl, rfl, rfl, rfl⟩⟩
    · simp [Value.cells] at hcs
      obtain ⟨rfl, rfl, rfl⟩ := hcs
      exact ⟨zs, .inr ⟨_, rfl, hl, hm, by simpa using hz, hcell, hwz⟩⟩
  obtain ⟨a1, len1, cap1, rfl⟩ := okWide_slice Try.underlying23 (hval 1 23 v1 rfl rfl)
  have k1 := h1
  have lt1 : ∀ x ∈ p1, x.block < W.heap.size := by obtain ⟨m, hm⟩ := k1; exact DataW.trod_lt m _ _ _ hm
  obtain ⟨ms, hlen1, hr1⟩ : ∃ ps : List Row, len1 = ps.length ∧ RowsI W (.slice a1 ps.length cap1) ps := by
    obtain ⟨fuel, hf⟩ := h1
    rcases open_int_rows Try.underlying23 Try.underlying22 Try.underlying3 (by kernel_rfl) (by kernel_rfl) hf with ⟨hcs, _⟩ | ⟨x, l, c, A, L, C, Z, hcs, _, hl, hm, _, hx⟩
    · simp [Value.cells] at hcs
      obtain ⟨rfl, rfl, rfl⟩ := hcs
      exact ⟨[], rfl, (rowsP_nil W).toI⟩
    · simp [Value.cells] at hcs
      obtain ⟨rfl, rfl, rfl⟩ := hcs
      exact irows_in hl hm hx
  subst hlen1
  obtain ⟨a2, len2, cap2, rfl⟩ := okWide_slice Try.underlying23 (hval 2 23 v2 rfl rfl)
  have k2 := h2
  have lt2 : ∀ x ∈ p2, x.block < W.heap.size := by obtain ⟨m, hm⟩ := k2; exact DataW.trod_lt m _ _ _ hm
  obtain ⟨bs, hlen2, hr2⟩ : ∃ ps : List Row, len2 = ps.length ∧ RowsI W (.slice a2 ps.length cap2) ps := by
    obtain ⟨fuel, hf⟩ := h2
    rcases open_int_rows Try.underlying23 Try.underlying22 Try.underlying3 (by kernel_rfl) (by kernel_rfl) hf with ⟨hcs, _⟩ | ⟨x, l, c, A, L, C, Z, hcs, _, hl, hm, _, hx⟩
    · simp [Value.cells] at hcs
      obtain ⟨rfl, rfl, rfl⟩ := hcs
      exact ⟨[], rfl, (rowsP_nil W).toI⟩
    · simp [Value.cells] at hcs
      obtain ⟨rfl, rfl, rfl⟩ := hcs
      exact irows_in hl hm hx
  subst hlen2
  obtain ⟨a3, len3, cap3, rfl⟩ := okWide_slice Try.underlying22 (hval 3 22 v3 rfl rfl)
  have k3 := h3
  have b3 : ∀ x, a3 = some x → x.block < W.heap.size := fun x hx => okWide_slice_lt Try.underlying22 (by subst hx; exact hval 3 22 _ rfl rfl)
  have lt3 : ∀ x ∈ p3, x.block < W.heap.size := by obtain ⟨m, hm⟩ := k3; exact DataW.trod_lt m _ _ _ hm
  obtain ⟨z3, w3⟩ : ∃ zs, IsRow .i64 W a3 len3 cap3 zs := by
    obtain ⟨fuel, hf⟩ := h3
    rcases open_ints Try.underlying22 Try.underlying3 (by kernel_rfl) hf with ⟨hcs, _⟩ | ⟨x, l, c, zs, hcs, _, hl, hm, hz, _, hcell, hwz⟩
    · simp [Value.cells] at hcs
      obtain ⟨rfl, rfl, rfl⟩ := hcs
      exact ⟨[], .inl ⟨rfl, rfl, rfl, rfl⟩⟩
    · simp [Value.cells] at hcs
      obtain ⟨rfl, rfl, rfl⟩ := hcs
      exact ⟨zs, .inr ⟨_, rfl, hl, hm, by simpa using hz, hcell, hwz⟩⟩
  clear hA0 hval0
  obtain ⟨xs, hxs, hxl⟩ : ∃ xs, Ints W (.slice a3 len3 cap3) xs ∧ xs.length = len3 := ⟨_, w3.ints⟩
  subst hxl
  have own_lt : ∀ {a : Option Addr} {n c : Nat}, (∀ x, a = some x → x.block < W.heap.size) → ∀ k, (Value.slice a n c).ownBlock = some k → k < W.heap.size := fun {a n c} hb k hk => by
    cases a with
    | none => simp [Value.ownBlock] at hk
    | some x => simp only [Value.ownBlock, Option.some.injEq] at hk; have := hb x rfl; omega
  refine (walkMatrixExact a0 len0 cap0 z0 W w0 a1 cap1 ms hr1 a2 cap2 bs hr2 a3 cap3 xs hxs (own_lt b3)).mono fun e W' ⟨he, bel⟩ => ?_
  subst he
  exact ⟨_, rfl, _, _, _, [], _, [], hW', trodAll_mk1 (shut_bool Try.underlying4 _), (trodAll_cons_mk (Below.trod laidOut (by kernel_rfl) (of_decide_eq_true (by kernel_rfl)) k0 bel lt0) (trodAll_cons_mk (Below.trod laidOut (by kernel_rfl) (of_decide_eq_true (by kernel_rfl)) k1 bel lt1) (trodAll_cons_mk (Below.trod laidOut (by kernel_rfl) (of_decide_eq_true (by kernel_rfl)) k2 bel lt2) (trodAll_cons_mk (Below.trod laidOut (by kernel_rfl) (of_decide_eq_true (by kernel_rfl)) k3 bel lt3) trodAll_mk0)))), rfl, bel.frame _, fun h => by cases h⟩

theorem matrixExact_holds : Rows.MatrixExactSaid :=
  OpenClaim.holds_of_wide 3 Try.f3 rfl rfl rfl rfl rfl rfl rfl ⟨rfl, rfl, rfl, rfl, rfl⟩ rfl rfl rfl rfl rfl (by kernel_rfl) Try.func3 (by kernel_rfl)
    (of_decide_eq_true (by kernel_rfl)) (by unfold Func.isWrapper; first | (rw [if_pos (by decide +kernel)]; kernel_rfl) | (rw [if_neg (by decide +kernel)]; exact ⟨rfl, rfl⟩))
    (fun os started H enc _ => liftedMatrixExact os started H enc)
#print axioms matrixExact_holds
end Go.Proofs.Ytpnghgihepnepaa
