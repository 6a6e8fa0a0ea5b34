/- Dice.Graph and Dice.System. -/
import Derived.Test.YtelpkcndbcfaiaaIf
namespace Go.Proofs.Ytelpkcndbcfaiaa
open Go.RowKit
set_option linter.unusedVariables false
/-- Few arcs of few labels, to states. -/
def ArcsOk (n : Nat) (l : List Ar) : Prop := ∀ a ∈ l, 0 ≤ a.1 ∧ a.1 < 3 ∧ 0 ≤ a.2 ∧ a.2 < (n : Int)
theorem arcsOk_snoc {n : Nat} {l : List Ar} {a : Ar} (h : ArcsOk n l) (h1 : 0 ≤ a.1 ∧ a.1 < 3 ∧ 0 ≤ a.2 ∧ a.2 < (n : Int)) : ArcsOk n (l ++ [a]) := fun b hb => by
  rcases List.mem_append.1 hb with hb | hb
  · exact h b hb
  · rw [List.mem_singleton.1 hb]; exact h1
def RowsOk (n : Nat) (ls : List ArcP) : Prop := ∀ q ∈ ls, q.2.length ≤ 3 ∧ ArcsOk n q.2
theorem rowsOk_snoc {n : Nat} {ls : List ArcP} {q : ArcP} (h : RowsOk n ls) (h1 : q.2.length ≤ 3 ∧ ArcsOk n q.2) : RowsOk n (ls ++ [q]) := fun b hb => by
  rcases List.mem_append.1 hb with hb | hb
  · exact h b hb
  · rw [List.mem_singleton.1 hb]; exact h1
def GraphR (w0 w : World) (p : Value) (d : Nat) (e : Ending) (w' : World) : Prop :=
  ∃ ca nc cc av ls, e = .returned (.agg #[.slice ca nc cc, av]) ∧ SysB (w.heap.size + 2) w' av ls ∧ 1 ≤ ls.length ∧ ls.length ≤ 6 ∧ RowsOk ls.length ls ∧ Sd w0 w' p d ∧ w.grownBy w' (some d)
theorem results_set1 {fn : Func} {p : Tmp} {ty : TypeId} (h : fn.results = #[.cell p ty]) (tmps : Array Value) (w : World) (g : Nat) (t : TypeId) (cs : Array Value) (fr : Nat × Nat) (fs : Array Field)
    (hp : tmps.getD p undef = .pointer (some ⟨g, 0, none⟩)) (hg : w.heap[g]? = some (.cells cs t fr))
    (hu : Try.prog.underlying ty = some (.struct fs)) (hi : (Try.prog.info? ty).map (·.size) = some cs.size) :
    (results fn tmps).run Try.prog w = .ok (.agg cs) w := by
  have hp' : tmps[p]?.getD undef = .pointer (some ⟨g, 0, none⟩) := by simpa using hp
  simp [results, h, hp', asAddr, run_loadVar_row w g t ty cs fr (.struct fs) hg hu rfl hi]
theorem Sd.row {w0 w w' : World} {p : Value} {d : Nat} {row : Option Nat} (h : Sd w0 w p d) (g : w.grownBy w' row) (hr : ∀ k, row = some k → d < k) : Sd w0 w' p d :=
  ⟨h.1.kept g hr, grown_then h.2.1 g (fun k hk => .inl (by have := hr k hk; have := h.2.2; omega)), h.2.2⟩
theorem put_two {w : World} {g : Nat} {a b x y : Value} {e : TypeId} (h : w.heap[g]? = some (.cells #[a, b] e (0, 0))) :
    ((w.setCell ⟨g, 0, none⟩ x).setCell ⟨g, 1, none⟩ y).heap[g]? = some (.cells #[x, y] e (0, 0)) ∧ w.cell? ⟨g, 0, none⟩ = some a ∧ w.frozen? ⟨g, 0, none⟩ = false ∧ (w.setCell ⟨g, 0, none⟩ x).cell? ⟨g, 1, none⟩ = some b ∧ (w.setCell ⟨g, 0, none⟩ x).frozen? ⟨g, 1, none⟩ = false := by
  have h1 := heap_set (o := 0) h x
  refine ⟨heap_set (o := 1) h1 y, ?_, ?_, ?_, ?_⟩
  · unfold World.cell?; dsimp only; rw [h]; rfl
  · unfold World.frozen?; dsimp only; rw [h]; rfl
  · unfold World.cell?; dsimp only; rw [h1]; rfl
  · unfold World.frozen?; dsimp only; rw [h1]; rfl
theorem GrI.done {wr W : World} {d H : Nat} {cv av : Value} {nC : Nat} {ls : List ArcP} (h : GrI wr d H cv av nC ls) (g : wr.grownBy W (some H)) : SysB (H + 2) W av ls :=
  SysB.kept ⟨h.a, h.rows⟩ g (by rintro k ⟨⟩; omega)
theorem gri_stored {w wr wb W6 : World} {d g : Nat} {v : Value} (x : Value) (o : Nat) (h : w.grownBy wr (some d)) (g0 : wr.grownBy wb none) (g6 : wb.grownBy W6 v.ownBlock) (hv : ∀ k, v.ownBlock = some k → w.heap.size ≤ k) (hg : w.heap.size ≤ g) : w.grownBy (W6.setCell ⟨g, o, none⟩ x) (some d) :=
  grown_then (grown_then (grown_then h g0 (by simp)) g6 (fun k hk => .inl (hv k hk))) (grown_set W6 ⟨g, o, none⟩ x) (by rintro k ⟨⟩; exact .inl hg)
theorem box_cells {W : World} {b : Nat} {x y : Value} {e : TypeId} (h : W.heap[b]? = some (.cells #[x, y] e (0, 0))) : W.cell? ⟨b, 0, none⟩ = some x ∧ W.cell? ⟨b, 1, none⟩ = some y ∧ W.frozen? ⟨b, 0, none⟩ = false ∧ W.frozen? ⟨b, 1, none⟩ = false := by
  refine ⟨?_, ?_, ?_, ?_⟩
  · unfold World.cell?; dsimp only; rw [h]; rfl
  · unfold World.cell?; dsimp only; rw [h]; rfl
  · unfold World.frozen?; dsimp only; rw [h]; rfl
  · unfold World.frozen?; dsimp only; rw [h]; rfl
theorem grown_weak3 {a b : World} (g : a.grownBy b none) (row : Option Nat) : a.grownBy b row := ⟨g.os, g.tape, g.output, g.size, fun i hi _ => g.block i hi (by simp)⟩
set_option maxRecDepth 100000 in
set_option maxHeartbeats 4000000 in
theorem graph_any {w0 w : World} {p : Value} {d : Nat} (h : Sd w0 w p d) : Calls Try.prog 12 #[p] w (GraphR w0 w p d) := by
  have HS := Lib.hid h
  have hdw := h.lt
  clear h
  go_enter Try.func12, Try.ntmps12
  go_wp2_with fail
  obtain ⟨wA, hwA⟩ : ∃ wA, wA = (w.alloc (.cells #[.slice none 0 0, .slice none 0 0] 28)).alloc (.cells #[.slice none 0 0, .slice none 0 0] 28) := ⟨_, rfl⟩
  rw [← hwA]
  have gA : w.grownBy wA none := by rw [hwA]; exact grown_aft2 (World.grownBy_alloc _ _ _)
  have IA : GrI wA d w.heap.size (.slice none 0 0) (.slice none 0 0) 0 [] := by
    rw [hwA]
    refine ⟨hdw, ?_, heap_old _ (heap_new _ rfl), heap_new _ (by show _ = (w.heap.push _).size; simp), ⟨[], World.ownsRow_nil _ _ _ _⟩, World.ownsRow_nil _ _ _ _, by simp⟩
    show _ ≤ ((w.heap.push _).push _).size
    simp
  have HSA := Lib.hid (HS.out.step gA); have HIA := Lib.hid IA; have HGA := Lib.hid gA
  clear hwA gA IA
  refine (dice_pick HSA.out 6 (by omega) (by omega)).mono ?_
  rintro e w1 ⟨y, rfl, y0, y1, hs, hg⟩
  have HS1 := Lib.hid hs
  have HI1 := Lib.hid (HIA.out.kept hg (by rintro k ⟨⟩; exact .inl rfl))
  have HG1 := Lib.hid (grown_trans (grown_weak3 HGA.out (some d)) hg)
  clear hs hg HSA HIA HGA
  obtain ⟨n, hn⟩ : ∃ n : Nat, 1 + y = (n : Int) := ⟨(1 + y).toNat, by omega⟩
  have hn1 : 1 ≤ n := by omega
  have hn6 : n ≤ 6 := by omega
  have hny : IntKind.i64.wrap (1 + y) = (n : Int) := by rw [hn]; exact IntWalk.i64_in _ (by omega)
  go_wp2_with fail
  clear hn hny y0 y1
  obtain ⟨H, hH⟩ : ∃ H, w.heap.size = H := ⟨_, rfl⟩
  rw [hH] at HI1 ⊢
  have HHH := Lib.hid hH
  clear hH hdw
  go_loopw [5] (fun i wr => ∃ (k : Nat) (cv av : Value) (ls : List ArcP), i = .int .i64 k ∧ k ≤ n ∧ Hid (GrI wr d H cv av k ls) ∧ Hid (ls.length = k) ∧ Hid (RowsOk n ls) ∧ Hid (Sd w0 wr p d) ∧ Hid (w.grownBy wr (some d))) (fun i _ => n - (intOf i).toNat)
  case atStart => exact ⟨0, _, _, [], rfl, Nat.zero_le _, HI1, Lib.hid rfl, Lib.hid (by intro q hq; simp at hq), HS1, HG1⟩
  case round =>
    obtain ⟨k, cv, av, ls, rfl, hk, hI, hL, hR, hS, hG⟩ := hrel
    rename World => wk
    clear HS1 HI1 HG1
    by_cases hlt : k < n
    · have h1 : (k : Int) < (n : Int) := by omega
      obtain ⟨cs, hc⟩ := hI.out.c
      have HC := Lib.hid hc
      obtain ⟨ca, cc, rfl⟩ := own_slice hc
      obtain ⟨aa, ac, rfl⟩ := own_slice hI.out.a
      have x0 : wk.cell? ⟨H + 1, 0, none⟩ = some (.slice ca k cc) := by rw [World.cell?, hI.out.g]; rfl
      have HSZ := Lib.hid hI.out.sz
      have HCV : Hid (∀ j, (Value.slice ca k cc).ownBlock = some j → w.heap.size ≤ j) := Lib.hid (fun j hj => by have := (hc.lt j hj).1; have := HHH.out; omega)
      have HAV : Hid (∀ j, (Value.slice aa ls.length ac).ownBlock = some j → w.heap.size ≤ j) := Lib.hid (fun j hj => by have := (hI.out.a.lt j hj).1; have := HHH.out; omega)
      have HCD : Hid (∀ j, (Value.slice ca k cc).ownBlock = some j → d < j) := Lib.hid (fun j hj => by have := (hc.lt j hj).1; have := hI.out.lt; omega)
      have HAD : Hid (∀ j, (Value.slice aa ls.length ac).ownBlock = some j → d < j) := Lib.hid (fun j hj => by have := (hI.out.a.lt j hj).1; have := hI.out.lt; omega)
      have HD1 : Hid (d < H + 1) := Lib.hid (by have := hI.out.lt; omega)
      have hls : ls.length ≤ 6 := by have := hL.out; omega
      have HH1 : Hid (w.heap.size ≤ H + 1) := Lib.hid (by have := HHH.out; omega)
      have HCA : Hid (∀ o, (wk.alloc o).ownsRow (H + 2) 65 2 (.slice ca k cc) k cs) := Lib.hid (fun o => HC.out.kept (World.grownBy_alloc wk o none) (by cases hb : (Value.slice ca k cc).ownBlock <;> simp))
      clear hc
      go_wp2_with (at_builtin; (refine app_cfg rfl _ _ rfl (H + 2) _ k cs rfl (HCA.out _) _ [.int .i64 k, .slice none 0 0] rfl (by intro u hu; simp at hu; rcases hu with rfl | rfl <;> rfl) rfl (heap_new _ rfl) (by omega) (Nat.le_trans HSZ.out (World.grownBy_alloc wk _ none).size) ?_); intro a6 c6 W6 h6 g6; go_loud (have H6 := Lib.hid (hI.out.cfg (World.grownBy_alloc wk _ none) g6 h6); have GG6 := Lib.hid (fun x o => gri_stored x o hG.out (World.grownBy_alloc wk _ none) g6 HCV.out HH1.out); have z0 := (box_cells H6.out.2).1; have f0 := (box_cells H6.out.2).2.2.1; have HG6 := Lib.hid g6; clear h6 g6))
      have HS6 := Lib.hid (((hS.out.step (World.grownBy_alloc wk (.cells #[.int .i64 k, .slice none 0 0] 65) none)).row HG6.out HCD.out).row (grown_set W6 ⟨H + 1, 0, none⟩ (.slice a6 (k + 1) c6)) (by rintro j ⟨⟩; exact HD1.out))
      have HI6 := Lib.hid H6.out.1; have HG7 := Lib.hid (GG6.out (.slice a6 (k + 1) c6) 0)
      generalize World.setCell W6 _ _ = W7 at *
      clear H6 GG6 HG6 z0 f0 x0 HCA HC
      refine (dice_pick HS6.out 4 (by omega) (by omega)).mono ?_
      rintro e w7 ⟨c, rfl, c0, c1, hs, hg⟩
      have HS8 := Lib.hid hs
      have HI8 := Lib.hid (HI6.out.kept hg (by rintro j ⟨⟩; exact .inl rfl))
      have HG8 := Lib.hid (grown_trans HG7.out hg)
      clear hs hg HS6 HI6 HG7
      obtain ⟨m0, rfl⟩ : ∃ m0 : Nat, c = (m0 : Int) := ⟨c.toNat, by omega⟩
      have hm0 : m0 ≤ 3 := by omega
      clear c0 c1
      go_wp2_with fail
      obtain ⟨B, hB⟩ : ∃ B, w7.heap.size = B := ⟨_, rfl⟩
      have HB := Lib.hid hB
      clear hB
      go_loopw [6, 7] (fun lv c wr => ∃ (m : Nat) (l : List Ar), c = .int .i64 m ∧ m ≤ 3 ∧ Hid (l.length + m ≤ 3) ∧ Hid (OwnA wr B lv l) ∧ Hid (ArcsOk n l) ∧ Hid (Sd w0 wr p d) ∧ Hid (w7.grownBy wr (some d))) (fun _ c _ => (intOf c).toNat)
      case atStart => exact ⟨m0, [], rfl, hm0, Lib.hid (by simp; omega), Lib.hid (OwnA.nil _ _), Lib.hid (by intro q hq; simp at hq), HS8, Lib.hid (grown_refl _ _)⟩
      case round =>
        obtain ⟨m, l, rfl, hm, hlm, hlo, hla, hs2, hg2⟩ := hrel
        obtain ⟨la, lc, rfl⟩ := hlo.out.slice
        have hl3 : l.length ≤ 3 := by have := hlm.out; omega
        have HBD : Hid (∀ j, some d = some j → (Value.slice la l.length lc).ownBlock ≠ some j) := Lib.hid (fun j hj e => by cases hj; have h3 := (hlo.out.fresh d e).1; have h4 := HI8.out.sz; have h5 := HI8.out.lt; rw [HB.out] at h4; omega)
        cases m with
        | zero =>
          have HI9 := Lib.hid (HI8.out.kept hg2.out (by rintro j ⟨⟩; exact .inl rfl))
          have x1 : wr.cell? ⟨H + 1, 1, none⟩ = some (.slice aa ls.length ac) := (box_cells HI9.out.g).2.1
          have HAO : Hid (∀ o, (wr.alloc o).ownsRow (H + 2) 59 1 (.slice aa ls.length ac) ls.length (ls.map Prod.fst)) := Lib.hid (fun o => HI9.out.a.kept (World.grownBy_alloc wr o none) (by cases hb : (Value.slice aa ls.length ac).ownBlock <;> simp))
          have HS9 := Lib.hid HI9.out.sz
          have HBB : Hid (H + 2 ≤ B) := Lib.hid (by rw [← HB.out]; exact HI8.out.sz)
          have HW9 := Lib.hid (grown_trans HG8.out hg2.out)
          go_wp2_with (at_builtin; refine app_arow rfl _ _ rfl (H + 2) _ ls.length (ls.map Prod.fst) rfl (HAO.out _) _ [.slice la l.length lc] rfl (by intro u hu; simp at hu; rcases hu with rfl; rfl) rfl (heap_new _ rfl) (by omega) (Nat.le_trans HS9.out (World.grownBy_alloc wr _ none).size) ?_; intro a9 c9 W9 h9 g9; have H9 := Lib.hid (HI9.out.arow HBB.out hlo.out (World.grownBy_alloc wr _ none) g9 h9); have GG9 := Lib.hid (fun x o => gri_stored x o HW9.out (World.grownBy_alloc wr _ none) g9 HAV.out HH1.out); have z1 := (box_cells H9.out.2).2.1; have f1 := (box_cells H9.out.2).2.2.2; have HG9 := Lib.hid g9; clear h9 g9)
          have HSE := Lib.hid (((hs2.out.step (World.grownBy_alloc wr (.cells #[.slice la l.length lc] 59) none)).row HG9.out HAD.out).row (grown_set W9 ⟨H + 1, 1, none⟩ (.slice a9 (ls.length + 1) c9)) (by rintro j ⟨⟩; exact HD1.out))
          have HGE := Lib.hid (GG9.out (.slice a9 (ls.length + 1) c9) 1)
          have HIE := Lib.hid H9.out.1
          go_roundw
          case rel => exact ⟨k + 1, _, _, ls ++ [(.slice la l.length lc, l)], by go_num, by omega, HIE, Lib.hid (by rw [List.length_append, hL.out]; rfl), Lib.hid (rowsOk_snoc hR.out ⟨hl3, hla.out⟩), HSE, HGE⟩
          case measure => simp [intOf]; omega
        | succ m =>
          have hm1 : (0 : Int) < (m : Int) + 1 := by omega
          go_wp2_with fail
          refine (dice_pick hs2.out 3 (by omega) (by omega)).mono ?_
          rintro e w8 ⟨la0, rfl, a0, a1, hs, hg⟩
          have HSa := Lib.hid hs
          have HLa := Lib.hid (hlo.out.kept hg HBD.out)
          have HGa := Lib.hid (grown_trans hg2.out hg)
          clear hs hg
          go_wp2_with fail
          refine (dice_pick HSa.out n (by omega) (by omega)).mono ?_
          rintro e w9 ⟨lt0, rfl, b0, b1, hs, hg⟩
          have HSb := Lib.hid hs
          have HLb := Lib.hid (HLa.out.kept hg HBD.out)
          have HGb := Lib.hid (grown_trans HGa.out hg)
          clear hs hg HSa HLa HGa
          have HAB : Hid (∀ o, (w9.alloc o).ownsRow B 61 2 (.slice la l.length lc) l.length (flatA l)) := Lib.hid (fun o => World.ownsRow.kept HLb.out (World.grownBy_alloc w9 o none) (by cases hb : (Value.slice la l.length lc).ownBlock <;> simp))
          have HBS : Hid (B ≤ w9.heap.size) := Lib.hid (by rw [← HB.out]; exact HGb.out.size)
          have HBF : Hid (∀ j, (Value.slice la l.length lc).ownBlock = some j → B ≤ j ∧ d < j) := Lib.hid (fun j hj => by have h3 := (hlo.out.fresh j hj).1; have h4 := HI8.out.sz; have h5 := HI8.out.lt; rw [HB.out] at h4; omega)
          go_wp2_with (at_builtin; refine app_arc rfl _ _ rfl B _ l.length (flatA l) rfl (HAB.out _) _ [.int .i64 la0, .int .i64 lt0] rfl (by intro u hu; simp at hu; rcases hu with rfl | rfl <;> rfl) rfl (heap_new _ rfl) (by omega) (Nat.le_trans HBS.out (World.grownBy_alloc w9 _ none).size) ?_; intro a9 c9 W9 h9 g9; have H9 := Lib.hid h9; have HG9 := Lib.hid g9; clear h9 g9)
          have HSE := Lib.hid ((HSb.out.step (World.grownBy_alloc w9 (.cells #[.int .i64 la0, .int .i64 lt0] 61) none)).row HG9.out (fun j hj => (HBF.out j hj).2))
          have HGE : Hid (w7.grownBy W9 (some d)) := Lib.hid (grown_then (grown_then HGb.out (World.grownBy_alloc w9 (.cells #[.int .i64 la0, .int .i64 lt0] 61) none) (by simp)) HG9.out (fun j hj => .inl (by rw [HB.out]; exact (HBF.out j hj).1)))
          have HOE : Hid (OwnA W9 B (.slice a9 (l.length + 1) c9) (l ++ [(la0, lt0)])) := Lib.hid (by unfold OwnA; rw [flatA_app, List.length_append]; exact H9.out)
          go_roundw
          case rel => exact ⟨m, l ++ [(la0, lt0)], by go_num, by omega, Lib.hid (by rw [List.length_append]; have := hlm.out; simp; omega), HOE, Lib.hid (arcsOk_snoc hla.out ⟨a0, a1, b0, b1⟩), HSE, HGE⟩
          case measure => simp [intOf]
    · have h1 : ¬ (k : Int) < (n : Int) := by omega
      have hkn : k = n := by omega
      subst hkn
      obtain ⟨cs, hc⟩ := hI.out.c
      obtain ⟨ca, cc, rfl⟩ := own_slice hc
      obtain ⟨aa, ac, rfl⟩ := own_slice hI.out.a
      have x0 := (box_cells hI.out.g).1; have x1 := (box_cells hI.out.g).2.1
      obtain ⟨q1, q2, q3, q4, q5⟩ := put_two (x := .slice ca k cc) (y := .slice aa ls.length ac) hI.out.r
      have HQ := Lib.hid q1
      have HGS : Hid (wk.grownBy ((wk.setCell ⟨H, 0, none⟩ (.slice ca k cc)).setCell ⟨H, 1, none⟩ (.slice aa ls.length ac)) (some H)) := Lib.hid (grown_trans (grown_set _ _ _) (grown_set _ _ _))
      have HDN := Lib.hid (hI.out.done HGS.out)
      have HLT := Lib.hid hI.out.lt
      clear q1 hc
      go_wp2_with fail
      refine bodyPost_ret (results_set1 rfl _ _ H _ _ _ _ rfl HQ.out Try.underlying28 (by kernel_rfl)) rfl ?_
      have hL2 := hL.out
      exact ⟨_, _, _, _, ls, rfl, by rw [HHH.out]; exact HDN.out, by omega, by omega, by rw [hL2]; exact hR.out, hS.out.row HGS.out (by rintro j ⟨⟩; exact HLT.out), grown_then hG.out HGS.out (by rintro j ⟨⟩; exact .inl (Nat.le_of_eq HHH.out))⟩
end Go.Proofs.Ytelpkcndbcfaiaa
