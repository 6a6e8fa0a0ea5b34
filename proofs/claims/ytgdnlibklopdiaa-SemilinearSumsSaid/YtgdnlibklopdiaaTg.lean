/- limited, Shift. -/
import Derived.Test.YtgdnlibklopdiaaTf
import Derived.Laws.ResultCell
import Derived.Deep.RegionHeld3
import Derived.Laws.Rows
namespace Go.Proofs.Ytgdnlibklopdiaa
open Go.RowKit
set_option linter.unusedVariables false

/-- A set and no error, that a call returns. -/
def GotL (vb : Value) (ps : List (List Int)) (w : World) (e : Ending) (w' : World) : Prop := ∃ vp qs, e = .returned (.tuple #[.agg #[vb, vp], .int .i64 0]) ∧ RowsP w' vp qs ∧ Good vp ∧ qs.map Prod.snd = ps ∧ w.grownBy w' none ∧ NewR w.heap.size vp qs
def GotS (b : List Int) (ps : List (List Int)) (w : World) (e : Ending) (w' : World) : Prop := ∃ vb vp qs, e = .returned (.tuple #[.agg #[vb, vp], .int .i64 0]) ∧ RowOk w' (vb, b) ∧ RowsP w' vp qs ∧ Good vp ∧ qs.map Prod.snd = ps ∧ w.grownBy w' none ∧ (∀ g, vb.ownBlock = some g → w.heap.size ≤ g) ∧ NewR w.heap.size vp qs

theorem results_set2 {fn : Func} {p u : Tmp} {ty : TypeId} (h : fn.results = #[.cell p ty, .tmp u]) (tmps : Array Value) (w : World) (g : Nat) (t : TypeId) (cs : Array Value) (fr : Nat × Nat) (fs : Array Field)
    (hp : tmps.getD p undef = .pointer (some ⟨g, 0, none⟩)) (hg : w.heap[g]? = some (.cells cs t fr))
    (hu : Try.prog.underlying ty = some (.struct fs)) (hi : (Try.prog.info? ty).map (·.size) = some cs.size) :
    (results fn tmps).run Try.prog w = .ok (.tuple #[.agg cs, tmps.getD u undef]) w := by
  rw [results_cell_tmp h, hp]
  simp [asAddr, run_loadVar_row w g t ty cs fr (.struct fs) hg hu rfl hi, Result.andThen]
/-- A set is put into the cells of a result. -/
theorem put_set {w : World} {g : Nat} {a b x y : Value} {e : TypeId} (h : w.heap[g]? = some (.cells #[a, b] e (0, 0))) :
    ((w.setCell ⟨g, 0, none⟩ x).setCell ⟨g, 1, none⟩ y).heap[g]? = some (.cells #[x, y] e (0, 0)) ∧ w.cell? ⟨g, 0, none⟩ = some a ∧ w.frozen? ⟨g, 0, none⟩ = false ∧ (w.setCell ⟨g, 0, none⟩ x).cell? ⟨g, 1, none⟩ = some b ∧ (w.setCell ⟨g, 0, none⟩ x).frozen? ⟨g, 1, none⟩ = false := by
  have h1 := heap_set (o := 0) h x
  refine ⟨heap_set (o := 1) h1 y, ?_, ?_, ?_, ?_⟩
  · unfold World.cell?; dsimp only; rw [h]; rfl
  · unfold World.frozen?; dsimp only; rw [h]; rfl
  · unfold World.cell?; dsimp only; rw [h1]; rfl
  · unfold World.frozen?; dsimp only; rw [h1]; rfl

set_option maxRecDepth 100000 in
set_option maxHeartbeats 1000000 in
theorem limited_any (vb vp : Value) (b : List Int) (qs : List Row) (w : World) (hb : RowOk w (vb, b)) (hq : RowsP w vp qs) (h1 : 1 ≤ b.length) (h16 : ∀ x ∈ b, x ≤ 16) (hl : qs.length ≤ 3) (hr : ∀ q ∈ qs, 1 ≤ q.2.length ∧ q.2.length ≤ 1000) :
    Calls Try.prog 76 #[vb, vp] w (GotL vb (qs.map Prod.snd) w) := by
  have HB := Lib.hid hb; have HQ := Lib.hid hq; have HR := Lib.hid hr; have H16 := Lib.hid h16
  obtain ⟨⟨ab, cb, hvb, -, -, -⟩, -, -⟩ := hb
  dsimp only at hvb
  subst hvb
  obtain ⟨ap, cp, rfl, -, -, -⟩ := hq
  have hl3 : ¬ (3 : Int) < (qs.length : Int) := by omega
  clear h16 hr
  go_enter Try.func76, Try.ntmps76
  go_wp2_with fail
  have HG1 := Lib.hid (World.grownBy_alloc w (.cells #[.slice none 0 0, .slice none 0 0] 49) none)
  refine (max_any _ b _ (HB.out.same HG1.out).1 h1).mono ?_
  rintro e w2 ⟨m, rfl, hm, rfl⟩
  have hm16 : ¬ (16 : Int) < m := by have := H16.out m hm.1; omega
  clear hm
  go_wp2_with fail
  refine (lists_any _ qs _ (HQ.out.same HG1.out) (by omega) HR.out).mono ?_
  rintro e w3 ⟨v3, q3, rfl, hr3, hgd3, hq3, hg3, hnw⟩
  have hs1 : (w.alloc (.cells #[.slice none 0 0, .slice none 0 0] 49)).heap.size = w.heap.size + 1 := by show (w.heap.push _).size = _; simp
  rw [hs1] at hnw
  have NW := Lib.hid hnw
  clear hs1 hnw
  have hh : w3.heap[w.heap.size]? = some (.cells #[.slice none 0 0, .slice none 0 0] 49 (0, 0)) := (hg3.block w.heap.size (by show _ < (w.heap.push _).size; simp) (by simp)).trans (heap_new _ rfl)
  obtain ⟨p1, p2, p3, p4, p5⟩ := put_set (x := .slice ab b.length cb) (y := v3) hh
  have R3 := Lib.hid hr3; have Q3 := Lib.hid hq3; have GD3 := Lib.hid hgd3
  have G3 := Lib.hid (grown_trans HG1.out hg3)
  obtain ⟨a3, c3, rfl, -, -, -⟩ := hr3
  clear hgd3 hq3 hh
  have P1 := Lib.hid p1
  clear p1
  go_wp2_with fail
  clear p2 p3 p4 p5
  have GW : Hid (w3.grownBy ((w3.setCell ⟨w.heap.size, 0, none⟩ (.slice ab b.length cb)).setCell ⟨w.heap.size, 1, none⟩ (.slice a3 q3.length c3)) (some w.heap.size)) := Lib.hid (grown_trans (grown_set _ _ _) (grown_set _ _ _))
  generalize ((w3.setCell ⟨w.heap.size, 0, none⟩ (.slice ab b.length cb)).setCell ⟨w.heap.size, 1, none⟩ (.slice a3 q3.length c3)) = W at *
  refine bodyPost_ret (results_set2 rfl _ _ w.heap.size _ _ _ _ rfl P1.out Try.underlying49 (by kernel_rfl)) rfl ?_
  exact ⟨_, q3, rfl, R3.out.keptR GW.out (fun k hk e => by cases hk; have := NW.out.1 _ e; omega) (fun p hp k hk e => by cases hk; have := NW.out.2 p hp _ e; omega), GD3.out, Q3.out, grown_then G3.out GW.out (by rintro j ⟨⟩; exact .inl (Nat.le_refl _)), fun g h => by have := NW.out.1 g h; omega, fun q hq g h => by have := NW.out.2 q hq g h; omega⟩

theorem set_two (k : Nat) (w : World) (x y : Value) : w.grownBy ((w.setCell ⟨k + 1, 0, none⟩ x).setCell ⟨k + 1, 1, none⟩ y) (some (k + 1)) := grown_trans (grown_set _ _ _) (grown_set _ _ _)
theorem sumL_lo {a b : List Int} (ha : ∀ x ∈ a, 0 ≤ x) (hb : ∀ x ∈ b, 0 ≤ x) : ∀ x ∈ sumL a b, 0 ≤ x := by
  intro z hz
  obtain ⟨x, hx, y, hy, rfl⟩ := mem_zipWith _ a b z hz
  have := ha x hx
  have := hb y hy
  omega

set_option maxRecDepth 100000 in
set_option maxHeartbeats 1500000 in
theorem Shift_any (n : Nat) (u : SetE) (vv : Value) (v : List Int) (w : World) (h : SetOk w n u) (hr : RowOk w (vv, v)) (hvl : v.length = n) (hv16 : withB 16 v = true) (hs16 : ∀ x ∈ sumL u.2.1 v, x ≤ 16) :
    Calls Try.prog 46 #[.int .i64 (n : Int), .agg #[u.1.1, u.1.2], vv] w (GotS (sumL u.2.1 v) u.2.2 w) := by
  obtain ⟨⟨x, y⟩, b, ps⟩ := u
  dsimp only at h hs16 ⊢
  have H := Lib.hid h; have HR := Lib.hid hr; have H16 := Lib.hid hv16; have HS16 := Lib.hid hs16
  obtain ⟨⟨vb, vp, qs, he, hb, hq, hgd, rfl⟩, hval⟩ := h
  simp only [Value.agg.injEq, Array.mk.injEq, List.cons.injEq, and_true] at he
  obtain ⟨rfl, rfl⟩ := he
  have HB := Lib.hid hb; have HQ := Lib.hid hq; have HV := Lib.hid hval; have HL := Lib.hid hvl
  have hq3 : qs.length ≤ 3 := by have := hval.2.2.2.2.2.1; rwa [List.length_map] at this
  have hn1 := hval.1
  have hn4 := hval.2.1
  obtain ⟨⟨ab, cb, hvb, -, -, -⟩, -, -⟩ := hb
  obtain ⟨⟨av, cv, hvv, -, -, -⟩, -, -⟩ := hr
  dsimp only at hvb hvv
  subst hvb hvv
  obtain ⟨ap, cp, rfl, -, -, -⟩ := hq
  have hd : ((v.length : Int) != (n : Int)) = false := by rw [hvl]; simp
  have hd' : (v.length == n) = true := by rw [hvl]; simp
  clear hval hvl hv16 hs16 hgd
  go_enter Try.func46, Try.ntmps46
  go_wp2_with fail
  obtain ⟨k1, k2, k3⟩ := three_boxes w (.slice ab b.length cb) (.slice ap qs.length cp) (.slice none 0 0) (.slice none 0 0) 49
  have hg3 : w.grownBy (((w.alloc (.cells #[.slice ab b.length cb, .slice ap qs.length cp] 49)).alloc (.cells #[.slice none 0 0, .slice none 0 0] 49)).alloc (.cells #[.slice ab b.length cb, .slice ap qs.length cp] 49)) none := grown_after (grown_after (grown_after (grown_refl _ _)))
  generalize (((w.alloc (.cells #[.slice ab b.length cb, .slice ap qs.length cp] 49)).alloc (.cells #[.slice none 0 0, .slice none 0 0] 49)).alloc (.cells #[.slice ab b.length cb, .slice ap qs.length cp] 49)) = W at *
  refine (check_any n hn1 hn4 [(.slice ab b.length cb, .slice ap qs.length cp)] (w.heap.size + 1 + 1) 0 1 W (cells_one k3) (by intro u hu; rw [List.mem_singleton.1 hu]; exact ⟨_, _, (H.out.same hg3).1, H.out.2⟩) (by simp)).mono ?_
  rintro e w2 ⟨rfl, hg2⟩
  have G2 := Lib.hid (grown_trans hg3 hg2)
  have a0 := hg2.cell (cells_of k1).1 (by simp); have a1 := hg2.cell (cells_of k1).2 (by simp)
  have HH : Hid (w2.heap[w.heap.size + 1]? = some (.cells #[.slice none 0 0, .slice none 0 0] 49 (0, 0))) := Lib.hid ((hg2.block _ (Array.getElem?_eq_some_iff.1 k2).1 (by simp)).trans k2)
  clear k1 k2 k3 hg3 hg2
  have A0 := Lib.hid a0; have A1 := Lib.hid a1
  clear a0 a1
  go_wp2_with fail
  refine (within_any _ v _ _ (HR.out.same G2.out).1).mono ?_
  rintro e w9 ⟨rfl, hw9⟩
  subst hw9
  rw [H16.out]
  rename World => w2
  have hlt2 : w.heap.size + 1 < w2.heap.size := (Array.getElem?_eq_some_iff.1 HH.out).1
  have hnn : ∀ g : Nat, some g ≠ (none : Option Nat) := by intro g; simp
  have G : Hid (w2.grownBy w2.drew none) := Lib.hid (grown_drew _ none)
  go_wp2_with fail
  go_region_held3 (fun w' => w'.cell? ⟨w.heap.size, 0, none⟩ = some (.slice ab b.length cb) ∧ w'.cell? ⟨w.heap.size, 1, none⟩ = some (.slice ap qs.length cp)) (first | exact ⟨G.out.cell A0.out (hnn _), G.out.cell A1.out (hnn _)⟩ | exact ⟨(set_two w.heap.size _ _ _).cell (G.out.cell A0.out (hnn _)) (by simp), (set_two w.heap.size _ _ _).cell (G.out.cell A1.out (hnn _)) (by simp)⟩) (first
    | (refine step_call 32 77 _ _ _ _ _ Try.f77 _ Try.func77 (by kernel_rfl) rfl [.slice ab b.length cb, .slice av v.length cv] (by kernel_rfl) _ (add_any _ _ b v _ (HB.out.same (grown_trans G2.out G.out)) (HR.out.same (grown_trans G2.out G.out)) (by rw [HL.out, HV.out.2.2.1]) (by rw [HV.out.2.2.1]; omega) (fun x hx => by have := HV.out.2.2.2.1 x hx; omega) (fun x hx => by have := withB_iff.1 H16.out x hx; omega)) ?_; rintro e w32 ⟨v32, rfl, ho, hg⟩; obtain ⟨a32, c32, rfl⟩ := ownI_open ho; refine ⟨_, rfl, ?_⟩; have R32 := Lib.hid (ho.row (fun x hx => by have := HS16.out x hx; have := sumL_lo (fun x hx => (HV.out.2.2.2.1 x hx).1) (fun x hx => (withB_iff.1 H16.out x hx).1) x hx; omega)); have F32 := Lib.hid (fun g h => Nat.le_trans G.out.size (ho.fresh g h).1); replace G : Hid (w2.grownBy w32 none) := Lib.hid (grown_trans G.out hg); clear ho hg)
    | (refine step_call 35 76 _ _ _ _ _ Try.f76 _ Try.func76 (by kernel_rfl) rfl [.slice a32 (sumL b v).length c32, .slice ap qs.length cp] (by kernel_rfl) _ (limited_any _ _ (sumL b v) qs _ R32.out (HQ.out.same (grown_trans G2.out G.out)) (by rw [sumL_len HV.out.2.2.1 HL.out]; exact hn1) HS16.out hq3 (fun q hq => by have := (HV.out.2.2.2.2.1 _ (List.mem_map_of_mem hq)).1.1; omega)) ?_; rintro e w35 ⟨v35, q35, rfl, hr, hgd, hm, hg, hnw⟩; refine ⟨_, rfl, ?_⟩; have R35 := Lib.hid hr; have GD35 := Lib.hid hgd; have M35 := Lib.hid hm; have N35 := Lib.hid hnw; have G35 := Lib.hid G.out.size; replace R32 := Lib.hid (R32.out.same hg); replace G : Hid (w2.grownBy w35 none) := Lib.hid (grown_trans G.out hg); obtain ⟨a35, c35, rfl, -, -, -⟩ := hr; obtain ⟨p1, p2, p3, p4, p5⟩ := put_set (x := .slice a32 (sumL b v).length c32) (y := .slice a35 q35.length c35) ((G.out.block _ hlt2 (by simp)).trans HH.out); have P1 := Lib.hid p1; clear hgd hm hg hnw p1))
  all_goals
    go_wp2_with fail
    have GW := Lib.hid (set_two w.heap.size w35 (.slice a32 (sumL b v).length c32) (.slice a35 q35.length c35))
    clear p2 p3 p4 p5
    generalize ((w35.setCell ⟨w.heap.size + 1, 0, none⟩ (.slice a32 (sumL b v).length c32)).setCell ⟨w.heap.size + 1, 1, none⟩ (.slice a35 q35.length c35)) = W at *
    refine bodyPost_ret (results_set2 rfl _ _ (w.heap.size + 1) _ _ _ _ rfl P1.out Try.underlying49 (by kernel_rfl)) rfl ?_
    have hs2 := G2.out.size
    have h35 := G35.out
    exact ⟨_, _, q35, rfl, R32.out.kept GW.out (fun k hk e => by cases hk; have := F32.out _ e; omega), R35.out.keptR GW.out (fun k hk e => by cases hk; have := N35.out.1 _ e; omega) (fun p hp k hk e => by cases hk; have := N35.out.2 p hp _ e; omega), GD35.out, M35.out, grown_then (grown_trans G2.out G.out) GW.out (by rintro j ⟨⟩; exact .inl (by omega)), fun g h => by have := F32.out g h; omega, fun g h => by have := N35.out.1 g h; omega, fun q hq g h => by have := N35.out.2 q hq g h; omega⟩

end Go.Proofs.Ytgdnlibklopdiaa
