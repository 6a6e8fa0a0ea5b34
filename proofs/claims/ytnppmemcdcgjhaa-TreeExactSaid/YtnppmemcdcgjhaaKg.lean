/- flatten. -/
import Derived.Test.YtnppmemcdcgjhaaKf
namespace Go.Proofs.Ytnppmemcdcgjhaa
open Go.RowKit Tr
set_option linter.unusedVariables false

theorem results_set2 {fn : Func} {p u : Tmp} {ty : TypeId} (h : fn.results = #[.cell p ty, .tmp u]) (tmps : Array Value) (w : World) (g : Nat) (t : TypeId) (cs : Array Value) (fr : Nat × Nat) (fs : Array Field)
    (hp : tmps.getD p undef = .pointer (some ⟨g, 0, none⟩)) (hg : w.heap[g]? = some (.cells cs t fr))
    (hu : Try.prog.underlying ty = some (.struct fs)) (hi : (Try.prog.info? ty).map (·.size) = some cs.size) :
    (results fn tmps).run Try.prog w = .ok (.tuple #[.agg cs, tmps.getD u undef]) w := by
  rw [results_cell_tmp h, hp]
  simp [asAddr, run_loadVar_row w g t ty cs fr (.struct fs) hg hu rfl hi, Result.andThen]
/-- A struct of three cells is put into an older block. -/
theorem put_set3 {w : World} {g : Nat} {a b c x y z : Value} {e : TypeId} (h : w.heap[g]? = some (.cells #[a, b, c] e (0, 0))) :
    (((w.setCell ⟨g, 0, none⟩ x).setCell ⟨g, 1, none⟩ y).setCell ⟨g, 2, none⟩ z).heap[g]? = some (.cells #[x, y, z] e (0, 0)) ∧ w.cell? ⟨g, 0, none⟩ = some a ∧ w.frozen? ⟨g, 0, none⟩ = false ∧
      (w.setCell ⟨g, 0, none⟩ x).cell? ⟨g, 1, none⟩ = some b ∧ (w.setCell ⟨g, 0, none⟩ x).frozen? ⟨g, 1, none⟩ = false ∧
      ((w.setCell ⟨g, 0, none⟩ x).setCell ⟨g, 1, none⟩ y).cell? ⟨g, 2, none⟩ = some c ∧ ((w.setCell ⟨g, 0, none⟩ x).setCell ⟨g, 1, none⟩ y).frozen? ⟨g, 2, none⟩ = false := by
  have h1 := heap_set (o := 0) h x
  have h2 := heap_set (o := 1) h1 y
  refine ⟨heap_set (o := 2) h2 z, ?_, ?_, ?_, ?_, ?_, ?_⟩
  · unfold World.cell?; dsimp only; rw [h]; rfl
  · unfold World.frozen?; dsimp only; rw [h]; rfl
  · unfold World.cell?; dsimp only; rw [h1]; rfl
  · unfold World.frozen?; dsimp only; rw [h1]; rfl
  · unfold World.cell?; dsimp only; rw [h2]; rfl
  · unfold World.frozen?; dsimp only; rw [h2]; rfl
theorem grown_put3 (w : World) (g : Nat) (x y z : Value) : w.grownBy (((w.setCell ⟨g, 0, none⟩ x).setCell ⟨g, 1, none⟩ y).setCell ⟨g, 2, none⟩ z) (some g) :=
  grown_trans (grown_trans (grown_set w ⟨g, 0, none⟩ x) (grown_set _ ⟨g, 1, none⟩ y)) (grown_set _ ⟨g, 2, none⟩ z)

/-- A valid tree. -/
def OkT (t : Tr) : Prop := size t ≤ 12 ∧ ∀ u ∈ pre t, 0 ≤ u.label ∧ u.label < 16
/-- A flat tree that is read. -/
structure FlatV (w : World) (t : Tr) (vl ve vk : Value) : Prop where
  l : Ints w vl ((pre t).map label)
  e : Ints w ve (flE 0 (pre t))
  k : ∃ ks, RowsP w vk ks ∧ ks.map Prod.snd = flK 0 (pre t)
theorem FlatV.same {w w' : World} {t : Tr} {vl ve vk : Value} (h : FlatV w t vl ve vk) (g : w.grownBy w' none) : FlatV w' t vl ve vk := by
  obtain ⟨ks, h1, h2⟩ := h.k
  exact ⟨h.l.same g, h.e.same g, ks, h1.same g, h2⟩
def FlatTo (t : Tr) (w : World) (e : Ending) (w' : World) : Prop := w.grownBy w' none ∧
  ((OkT t ∧ ∃ vl ve vk, e = .returned (.tuple #[.agg #[vl, ve, vk], .bool true]) ∧ FlatV w' t vl ve vk ∧ ∀ g, vl.ownBlock = some g → w.heap.size ≤ g) ∨ (¬ OkT t ∧ e = .returned (.tuple #[.agg #[.slice none 0 0, .slice none 0 0, .slice none 0 0], .bool false])))
theorem TrK.labels {P : Nat → Prop} {w : World} (t : Tr) : ∀ {y : Value}, TrK P w y t → ∀ u ∈ pre t, -9223372036854775808 ≤ u.label ∧ u.label ≤ 9223372036854775807 := by
  induction t using tr_ind with
  | h t ih =>
  intro y h u hu
  rw [pre_eq] at hu
  obtain ⟨a, cap, ys, -, h1, -, -, -, -, h2⟩ := h.open
  rcases List.mem_cons.1 hu with rfl | hu
  · exact h1
  · obtain ⟨k, hk, hku⟩ := mem_preL.1 hu
    obtain ⟨i, hi, rfl⟩ := List.getElem_of_mem hk
    exact ih _ (size_kid (List.getElem_mem hi)) (h2 i hi) u hku
theorem flE_bd : ∀ (us : List Tr) (n : Nat), (∀ u ∈ us, size u ≤ 12) → n + us.length ≤ 1000 → ∀ x ∈ flE n us, 0 ≤ x ∧ x ≤ 2000
  | [], _, _, _ => by simp [flE]
  | u :: us, n, h, hn => by
    intro x hx
    rw [flE] at hx
    rw [List.length_cons] at hn
    rcases List.mem_cons.1 hx with rfl | hx
    · have := h u (by simp); omega
    · exact flE_bd us (n + 1) (fun v hv => h v (by simp [hv])) (by omega) x hx
theorem starts_bd : ∀ (ks : List Tr) (n : Nat), ∀ x ∈ starts n ks, x ≤ n + sizeL ks
  | [], _ => by simp [starts]
  | k :: ks, n => by
    intro x hx
    rw [starts] at hx
    rw [sizeL]
    rcases List.mem_cons.1 hx with rfl | hx
    · omega
    · have := starts_bd ks _ x hx; omega
theorem flK_bd : ∀ (us : List Tr) (n : Nat), (∀ u ∈ us, size u ≤ 12) → n + us.length ≤ 1000 → ∀ r ∈ flK n us, ∀ x ∈ r, 0 ≤ x ∧ x ≤ 2000
  | [], _, _, _ => by simp [flK]
  | u :: us, n, h, hn => by
    intro r hr
    rw [flK] at hr
    rw [List.length_cons] at hn
    rcases List.mem_cons.1 hr with rfl | hr
    · intro x hx
      obtain ⟨m, hm, rfl⟩ := List.mem_map.1 hx
      have h1 := starts_bd _ _ m hm
      have h2 := h u (by simp)
      rw [size_eq] at h2
      constructor
      · exact Int.natCast_nonneg m
      · show (m : Int) ≤ 2000; omega
    · exact flK_bd us (n + 1) (fun v hv => h v (by simp [hv])) (by omega) r hr
theorem size_in {t u : Tr} (h : u ∈ pre t) : size u ≤ size t := by
  obtain ⟨i, hi, rfl⟩ := List.getElem_of_mem h
  rw [len_pre] at hi
  obtain ⟨v, -, h2, h3⟩ := seg_in t (seg_pre t) i hi
  rw [List.getElem?_eq_getElem (by rw [len_pre]; exact hi)] at h2
  cases h2
  omega
theorem ownR_rows {w : World} {F : Nat} {v : Value} {ks : List Row} (h : OwnR w F v ks) (hr : ∀ q ∈ ks, RowOk w q) : RowsP w v ks := by
  unfold OwnR at h
  rcases h.2 with ⟨rfl, h0⟩ | ⟨g, cap, cur, rfl, hg, hh, hn, hm, hs, ht⟩
  · have : ks = [] := List.eq_nil_of_length_eq_zero (by rw [List.length_map] at h0; exact h0)
    subst this
    exact ⟨none, 0, rfl, Nat.zero_le _, .inl rfl, by simp⟩
  · refine ⟨some ⟨g, 0, none⟩, cap, by rw [List.length_map], Nat.le_trans (by rw [List.length_map] at hn; exact hn) hm, .inr ⟨g, 0, rfl, fun i hi => ?_⟩, hr⟩
    have := World.ownsRow.cellAt h i (by rw [List.length_map]; omega)
    rw [Nat.zero_add, this, List.getElem?_map, List.getElem?_eq_getElem hi]
    rfl
theorem FlatB.view {w : World} {F : Nat} {x : FX} {t : Tr} (h : FlatB w F x) (hL : x.L = (pre t).map label) (hE : x.E = flE 0 (pre t)) (hK : x.ks.map Prod.snd = flK 0 (pre t)) (hs : size t ≤ 12) (hl : ∀ u ∈ pre t, -9223372036854775808 ≤ u.label ∧ u.label ≤ 9223372036854775807) : FlatV w t x.vl x.ve x.vk := by
  have hsz : ∀ u ∈ pre t, size u ≤ 12 := fun u hu => Nat.le_trans (size_in hu) hs
  have hln : 0 + (pre t).length ≤ 1000 := by rw [len_pre]; omega
  refine ⟨?_, ?_, x.ks, ?_, hK⟩
  · rw [← hL]
    refine h.ol.ints fun z hz => ?_
    rw [hL] at hz
    obtain ⟨u, hu, rfl⟩ := List.mem_map.1 hz
    exact hl u hu
  · rw [← hE]
    refine h.oe.ints fun z hz => ?_
    rw [hE] at hz
    have := flE_bd _ _ hsz hln z hz
    omega
  · refine ownR_rows h.ok fun q hq => (h.rows q hq).row fun z hz => ?_
    have : q.2 ∈ flK 0 (pre t) := hK ▸ List.mem_map_of_mem hq
    have := flK_bd _ _ hsz hln q.2 this z hz
    omega

set_option maxRecDepth 100000 in
set_option maxHeartbeats 2000000 in
theorem flatten_any {P : Nat → Prop} (t : Tr) (y : Value) (w : World) (h : TrK P w y t) (hsz : size t ≤ 100000) :
    Calls Try.prog 54 #[.agg #[.int .i64 t.label, y]] w (FlatTo t w) := by
  obtain ⟨a, cap, rfl⟩ := h.slice
  have HTK := Lib.hid h.bound
  have HLB := Lib.hid (TrK.labels t h)
  have HSZ := Lib.hid hsz
  clear h hsz
  go_enter Try.func54, Try.ntmps54
  go_wp2_with fail
  have hb1 : ((w.alloc (.cells #[.int .i64 t.label, .slice a t.kids.length cap] 45)).alloc (.cells #[.slice none 0 0, .slice none 0 0, .slice none 0 0] 71)).heap[w.heap.size]? = some (.cells #[.int .i64 t.label, .slice a t.kids.length cap] 45 (0, 0)) := heap_old _ (heap_new _ rfl)
  have hb2 : ((w.alloc (.cells #[.int .i64 t.label, .slice a t.kids.length cap] 45)).alloc (.cells #[.slice none 0 0, .slice none 0 0, .slice none 0 0] 71)).heap[w.heap.size + 1]? = some (.cells #[.slice none 0 0, .slice none 0 0, .slice none 0 0] 71 (0, 0)) := heap_new _ (by show _ = (w.heap.push _).size; simp)
  have hg0 : w.grownBy ((w.alloc (.cells #[.int .i64 t.label, .slice a t.kids.length cap] 45)).alloc (.cells #[.slice none 0 0, .slice none 0 0, .slice none 0 0] 71)) none := grown_after (World.grownBy_alloc _ _ none)
  have hsz2 : w.heap.size + 1 < ((w.alloc (.cells #[.int .i64 t.label, .slice a t.kids.length cap] 45)).alloc (.cells #[.slice none 0 0, .slice none 0 0, .slice none 0 0] 71)).heap.size := (Array.getElem?_eq_some_iff.1 hb2).1
  generalize ((w.alloc (.cells #[.int .i64 t.label, .slice a t.kids.length cap] 45)).alloc (.cells #[.slice none 0 0, .slice none 0 0, .slice none 0 0] 71)) = w0 at *
  have HB1 := Lib.hid hb1; have HB2 := Lib.hid hb2; have HG0 := Lib.hid hg0; have HS2 := Lib.hid hsz2
  clear hb1 hb2 hg0 hsz2
  refine (count_any t _ _ (HTK.out.same HG0.out) HSZ.out).mono ?_
  rintro e w1 ⟨c, rfl, -, p2, p3, p4, hg⟩
  have HR1 : Hid (w1.heap[w.heap.size + 1]? = some (.cells #[.slice none 0 0, .slice none 0 0, .slice none 0 0] 71 (0, 0))) := Lib.hid ((hg.block _ HS2.out (by simp)).trans HB2.out)
  have HX1 : Hid (w1.heap[w.heap.size]? = some (.cells #[.int .i64 t.label, .slice a t.kids.length cap] 45 (0, 0))) := Lib.hid ((hg.block _ (Nat.lt_of_succ_lt HS2.out) (by simp)).trans HB1.out)
  have HG1 := Lib.hid (grown_trans HG0.out hg)
  have HSW : Hid (w.heap.size + 1 < w1.heap.size) := Lib.hid (Array.getElem?_eq_some_iff.1 HR1.out).1
  clear hg HB1 HB2 HG0 HS2
  obtain ⟨R, hR⟩ : ∃ R, w.heap.size + 1 = R := ⟨_, rfl⟩
  rw [hR] at HR1 HSW ⊢
  have HRE := Lib.hid hR
  clear hR
  by_cases hs : size t ≤ 12
  · obtain rfl := p3 hs
    have hs2 : ¬ (12 : Int) < (size t : Int) := by omega
    have HS := Lib.hid hs
    clear p2 p3 p4 hs
    have hx2 := heap_old (.cells #[.slice none 0 0, .slice none 0 0, .slice none 0 0] 71) HX1.out
    have hc0 := (cells_of hx2).1; have hc1 := (cells_of hx2).2
    have hF := heap_new (w := w1) (g := w1.heap.size) (.cells #[.slice none 0 0, .slice none 0 0, .slice none 0 0] 71) rfl
    have HR2 := Lib.hid (heap_old (.cells #[.slice none 0 0, .slice none 0 0, .slice none 0 0] 71) HR1.out)
    have HG2 := Lib.hid (grown_trans HG1.out (World.grownBy_alloc w1 (.cells #[.slice none 0 0, .slice none 0 0, .slice none 0 0] 71) none))
    have HF := Lib.hid hF
    clear hx2 hF
    go_wp2_with fail
    clear hc0 hc1
    generalize w1.alloc (.cells #[.slice none 0 0, .slice none 0 0, .slice none 0 0] 71) = w2 at *
    have HFB : Hid (FlatB w2 w1.heap.size ⟨.slice none 0 0, .slice none 0 0, .slice none 0 0, [], [], []⟩) := Lib.hid ⟨HF.out, OwnI.nil _ _, OwnI.nil _ _, World.ownsRow_nil _ _ _ _, by simp, by intro g e; simp [Value.ownBlock] at e, by intro g e; simp [Value.ownBlock] at e, by intro g e; simp [Value.ownBlock] at e, by simp⟩
    refine (add_any t _ w2 w1.heap.size ⟨.slice none 0 0, .slice none 0 0, .slice none 0 0, [], [], []⟩ (HTK.out.same HG2.out) (fun b hb => ⟨fun e => by have := hb.2; have := HG1.out.size; omega, fun e => by rcases e with e | e | e | ⟨q, hq, _⟩; cases e; cases e; cases e; cases hq⟩) HFB.out (by simpa using HS.out) rfl rfl).mono ?_
    rintro e w3 ⟨x, rfl, hB, hS, hA⟩
    have HL := Lib.hid hA.L; have HB := Lib.hid hB
    have HFV : Hid (FlatV w3 t x.vl x.ve x.vk) := Lib.hid (hB.view (by rw [hA.L]; rfl) (by rw [hA.E]; rfl) (by rw [hA.K]; rfl) HS.out HLB.out)
    have HVW : Hid (∀ W, FlatB W w1.heap.size x → FlatV W t x.vl x.ve x.vk) := Lib.hid (fun W hW => hW.view (by rw [hA.L]; rfl) (by rw [hA.E]; rfl) (by rw [hA.K]; rfl) HS.out HLB.out)
    have hno : ∀ g, ¬ (⟨.slice none 0 0, .slice none 0 0, .slice none 0 0, [], [], []⟩ : FX).own g := fun g e => by rcases e with e | e | e | ⟨q, hq, _⟩; cases e; cases e; cases e; cases hq
    have HR3 : Hid (w3.heap[R]? = some (.cells #[.slice none 0 0, .slice none 0 0, .slice none 0 0] 71 (0, 0))) := Lib.hid ((hS.1.block R (Array.getElem?_eq_some_iff.1 HR2.out).1 (fun e => by
      rcases e with e | e
      · have := HSW.out; omega
      · exact hno _ e)).trans HR2.out)
    have HG3 : Hid (w.grownBy w3 none) := Lib.hid (grown_then HG2.out (row' := some w1.heap.size) (hS.1.grown (fun g hg e => by
      rcases e with e | e
      · rw [e]
      · exact absurd e (hno _))) (by rintro j ⟨⟩; exact .inl HG1.out.size))
    have HFR : Hid (∀ g, x.own g → w1.heap.size + 1 ≤ g) := Lib.hid (fun g e => by have := (hB.fresh e).1; omega)
    obtain ⟨vl, ve, vk, L, E, ks⟩ := x
    dsimp only at HL HFV HFR HVW
    clear hB hS hA hno
    obtain ⟨al, cl, rfl, -, -, hlc⟩ := HFV.out.l
    obtain ⟨ae, ce, rfl, -, -, -⟩ := HFV.out.e
    obtain ⟨ak, mk, ck, rfl⟩ := own_sl3 HB.out.ok
    have HLC := Lib.hid hlc
    have HLEN : Hid (((pre t).map label).length = size t) := Lib.hid (by rw [List.length_map, len_pre])
    obtain ⟨hf0, hf1, hf2, -⟩ := flat_cells HB.out.blk
    dsimp only at hf0 hf1 hf2
    have HOKT : Hid (∀ i, i < ((pre t).map label).length → ∃ u ∈ pre t, ((pre t).map label)[i]?.getD 0 = u.label) := Lib.hid (fun i hi => by
      rw [List.length_map] at hi
      exact ⟨(pre t)[i], List.getElem_mem hi, by rw [List.getElem?_map, List.getElem?_eq_getElem hi]; rfl⟩)
    have HDONE : Hid ((∀ i, i < ((pre t).map label).length → 0 ≤ ((pre t).map label)[i]?.getD 0 ∧ ((pre t).map label)[i]?.getD 0 < 16) → OkT t) := Lib.hid (fun h => ⟨HS.out, fun u hu => by
      obtain ⟨i, hi, rfl⟩ := List.getElem_of_mem hu
      have := h i (by rw [List.length_map]; exact hi)
      rw [List.getElem?_map, List.getElem?_eq_getElem hi] at this
      exact this⟩)
    clear hlc
    have HW3 : Hid (w3.heap.size = w3.heap.size) := Lib.hid rfl
    generalize (pre t).map label = Ls at *
    go_wp2_with fail
    go_loop [16] (fun i => ∃ k : Nat, i = .int .i64 k ∧ k ≤ Ls.length ∧ Hid (∀ j, j < k → 0 ≤ Ls[j]?.getD 0 ∧ Ls[j]?.getD 0 < 16)) (fun i => Ls.length - (intOf i).toNat)
    case atStart => exact ⟨0, rfl, Nat.zero_le _, Lib.hid (by omega)⟩
    case round =>
      obtain ⟨k, rfl, hk, hall⟩ := hrel
      by_cases hkb : k < Ls.length
      · have e1 : (k : Int) < (Ls.length : Int) := by omega
        have hl12 : Ls.length ≤ 12 := by have := HLEN.out; have := HS.out; omega
        have i1 : IntKind.i64.wrap ((k : Int) + 1) = (k : Int) + 1 := IntWalk.i64_in _ (by omega)
        obtain ⟨b, off, rfl, hx⟩ := Ints.at HLC.out hkb
        obtain ⟨u, hu, hul⟩ := HOKT.out k hkb
        have HNX : Hid (0 ≤ Ls[k]?.getD 0 ∧ Ls[k]?.getD 0 < 16 → ∀ j, j < k + 1 → 0 ≤ Ls[j]?.getD 0 ∧ Ls[j]?.getD 0 < 16) := Lib.hid (fun h j hj => by
          by_cases e : j = k
          · subst e; exact h
          · exact hall.out j (by omega))
        have HUM := Lib.hid hu; have HUL := Lib.hid hul
        clear hu hul
        generalize Ls[k]?.getD 0 = z at *
        by_cases hz : 0 ≤ z ∧ z < 16
        · obtain ⟨hz0, hz1⟩ := hz
          have hz2 : ¬ z < 0 := by omega
          have hz3 : ¬ 16 ≤ z := by omega
          go_wp2_with fail
          go_round
          case rel => exact ⟨k + 1, by go_num, by omega, Lib.hid (HNX.out ⟨hz0, hz1⟩)⟩
          case measure => simp [intOf]; omega
        · have HBAD : Hid (¬ OkT t) := Lib.hid (fun h => hz (by rw [HUL.out]; exact h.2 u HUM.out))
          obtain ⟨p1, p2, p3, p4, p5, p6, p7⟩ := put_set3 (x := .slice none 0 0) (y := .slice none 0 0) (z := .slice none 0 0) HR3.out
          have P1 := Lib.hid p1
          have GW := Lib.hid (grown_put3 w3 R (.slice none 0 0) (.slice none 0 0) (.slice none 0 0))
          clear p1
          by_cases hz0 : z < 0
          · clear hz
            go_wp2_with fail
            refine bodyPost_ret (results_set2 rfl _ _ R _ _ _ _ rfl P1.out Try.underlying71 (by kernel_rfl)) rfl ?_
            exact ⟨grown_then HG3.out GW.out (by rintro j ⟨⟩; exact .inl (by have := HRE.out; omega)), .inr ⟨HBAD.out, rfl⟩⟩
          · have hz1 : 16 ≤ z := by omega
            clear hz
            go_wp2_with fail
            refine bodyPost_ret (results_set2 rfl _ _ R _ _ _ _ rfl P1.out Try.underlying71 (by kernel_rfl)) rfl ?_
            exact ⟨grown_then HG3.out GW.out (by rintro j ⟨⟩; exact .inl (by have := HRE.out; omega)), .inr ⟨HBAD.out, rfl⟩⟩
      · obtain rfl : k = Ls.length := by omega
        have e1 : ¬ (Ls.length : Int) < (Ls.length : Int) := by omega
        have HOK := Lib.hid (HDONE.out hall.out)
        obtain ⟨p1, p2, p3, p4, p5, p6, p7⟩ := put_set3 (x := .slice al Ls.length cl) (y := .slice ae (flE 0 (pre t)).length ce) (z := .slice ak mk ck) HR3.out
        have P1 := Lib.hid p1
        have GW := Lib.hid (grown_put3 w3 R (.slice al Ls.length cl) (.slice ae (flE 0 (pre t)).length ce) (.slice ak mk ck))
        clear p1
        go_wp2_with fail
        refine bodyPost_ret (results_set2 rfl _ _ R _ _ _ _ rfl P1.out Try.underlying71 (by kernel_rfl)) rfl ?_
        exact ⟨grown_then HG3.out GW.out (by rintro j ⟨⟩; exact .inl (by have := HRE.out; omega)), .inl ⟨HOK.out, _, _, _, rfl, HVW.out _ (HB.out.same (fr_of GW.out (fun k hk => by
          cases hk
          rintro (e | e)
          · have := HSW.out; omega
          · have := HFR.out _ e; have := HSW.out; omega))), fun g e => by have := HFR.out g (.inl e); have := HSW.out; have := HRE.out; omega⟩⟩
  · have hs2 : (12 : Int) < (c : Int) := by have := p4 (by omega); omega
    obtain ⟨p1, q2, q3, q4, q5, q6, q7⟩ := put_set3 (x := .slice none 0 0) (y := .slice none 0 0) (z := .slice none 0 0) HR1.out
    have P1 := Lib.hid p1
    have GW := Lib.hid (grown_put3 w1 R (.slice none 0 0) (.slice none 0 0) (.slice none 0 0))
    have HBAD : Hid (¬ OkT t) := Lib.hid (fun h => hs h.1)
    clear p1 p2 p3 p4 hs
    go_wp2_with fail
    refine bodyPost_ret (results_set2 rfl _ _ R _ _ _ _ rfl P1.out Try.underlying71 (by kernel_rfl)) rfl ?_
    exact ⟨grown_then HG1.out GW.out (by rintro j ⟨⟩; exact .inl (by have := HRE.out; omega)), .inr ⟨HBAD.out, rfl⟩⟩

def SaysT (p : Prop) (w : World) (e : Ending) (w' : World) : Prop := ∃ B : Bool, e = .returned (.bool B) ∧ (B = true ↔ p) ∧ w.grownBy w' none
set_option maxRecDepth 100000 in
theorem ValidT_any {P : Nat → Prop} (t : Tr) (y : Value) (w : World) (h : TrK P w y t) (hsz : size t ≤ 100000) :
    Calls Try.prog 33 #[.agg #[.int .i64 t.label, y]] w (SaysT (OkT t) w) := by
  obtain ⟨a, cap, rfl⟩ := h.slice
  have H := Lib.hid h; have HS := Lib.hid hsz
  clear h hsz
  have HG := Lib.hid (World.grownBy_alloc w (.cells #[.int .i64 t.label, .slice a t.kids.length cap] 45) none)
  go_enter Try.func33, Try.ntmps33
  go_wp2_with fail
  refine (flatten_any t _ _ (H.out.same HG.out) HS.out).mono ?_
  rintro e w1 ⟨hg, (⟨hok, vl, ve, vk, rfl, hv, -⟩ | ⟨hok, rfl⟩)⟩
  · have G1 := Lib.hid (grown_trans HG.out hg); have HOK := Lib.hid hok
    obtain ⟨al, cl, rfl, -⟩ := hv.l
    obtain ⟨ae, ce, rfl, -⟩ := hv.e
    obtain ⟨ks, ⟨ak, ck, rfl, -⟩, -⟩ := hv.k
    clear hg hok hv
    go_wp2_with fail
    go_ret
    exact ⟨true, rfl, ⟨fun _ => HOK.out, fun _ => rfl⟩, grown_after G1.out⟩
  · have G1 := Lib.hid (grown_trans HG.out hg); have HOK := Lib.hid hok
    clear hg hok
    go_wp2_with fail
    go_ret
    exact ⟨false, rfl, ⟨fun h => by simp at h, fun h => absurd h HOK.out⟩, grown_after G1.out⟩
def IntTo (n : Int) (w : World) (e : Ending) (w' : World) : Prop := e = .returned (.int .i64 n) ∧ w.grownBy w' none
set_option maxRecDepth 100000 in
theorem SizeT_any {P : Nat → Prop} (t : Tr) (y : Value) (w : World) (h : TrK P w y t) (hok : OkT t) :
    Calls Try.prog 35 #[.agg #[.int .i64 t.label, y]] w (IntTo (size t) w) := by
  obtain ⟨a, cap, rfl⟩ := h.slice
  have H := Lib.hid h; have HOK := Lib.hid hok
  clear h hok
  have HG := Lib.hid (World.grownBy_alloc w (.cells #[.int .i64 t.label, .slice a t.kids.length cap] 45) none)
  go_enter Try.func35, Try.ntmps35
  go_wp2_with fail
  refine (flatten_any t _ _ (H.out.same HG.out) (Nat.le_trans HOK.out.1 (by decide))).mono ?_
  rintro e w1 ⟨hg, (⟨hok, vl, ve, vk, rfl, hv, -⟩ | ⟨hok, rfl⟩)⟩
  · have G1 := Lib.hid (grown_trans HG.out hg); have HV := Lib.hid hv
    obtain ⟨al, cl, rfl, -⟩ := hv.l
    obtain ⟨ae, ce, rfl, -⟩ := hv.e
    obtain ⟨ks, ⟨ak, ck, rfl, -⟩, -⟩ := hv.k
    have HLEN := Lib.hid (show ((pre t).map label).length = size t by rw [List.length_map, len_pre])
    clear hg hok hv
    go_wp2_with fail
    go_ret
    exact ⟨congrArg (fun k : Nat => Ending.returned (.int .i64 (k : Int))) (len_pre t), grown_after G1.out⟩
  · exact absurd HOK.out hok
def IntsTo (xs : List Int) (w : World) (e : Ending) (w' : World) : Prop := ∃ v, e = .returned v ∧ Ints w' v xs ∧ w.grownBy w' none
set_option maxRecDepth 100000 in
theorem LabelsT_any {P : Nat → Prop} (t : Tr) (y : Value) (w : World) (h : TrK P w y t) (hok : OkT t) :
    Calls Try.prog 41 #[.agg #[.int .i64 t.label, y]] w (IntsTo ((pre t).map label) w) := by
  obtain ⟨a, cap, rfl⟩ := h.slice
  have H := Lib.hid h; have HOK := Lib.hid hok
  clear h hok
  have HG := Lib.hid (World.grownBy_alloc w (.cells #[.int .i64 t.label, .slice a t.kids.length cap] 45) none)
  go_enter Try.func41, Try.ntmps41
  go_wp2_with fail
  refine (flatten_any t _ _ (H.out.same HG.out) (Nat.le_trans HOK.out.1 (by decide))).mono ?_
  rintro e w1 ⟨hg, (⟨hok, vl, ve, vk, rfl, hv, -⟩ | ⟨hok, rfl⟩)⟩
  · have G1 := Lib.hid (grown_trans HG.out hg); have HV := Lib.hid hv.l
    obtain ⟨al, cl, rfl, -⟩ := hv.l
    obtain ⟨ae, ce, rfl, -⟩ := hv.e
    obtain ⟨ks, ⟨ak, ck, rfl, -⟩, -⟩ := hv.k
    clear hg hok hv
    generalize (pre t).map label = Ls at *
    go_wp2_with fail
    go_ret
    exact ⟨_, rfl, HV.out.same (World.grownBy_alloc _ _ none), grown_after G1.out⟩
  · exact absurd HOK.out hok

end Go.Proofs.Ytnppmemcdcgjhaa
