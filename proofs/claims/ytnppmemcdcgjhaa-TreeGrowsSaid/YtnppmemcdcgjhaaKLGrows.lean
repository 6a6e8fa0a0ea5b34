/- TreeGrows: for every input it answers true. -/
import Derived.Test.YtnppmemcdcgjhaaKp
import Derived.Deep.RegionHeld3
import Derived.Deep.DeepCutAuto
namespace Go.Proofs.Ytnppmemcdcgjhaa
open Tr Go.ChangeShapes Go.WideShapes Go.ChangeAt Go.RowKit
set_option linter.unusedVariables false

theorem TsR.same {P : Nat → Prop} {w w' : World} {a : Option Addr} {vs : List (Value × Tr)} (h : TsR P w a vs) (g : w.grownBy w' none) : TsR P w' a vs := h.kept g (by simp)
theorem bool_no {B : Bool} {p : Prop} (h : B = true ↔ p) (hn : ¬ p) : B = false := by
  cases B
  · rfl
  · exact absurd (h.1 rfl) hn
theorem BoxT.far {w w' : World} {d g r : Nat} {x y : Value} (h : BoxT w d g x y) (hg : w.grownBy w' (some r)) (hr : g ≠ r) : BoxT w' d g x y := ⟨hg.cell h.1 (by simpa using hr), hg.cell h.2.1 (by simpa using hr), h.2.2⟩
theorem cell_lt {w : World} {g o : Nat} {v : Value} (h : w.cell? ⟨g, o, none⟩ = some v) : g < w.heap.size := by
  rcases Nat.lt_or_ge g w.heap.size with h' | h'
  · exact h'
  · have : w.heap[g]? = none := Array.getElem?_eq_none h'
    simp [World.cell?, this] at h
theorem cell_blk {w : World} {g : Nat} {o : Obj} (h : w.heap[g]? = some o) : g < w.heap.size := (Array.getElem?_eq_some_iff.1 h).1
theorem h6_first {w1 w2 : World} {g : Nat} {o : Obj} (h : w1.heap[g]? = some o) (hg : w1.grownBy w2 none) : w2.heap[g]? = some o := (hg.block g (cell_blk h) (by simp)).trans h
theorem h6_next {w1 w2 : World} {g : Nat} {o : Obj} {v : Value} (h : w1.heap[g]? = some o) (hg : w1.grownBy w2 v.ownBlock) (hf : ∀ j, v.ownBlock = some j → j ≠ g) : w2.heap[g]? = some o := (hg.block g (cell_blk h) (fun e => hf g e.symm rfl)).trans h
theorem own_far {v : Value} {n g : Nat} (hb : ∀ j, v.ownBlock = some j → (Value.slice none 0 0).ownBlock = some j ∨ n ≤ j) (hg : g < n) : ∀ j, v.ownBlock = some j → j ≠ g := fun j hj => by
  rcases hb j hj with h | h
  · cases h
  · omega
theorem own_below {v : Value} {b n : Nat} (h : ∀ j, v.ownBlock = some j → b ≤ j ∧ j < n) : ∀ j, v.ownBlock = some j → j ≠ n := fun j hj => by have := h j hj; omega
theorem own_next {v u : Value} {n g : Nat} (hb : ∀ j, u.ownBlock = some j → v.ownBlock = some j ∨ n ≤ j) (hf : ∀ j, v.ownBlock = some j → j ≠ g) (hg : g < n) : u.ownBlock ≠ some g := fun e => by
  rcases hb g e with h | h
  · exact hf g h rfl
  · omega
theorem grown_own {w w1 w2 : World} {v : Value} {n : Nat} (g : w.grownBy w1 none) (hg : w1.grownBy w2 v.ownBlock) (hf : ∀ j, v.ownBlock = some j → w.heap.size ≤ j ∧ j < n) : w.grownBy w2 none := grown_then g hg (fun j hj => .inl (hf j hj).1)
/-- What there is behind the first new tree. -/
def Rel5 (w0 w : World) (p : Value) (d ga g6 B : Nat) (l : Int) (a b : Tr) (aa : Option Addr) (ca : Nat) (ab : Option Addr) (cb : Nat) : Prop :=
  St w0 w p d ∧ (0 ≤ l ∧ l < 3) ∧ BoxT w d ga (.int .i64 a.label) (.slice aa a.kids.length ca) ∧ BoxT w d (ga + 1) (.int .i64 b.label) (.slice ab b.kids.length cb) ∧ BoxT w d g6 (.int .i64 l) (.slice (some ⟨B, 0, none⟩) 1 1) ∧
    TrK (fun b => d < b) w (.slice aa a.kids.length ca) a ∧ TrK (fun b => d < b) w (.slice ab b.kids.length cb) b ∧ TrK (fun b => d < b) w (.slice (some ⟨B, 0, none⟩) 1 1) (.node l [b])
theorem rel5_b {w0 w : World} {p : Value} {d ga B : Nat} {l : Int} {a b : Tr} {aa : Option Addr} {ca : Nat} {ab : Option Addr} {cb : Nat} (hs : St w0 w p d) (hl : 0 ≤ l ∧ l < 3) (hb : BoxT w d (ga + 1) (.int .i64 b.label) (.slice ab b.kids.length cb))
    (h : BoxT w d ga (.int .i64 a.label) (.slice aa a.kids.length ca) ∧ TrK (fun b => d < b) w (.slice aa a.kids.length ca) a ∧ TrK (fun b => d < b) w (.slice ab b.kids.length cb) b ∧ d < w.heap.size)
    (h2 : w.heap[B]? = some (.cells #[.int .i64 b.label, .slice ab b.kids.length cb] 45 (0, 0)) ∧ d < B) : Rel5 w0 (w.alloc (.cells #[.int .i64 l, .slice (some ⟨B, 0, none⟩) 1 1] 45)) p d ga w.heap.size B l a b aa ca ab cb := by
  have g := World.grownBy_alloc w (.cells #[.int .i64 l, .slice (some ⟨B, 0, none⟩) 1 1] 45) none
  exact ⟨hs.step g, hl, h.1.step g, hb.step g, BoxT.mk (heap_new _ rfl) h.2.2.2, h.2.1.same g, h.2.2.1.same g, trk_one (by omega) (heap_old _ h2.1) h2.2 (h.2.2.1.same g)⟩
theorem rel5_a {w0 w : World} {p : Value} {d ga : Nat} {l : Int} {a b : Tr} {aa : Option Addr} {ca : Nat} {ab : Option Addr} {cb : Nat} (hs : St w0 w p d) (hl : 0 ≤ l ∧ l < 3) (hb : BoxT w d (ga + 1) (.int .i64 b.label) (.slice ab b.kids.length cb))
    (h : BoxT w d ga (.int .i64 a.label) (.slice aa a.kids.length ca) ∧ TrK (fun b => d < b) w (.slice aa a.kids.length ca) a ∧ TrK (fun b => d < b) w (.slice ab b.kids.length cb) b ∧ d < w.heap.size) :
    Rel5 w0 ((w.alloc (.cells #[.int .i64 b.label, .slice ab b.kids.length cb] 45)).alloc (.cells #[.int .i64 l, .slice (some ⟨w.heap.size, 0, none⟩) 1 1] 45)) p d ga (w.heap.size + 1) w.heap.size l a b aa ca ab cb := by
  have g := World.grownBy_alloc w (.cells #[.int .i64 b.label, .slice ab b.kids.length cb] 45) none
  have hsz : (w.alloc (.cells #[.int .i64 b.label, .slice ab b.kids.length cb] 45)).heap.size = w.heap.size + 1 := by show (w.heap.push _).size = _; simp
  have := rel5_b (w0 := w0) (w := w.alloc (.cells #[.int .i64 b.label, .slice ab b.kids.length cb] 45)) (B := w.heap.size) (hs.step g) hl (hb.step g) ⟨h.1.step g, h.2.1.same g, h.2.2.1.same g, by have := h.2.2.2; omega⟩ ⟨heap_new _ rfl, h.2.2.2⟩
  rwa [hsz] at this
theorem rel5_c {w0 w : World} {p : Value} {d ga : Nat} {l : Int} {a b : Tr} {aa : Option Addr} {ca : Nat} {ab : Option Addr} {cb : Nat} (hs : St w0 w p d) (hl : 0 ≤ l ∧ l < 3) (hb : BoxT w d (ga + 1) (.int .i64 b.label) (.slice ab b.kids.length cb))
    (h : BoxT w d ga (.int .i64 a.label) (.slice aa a.kids.length ca) ∧ TrK (fun b => d < b) w (.slice aa a.kids.length ca) a ∧ TrK (fun b => d < b) w (.slice ab b.kids.length cb) b ∧ d < w.heap.size) :
    Rel5 w0 ((w.alloc (.cells #[.int .i64 l, .slice (some ⟨w.heap.size + 1, 0, none⟩) 1 1] 45)).alloc (.cells #[.int .i64 b.label, .slice ab b.kids.length cb] 45)) p d ga w.heap.size (w.heap.size + 1) l a b aa ca ab cb := by
  have g : w.grownBy ((w.alloc (.cells #[.int .i64 l, .slice (some ⟨w.heap.size + 1, 0, none⟩) 1 1] 45)).alloc (.cells #[.int .i64 b.label, .slice ab b.kids.length cb] 45)) none := grown_after (World.grownBy_alloc _ _ none)
  exact ⟨hs.step g, hl, h.1.step g, hb.step g, BoxT.mk (heap_old _ (heap_new _ rfl)) h.2.2.2, h.2.1.same g, h.2.2.1.same g, trk_one (by omega) (heap_new _ (by show _ = (w.heap.push _).size; simp)) (by have := h.2.2.2; omega) (h.2.2.1.same g)⟩
theorem rel5_d {w0 w : World} {p : Value} {d ga g6 B M : Nat} {l : Int} {a b : Tr} {aa : Option Addr} {ca : Nat} {ab : Option Addr} {cb : Nat} (hs : St w0 w p d) (hl : 0 ≤ l ∧ l < 3) (hb : BoxT w d (ga + 1) (.int .i64 b.label) (.slice ab b.kids.length cb))
    (h : BoxT w d ga (.int .i64 a.label) (.slice aa a.kids.length ca) ∧ TrK (fun b => d < b ∧ b < M) w (.slice aa a.kids.length ca) a ∧ TrK (fun b => d < b ∧ b < M) w (.slice ab b.kids.length cb) b) (hga : ga + 1 < M)
    (h6 : w.heap[g6]? = some (.cells #[.int .i64 0, .slice none 0 0] 45 (0, 0))) (h2 : w.heap[B]? = some (.cells #[.int .i64 b.label, .slice ab b.kids.length cb] 45 (0, 0)) ∧ d < B) (hM : M ≤ g6) (hne : B ≠ g6) :
    Rel5 w0 ((w.setCell ⟨g6, 0, none⟩ (.int .i64 l)).setCell ⟨g6, 1, none⟩ (.slice (some ⟨B, 0, none⟩) 1 1)) p d ga g6 B l a b aa ca ab cb := by
  have g : w.grownBy ((w.setCell ⟨g6, 0, none⟩ (.int .i64 l)).setCell ⟨g6, 1, none⟩ (.slice (some ⟨B, 0, none⟩) 1 1)) (some g6) := grown_trans (grown_set _ _ _) (grown_set _ _ _)
  have hd : d < g6 := by have := hb.2.2; omega
  have tr : ∀ {y : Value} {t : Tr}, TrK (fun b => d < b ∧ b < M) w y t → TrK (fun b => d < b) ((w.setCell ⟨g6, 0, none⟩ (.int .i64 l)).setCell ⟨g6, 1, none⟩ (.slice (some ⟨B, 0, none⟩) 1 1)) y t := fun h => (h.kept g (by rintro j ⟨⟩ h; have := h.2; omega)).weak (fun b hb => hb.1)
  exact ⟨hs.out g (by rintro j ⟨⟩; exact hd), hl, h.1.far g (by omega), hb.far g (by omega), BoxT.mk (put_set h6).1 hd, tr h.2.1, tr h.2.2, trk_one (by omega) ((g.block B (cell_blk h2.1) (by simpa using hne)).trans h2.1) h2.2 (tr h.2.2)⟩
theorem gx_of2 {w w1 w2 : World} {r : Option Nat} (h : w1.grownBy w2 r) (g : w.grownBy w1 none) : w.grownBy w1 none := g
theorem keep_ne {w1 w2 : World} {d : Nat} (h : w1.grownBy w2 (some d)) : ∀ g o, w1.heap[g]? = some o → g ≠ d → w2.heap[g]? = some o := fun g o ho hne => (h.block g (cell_blk ho) (by simpa using hne)).trans ho
theorem no_d {d M : Nat} : ∀ k, some d = some k → ¬ (d < k ∧ k < M) := by rintro k ⟨⟩ h; omega
theorem r25_of {w : World} {d M ga : Nat} {x y : Value} {ya yb : Value} {a b : Tr} (h1 : BoxT w d ga x y) (h2 : TrK (fun b => d < b ∧ b < M) w ya a) (h3 : TrK (fun b => d < b ∧ b < M) w yb b) : ∀ w' : World, w.grownBy w' none → BoxT w' d ga x y ∧ TrK (fun b => d < b ∧ b < M) w' ya a ∧ TrK (fun b => d < b ∧ b < M) w' yb b := fun _ g => ⟨h1.step g, h2.same g, h3.same g⟩
theorem boxc {w : World} {d g : Nat} {x y : Value} (h : BoxT w d g x y) : w.cell? ⟨g, 0, none⟩ = some x ∧ w.cell? ⟨g, 1, none⟩ = some y := ⟨h.1, h.2.1⟩
theorem no_row (g : Nat) : (none : Option Nat) ≠ some g := by simp
theorem hm7 {vs : List (Value × Tr)} {b : Tr} (h : vs.map Prod.snd = b.kids) (k : Nat) (vx : Value) (x : Tr) : (vs.take k ++ [(vx, x)] ++ vs.drop k).map Prod.snd = b.kids.take k ++ [x] ++ b.kids.drop k := by
  rw [List.map_append, List.map_append, List.map_take, List.map_drop, h]; rfl
theorem top_ok {l : Int} {b : Tr} (hl : 0 ≤ l ∧ l < 3) (hz : (size b : Int) ≤ 7) (hb : Lab 2 b) : (size (Tr.node l [b]) : Int) ≤ 12 ∧ OkT (Tr.node l [b]) ∧ Emb b (Tr.node l [b]) := by
  have e : size (Tr.node l [b]) = 1 + size b := by rw [size_eq]; show sizeL [b] + 1 = _; rw [sizeL, sizeL]; omega
  have hz' : (size (Tr.node l [b]) : Int) ≤ 12 := by rw [e]; omega
  refine ⟨hz', ok_lab (L := 3) (by decide) hz' (fun u hu => ?_), .under (t := Tr.node l [b]) (List.mem_singleton.2 rfl) (emb_refl _)⟩
  rw [pre_eq] at hu
  rcases List.mem_cons.1 hu with rfl | hu
  · exact hl
  · obtain ⟨v, hv, hu⟩ := mem_preL.1 hu
    rw [List.mem_singleton.1 hv] at hu
    have := hb u hu; omega
theorem wide_ok {b x : Tr} (k : Nat) (hz : (size b : Int) ≤ 7) (hb : Lab 2 b) (hzx : size x ≤ 2) (hx : Lab 2 x) : (size (Tr.node b.label (b.kids.take k ++ [x] ++ b.kids.drop k)) : Int) ≤ 12 ∧ OkT (Tr.node b.label (b.kids.take k ++ [x] ++ b.kids.drop k)) ∧ Emb b (Tr.node b.label (b.kids.take k ++ [x] ++ b.kids.drop k)) := by
  have e : size (Tr.node b.label (b.kids.take k ++ [x] ++ b.kids.drop k)) = size b + size x := by
    have h1 : sizeL (b.kids.take k ++ b.kids.drop k) = sizeL b.kids := by rw [List.take_append_drop]
    rw [sizeL_app] at h1
    rw [size_eq, size_eq b]
    show sizeL (b.kids.take k ++ [x] ++ b.kids.drop k) + 1 = _
    rw [sizeL_app, sizeL_app, sizeL, sizeL]; omega
  have hz' : (size (Tr.node b.label (b.kids.take k ++ [x] ++ b.kids.drop k)) : Int) ≤ 12 := by rw [e]; omega
  refine ⟨hz', ok_lab (L := 2) (by decide) hz' (fun u hu => ?_), .here rfl ?_⟩
  · rw [pre_eq] at hu
    rcases List.mem_cons.1 hu with rfl | hu
    · exact hb b (by rw [pre_eq]; simp)
    · obtain ⟨v, hv, huv⟩ := mem_preL.1 hu
      have hv' : v ∈ b.kids ∨ v = x := by
        rcases List.mem_append.1 hv with hv | hv
        · rcases List.mem_append.1 hv with hv | hv
          · exact .inl (List.mem_of_mem_take hv)
          · exact .inr (List.mem_singleton.1 hv)
        · exact .inl (List.mem_of_mem_drop hv)
      rcases hv' with hv' | rfl
      · exact hb u (by rw [pre_eq]; exact List.mem_cons_of_mem _ (mem_preL.2 ⟨v, hv', huv⟩))
      · exact hx u huv
  · show EmbL b.kids (b.kids.take k ++ [x] ++ b.kids.drop k)
    have := embL_mid (b.kids.take k) x (ss := b.kids) (b := b.kids.drop k) (by rw [List.take_append_drop]; exact embL_refl _)
    rwa [List.append_assoc]
set_option maxRecDepth 100000 in
set_option maxHeartbeats 12000000 in
theorem walkTreeGrows (a0 : Option Addr) (len0 cap0 : Nat) (z0 : List Int) (w : World) (w0 : IsRow .i64 w a0 len0 cap0 z0) :
    Calls Try.prog 11 #[.slice a0 len0 cap0] w fun e w' => e = .returned (.bool true) ∧ Below w.heap.size w w' := by
  obtain ⟨hI, hlen⟩ := w0.ints
  generalize z0.take len0 = zs at hI hlen
  subst hlen
  have HI := Lib.hid hI
  clear hI w0
  by_cases hfew : (zs.length : Int) ≤ 400
  · go_enter Try.func11, Try.ntmps11
    go_wp2_with fail
    refine (awake04_any _).mono ?_
    rintro e w1 ⟨rfl, hg⟩
    have HG := Lib.hid hg
    clear hg
    go_wp2_with fail
    refine (few_any _ _ _ _).mono ?_
    rintro e w2 ⟨rfl, rfl⟩
    rw [decide_eq_true hfew]
    go_wp2_with fail
    refine (new_st (HI.out.same HG.out) HG.out).mono ?_
    rintro e w3 ⟨p, d, rfl, hs⟩
    have HS := Lib.hid hs
    clear hs HG HI
    go_wp2_with fail
    refine (tree_stI 2 4 (by omega) (by omega) (by omega) (by omega) HS.out).mono ?_
    rintro e w4 ⟨aa, ca, a, rfl, hk, hz, hl, hs, hg⟩
    replace HS := Lib.hid hs; have Ta := Lib.hid hk; have Za := Lib.hid hz; have Ba := Lib.hid hl
    clear hk hz hl hs hg
    have Oa : Hid (OkT a) := Lib.hid (ok_lab (by decide) (by have := Za.out; omega) Ba.out)
    go_wp2_with fail
    refine (tree_stI 2 7 (by omega) (by omega) (by omega) (by omega) HS.out).mono ?_
    rintro e w5 ⟨ab, cb, b, rfl, hk, hz, hl, hs, hg⟩
    replace Ta := Lib.hid (Ta.out.deal hg)
    replace HS := Lib.hid hs; have Tb := Lib.hid hk; have Zb := Lib.hid hz; have Bb := Lib.hid hl
    clear hk hz hl hs hg
    have Ob : Hid (OkT b) := Lib.hid (ok_lab (by decide) (by have := Zb.out; omega) Bb.out)
    have hlt : d < w5.heap.size := HS.out.lt
    have ba : BoxT (((w5).alloc (.cells #[.int .i64 a.label, .slice aa a.kids.length ca] 45)).alloc (.cells #[.int .i64 b.label, .slice ab b.kids.length cb] 45)) d (w5.heap.size) (.int .i64 a.label) (.slice aa a.kids.length ca) := BoxT.mk (e := 45) (heap_old _ (heap_new _ rfl)) (by omega)
    have bb : BoxT (((w5).alloc (.cells #[.int .i64 a.label, .slice aa a.kids.length ca] 45)).alloc (.cells #[.int .i64 b.label, .slice ab b.kids.length cb] 45)) d (w5.heap.size + 1) (.int .i64 b.label) (.slice ab b.kids.length cb) := BoxT.mk (e := 45) (heap_new _ (by show _ = (w5.heap.push _).size; simp)) (by omega)
    have hg : w5.grownBy (((w5).alloc (.cells #[.int .i64 a.label, .slice aa a.kids.length ca] 45)).alloc (.cells #[.int .i64 b.label, .slice ab b.kids.length cb] 45)) none := grown_after (World.grownBy_alloc _ _ none)
    go_wp2_with fail
    generalize ((w5).alloc (.cells #[.int .i64 a.label, .slice aa a.kids.length ca] 45)).alloc (.cells #[.int .i64 b.label, .slice ab b.kids.length cb] 45) = w6 at *
    replace Ta := Lib.hid (Ta.out.same hg)
    replace Tb := Lib.hid (Tb.out.same hg)
    replace HS := Lib.hid (HS.out.step hg)
    have Xa := Lib.hid ba
    have Xb := Lib.hid bb
    clear hg hlt ba bb
    skip
    skip
    generalize w6 = W5 at *
    obtain rfl : p = .pointer (some ⟨d, 0, none⟩) := by obtain ⟨_, _, _, _, _, h, _⟩ := HS.out.1; exact h
    obtain ⟨ga, hga⟩ : ∃ g, w5.heap.size = g := ⟨_, rfl⟩
    rw [hga] at Xa Xb ⊢
    clear hga
    go_cut [2, 3, 4, 5, 6] (fun s2 s3 s4 s5 s6 wx => s2 = .bool false ∧ s3 = .pointer (some ⟨d, 0, none⟩) ∧ s4 = .pointer (some ⟨ga, 0, none⟩) ∧ s5 = .pointer (some ⟨ga + 1, 0, none⟩) ∧ ∃ g6 B l, s6 = .pointer (some ⟨g6, 0, none⟩) ∧ Rel5 w wx (.pointer (some ⟨d, 0, none⟩)) d ga g6 B l a b aa ca ab cb)
    case first =>
      have GX : Hid (W5.grownBy W5.drew none) := Lib.hid (grown_drew _ none)
      have L3a : Hid ((1 : Int) ≤ 3) := Lib.hid (by decide)
      have L3b : Hid ((3 : Int) ≤ 4611686018427387904) := Lib.hid (by decide)
      have HSL : Hid (d < W5.heap.size) := Lib.hid HS.out.lt
      have HDN : Hid (W5.heap.size ≠ d) := Lib.hid (by have := HS.out.lt; omega)
      have HDN1 : Hid (W5.heap.size + 1 ≠ d) := Lib.hid (by have := HS.out.lt; omega)
      have HZ1a : Hid (W5.heap.size + 1 = (W5.drew.alloc (.cells #[.int .i64 b.label, .slice ab b.kids.length cb] 45)).heap.size) := Lib.hid (by show _ = (W5.heap.push _).size; simp)
      have HZ1b : Hid (W5.heap.size + 1 = (W5.drew.alloc (.cells #[.int .i64 0, .slice none 0 0] 45)).heap.size) := Lib.hid (by show _ = (W5.heap.push _).size; simp)
      have HGA : Hid (ga + 1 < W5.heap.size) := Lib.hid (cell_lt Xb.out.1)
      have HNa : Hid (ga + 1 ≠ W5.heap.size) := Lib.hid (Nat.ne_of_lt HGA.out)
      have HNb : Hid (ga + 1 ≠ W5.heap.size + 1) := Lib.hid (Nat.ne_of_lt (Nat.lt_succ_of_lt HGA.out))
      have TaB := Lib.hid Ta.out.bound; have TbB := Lib.hid Tb.out.bound
      go_region_held3 (fun w' => w'.cell? ⟨ga + 1, 0, none⟩ = some (.int .i64 b.label) ∧ w'.cell? ⟨ga + 1, 1, none⟩ = some (.slice ab b.kids.length cb)) (first | with_reducible exact boxc (Xb.out.step (grown_trans GX.out (grown_refl _ _))) | with_reducible exact boxc (Xb.out.step (grown_trans GX.out (World.grownBy_alloc _ _ none))) | with_reducible exact boxc (Xb.out.step (grown_trans GX.out (grown_after (World.grownBy_alloc _ _ none)))) | with_reducible exact boxc (X24.out.step (grown_refl _ _)) | with_reducible exact boxc (X24.out.step (World.grownBy_alloc _ _ none)) | with_reducible exact boxc (X24.out.step (grown_after (World.grownBy_alloc _ _ none))) | with_reducible exact boxc (X24.out.far (grown_set _ _ _) HNa.out) | with_reducible exact boxc ((X24.out.far (grown_set _ _ _) HNa.out).far (grown_set _ _ _) HNa.out) | with_reducible exact boxc ((X24.out.step (World.grownBy_alloc _ _ none)).far (grown_set _ _ _) HNa.out) | with_reducible exact boxc (((X24.out.step (World.grownBy_alloc _ _ none)).far (grown_set _ _ _) HNa.out).far (grown_set _ _ _) HNa.out) | with_reducible exact boxc (X24.out.far (grown_set _ _ _) HNb.out) | with_reducible exact boxc ((X24.out.far (grown_set _ _ _) HNb.out).far (grown_set _ _ _) HNb.out) | with_reducible exact boxc ((X24.out.step (World.grownBy_alloc _ _ none)).far (grown_set _ _ _) HNb.out) | with_reducible exact boxc (((X24.out.step (World.grownBy_alloc _ _ none)).far (grown_set _ _ _) HNb.out).far (grown_set _ _ _) HNb.out)) (first
        | (go_at_call 17; (with_reducible refine (next_st (St.step HS.out (grown_trans GX.out ?_)) 3 L3a.out L3b.out).mono ?_); (first | exact grown_refl _ _ | exact World.grownBy_alloc _ _ _ | exact grown_after (World.grownBy_alloc _ _ _) | exact grown_after (grown_after (World.grownBy_alloc _ _ _))); rintro e w24 ⟨l, rfl, hl0, hl1, hs, hg⟩; have hgx := gx_of2 (w := W5.drew) hg (by (first | exact grown_refl _ _ | exact World.grownBy_alloc _ _ _ | exact grown_after (World.grownBy_alloc _ _ _) | exact grown_after (grown_after (World.grownBy_alloc _ _ _)))); have HS4 := Lib.hid hs; have HL := Lib.hid (And.intro hl0 hl1); have HK24 := Lib.hid (keep_ne hg); have X24 := Lib.hid ((Xb.out.step (grown_trans GX.out hgx)).deal hg); have R24 := Lib.hid (And.intro ((Xa.out.step (grown_trans GX.out hgx)).deal hg) (And.intro ((Ta.out.same (grown_trans GX.out hgx)).deal hg) (And.intro ((Tb.out.same (grown_trans GX.out hgx)).deal hg) hs.lt))); have R25 := Lib.hid (r25_of (M := W5.heap.size) R24.out.1 ((TaB.out.same (grown_trans GX.out hgx)).kept hg (no_d (M := W5.heap.size))) ((TbB.out.same (grown_trans GX.out hgx)).kept hg (no_d (M := W5.heap.size)))); clear hs hg hgx hl0 hl1; first | (have h8 := HK24.out _ _ (heap_new (w := W5.drew) (g := W5.heap.size) (.cells #[.int .i64 0, .slice none 0 0] 45) rfl) HDN.out; obtain ⟨-, p2, p3, p4, p5⟩ := put_set (x := .int .i64 l) (y := .slice (some ⟨w24.heap.size, 0, none⟩) 1 1) (heap_old (.cells #[.int .i64 b.label, .slice ab b.kids.length cb] 45) h8); clear h8) | (have h8 := HK24.out _ _ (heap_new (w := W5.drew.alloc (.cells #[.int .i64 b.label, .slice ab b.kids.length cb] 45)) (g := W5.heap.size + 1) (.cells #[.int .i64 0, .slice none 0 0] 45) HZ1a.out) HDN1.out; obtain ⟨-, p2, p3, p4, p5⟩ := put_set (x := .int .i64 l) (y := .slice (some ⟨W5.heap.size, 0, none⟩) 1 1) h8; clear h8) | (have h8 := HK24.out _ _ (heap_old (.cells #[.int .i64 b.label, .slice ab b.kids.length cb] 45) (heap_new (w := W5.drew) (g := W5.heap.size) (.cells #[.int .i64 0, .slice none 0 0] 45) rfl)) HDN.out; obtain ⟨-, p2, p3, p4, p5⟩ := put_set (x := .int .i64 l) (y := .slice (some ⟨W5.heap.size + 1, 0, none⟩) 1 1) h8; clear h8) | skip))
      all_goals
        go_wp2_with fail
        go_meet
        refine ⟨rfl, rfl, rfl, rfl, ?_⟩
        first
        | (with_reducible refine ⟨w24.heap.size + 1, w24.heap.size, l, rfl, rel5_a HS4.out HL.out X24.out R24.out⟩)
        | (with_reducible refine ⟨w24.heap.size, w24.heap.size + 1, l, rfl, rel5_c HS4.out HL.out X24.out R24.out⟩)
        | (with_reducible refine ⟨w24.heap.size, W5.heap.size, l, rfl, rel5_b HS4.out HL.out X24.out R24.out ⟨?_, HSL.out⟩⟩); exact HK24.out _ _ (heap_new (w := W5.drew) (g := W5.heap.size) (.cells #[.int .i64 b.label, .slice ab b.kids.length cb] 45) rfl) HDN.out
        | (with_reducible refine ⟨W5.heap.size, w24.heap.size, l, rfl, rel5_d (M := W5.heap.size) (HS4.out.step (World.grownBy_alloc _ _ none)) HL.out (X24.out.step (World.grownBy_alloc _ _ none)) (R25.out _ (World.grownBy_alloc _ _ none)) HGA.out ?_ ⟨heap_new _ rfl, R24.out.2.2.2⟩ (Nat.le_refl _) ?_⟩); exact heap_old _ (HK24.out _ _ (heap_new (w := W5.drew) (g := W5.heap.size) (.cells #[.int .i64 0, .slice none 0 0] 45) rfl) HDN.out); exact Nat.ne_of_gt (cell_blk (HK24.out _ _ (heap_new (w := W5.drew) (g := W5.heap.size) (.cells #[.int .i64 0, .slice none 0 0] 45) rfl) HDN.out))
        | (with_reducible refine ⟨W5.heap.size + 1, W5.heap.size, l, rfl, rel5_d (M := W5.heap.size) HS4.out HL.out X24.out (R25.out _ (grown_refl _ _)) HGA.out ?_ ⟨?_, HSL.out⟩ (Nat.le_succ _) (Nat.ne_of_lt (Nat.lt_succ_self _))⟩); exact HK24.out _ _ (heap_new (w := W5.drew.alloc (.cells #[.int .i64 b.label, .slice ab b.kids.length cb] 45)) (g := W5.heap.size + 1) (.cells #[.int .i64 0, .slice none 0 0] 45) HZ1a.out) HDN1.out; exact HK24.out _ _ (heap_old _ (heap_new (w := W5.drew) (g := W5.heap.size) (.cells #[.int .i64 b.label, .slice ab b.kids.length cb] 45) rfl)) HDN.out
        | (with_reducible refine ⟨W5.heap.size, W5.heap.size + 1, l, rfl, rel5_d (M := W5.heap.size) HS4.out HL.out X24.out (R25.out _ (grown_refl _ _)) HGA.out ?_ ⟨?_, Nat.lt_succ_of_lt HSL.out⟩ (Nat.le_refl _) (Nat.ne_of_gt (Nat.lt_succ_self _))⟩); exact HK24.out _ _ (heap_old _ (heap_new (w := W5.drew) (g := W5.heap.size) (.cells #[.int .i64 0, .slice none 0 0] 45) rfl)) HDN.out; exact HK24.out _ _ (heap_new (w := W5.drew.alloc (.cells #[.int .i64 0, .slice none 0 0] 45)) (g := W5.heap.size + 1) (.cells #[.int .i64 b.label, .slice ab b.kids.length cb] 45) HZ1b.out) HDN1.out
    case rest =>
    obtain ⟨rfl, rfl, rfl, rfl, g6, B, l, rfl, hs, hl, hxa, hxb, hx6, hta, htb, ht6⟩ := hcut
    rename World => W6
    replace HS := Lib.hid hs; replace Xa := Lib.hid hxa; replace Xb := Lib.hid hxb; have X6 := Lib.hid hx6; replace Ta := Lib.hid hta; replace Tb := Lib.hid htb; have T6 := Lib.hid ht6; have HL := Lib.hid hl
    clear hs hl hxa hxb hx6 hta htb ht6
    have hb7 : b.kids.length ≤ 7 := by have h1 := sizeL_len b.kids; have h2 := size_eq b; have := Zb.out; omega
    have ik : IntKind.i64.wrap ((b.kids.length : Int) + 1) = (b.kids.length : Int) + 1 := IntWalk.i64_in _ (by omega)
    have xb0 := Xb.out.1; have xb1 := Xb.out.2.1
    go_upto_region 6 with fail
    go_wp2_with fail
    clear xb0 xb1
    refine (next_st HS.out ((b.kids.length : Int) + 1) (by omega) (by omega)).mono ?_
    rintro e W8 ⟨kk, rfl, hk0, hkk, hs, hg⟩
    obtain ⟨k, rfl⟩ : ∃ k : Nat, kk = (k : Int) := ⟨kk.toNat, by omega⟩
    have hkn : k ≤ b.kids.length := by omega
    replace Xa := Lib.hid (Xa.out.deal hg); replace Xb := Lib.hid (Xb.out.deal hg); replace X6 := Lib.hid (X6.out.deal hg); replace Ta := Lib.hid (Ta.out.deal hg); replace Tb := Lib.hid (Tb.out.deal hg); replace T6 := Lib.hid (T6.out.deal hg)
    replace HS := Lib.hid hs
    clear hs hg hk0 hkk
    have HLB := Lib.hid (TrK.labels b Tb.out b (by rw [pre_eq]; simp))
    obtain ⟨vs, hvs, hvl, htv, hnc, hcm, hnil⟩ := Tb.out.list
    obtain ⟨ta, tc, hrun, htt⟩ := trees_tail htv hvl hnc k hkn
    have HM := Lib.hid (fun vx x => hm7 hvs k vx x)
    have HKT : Hid ((vs.take k).length = k) := Lib.hid (by rw [List.length_take]; omega)
    have HKD : Hid ((vs.drop k).length = b.kids.length - k) := Lib.hid (by rw [List.length_drop, hvl])
    have HQ1 : Hid (k ≤ 1000000) := Lib.hid (by omega)
    have HQ2 : Hid ((vs.take k).length ≤ 1000000) := Lib.hid (by rw [List.length_take]; omega)
    have HQ3 : Hid (∀ vx : Value × Tr, (vs.take k ++ [vx]).length + (b.kids.length - k) ≤ 1000000000) := Lib.hid (fun vx => by rw [List.length_append, List.length_take]; simp only [List.length_singleton]; omega)
    have S : Hid (S7 w W8 (.pointer (some ⟨d, 0, none⟩)) d ab ta (vs.take k) (vs.drop k) none W8.drew) := Lib.hid ⟨HS.out.step (grown_drew _ none), grown_drew _ _, HS.out.lt, (fun g hg => by cases hg), (htv.bound.take k).same (grown_drew _ none), htt.bound.same (grown_drew _ none)⟩
    have HGA : Hid (ga + 1 < W8.heap.size) := Lib.hid (cell_lt Xb.out.1)
    have hkc : (k : Int) ≤ (cb : Int) := by omega
    have hkn2 : (k : Int) ≤ (b.kids.length : Int) := by omega
    have hcb : cb ≤ maxLen := hcm
    clear hvs hvl htv htt hnil hcm ik
    go_upto_region 7 with fail
    go_cut [2, 4, 5, 6, 8] (fun s2 s4 s5 s6 s8 wx => s2 = .bool false ∧ s4 = .pointer (some ⟨ga, 0, none⟩) ∧ s5 = .pointer (some ⟨ga + 1, 0, none⟩) ∧ s6 = .pointer (some ⟨g6, 0, none⟩) ∧ ∃ x g8 a8 n8 c8, s8 = .pointer (some ⟨g8, 0, none⟩) ∧ Rel7 w wx W8 (.pointer (some ⟨d, 0, none⟩)) d g8 a8 n8 c8 b.label (b.kids.take k ++ [x] ++ b.kids.drop k) ∧ size x ≤ 2 ∧ Lab 2 x)
    case first =>
      go_region_held3 (fun w' => w'.cell? ⟨ga + 1, 0, none⟩ = some (.int .i64 b.label) ∧ w'.cell? ⟨ga + 1, 1, none⟩ = some (.slice ab b.kids.length cb)) (first | with_reducible exact boxc (Xb.out.deal S.out.grown) | with_reducible exact boxc ((Xb.out.deal S.out.grown).step (World.grownBy_alloc _ _ none)) | with_reducible exact boxc ((Xb.out.deal S.out.grown).step (grown_after (World.grownBy_alloc _ _ none))) | with_reducible exact boxc ((Xb.out.deal S.out.grown).far (grown_set _ _ _) H4N.out) | with_reducible exact boxc (((Xb.out.deal S.out.grown).far (grown_set _ _ _) H4N.out).far (grown_set _ _ _) H4N.out)) (first
        | (go_at_call 32; (first | (refine (tree42r S.out R.out).mono ?_) | (refine (tree42r S.out.zero R.out.zero).mono ?_)); rintro e w42 ⟨⟨ax, cx, x, rfl, hS, hX, hz, hl⟩, hR⟩; replace S := Lib.hid hS; replace R := Lib.hid hR; have X := Lib.hid hX; have ZX := Lib.hid hz; have LX := Lib.hid hl; clear hS hX hz hl hR)
        | (go_at_call 32; (first | (refine (tree42 S.out).mono ?_) | (refine (tree42 (S7.zd (w := W8) S.out)).mono ?_) | (refine (tree42 S.out.zero).mono ?_)); rintro e w42 ⟨ax, cx, x, rfl, hS, hX, hz, hl⟩; replace S := Lib.hid hS; have X := Lib.hid hX; have ZX := Lib.hid hz; have LX := Lib.hid hl; clear hS hX hz hl)
        | (refine step40x rfl (.const (.slice none 0 0)) (.tmp 39) rfl rfl rfl HKT.out HQ1.out S.out X.out ?_; intro a40 n40 c40 w40 hS hR hX hg; replace S := Lib.hid hS; have R := Lib.hid hR; replace X := Lib.hid hX; clear hS hR hX hg)
        | (refine step40x rfl (.const (.slice none 0 0)) (.tmp 39) rfl rfl rfl HKT.out HQ1.out S.out.zero X.out.zero ?_; intro a40 n40 c40 w40 hS hR hX hg; replace S := Lib.hid hS; have R := Lib.hid hR; replace X := Lib.hid hX; clear hS hR hX hg)
        | (refine step40x rfl (.const (.slice none 0 0)) (.tmp 39) rfl rfl rfl HKT.out HQ1.out (S.out.same (World.grownBy_alloc _ _ none)) (X.out.same (World.grownBy_alloc _ _ none)) ?_; intro a40 n40 c40 w40 hS hR hX hg; have XR := Lib.hid (blk_keep (o := .cells #[.int .i64 x.label, .slice ax x.kids.length cx] 45 (0, 0)) (heap_new _ rfl) hg (no_row _)); replace S := Lib.hid hS; have R := Lib.hid hR; replace X := Lib.hid hX; clear hS hR hX hg)
        | (refine step40x rfl (.const (.slice none 0 0)) (.tmp 39) rfl rfl rfl HKT.out HQ1.out (S.out.zero.same (World.grownBy_alloc _ _ none)) (X.out.zero.same (World.grownBy_alloc _ _ none)) ?_; intro a40 n40 c40 w40 hS hR hX hg; have XR := Lib.hid (blk_keep (o := .cells #[.int .i64 x.label, .slice ax x.kids.length cx] 45 (0, 0)) (heap_new1 _ _) hg (no_row _)); replace S := Lib.hid hS; have R := Lib.hid hR; replace X := Lib.hid hX; clear hS hR hX hg)
        | (refine step40x rfl (.const (.slice none 0 0)) (.tmp 39) rfl rfl rfl HKT.out HQ1.out (S.out.xz _) (X.out.xz _ _) ?_; intro a40 n40 c40 w40 hS hR hX hg; have XR := Lib.hid (blk_keep (o := .cells #[.int .i64 x.label, .slice ax x.kids.length cx] 45 (0, 0)) (heap_old _ (heap_new _ rfl)) hg (no_row _)); replace S := Lib.hid hS; have R := Lib.hid hR; replace X := Lib.hid hX; clear hS hR hX hg)
        | (refine step40 rfl (.const (.slice none 0 0)) (.tmp 39) rfl rfl rfl HKT.out HQ1.out S.out ?_; intro a40 n40 c40 w40 hS hR; replace S := Lib.hid hS; have R := Lib.hid hR; clear hS hR)
        | (refine step40 rfl (.const (.slice none 0 0)) (.tmp 39) rfl rfl rfl HKT.out HQ1.out (S7.zd (w := W8) S.out) ?_; intro a40 n40 c40 w40 hS hR; replace S := Lib.hid hS; have R := Lib.hid hR; clear hS hR)
        | (refine step40 rfl (.const (.slice none 0 0)) (.tmp 39) rfl rfl rfl HKT.out HQ1.out S.out.zero ?_; intro a40 n40 c40 w40 hS hR; replace S := Lib.hid hS; have R := Lib.hid hR; clear hS hR)
        | (refine step44 rfl (.tmp 40) (.tmp 43) rfl rfl rfl HQ2.out S.out R.out X.out XR.out ?_; intro a44 n44 c44 w44 hS hR; replace S := Lib.hid hS; replace R := Lib.hid hR; clear hS hR)
        | (refine step44 rfl (.tmp 40) (.tmp 43) rfl rfl rfl HQ2.out S.out.zero R.out.zero X.out.zero (heap_old _ XR.out) ?_; intro a44 n44 c44 w44 hS hR; replace S := Lib.hid hS; replace R := Lib.hid hR; clear hS hR)
        | (refine step44 rfl (.tmp 40) (.tmp 43) rfl rfl rfl HQ2.out (S.out.same (World.grownBy_alloc _ _ none)) (R.out.same (World.grownBy_alloc _ _ none)) (X.out.same (World.grownBy_alloc _ _ none)) (heap_new _ rfl) ?_; intro a44 n44 c44 w44 hS hR; replace S := Lib.hid hS; replace R := Lib.hid hR; clear hS hR)
        | (refine step44 rfl (.tmp 40) (.tmp 43) rfl rfl rfl HQ2.out (S.out.zero.same (World.grownBy_alloc _ _ none)) (R.out.zero.same (World.grownBy_alloc _ _ none)) (X.out.zero.same (World.grownBy_alloc _ _ none)) (heap_new1 _ _) ?_; intro a44 n44 c44 w44 hS hR; replace S := Lib.hid hS; replace R := Lib.hid hR; clear hS hR)
        | (refine step44 rfl (.tmp 40) (.tmp 43) rfl rfl rfl HQ2.out (S.out.xz _) (R.out.xz _ _) (X.out.xz _ _) (heap_old _ (heap_new _ rfl)) ?_; intro a44 n44 c44 w44 hS hR; replace S := Lib.hid hS; replace R := Lib.hid hR; clear hS hR)
        | (refine step49 rfl (.tmp 44) (.tmp 48) rfl rfl rfl HKD.out (HQ3.out _) S.out R.out ?_; intro a49 n49 c49 w49 hS hR; replace S := Lib.hid hS; replace R := Lib.hid hR; clear hS hR; first | (have RB := Lib.hid (rel7_b (HM.out _ _) HLB.out S.out R.out); have H4N := Lib.hid (S.out.ne HGA.out); obtain ⟨-, p2, p3, p4, p5⟩ := put_set (x := .int .i64 b.label) (y := .slice a49 n49 c49) S.out.blk) | have RA := Lib.hid (rel7_a (HM.out _ _) HLB.out S.out R.out))
        | (refine step49 rfl (.tmp 44) (.tmp 48) rfl rfl rfl HKD.out (HQ3.out _) S.out.zero R.out.zero ?_; intro a49 n49 c49 w49 hS hR; replace S := Lib.hid hS; replace R := Lib.hid hR; clear hS hR; first | (have RB := Lib.hid (rel7_b (HM.out _ _) HLB.out S.out R.out); have H4N := Lib.hid (S.out.ne HGA.out); obtain ⟨-, p2, p3, p4, p5⟩ := put_set (x := .int .i64 b.label) (y := .slice a49 n49 c49) S.out.blk) | have RA := Lib.hid (rel7_a (HM.out _ _) HLB.out S.out R.out)))
      all_goals
        go_wp2_with fail
        go_meet
        refine ⟨rfl, rfl, rfl, rfl, ?_⟩
        first
        | with_reducible exact ⟨_, _, _, _, _, rfl, RB.out, ZX.out, LX.out⟩
        | with_reducible exact ⟨_, _, _, _, _, rfl, RA.out, ZX.out, LX.out⟩
    case rest =>
    obtain ⟨rfl, rfl, rfl, rfl, x, g8, a8, n8, c8, rfl, ⟨hs, hg, hn, hx, ht8⟩, hzx, hlx⟩ := hcut
    rename World => W9
    clear hrun HM HKT HKD HQ1 HQ2 HQ3 S hkc hkn2 hcb
    replace Xa := Lib.hid (Xa.out.deal hg); replace Xb := Lib.hid (Xb.out.deal hg); replace Ta := Lib.hid (Ta.out.deal hg); replace Tb := Lib.hid (Tb.out.deal hg); replace HS := Lib.hid hs
    have Xt : Hid (BoxT W9 d g6 (.int .i64 (Tr.node l [b]).label) (.slice (some ⟨B, 0, none⟩) 1 1)) := Lib.hid (X6.out.deal hg)
    have Tt := Lib.hid (T6.out.deal hg)
    have Xq : Hid (BoxT W9 d g8 (.int .i64 (Tr.node b.label (b.kids.take k ++ [x] ++ b.kids.drop k)).label) (.slice a8 n8 c8)) := Lib.hid hx
    have Tq := Lib.hid ht8
    obtain ⟨zt, ot, et⟩ := top_ok HL.out Zb.out Bb.out
    obtain ⟨zq, oq, eq⟩ := wide_ok k Zb.out Bb.out hzx hlx
    have Zt := Lib.hid zt; have Ot := Lib.hid ot; have Et := Lib.hid et; have Zq := Lib.hid zq; have Oq := Lib.hid oq; have Eq := Lib.hid eq
    clear hs hg hn hx ht8 hzx hlx zt ot et zq oq eq X6 T6
    generalize Tr.node l [b] = t at *
    generalize Tr.node b.label (b.kids.take k ++ [x] ++ b.kids.drop k) = q at *
    have xa0 := Xa.out.1; have xa1 := Xa.out.2.1
    have xb0 := Xb.out.1; have xb1 := Xb.out.2.1
    go_wp2_with fail
    clear xa0 xa1 xb0 xb1
    (with_reducible refine (LeqT_any a b _ _ _ Ta.out Tb.out (by have := Za.out; omega) (by have := Zb.out; omega)).mono ?_)
    rintro e w61 ⟨B1, rfl, hB, hg⟩
    have HB1 := Lib.hid hB
    replace Ta := Lib.hid (Ta.out.same hg)
    replace Tb := Lib.hid (Tb.out.same hg)
    replace Tt := Lib.hid (Tt.out.same hg)
    replace Tq := Lib.hid (Tq.out.same hg)
    replace Xa := Lib.hid (Xa.out.step hg)
    replace Xb := Lib.hid (Xb.out.step hg)
    replace Xt := Lib.hid (Xt.out.step hg)
    replace Xq := Lib.hid (Xq.out.step hg)
    replace HS := Lib.hid (HS.out.step hg)
    clear hB hg
    cases B1 with
    | false =>
      go_wp2_with fail
      go_ret
      exact ⟨rfl, HS.out.below⟩
    | true =>
      have H1 := Lib.hid (HB1.out.1 (by simp)).2.2
      have xa0 := Xa.out.1; have xa1 := Xa.out.2.1
      have xt0 := Xt.out.1; have xt1 := Xt.out.2.1
      go_wp2_with fail
      clear xa0 xa1 xt0 xt1
      (with_reducible refine (LeqT_any a t _ _ _ Ta.out Tt.out (by have := Za.out; omega) (by have := Zt.out; omega)).mono ?_)
      rintro e w62 ⟨B2, rfl, hB, hg⟩
      have HB2 := Lib.hid hB
      replace Ta := Lib.hid (Ta.out.same hg)
      replace Tb := Lib.hid (Tb.out.same hg)
      replace Tt := Lib.hid (Tt.out.same hg)
      replace Tq := Lib.hid (Tq.out.same hg)
      replace Xa := Lib.hid (Xa.out.step hg)
      replace Xb := Lib.hid (Xb.out.step hg)
      replace Xt := Lib.hid (Xt.out.step hg)
      replace Xq := Lib.hid (Xq.out.step hg)
      replace HS := Lib.hid (HS.out.step hg)
      clear hB hg
      obtain rfl : B2 = true := HB2.out.2 ⟨Oa.out, Ot.out, emb_trans _ _ _ H1.out Et.out⟩
      clear HB2
      have xa0 := Xa.out.1; have xa1 := Xa.out.2.1
      have xq0 := Xq.out.1; have xq1 := Xq.out.2.1
      go_wp2_with fail
      clear xa0 xa1 xq0 xq1
      (with_reducible refine (LeqT_any a q _ _ _ Ta.out Tq.out (by have := Za.out; omega) (by have := Zq.out; omega)).mono ?_)
      rintro e w63 ⟨B3, rfl, hB, hg⟩
      have HB3 := Lib.hid hB
      replace Ta := Lib.hid (Ta.out.same hg)
      replace Tb := Lib.hid (Tb.out.same hg)
      replace Tt := Lib.hid (Tt.out.same hg)
      replace Tq := Lib.hid (Tq.out.same hg)
      replace Xa := Lib.hid (Xa.out.step hg)
      replace Xb := Lib.hid (Xb.out.step hg)
      replace Xt := Lib.hid (Xt.out.step hg)
      replace Xq := Lib.hid (Xq.out.step hg)
      replace HS := Lib.hid (HS.out.step hg)
      clear hB hg
      obtain rfl : B3 = true := HB3.out.2 ⟨Oa.out, Oq.out, emb_trans _ _ _ H1.out Eq.out⟩
      clear HB3
      go_wp2_with fail
      go_ret
      exact ⟨rfl, HS.out.below⟩
  · go_enter Try.func11, Try.ntmps11
    go_wp2_with fail
    refine (awake04_any _).mono ?_
    rintro e w1 ⟨rfl, hg⟩
    have HG := Lib.hid hg
    clear hg
    go_wp2_with fail
    refine (few_any _ _ _ _).mono ?_
    rintro e w2 ⟨rfl, rfl⟩
    rw [decide_eq_false (by omega)]
    go_wp2_with fail
    refine (awake04_any _).mono ?_
    rintro e w3 ⟨rfl, hg⟩
    have HG := Lib.hid (grown_trans HG.out hg)
    clear hg
    go_wp2_with fail
    go_ret
    exact ⟨rfl, below_of HG.out⟩

/-! ### TreeGrows: the statement, from its walk -/
set_option maxRecDepth 100000 in
theorem liftedTreeGrows (os : Os) (started : os.Started) (H : Type) (enc : TypeId × Value → H) :
    ReturnsInHanded {} Try.checked os 11 .any (Rows.treeGrowsSpec.pre6 enc Try.prog Try.f11 Rows.treeGrowsRow.domain false) (Rows.treeGrowsSpec.post enc Try.prog Try.f11 false true false false) := by
  refine returnsInHanded_of_change (C := Try.checked) own started (by kernel_rfl) Try.func11
    (ChangeSpec.witness6 (enc := enc) (C := Try.checked) false ⟨#[], #[.slice none 0 0], []⟩ 8 (by kernel_rfl) (by kernel_rfl) (by kernel_rfl) (by kernel_rfl)) ?_
  intro W base args ds gs before hval0 hW hcnd _
  have hval : ∀ (j : Nat) t v, Try.f11.params[j]? = some t → args[j]? = some v → Value.okWide Try.prog W .any base t v := hval0
  have hW' := hW
  obtain ⟨p, q, hA0, hV, rfl, hfz, hnd⟩ := hW
  have hA : DataW.TrodAll enc Try.prog W 0 (fun _ => true) true Try.f11.params.toList args.toList ds p := hA0
  rw [Try.params11] at hA hval
  obtain ⟨v0, vs0, d0, ds0, p0, q0, hargs, rfl, rfl, h0, r0⟩ := trodAll_cons hA
  obtain ⟨rfl, rfl, rfl⟩ := trodAll_nil r0
  obtain rfl : args = #[v0] := by cases args; simp_all
  obtain ⟨rfl, rfl⟩ := trodVars_none hV
  obtain ⟨a0, len0, cap0, rfl⟩ := okWide_slice Try.underlying22 (hval 0 22 v0 rfl rfl)
  have k0 := h0
  have lt0 : ∀ x ∈ p0, x.block < W.heap.size := by obtain ⟨m, hm⟩ := k0; exact DataW.trod_lt m _ _ _ hm
  obtain ⟨z0, w0⟩ : ∃ zs, IsRow .i64 W a0 len0 cap0 zs := by
    obtain ⟨fuel, hf⟩ := h0
    rcases open_ints Try.underlying22 Try.underlying3 (by kernel_rfl) hf with ⟨hcs, _⟩ | ⟨x, l, c, zs, hcs, _, hl, hm, hz, _, hcell, hwz⟩
    · simp [Value.cells] at hcs
      obtain ⟨rfl, rfl, rfl⟩ := hcs
      exact ⟨[], .inl ⟨rfl, rfl, rfl, rfl⟩⟩
    · simp [Value.cells] at hcs
      obtain ⟨rfl, rfl, rfl⟩ := hcs
      exact ⟨zs, .inr ⟨_, rfl, hl, hm, by simpa using hz, hcell, hwz⟩⟩
  clear hA0 hval0
  refine (walkTreeGrows a0 len0 cap0 z0 W w0).mono fun e W' ⟨he, bel⟩ => ?_
  subst he
  exact ⟨_, rfl, _, _, _, [], _, [], hW', trodAll_mk1 (shut_bool Try.underlying4 _), (trodAll_cons_mk (Below.trod laidOut (by kernel_rfl) (of_decide_eq_true (by kernel_rfl)) k0 bel lt0) trodAll_mk0), rfl, bel.frame _, fun h => by cases h⟩

theorem treeGrows_holds : Rows.TreeGrowsSaid :=
  OpenClaim.holds_of_wide 11 Try.f11 rfl rfl rfl rfl rfl rfl rfl ⟨rfl, rfl, rfl, rfl, rfl⟩ rfl rfl rfl rfl rfl (by kernel_rfl) Try.func11 (by kernel_rfl)
    (of_decide_eq_true (by kernel_rfl)) (by unfold Func.isWrapper; first | (rw [if_pos (by decide +kernel)]; kernel_rfl) | (rw [if_neg (by decide +kernel)]; exact ⟨rfl, rfl⟩))
    (fun os started H enc _ => liftedTreeGrows os started H enc)
#print axioms treeGrows_holds
end Go.Proofs.Ytnppmemcdcgjhaa
