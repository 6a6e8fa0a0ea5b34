/- TreeBelow: for every input it answers true. -/
import Derived.Test.YtnppmemcdcgjhaaKo
import Derived.Deep.RegionHeld3
import Derived.Deep.DeepCutAuto
namespace Go.Proofs.Ytnppmemcdcgjhaa
open Tr Go.ChangeShapes Go.WideShapes Go.ChangeAt Go.RowKit
set_option linter.unusedVariables false

theorem TsR.same {P : Nat → Prop} {w w' : World} {a : Option Addr} {vs : List (Value × Tr)} (h : TsR P w a vs) (g : w.grownBy w' none) : TsR P w' a vs := h.kept g (by simp)
theorem bool_no {B : Bool} {p : Prop} (h : B = true ↔ p) (hn : ¬ p) : B = false := by
  cases B
  · rfl
  · exact absurd (h.1 rfl) hn
theorem BoxT.far {w w' : World} {d g r : Nat} {x y : Value} (h : BoxT w d g x y) (hg : w.grownBy w' (some r)) (hr : g ≠ r) : BoxT w' d g x y := ⟨hg.cell h.1 (by simpa using hr), hg.cell h.2.1 (by simpa using hr), h.2.2⟩
theorem cell_lt {w : World} {g o : Nat} {v : Value} (h : w.cell? ⟨g, o, none⟩ = some v) : g < w.heap.size := by
  rcases Nat.lt_or_ge g w.heap.size with h' | h'
  · exact h'
  · have : w.heap[g]? = none := Array.getElem?_eq_none h'
    simp [World.cell?, this] at h
theorem cell_blk {w : World} {g : Nat} {o : Obj} (h : w.heap[g]? = some o) : g < w.heap.size := (Array.getElem?_eq_some_iff.1 h).1
theorem h6_first {w1 w2 : World} {g : Nat} {o : Obj} (h : w1.heap[g]? = some o) (hg : w1.grownBy w2 none) : w2.heap[g]? = some o := (hg.block g (cell_blk h) (by simp)).trans h
theorem h6_next {w1 w2 : World} {g : Nat} {o : Obj} {v : Value} (h : w1.heap[g]? = some o) (hg : w1.grownBy w2 v.ownBlock) (hf : ∀ j, v.ownBlock = some j → j ≠ g) : w2.heap[g]? = some o := (hg.block g (cell_blk h) (fun e => hf g e.symm rfl)).trans h
theorem own_far {v : Value} {n g : Nat} (hb : ∀ j, v.ownBlock = some j → (Value.slice none 0 0).ownBlock = some j ∨ n ≤ j) (hg : g < n) : ∀ j, v.ownBlock = some j → j ≠ g := fun j hj => by
  rcases hb j hj with h | h
  · cases h
  · omega
theorem own_below {v : Value} {b n : Nat} (h : ∀ j, v.ownBlock = some j → b ≤ j ∧ j < n) : ∀ j, v.ownBlock = some j → j ≠ n := fun j hj => by have := h j hj; omega
theorem own_next {v u : Value} {n g : Nat} (hb : ∀ j, u.ownBlock = some j → v.ownBlock = some j ∨ n ≤ j) (hf : ∀ j, v.ownBlock = some j → j ≠ g) (hg : g < n) : u.ownBlock ≠ some g := fun e => by
  rcases hb g e with h | h
  · exact hf g h rfl
  · omega
theorem grown_own {w w1 w2 : World} {v : Value} {n : Nat} (g : w.grownBy w1 none) (hg : w1.grownBy w2 v.ownBlock) (hf : ∀ j, v.ownBlock = some j → w.heap.size ≤ j ∧ j < n) : w.grownBy w2 none := grown_then g hg (fun j hj => .inl (hf j hj).1)
/-- An own row of trees that lie below block M. -/
def KidsE (w : World) (D M : Nat) (v : Value) (us : List (Value × Tr)) : Prop := OwnTs w M v us ∧ ∀ u ∈ us, TrK (fun b => D < b ∧ b < M) w u.1 u.2
theorem KidsE.push {w1 w2 : World} {D M : Nat} {v v' : Value} {us vs : List (Value × Tr)} (h : KidsE w1 D M v us) (hv : ∀ u ∈ vs, TrK (fun b => D < b ∧ b < M) w1 u.1 u.2) (ho : OwnTs w2 M v' (us ++ vs)) (hg : w1.grownBy w2 v.ownBlock) : KidsE w2 D M v' (us ++ vs) :=
  ⟨ho, fun q hq => by
    have hq' : TrK (fun b => D < b ∧ b < M) w1 q.1 q.2 := by
      rcases List.mem_append.1 hq with hq | hq
      · exact h.2 q hq
      · exact hv q hq
    exact hq'.kept hg (fun k hk hp => by have := (h.1.fresh k hk).1; have := hp.2; omega)⟩
theorem KidsE.same {w w' : World} {D M : Nat} {v : Value} {us : List (Value × Tr)} (h : KidsE w D M v us) (g : w.grownBy w' none) : KidsE w' D M v us := ⟨World.ownsRow.kept h.1 g (row_none _), fun q hq => (h.2 q hq).same g⟩
theorem KidsE.tree {w : World} {D M : Nat} {v : Value} {us : List (Value × Tr)} (h : KidsE w D M v us) (hD : D < M) {l : Int} (hl : -9223372036854775808 ≤ l ∧ l ≤ 9223372036854775807) : TrK (fun b => D < b ∧ (b < M ∨ v.ownBlock = some b)) w v (.node l (us.map Prod.snd)) := by
  have hm : (us.map Prod.snd).length = us.length := List.length_map _
  rcases h.1.2 with ⟨rfl, h0⟩ | ⟨g, cap, cur, rfl, hbg, hg, hnc, hcm, hcs, htake⟩
  · have : us = [] := List.eq_nil_of_length_eq_zero h0
    subst this
    exact .mk l [] none 0 (fun _ => .slice none 0 0) hl (Nat.le_refl _) (Nat.zero_le _) (fun _ => rfl) (fun i hi => by simp at hi) (fun i hi => by simp at hi)
  · have hc := World.ownsRow.cells h.1 (g := g) rfl
    have := TrK.mk (P := fun b => D < b ∧ (b < M ∨ (Value.slice (some ⟨g, 0, none⟩) us.length cap).ownBlock = some b)) (w := w) l (us.map Prod.snd) (some ⟨g, 0, none⟩) cap (fun i => (us[i]?.getD (.slice none 0 0, .node 0 [])).1) hl (by rw [hm]; exact hnc) hcm (fun e => by cases e) (fun i hi => by
      rw [hm] at hi
      obtain ⟨c0, c1⟩ := cellsT_at us i hi
      refine ⟨g, 0, rfl, ⟨by omega, .inr rfl⟩, ?_, ?_⟩
      · have := hc _ _ c0
        rw [add_zero_off] at this
        simpa using this
      · have := hc _ _ c1
        rw [add_zero_off] at this
        simpa [List.getElem?_eq_getElem hi, Nat.add_assoc] using this) (fun i hi => by
      rw [hm] at hi
      have := h.2 _ (List.getElem_mem hi)
      simp only [List.getElem?_eq_getElem hi, Option.getD_some, List.getElem_map]
      exact this.weak (fun b hb => ⟨hb.1, .inl hb.2⟩))
    rwa [hm] at this
theorem kidsE_first {w1 w2 : World} {D M : Nat} {v : Value} {a : Option Addr} {vs : List (Value × Tr)} (h : TsR (fun b => D < b ∧ b < M) w1 a vs) (ho : OwnTs w2 M v ([] ++ vs)) (hg : w1.grownBy w2 none) : KidsE w2 D M v vs := ⟨ho, fun q hq => (h.mem q hq).same hg⟩
def lessT (t : Tr) (k : Nat) : Tr := .node t.label (t.kids.take k ++ t.kids.drop (k + 1))
theorem less_kids (t : Tr) (k : Nat) : (lessT t k).kids = t.kids.take k ++ t.kids.drop (k + 1) := rfl
theorem kids_split {t : Tr} {k : Nat} (hk : k < t.kids.length) : t.kids = t.kids.take k ++ t.kids[k] :: t.kids.drop (k + 1) := by rw [← List.drop_eq_getElem_cons hk, List.take_append_drop]
theorem less_size {t : Tr} {k : Nat} (hk : k < t.kids.length) : size (lessT t k) + size t.kids[k] = size t := by
  have := congrArg sizeL (kids_split hk)
  rw [sizeL_app, sizeL] at this
  rw [size_eq t, size_eq (lessT t k), less_kids, sizeL_app]
  omega
theorem less_emb {t : Tr} {k : Nat} (hk : k < t.kids.length) : Emb (lessT t k) t := .here rfl (by
  rw [less_kids]
  have := embL_mid (t.kids.take k) t.kids[k] (embL_refl (t.kids.take k ++ t.kids.drop (k + 1)))
  rwa [← kids_split hk] at this)
theorem ok_kid {t u : Tr} (h : OkT t) (hu : u ∈ t.kids) : OkT u := ⟨by have := size_kid hu; have := h.1; omega, fun v hv => h.2 v (by rw [pre_eq]; exact List.mem_cons_of_mem _ (mem_preL.2 ⟨u, hu, hv⟩))⟩
theorem ok_less {t : Tr} {k : Nat} (hk : k < t.kids.length) (h : OkT t) : OkT (lessT t k) := ⟨by have := less_size hk; have := h.1; omega, fun v hv => by
  rw [pre_eq] at hv
  rcases List.mem_cons.1 hv with rfl | hv
  · exact h.2 t (by rw [pre_eq]; simp)
  · obtain ⟨u, hu, hv⟩ := mem_preL.1 hv
    have hu' : u ∈ t.kids := by
      rw [less_kids] at hu
      rcases List.mem_append.1 hu with hu | hu
      · exact List.mem_of_mem_take hu
      · exact List.mem_of_mem_drop hu
    exact (ok_kid h hu').2 v hv⟩
/-- What there is behind the tree with a subtree less. -/
def Rel8 (w0 w W8 : World) (p : Value) (d g8 : Nat) (a8 : Option Addr) (n8 c8 : Nat) (t : Tr) (k : Nat) : Prop :=
  St w0 w p d ∧ W8.grownBy w none ∧ n8 = (lessT t k).kids.length ∧ BoxT w d g8 (.int .i64 (lessT t k).label) (.slice a8 n8 c8) ∧ TrK (fun b => d < b) w (.slice a8 n8 c8) (lessT t k)
theorem kidsE_less {w : World} {d M : Nat} {a : Option Addr} {n c k : Nat} {t : Tr} {vs : List (Value × Tr)} (h : KidsE w d M (.slice a n c) (vs.take k ++ vs.drop (k + 1))) (hvs : vs.map Prod.snd = t.kids) (hD : d < M) (hl : -9223372036854775808 ≤ t.label ∧ t.label ≤ 9223372036854775807) :
    TrK (fun b => d < b ∧ (b < M ∨ (Value.slice a n c).ownBlock = some b)) w (.slice a n c) (lessT t k) ∧ n = (lessT t k).kids.length := by
  have e : (vs.take k ++ vs.drop (k + 1)).map Prod.snd = (lessT t k).kids := by rw [List.map_append, List.map_take, List.map_drop, hvs, less_kids]
  have h1 := h.tree hD hl (l := t.label)
  rw [e] at h1
  refine ⟨h1, ?_⟩
  obtain ⟨a', c', hv⟩ := h1.slice
  simp only [Value.slice.injEq] at hv
  exact hv.2.1
theorem rel8_a {w0 w W8 : World} {p : Value} {d M : Nat} {a : Option Addr} {n c k : Nat} {t : Tr} {vs : List (Value × Tr)} (hD : d < M) (hvs : vs.map Prod.snd = t.kids) (hl : -9223372036854775808 ≤ t.label ∧ t.label ≤ 9223372036854775807) (hs : St w0 w p d) (hg : W8.grownBy w none) (hk : KidsE w d M (.slice a n c) (vs.take k ++ vs.drop (k + 1))) :
    Rel8 w0 (w.alloc (.cells #[.int .i64 t.label, .slice a n c] 45)) W8 p d w.heap.size a n c t k := by
  obtain ⟨h1, h2⟩ := kidsE_less hk hvs hD hl
  have g := World.grownBy_alloc w (.cells #[.int .i64 t.label, .slice a n c] 45) none
  exact ⟨hs.step g, grown_trans hg g, h2, BoxT.mk (heap_new _ rfl) hs.lt, (h1.same g).weak (fun b hb => hb.1)⟩
theorem rel8_b {w0 w W8 : World} {p : Value} {d M g8 : Nat} {a : Option Addr} {n c k : Nat} {t : Tr} {vs : List (Value × Tr)} (hD : d < M) (hvs : vs.map Prod.snd = t.kids) (hl : -9223372036854775808 ≤ t.label ∧ t.label ≤ 9223372036854775807) (hs : St w0 w p d) (hg : W8.grownBy w none) (hk : KidsE w d M (.slice a n c) (vs.take k ++ vs.drop (k + 1)))
    (h8 : w.heap[g8]? = some (.cells #[.int .i64 0, .slice none 0 0] 45 (0, 0))) (hM : M ≤ g8) (hM2 : W8.heap.size ≤ g8) (hno : (Value.slice a n c).ownBlock ≠ some g8) :
    Rel8 w0 ((w.setCell ⟨g8, 0, none⟩ (.int .i64 t.label)).setCell ⟨g8, 1, none⟩ (.slice a n c)) W8 p d g8 a n c t k := by
  obtain ⟨h1, h2⟩ := kidsE_less hk hvs hD hl
  have g : w.grownBy ((w.setCell ⟨g8, 0, none⟩ (.int .i64 t.label)).setCell ⟨g8, 1, none⟩ (.slice a n c)) (some g8) := grown_trans (grown_set _ _ _) (grown_set _ _ _)
  exact ⟨hs.out g (by rintro j ⟨⟩; omega), grown_then hg g (by rintro j ⟨⟩; exact .inl hM2), h2, BoxT.mk (put_set h8).1 (by omega), (h1.kept g (by
    rintro j ⟨⟩ ⟨-, h | h⟩
    · omega
    · exact hno h)).weak (fun b hb => hb.1)⟩
set_option maxRecDepth 100000 in
set_option maxHeartbeats 4000000 in
theorem walkTreeBelow (a0 : Option Addr) (len0 cap0 : Nat) (z0 : List Int) (w : World) (w0 : IsRow .i64 w a0 len0 cap0 z0) :
    Calls Try.prog 10 #[.slice a0 len0 cap0] w fun e w' => e = .returned (.bool true) ∧ Below w.heap.size w w' := by
  obtain ⟨hI, hlen⟩ := w0.ints
  generalize z0.take len0 = zs at hI hlen
  subst hlen
  have HI := Lib.hid hI
  clear hI w0
  by_cases hfew : (zs.length : Int) ≤ 400
  · go_enter Try.func10, Try.ntmps10
    go_wp2_with fail
    refine (awake04_any _).mono ?_
    rintro e w1 ⟨rfl, hg⟩
    have HG := Lib.hid hg
    clear hg
    go_wp2_with fail
    refine (few_any _ _ _ _).mono ?_
    rintro e w2 ⟨rfl, rfl⟩
    rw [decide_eq_true hfew]
    go_wp2_with fail
    refine (new_st (HI.out.same HG.out) HG.out).mono ?_
    rintro e w3 ⟨p, d, rfl, hs⟩
    have HS := Lib.hid hs
    clear hs HG HI
    go_wp2_with fail
    refine (tree_stI 3 12 (by omega) (by omega) (by omega) (by omega) HS.out).mono ?_
    rintro e w4 ⟨au, cu, u, rfl, hk, hz, hl, hs, hg⟩
    replace HS := Lib.hid hs; have Tu := Lib.hid hk; have Zu := Lib.hid hz; have Bu := Lib.hid hl
    clear hk hz hl hs hg
    have Ou : Hid (OkT u) := Lib.hid (ok_lab (by decide) (by have := Zu.out; omega) Bu.out)
    have HLB := Lib.hid (TrK.labels u Tu.out u (by rw [pre_eq]; simp))
    obtain rfl : p = .pointer (some ⟨d, 0, none⟩) := by obtain ⟨_, _, _, _, _, h, _⟩ := HS.out.1; exact h
    by_cases h0 : u.kids.length = 0
    · have hs1 : size u = 1 := by
        have : u.kids = [] := List.eq_nil_of_length_eq_zero h0
        rw [size_eq, this, sizeL]
      have k0 : ((u.kids.length : Int) == 0) = true := by rw [h0]; rfl
      have HS1 := Lib.hid hs1
      clear hs1 h0
      have hlt : d < w4.heap.size := HS.out.lt
      have bu : BoxT ((w4).alloc (.cells #[.int .i64 u.label, .slice au u.kids.length cu] 45)) d (w4.heap.size) (.int .i64 u.label) (.slice au u.kids.length cu) := BoxT.mk (e := 45) (heap_new _ rfl) (by omega)
      have hg : w4.grownBy ((w4).alloc (.cells #[.int .i64 u.label, .slice au u.kids.length cu] 45)) none := World.grownBy_alloc _ _ none
      go_wp2_with fail
      generalize (w4).alloc (.cells #[.int .i64 u.label, .slice au u.kids.length cu] 45) = w5 at *
      replace Tu := Lib.hid (Tu.out.same hg)
      replace HS := Lib.hid (HS.out.step hg)
      have Xu := Lib.hid bu
      clear hg hlt bu
      skip
      clear k0
      (with_reducible refine (SizeT_any u _ _ Tu.out Ou.out).mono ?_)
      rintro e w9 ⟨rfl, hg⟩
      rw [HS1.out]
      replace HS := Lib.hid (HS.out.step hg)
      clear hg
      go_wp2_with fail
      go_ret
      exact ⟨rfl, HS.out.below⟩
    · have hk1 : 1 ≤ u.kids.length := by omega
      have k0 : ((u.kids.length : Int) == 0) = false := beq_eq_false_iff_ne.2 (by omega)
      clear h0
      have hlt : d < w4.heap.size := HS.out.lt
      have bu : BoxT ((w4).alloc (.cells #[.int .i64 u.label, .slice au u.kids.length cu] 45)) d (w4.heap.size) (.int .i64 u.label) (.slice au u.kids.length cu) := BoxT.mk (e := 45) (heap_new _ rfl) (by omega)
      have hg : w4.grownBy ((w4).alloc (.cells #[.int .i64 u.label, .slice au u.kids.length cu] 45)) none := World.grownBy_alloc _ _ none
      go_wp2_with fail
      generalize (w4).alloc (.cells #[.int .i64 u.label, .slice au u.kids.length cu] 45) = w5 at *
      replace Tu := Lib.hid (Tu.out.same hg)
      replace HS := Lib.hid (HS.out.step hg)
      have Xu := Lib.hid bu
      clear hg hlt bu
      skip
      clear k0
      obtain ⟨g4, hg4⟩ : ∃ g, w4.heap.size = g := ⟨_, rfl⟩
      rw [hg4] at Xu ⊢
      clear hg4
      have hk12 : u.kids.length ≤ 12 := by have h1 := sizeL_len u.kids; have h2 := size_eq u; have := Zu.out; omega
      refine (next_st HS.out (u.kids.length : Int) (by omega) (by omega)).mono ?_
      rintro e W8 ⟨kk, rfl, hk0, hkk, hs, hg⟩
      obtain ⟨k, rfl⟩ : ∃ k : Nat, kk = (k : Int) := ⟨kk.toNat, by omega⟩
      have hkn : k < u.kids.length := by omega
      replace Xu := Lib.hid (Xu.out.deal hg); replace Tu := Lib.hid (Tu.out.deal hg)
      replace HS := Lib.hid hs
      clear hs hg hk0 hkk
      obtain ⟨vs, hvs, hvl, htv, hnc, hcm, hnil⟩ := Tu.out.list
      obtain ⟨ta, tc, hrun, htt⟩ := trees_tail htv hvl hnc (k + 1) (by omega)
      have hrun1 : ∀ w', (Instr.slice 43 (.slice au u.kids.length cu) (some (.int .i64 ((k : Int) + 1))) none none).run Try.prog w' = .ok (.slice ta (u.kids.length - (k + 1)) tc) w' := by
        intro w'
        have := hrun w'
        rwa [show ((k + 1 : Nat) : Int) = (k : Int) + 1 by omega] at this
      have HVS := Lib.hid hvs; have HVL := Lib.hid hvl; have TV := Lib.hid htv.bound; have TT := Lib.hid htt.bound; have HKL : Hid (k < vs.length) := Lib.hid (by rw [hvl]; exact hkn); have HKN : Hid (vs.length ≤ 12 ∧ k ≤ 12) := Lib.hid (by rw [hvl]; omega)
      have HKT : Hid ((vs.take k).length = k) := Lib.hid (by rw [List.length_take]; omega)
      have HKD : Hid ((vs.drop (k + 1)).length = u.kids.length - (k + 1)) := Lib.hid (by rw [List.length_drop, hvl])
      have HQ1 : Hid (([] : List (Value × Tr)).length + k ≤ 1000000000) := Lib.hid (by simp; omega)
      have HQ2 : Hid ((vs.take k).length + (u.kids.length - (k + 1)) ≤ 1000000000) := Lib.hid (by rw [List.length_take]; omega)
      have hkc : (k : Int) ≤ (cu : Int) := by omega
      have hkn2 : (k : Int) ≤ (u.kids.length : Int) := by omega
      have ik : IntKind.i64.wrap ((k : Int) + 1) = (k : Int) + 1 := IntWalk.i64_in _ (by omega)
      have hki : (k : Int) < (u.kids.length : Int) := by omega
      have HM : Hid (d < W8.heap.size) := Lib.hid HS.out.lt
      have hcb : cu ≤ maxLen := hcm
      clear hvs hvl htv htt hnil hrun
      go_upto_region 8 with fail
      go_cut [2, 3, 4, 5, 6] (fun s2 s3 s4 s5 s6 wx => s2 = .bool false ∧ s3 = .pointer (some ⟨d, 0, none⟩) ∧ s4 = .pointer (some ⟨g4, 0, none⟩) ∧ s5 = .int .i64 (k : Int) ∧ ∃ g8 a8 n8 c8, s6 = .pointer (some ⟨g8, 0, none⟩) ∧ Rel8 w wx W8 (.pointer (some ⟨d, 0, none⟩)) d g8 a8 n8 c8 u k)
      case first =>
        have GX : Hid (W8.grownBy W8.drew none) := Lib.hid (grown_drew _ _)
        have HG4 : Hid (g4 < W8.heap.size) := Lib.hid (cell_lt Xu.out.1)
        have HZS : Hid (W8.heap.size < (W8.drew.alloc (.cells #[.int .i64 0, .slice none 0 0] 45)).heap.size) := Lib.hid (by show _ < (W8.heap.push _).size; simp)
        have GZ : Hid (W8.drew.grownBy (W8.drew.alloc (.cells #[.int .i64 0, .slice none 0 0] 45)) none) := Lib.hid (World.grownBy_alloc _ _ none)
        go_region_held3 (fun w' => w'.cell? ⟨g4, 0, none⟩ = some (.int .i64 u.label) ∧ w'.cell? ⟨g4, 1, none⟩ = some (.slice au u.kids.length cu)) (first | exact ⟨(Xu.out.step GX.out).1, (Xu.out.step GX.out).2.1⟩ | exact ⟨((Xu.out.step GX.out).step (World.grownBy_alloc _ _ none)).1, ((Xu.out.step GX.out).step (World.grownBy_alloc _ _ none)).2.1⟩ | exact ⟨(Xu.out.step G37.out).1, (Xu.out.step G37.out).2.1⟩ | exact ⟨((Xu.out.step G37.out).step (World.grownBy_alloc _ _ none)).1, ((Xu.out.step G37.out).step (World.grownBy_alloc _ _ none)).2.1⟩ | exact ⟨(Xu.out.step G43.out).1, (Xu.out.step G43.out).2.1⟩ | exact ⟨((Xu.out.step G43.out).step (World.grownBy_alloc _ _ none)).1, ((Xu.out.step G43.out).step (World.grownBy_alloc _ _ none)).2.1⟩ | exact ⟨((Xu.out.step G43.out).far (grown_set _ _ _) H4N.out).1, ((Xu.out.step G43.out).far (grown_set _ _ _) H4N.out).2.1⟩ | exact ⟨(((Xu.out.step G43.out).far (grown_set _ _ _) H4N.out).far (grown_set _ _ _) H4N.out).1, (((Xu.out.step G43.out).far (grown_set _ _ _) H4N.out).far (grown_set _ _ _) H4N.out).2.1⟩) (first
          | ((refine step_app_trees rfl (.const (.slice none 0 0)) (.tmp 36) rfl W8.heap.size (.slice none 0 0) [] rfl (World.ownsRow_nil _ _ _ _) au k cu (vs.take k) rfl HKT.out ((TV.out.same GX.out).take k) HQ1.out (Nat.le_refl _) ?_); intro v37 w37 ho hg hb; obtain ⟨a37, n37, c37, rfl⟩ := ho.slice; have KV : Hid (KidsE w37 d W8.heap.size (.slice a37 n37 c37) (vs.take k)) := Lib.hid (kidsE_first ((TV.out.same GX.out).take k) ho hg); have G37 : Hid (W8.grownBy w37 none) := Lib.hid (grown_trans (GX.out) hg); clear ho hg hb)
          | ((refine step_app_trees rfl (.const (.slice none 0 0)) (.tmp 36) rfl W8.heap.size (.slice none 0 0) [] rfl (World.ownsRow_nil _ _ _ _) au k cu (vs.take k) rfl HKT.out (((TV.out.same GX.out).same GZ.out).take k) HQ1.out (GZ.out.size) ?_); intro v37 w37 ho hg hb; obtain ⟨a37, n37, c37, rfl⟩ := ho.slice; have KV : Hid (KidsE w37 d W8.heap.size (.slice a37 n37 c37) (vs.take k)) := Lib.hid (kidsE_first (((TV.out.same GX.out).same GZ.out).take k) ho hg); have G37 : Hid (W8.grownBy w37 none) := Lib.hid (grown_trans (grown_trans GX.out GZ.out) hg); have H6 := Lib.hid (h6_first (heap_new (w := W8.drew) (g := W8.heap.size) (.cells #[.int .i64 0, .slice none 0 0] 45) rfl) hg); have HF6 := Lib.hid (own_far hb HZS.out); clear ho hg hb)
          | (have hchk := H6.out; (refine step_app_trees rfl (.tmp 37) (.tmp 42) rfl W8.heap.size (.slice a37 n37 c37) (vs.take k) rfl KV.out.1 ta (u.kids.length - (k + 1)) tc (vs.drop (k + 1)) rfl HKD.out (TT.out.same G37.out) HQ2.out (G37.out.size) ?_); intro v43 w43 ho hg hb; obtain ⟨a43, n43, c43, rfl⟩ := ho.slice; have K43 : Hid (KidsE w43 d W8.heap.size (.slice a43 n43 c43) (vs.take k ++ vs.drop (k + 1))) := Lib.hid (KidsE.push KV.out (TT.out.same G37.out).mem ho hg); have G43 : Hid (W8.grownBy w43 none) := Lib.hid (grown_own (G37.out) hg KV.out.1.fresh); have H63 := Lib.hid (h6_next H6.out hg HF6.out); have HNO := Lib.hid (own_next hb HF6.out (cell_blk H6.out)); have H4N : Hid (g4 ≠ W8.heap.size) := Lib.hid (Nat.ne_of_lt (HG4.out)); have RB := Lib.hid (rel8_b HM.out HVS.out HLB.out (HS.out.step G43.out) G43.out K43.out H63.out (Nat.le_refl _) (Nat.le_refl _) HNO.out); obtain ⟨-, p2, p3, p4, p5⟩ := put_set (x := .int .i64 u.label) (y := .slice a43 n43 c43) H63.out; clear ho hg hb hchk)
          | ((refine step_app_trees rfl (.tmp 37) (.tmp 42) rfl W8.heap.size (.slice a37 n37 c37) (vs.take k) rfl KV.out.1 ta (u.kids.length - (k + 1)) tc (vs.drop (k + 1)) rfl HKD.out (TT.out.same G37.out) HQ2.out (G37.out.size) ?_); intro v43 w43 ho hg hb; obtain ⟨a43, n43, c43, rfl⟩ := ho.slice; have K43 : Hid (KidsE w43 d W8.heap.size (.slice a43 n43 c43) (vs.take k ++ vs.drop (k + 1))) := Lib.hid (KidsE.push KV.out (TT.out.same G37.out).mem ho hg); have G43 : Hid (W8.grownBy w43 none) := Lib.hid (grown_own (G37.out) hg KV.out.1.fresh); have RA := Lib.hid (rel8_a HM.out HVS.out HLB.out (HS.out.step G43.out) G43.out K43.out); clear ho hg hb)
          | ((refine step_app_trees rfl (.tmp 37) (.tmp 42) rfl W8.heap.size (.slice a37 n37 c37) (vs.take k) rfl (KV.out.same (World.grownBy_alloc w37 (.cells #[.int .i64 0, .slice none 0 0] 45) none)).1 ta (u.kids.length - (k + 1)) tc (vs.drop (k + 1)) rfl HKD.out ((TT.out.same G37.out).same (World.grownBy_alloc w37 (.cells #[.int .i64 0, .slice none 0 0] 45) none)) HQ2.out (Nat.le_trans G37.out.size (World.grownBy_alloc w37 (.cells #[.int .i64 0, .slice none 0 0] 45) none).size) ?_); intro v43 w43 ho hg hb; obtain ⟨a43, n43, c43, rfl⟩ := ho.slice; have K43 : Hid (KidsE w43 d W8.heap.size (.slice a43 n43 c43) (vs.take k ++ vs.drop (k + 1))) := Lib.hid (KidsE.push (KV.out.same (World.grownBy_alloc w37 (.cells #[.int .i64 0, .slice none 0 0] 45) none)) ((TT.out.same G37.out).same (World.grownBy_alloc w37 (.cells #[.int .i64 0, .slice none 0 0] 45) none)).mem ho hg); have G43 : Hid (W8.grownBy w43 none) := Lib.hid (grown_own (grown_trans G37.out (World.grownBy_alloc _ _ none)) hg (KV.out.same (World.grownBy_alloc w37 (.cells #[.int .i64 0, .slice none 0 0] 45) none)).1.fresh); have HF7 := Lib.hid (own_below KV.out.1.fresh); have H63 := Lib.hid (h6_next (heap_new (w := w37) (g := w37.heap.size) (.cells #[.int .i64 0, .slice none 0 0] 45) rfl) hg HF7.out); have HNO := Lib.hid (own_next hb HF7.out (cell_blk (heap_new (w := w37) (g := w37.heap.size) (.cells #[.int .i64 0, .slice none 0 0] 45) rfl))); have H4N : Hid (g4 ≠ w37.heap.size) := Lib.hid (Nat.ne_of_lt (Nat.lt_of_lt_of_le HG4.out G37.out.size)); have RB := Lib.hid (rel8_b HM.out HVS.out HLB.out (HS.out.step G43.out) G43.out K43.out H63.out (G37.out.size) (G37.out.size) HNO.out); obtain ⟨-, p2, p3, p4, p5⟩ := put_set (x := .int .i64 u.label) (y := .slice a43 n43 c43) H63.out; clear ho hg hb))
        all_goals
          go_wp2_with fail
          go_meet
          first
          | exact ⟨rfl, rfl, rfl, rfl, _, _, _, _, rfl, RA.out⟩
          | exact ⟨rfl, rfl, rfl, rfl, _, _, _, _, rfl, RB.out⟩
      case rest =>
      obtain ⟨rfl, rfl, rfl, rfl, g8, a8, n8, c8, rfl, hs, hg, hn, hx, ht8⟩ := hcut
      rename World => W9
      subst hn
      have X8 := Lib.hid hx; have T8 := Lib.hid ht8
      replace Xu := Lib.hid (Xu.out.step hg); replace Tu := Lib.hid (Tu.out.same hg); replace HS := Lib.hid hs
      clear hs hg hx ht8 hrun1 TV TT
      obtain ⟨kb, ko, ka, kc, rfl, -, hc0, hc1, hkk⟩ := Tu.out.kid hkn
      have TK := Lib.hid hkk; have C0 := Lib.hid hc0; have C1 := Lib.hid hc1
      have E1 : Hid (LeqP u.kids[k] u) := Lib.hid ⟨ok_kid Ou.out (List.getElem_mem hkn), Ou.out, .under (List.getElem_mem hkn) (emb_refl _)⟩
      have E2 : Hid (LeqP (lessT u k) u) := Lib.hid ⟨ok_less hkn Ou.out, Ou.out, less_emb hkn⟩
      have hsum := less_size hkn
      have E3 : Hid (¬ LeqP u (lessT u k)) := Lib.hid (fun h => by have := emb_size _ _ h.2.2; have := size_pos u.kids[k]; omega)
      have E4 : Hid (¬ LeqP u u.kids[k]) := Lib.hid (fun h => by have := emb_size _ _ h.2.2; have := size_pos (lessT u k); omega)
      have hu12 : size u ≤ 12 := Ou.out.1
      have isum : IntKind.i64.wrap ((size (lessT u k) : Int) + (size u.kids[k] : Int)) = (size u : Int) := by rw [IntWalk.i64_in _ (by omega)]; omega
      have N1 : Hid (size u ≤ 100000) := Lib.hid (by omega)
      have N2 : Hid (size (lessT u k) ≤ 100000) := Lib.hid (by omega)
      have N3 : Hid (size u.kids[k] ≤ 100000) := Lib.hid (by omega)
      have P2 := Lib.hid E2.out.1; have P3 := Lib.hid E1.out.1
      clear hkk hc0 hc1 hsum hu12
      generalize lessT u k = q at *
      generalize u.kids[k] = r at *
      have hnn : ∀ g : Nat, some g ≠ (none : Option Nat) := by intro g; simp
      have GX : Hid (W9.grownBy W9.drew none) := Lib.hid (grown_drew _ _)
      go_wp2_with fail
      go_region_held3 (fun w' => w'.cell? ⟨g4, 0, none⟩ = some (.int .i64 u.label) ∧ w'.cell? ⟨g4, 1, none⟩ = some (.slice (some ⟨kb, ko, none⟩) u.kids.length cu) ∧ w'.cell? ⟨g8, 0, none⟩ = some (.int .i64 q.label) ∧ w'.cell? ⟨g8, 1, none⟩ = some (.slice a8 q.kids.length c8) ∧ w'.cell? ⟨kb, ko + k * 2, none⟩ = some (.int .i64 r.label) ∧ w'.cell? ⟨kb, ko + k * 2 + 1, none⟩ = some (.slice ka r.kids.length kc)) (first | exact ⟨(Xu.out.step GX.out).1, (Xu.out.step GX.out).2.1, (X8.out.step GX.out).1, (X8.out.step GX.out).2.1, GX.out.cell C0.out (hnn _), GX.out.cell C1.out (hnn _)⟩) (first
        | (go_at_call 37; (with_reducible refine (LeqT_any r u (.slice ka r.kids.length kc) (.slice (some ⟨kb, ko, none⟩) u.kids.length cu) _ (TK.out.same GX.out) (Tu.out.same GX.out) N3.out N1.out).mono ?_); rintro e w30 ⟨Bo, rfl, hB, hg⟩; obtain rfl : Bo = true := hB.2 E1.out; have GY := Lib.hid hg; replace GX : Hid (W9.grownBy w30 none) := Lib.hid (grown_trans GX.out GY.out); clear hB hg)
        | (go_at_call 37; (with_reducible refine (LeqT_any q u (.slice a8 q.kids.length c8) (.slice (some ⟨kb, ko, none⟩) u.kids.length cu) _ (T8.out.same GX.out) (Tu.out.same GX.out) N2.out N1.out).mono ?_); rintro e w30 ⟨Bo, rfl, hB, hg⟩; obtain rfl : Bo = true := hB.2 E2.out; have GY := Lib.hid hg; replace GX : Hid (W9.grownBy w30 none) := Lib.hid (grown_trans GX.out GY.out); clear hB hg)
        | (go_at_call 37; (with_reducible refine (LeqT_any u q (.slice (some ⟨kb, ko, none⟩) u.kids.length cu) (.slice a8 q.kids.length c8) _ (Tu.out.same GX.out) (T8.out.same GX.out) N1.out N2.out).mono ?_); rintro e w30 ⟨Bo, rfl, hB, hg⟩; obtain rfl : Bo = false := bool_no hB E3.out; have GY := Lib.hid hg; replace GX : Hid (W9.grownBy w30 none) := Lib.hid (grown_trans GX.out GY.out); clear hB hg)
        | (go_at_call 37; (with_reducible refine (LeqT_any u r (.slice (some ⟨kb, ko, none⟩) u.kids.length cu) (.slice ka r.kids.length kc) _ (Tu.out.same GX.out) (TK.out.same GX.out) N1.out N3.out).mono ?_); rintro e w30 ⟨Bo, rfl, hB, hg⟩; obtain rfl : Bo = false := bool_no hB E4.out; have GY := Lib.hid hg; replace GX : Hid (W9.grownBy w30 none) := Lib.hid (grown_trans GX.out GY.out); clear hB hg)
        | (go_at_call 35; (with_reducible refine (SizeT_any q (.slice a8 q.kids.length c8) _ (T8.out.same GX.out) P2.out).mono ?_); rintro e w30 ⟨rfl, hg⟩; have GY := Lib.hid hg; replace GX : Hid (W9.grownBy w30 none) := Lib.hid (grown_trans GX.out GY.out); clear hg)
        | (go_at_call 35; (with_reducible refine (SizeT_any r (.slice ka r.kids.length kc) _ (TK.out.same GX.out) P3.out).mono ?_); rintro e w30 ⟨rfl, hg⟩; have GY := Lib.hid hg; replace GX : Hid (W9.grownBy w30 none) := Lib.hid (grown_trans GX.out GY.out); clear hg)
        | (go_at_call 35; (with_reducible refine (SizeT_any u (.slice (some ⟨kb, ko, none⟩) u.kids.length cu) _ (Tu.out.same GX.out) Ou.out).mono ?_); rintro e w30 ⟨rfl, hg⟩; have GY := Lib.hid hg; replace GX : Hid (W9.grownBy w30 none) := Lib.hid (grown_trans GX.out GY.out); clear hg))
      all_goals
        go_wp2_with fail
        go_ret
        exact ⟨rfl, (HS.out.step GX.out).below⟩
  · go_enter Try.func10, Try.ntmps10
    go_wp2_with fail
    refine (awake04_any _).mono ?_
    rintro e w1 ⟨rfl, hg⟩
    have HG := Lib.hid hg
    clear hg
    go_wp2_with fail
    refine (few_any _ _ _ _).mono ?_
    rintro e w2 ⟨rfl, rfl⟩
    rw [decide_eq_false (by omega)]
    go_wp2_with fail
    refine (awake04_any _).mono ?_
    rintro e w3 ⟨rfl, hg⟩
    have HG := Lib.hid (grown_trans HG.out hg)
    clear hg
    go_wp2_with fail
    go_ret
    exact ⟨rfl, below_of HG.out⟩

/-! ### TreeBelow: the statement, from its walk -/
set_option maxRecDepth 100000 in
theorem liftedTreeBelow (os : Os) (started : os.Started) (H : Type) (enc : TypeId × Value → H) :
    ReturnsInHanded {} Try.checked os 10 .any (Rows.treeBelowSpec.pre6 enc Try.prog Try.f10 Rows.treeBelowRow.domain false) (Rows.treeBelowSpec.post enc Try.prog Try.f10 false true false false) := by
  refine returnsInHanded_of_change (C := Try.checked) own started (by kernel_rfl) Try.func10
    (ChangeSpec.witness6 (enc := enc) (C := Try.checked) false ⟨#[], #[.slice none 0 0], []⟩ 8 (by kernel_rfl) (by kernel_rfl) (by kernel_rfl) (by kernel_rfl)) ?_
  intro W base args ds gs before hval0 hW hcnd _
  have hval : ∀ (j : Nat) t v, Try.f10.params[j]? = some t → args[j]? = some v → Value.okWide Try.prog W .any base t v := hval0
  have hW' := hW
  obtain ⟨p, q, hA0, hV, rfl, hfz, hnd⟩ := hW
  have hA : DataW.TrodAll enc Try.prog W 0 (fun _ => true) true Try.f10.params.toList args.toList ds p := hA0
  rw [Try.params10] at hA hval
  obtain ⟨v0, vs0, d0, ds0, p0, q0, hargs, rfl, rfl, h0, r0⟩ := trodAll_cons hA
  obtain ⟨rfl, rfl, rfl⟩ := trodAll_nil r0
  obtain rfl : args = #[v0] := by cases args; simp_all
  obtain ⟨rfl, rfl⟩ := trodVars_none hV
  obtain ⟨a0, len0, cap0, rfl⟩ := okWide_slice Try.underlying22 (hval 0 22 v0 rfl rfl)
  have k0 := h0
  have lt0 : ∀ x ∈ p0, x.block < W.heap.size := by obtain ⟨m, hm⟩ := k0; exact DataW.trod_lt m _ _ _ hm
  obtain ⟨z0, w0⟩ : ∃ zs, IsRow .i64 W a0 len0 cap0 zs := by
    obtain ⟨fuel, hf⟩ := h0
    rcases open_ints Try.underlying22 Try.underlying3 (by kernel_rfl) hf with ⟨hcs, _⟩ | ⟨x, l, c, zs, hcs, _, hl, hm, hz, _, hcell, hwz⟩
    · simp [Value.cells] at hcs
      obtain ⟨rfl, rfl, rfl⟩ := hcs
      exact ⟨[], .inl ⟨rfl, rfl, rfl, rfl⟩⟩
    · simp [Value.cells] at hcs
      obtain ⟨rfl, rfl, rfl⟩ := hcs
      exact ⟨zs, .inr ⟨_, rfl, hl, hm, by simpa using hz, hcell, hwz⟩⟩
  clear hA0 hval0
  refine (walkTreeBelow a0 len0 cap0 z0 W w0).mono fun e W' ⟨he, bel⟩ => ?_
  subst he
  exact ⟨_, rfl, _, _, _, [], _, [], hW', trodAll_mk1 (shut_bool Try.underlying4 _), (trodAll_cons_mk (Below.trod laidOut (by kernel_rfl) (of_decide_eq_true (by kernel_rfl)) k0 bel lt0) trodAll_mk0), rfl, bel.frame _, fun h => by cases h⟩

theorem treeBelow_holds : Rows.TreeBelowSaid :=
  OpenClaim.holds_of_wide 10 Try.f10 rfl rfl rfl rfl rfl rfl rfl ⟨rfl, rfl, rfl, rfl, rfl⟩ rfl rfl rfl rfl rfl (by kernel_rfl) Try.func10 (by kernel_rfl)
    (of_decide_eq_true (by kernel_rfl)) (by unfold Func.isWrapper; first | (rw [if_pos (by decide +kernel)]; kernel_rfl) | (rw [if_neg (by decide +kernel)]; exact ⟨rfl, rfl⟩))
    (fun os started H enc _ => liftedTreeBelow os started H enc)
#print axioms treeBelow_holds
end Go.Proofs.Ytnppmemcdcgjhaa
