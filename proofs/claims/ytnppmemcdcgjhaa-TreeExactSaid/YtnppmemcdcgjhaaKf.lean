/- Numbering the nodes of a tree. -/
import Derived.Test.YtnppmemcdcgjhaaKe
import Derived.Deep.DeepCutAuto
namespace Go.Proofs.Ytnppmemcdcgjhaa
open Go.RowKit Tr
set_option linter.unusedVariables false

theorem gx_of {w w1 w2 : World} {r : Option Nat} (h : w1.grownBy w2 r) (g : w.grownBy w1 none) : w.grownBy w1 none := g
theorem lies_of {v u : Value} {a b : Nat} (h : ∀ g, v.ownBlock = some g → u.ownBlock = some g ∨ b ≤ g) (hab : a ≤ b) : ∀ g, v.ownBlock = some g → u.ownBlock = some g ∨ a ≤ g := fun g e => (h g e).imp_right (Nat.le_trans hab)
theorem row_none (v : Value) : v.ownBlock = none ∨ v.ownBlock ≠ none := by
  cases v.ownBlock
  · exact .inl rfl
  · exact .inr (by simp)
theorem own_sl {w : World} {base : Nat} {e : TypeId} {size n : Nat} {v : Value} {xs : List Value} (h : w.ownsRow base e size v n xs) : ∃ a c, v = .slice a n c := by
  rcases h.2 with ⟨rfl, h0⟩ | ⟨g, cap, cur, rfl, _⟩
  · exact ⟨none, 0, by rw [h0]⟩
  · exact ⟨_, cap, rfl⟩
theorem own_sl3 {w : World} {base : Nat} {e : TypeId} {size n : Nat} {v : Value} {xs : List Value} (h : w.ownsRow base e size v n xs) : ∃ a m c, v = .slice a m c := by
  obtain ⟨a, c, h⟩ := own_sl h
  exact ⟨a, n, c, h⟩
theorem fr_push {w w1 w2 : World} {F o : Nat} {u v : Value} (g1 : w.grownBy w1 none) (g2 : w1.grownBy w2 u.ownBlock) : Fr w (w2.setCell ⟨F, o, none⟩ v) (fun k => k = F ∨ u.ownBlock = some k) :=
  ((fr_of g1 (S := fun k => k = F ∨ u.ownBlock = some k) (by simp)).trans (fr_of g2 (S := fun k => k = F ∨ u.ownBlock = some k) (fun k hk => .inr hk)) (fun _ _ h => h)).trans (fr_of (grown_set w2 ⟨F, o, none⟩ v) (S := fun k => k = F ∨ u.ownBlock = some k) (fun k hk => by cases hk; exact .inl rfl)) (fun _ _ h => h)
theorem own_sl1 {w : World} {base : Nat} {e : TypeId} {size n : Nat} {v : Value} {xs : List Value} (h : w.ownsRow base e size v n xs) (h1 : 1 ≤ n) : ∃ g c, v = .slice (some ⟨g, 0, none⟩) n c ∧ base ≤ g := by
  rcases h.2 with ⟨rfl, h0⟩ | ⟨g, cap, cur, rfl, hb, _⟩
  · omega
  · exact ⟨_, cap, rfl, hb⟩
/-- What a call of add leaves. -/
structure Added (ns : List Tr) (n : Nat) (x x' : FX) : Prop where
  L : x'.L = x.L ++ ns.map label
  E : x'.E = x.E ++ flE n ns
  K : x'.ks.map Prod.snd = x.ks.map Prod.snd ++ flK n ns
/-- A node whose first kids are done. -/
structure Prog (l : Int) (n : Nat) (ks : List Tr) (x x' : FX) : Prop where
  L : x'.L = x.L ++ l :: (preL ks).map label
  E : x'.E = x.E ++ 0 :: flE (n + 1) (preL ks)
  K : x'.ks.map Prod.snd = x.ks.map Prod.snd ++ [] :: flK (n + 1) (preL ks)
theorem Prog.next {l : Int} {n : Nat} {ks : List Tr} {x x1 x2 : FX} {k : Tr} (h : Prog l n ks x x1) (a : Added (pre k) (n + 1 + sizeL ks) x1 x2) : Prog l n (ks ++ [k]) x x2 := by
  have e : preL (ks ++ [k]) = preL ks ++ pre k := by rw [preL_app, preL_one]
  have e2 : n + 1 + (preL ks).length = n + 1 + sizeL ks := by rw [len_preL]
  refine ⟨?_, ?_, ?_⟩
  · rw [a.L, h.L, e, List.map_append]; simp
  · rw [a.E, h.E, e, flE_app, e2]; simp
  · rw [a.K, h.K, e, flK_app, e2]; simp
theorem Prog.lens {l : Int} {n : Nat} {ks : List Tr} {x x1 : FX} (h : Prog l n ks x x1) (h1 : x.L.length = n) (h2 : x.E.length = n) (h3 : x.ks.length = n) : x1.L.length = n + 1 + sizeL ks ∧ x1.E.length = n + 1 + sizeL ks ∧ x1.ks.length = n + 1 + sizeL ks := by
  refine ⟨?_, ?_, ?_⟩
  · rw [h.L]; simp [len_preL]; omega
  · rw [h.E]; simp [flE_len, len_preL]; omega
  · have := congrArg List.length h.K
    simp [flK_len, len_preL] at this
    omega
theorem set_mid {α : Type} : ∀ (xs : List α) (z v : α) (ys : List α), (xs ++ z :: ys).set xs.length v = xs ++ v :: ys
  | [], z, v, ys => rfl
  | x :: xs, z, v, ys => by simp [set_mid xs z v ys]
theorem Prog.done {t : Tr} {n : Nat} {x x1 x2 : FX} (h : Prog t.label n t.kids x x1) (h2 : x.E.length = n) (h3 : x.ks.length = n) (hL : x2.L = x1.L) (hE : x2.E = x1.E.set n ((n + 1 + sizeL t.kids : Nat) : Int)) (hK : x2.ks.map Prod.snd = (x1.ks.map Prod.snd).set n ((starts (n + 1) t.kids).map Int.ofNat)) : Added (pre t) n x x2 := by
  refine ⟨?_, ?_, ?_⟩
  · rw [hL, h.L, pre_eq, List.map_cons]
  · rw [hE, h.E, ← h2, set_mid, pre_eq, flE, size_eq, h2]
    congr 3; omega
  · rw [hK, h.K]
    have : x.ks.length = (x.ks.map Prod.snd).length := by simp
    rw [← h3, this, set_mid, pre_eq, flK, ← this, h3]
theorem ownI_base {w : World} {a b : Nat} {v : Value} {xs : List Int} (h : OwnI w b v xs) (hab : a ≤ b) : OwnI w a v xs := by
  rcases h.2 with h0 | ⟨g, cap, cur, rfl, hb, hr⟩
  · exact ⟨h.1, .inl h0⟩
  · exact ⟨h.1, .inr ⟨g, cap, cur, rfl, Nat.le_trans hab hb, hr⟩⟩
theorem FlatB.setB {w : World} {F g o : Nat} {x : FX} {v : Value} (h : FlatB w F x) (hg : g ≠ F) : (w.setCell ⟨g, o, none⟩ v).heap[F]? = some (.cells #[x.vl, x.ve, x.vk] 71 (0, 0)) := by
  rw [(grown_set w ⟨g, o, none⟩ v).block F h.lt (fun e => by cases e; exact hg rfl)]
  exact h.blk
def AddTo (t : Tr) (w : World) (F : Nat) (x : FX) (e : Ending) (w' : World) : Prop := ∃ x', e = .returned (.int .i64 (x.L.length : Int)) ∧ FlatB w' F x' ∧ FS w F x w' x' ∧ Added (pre t) x.L.length x x'
/-- The beginning of a node: its label, no end yet, no kids yet. -/
structure Begun (l : Int) (x x' : FX) (a b c : Bool) : Prop where
  L : x'.L = if a then x.L ++ [l] else x.L
  E : x'.E = if b then x.E ++ [0] else x.E
  K : x'.ks.map Prod.snd = if c then x.ks.map Prod.snd ++ [[]] else x.ks.map Prod.snd
def Cut1 (wB : World) (F B : Nat) (x : FX) (l : Int) (box : Obj) (a b c : Bool) (wx : World) : Prop := ∃ x1, FlatB wx F x1 ∧ FS wB F x wx x1 ∧ Begun l x x1 a b c ∧ wx.heap[B]? = some box

set_option maxRecDepth 100000 in
set_option maxHeartbeats 4000000 in
theorem add_any (t : Tr) : ∀ {P : Nat → Prop} (y : Value) (w : World) (F : Nat) (x : FX), TrK P w y t → (∀ b, P b → b ≠ F ∧ ¬ x.own b) → FlatB w F x → x.L.length + size t ≤ 12 → x.E.length = x.L.length → x.ks.length = x.L.length →
    Calls Try.prog 68 #[.pointer (some ⟨F, 0, none⟩), .agg #[.int .i64 t.label, y]] w (AddTo t w F x) := by
  induction t using tr_ind with
  | h t ih =>
  intro P y w F x hk hP hB hlen hE hK
  obtain ⟨a, cap, rfl⟩ := hk.slice
  have IH := Lib.hid ih
  have HTK := Lib.hid hk.bound
  have HP := Lib.hid hP
  obtain ⟨n, hn⟩ : ∃ n, x.L.length = n := ⟨_, rfl⟩
  rw [hn] at hlen hE hK
  have HN := Lib.hid hn; have HE := Lib.hid hE; have HK := Lib.hid hK; have HLEN := Lib.hid hlen
  have hn12 : n ≤ 12 := by omega
  have hkl : t.kids.length ≤ 12 := by have := sizeL_len t.kids; rw [size_eq] at hlen; omega
  have HFX := Lib.hid hB
  obtain ⟨al, cl, hvl⟩ := own_sl hB.ol
  have hcl := (flat_cells hB.blk).1
  rw [hvl, hn] at hcl
  have G0 := Lib.hid (World.grownBy_alloc w (.cells #[.int .i64 t.label, .slice a t.kids.length cap] 45) none)
  have hcb := G0.out.cell hcl (by simp)
  have hnn : ∀ g : Nat, some g ≠ (none : Option Nat) := by intro g; simp
  clear ih hk hP hn hlen hE hK hB hvl hcl
  go_enter Try.func68, Try.ntmps68
  go_upto_region 2 with fail
  have HBX : Hid ((w.alloc (.cells #[.int .i64 t.label, .slice a t.kids.length cap] 45)).heap[w.heap.size]? = some (.cells #[.int .i64 t.label, .slice a t.kids.length cap] 45 (0, 0))) := Lib.hid (heap_new _ rfl)
  have HSZ : Hid (w.heap.size < (w.alloc (.cells #[.int .i64 t.label, .slice a t.kids.length cap] 45)).heap.size) := Lib.hid (by show _ < (w.heap.push _).size; simp)
  clear hcb
  generalize w.alloc (.cells #[.int .i64 t.label, .slice a t.kids.length cap] 45) = wB at *
  have HFB := Lib.hid (HFX.out.grow G0.out)
  obtain ⟨B, hBe⟩ : ∃ B, w.heap.size = B := ⟨_, rfl⟩
  rw [hBe] at HBX HSZ ⊢
  have HBE := Lib.hid hBe
  clear hBe
  have HFn : Hid (B ≠ F ∧ ¬ x.own B) := Lib.hid ⟨fun e => by have := HFX.out.lt; have := HBE.out; omega, fun e => by have := (HFX.out.fresh e).2; have := HBE.out; omega⟩
  obtain ⟨box, hbox⟩ : ∃ box, Obj.cells #[.int .i64 t.label, .slice a t.kids.length cap] 45 (0, 0) = box := ⟨_, rfl⟩
  have HBOX := Lib.hid hbox
  clear hbox
  go_cut [3, 5] (fun s3 s5 wx => s3 = .pointer (some ⟨B, 0, none⟩) ∧ s5 = .int .i64 (n : Int) ∧ Cut1 wB F B x t.label box true false false wx)
  case first =>
    have HB0 := HFB
    have HLN : Hid ((x.L.map (Value.int .i64)).length ≤ 12) := Lib.hid (by rw [List.length_map, HN.out]; exact hn12)
    obtain ⟨al, ml, cl, hvl⟩ := own_sl3 HB0.out.ol
    have HVL := Lib.hid hvl
    have hcf := (flat_cells HB0.out.blk).1
    rw [hvl] at hcf
    have hcb := (cells_of HBX.out).1
    have HOW : Hid (wB.ownsRow (F + 1) 3 1 (.slice al ml cl) (x.L.map (Value.int .i64)).length (x.L.map (Value.int .i64))) := Lib.hid (by rw [← HVL.out]; have := HB0.out.ol; rw [List.length_map]; exact this)
    have HBL : Hid (F + 1 ≤ wB.heap.size) := Lib.hid HB0.out.lt
    clear hvl
    have q0 := (grown_drew wB none).cell hcf (hnn _)
    have q1 := (grown_drew wB none).cell hcb (hnn _)
    have q2 := (World.grownBy_alloc wB (.cells #[.int .i64 t.label] 3) none).cell hcf (hnn _)
    have q3 := (World.grownBy_alloc wB (.cells #[.int .i64 t.label] 3) none).cell hcb (hnn _)
    have q4 := (grown_trans (World.grownBy_alloc wB (.cells #[.int .i64 t.label] 3) none) (grown_drew _ none)).cell hcf (hnn _)
    have q5 := (grown_trans (World.grownBy_alloc wB (.cells #[.int .i64 t.label] 3) none) (grown_drew _ none)).cell hcb (hnn _)
    have q6 := (grown_after (o := .cells #[.int .i64 t.label] 3) (grown_drew wB none)).cell hcf (hnn _)
    have q7 := (grown_after (o := .cells #[.int .i64 t.label] 3) (grown_drew wB none)).cell hcb (hnn _)
    go_region_law ((first
      | ((refine step_app_one rfl (.tmp 18) (.tmp 21) 22 3 (.int .i64 0) 8 Try.underlying22 info_int rfl (by decide) rfl (F + 1) (.slice al ml cl) (x.L.map (Value.int .i64)) ?_ ?_ (wB.heap.size) (.int .i64 t.label) rfl ?_ ?_ ?_ ?_ ?_); (exact rfl); (refine World.ownsRow.kept HOW.out ?_ (row_none _); (first | exact World.grownBy_alloc _ _ none | exact grown_trans (World.grownBy_alloc _ _ none) (grown_drew _ none) | exact grown_after (grown_drew _ none))); (exact rfl); (first | exact cell_new_drew rfl | exact cell_new rfl); (have := HLN.out; omega); (refine Nat.le_trans HBL.out ?_; refine World.grownBy.size (row := none) ?_; (first | exact World.grownBy_alloc _ _ none | exact grown_trans (World.grownBy_alloc _ _ none) (grown_drew _ none) | exact grown_after (grown_drew _ none))); intro v66 w66 ho hg hb; obtain ⟨a66, n66, c66, rfl⟩ := own_sl3 ho; have hgx := gx_of (w := wB) hg (by (first | exact World.grownBy_alloc _ _ none | exact grown_trans (World.grownBy_alloc _ _ none) (grown_drew _ none) | exact grown_after (grown_drew _ none))); have HGX := Lib.hid hgx; have HO6 := Lib.hid ho; have HG6 := Lib.hid hg; have HB6 := Lib.hid (lies_of hb hgx.size); have HF6 := Lib.hid ((hg.block F (Nat.lt_of_lt_of_le HB0.out.lt HGX.out.size) (fun e => by have := (World.ownsRow.lt HOW.out F e.symm).1; omega)).trans ((HGX.out.block F HB0.out.lt (by simp)).trans HB0.out.blk)); have hst1 := (flat_cells HF6.out).1; have hst2 := (flat_cells HF6.out).2.2.2 0; clear ho hg hb hgx q0 q1 q2 q3 q4 q5 q6 q7)))
    all_goals
      have GS := Lib.hid (grown_set w66 ⟨F, 0, none⟩ (.slice a66 n66 c66))
      have FR : Hid (Fr wB (w66.setCell ⟨F, 0, none⟩ (.slice a66 n66 c66)) (fun k => k = F ∨ x.vl.ownBlock = some k)) := Lib.hid (by rw [HVL.out]; exact fr_push HGX.out HG6.out)
      have HOL : Hid (OwnI (w66.setCell ⟨F, 0, none⟩ (.slice a66 n66 c66)) (F + 1) (.slice a66 n66 c66) (x.L ++ [t.label])) := Lib.hid (by
        have h1 : OwnI w66 (F + 1) (.slice a66 n66 c66) (x.L ++ [t.label]) := by unfold OwnI; simpa using HO6.out
        exact h1.kept GS.out (by rintro k ⟨⟩; exact Nat.lt_succ_self F))
      have HC1 : Hid (Cut1 wB F B x t.label box true false false (w66.setCell ⟨F, 0, none⟩ (.slice a66 n66 c66))) := Lib.hid (by
        obtain ⟨p1, p2⟩ := HB0.out.newL FR.out (heap_set (o := 0) HF6.out (.slice a66 n66 c66)) HOL.out (fun g e => by rcases HB6.out g e with e2 | e2; exact .inl (by rw [HVL.out]; exact e2); exact .inr e2)
        refine ⟨_, p1, p2, ⟨rfl, rfl, rfl⟩, ?_⟩
        rw [(p2).1.block B HSZ.out (fun e => by rcases e with e | e; exact HFn.out.1 e; exact HFn.out.2 e), HBX.out, HBOX.out])
      go_wp2_with fail
      go_meet
      exact ⟨rfl, rfl, HC1.out⟩
  case rest =>
  obtain ⟨rfl, rfl, hcut⟩ := hcut
  obtain ⟨x1, hB1, hS1, hBg, hbx⟩ := hcut
  have HB0 := Lib.hid hB1; have HS0 := Lib.hid hS1; have HBG := Lib.hid hBg
  clear hB1 hS1 hBg hbx
  rename World => w3
  obtain ⟨al, ml, cl, hvl⟩ := own_sl3 HB0.out.oe
  have HVL := Lib.hid hvl
  have hcf := (flat_cells HB0.out.blk).2.1
  rw [hvl] at hcf
  have HOW : Hid (w3.ownsRow (F + 1) 3 1 (.slice al ml cl) (x1.E.map (Value.int .i64)).length (x1.E.map (Value.int .i64))) := Lib.hid (by rw [← HVL.out]; have := HB0.out.oe; rw [List.length_map]; exact this)
  have HLN : Hid ((x1.E.map (Value.int .i64)).length ≤ 12) := Lib.hid (by rw [List.length_map, HBG.out.E]; show x.E.length ≤ 12; rw [HE.out]; exact hn12)
  have HGX := Lib.hid (World.grownBy_alloc w3 (.cells #[.int .i64 0] 3) none)
  clear hvl
  go_wp2_with (at_builtin; refine app_one rfl (.tmp 29) (.tmp 30) 22 3 (.int .i64 0) 8 Try.underlying22 info_int rfl (by decide) rfl (F + 1) (.slice al ml cl) (x1.E.map (Value.int .i64)) rfl (World.ownsRow.kept HOW.out HGX.out (row_none _)) (w3.heap.size) (.int .i64 0) rfl rfl (cell_new rfl) (by have := HLN.out; omega) (Nat.le_trans HB0.out.lt HGX.out.size) ?_)
  intro v66 w66 ho hg hb
  obtain ⟨a66, n66, c66, rfl⟩ := own_sl3 ho
  have HO6 := Lib.hid ho; have HG6 := Lib.hid hg
  have HB6 := Lib.hid (lies_of (a := w3.heap.size) hb (Nat.le_succ _))
  have HF6 := Lib.hid ((hg.block F (Nat.lt_of_lt_of_le HB0.out.lt HGX.out.size) (fun e => by have := (World.ownsRow.lt HOW.out F e.symm).1; omega)).trans ((HGX.out.block F HB0.out.lt (by simp)).trans HB0.out.blk))
  have hst1 := (flat_cells HF6.out).2.1
  have hst2 := (flat_cells HF6.out).2.2.2 1
  have GS := Lib.hid (grown_set w66 ⟨F, 1, none⟩ (.slice a66 n66 c66))
  have FR : Hid (Fr w3 (w66.setCell ⟨F, 1, none⟩ (.slice a66 n66 c66)) (fun k => k = F ∨ x1.ve.ownBlock = some k)) := Lib.hid (by rw [HVL.out]; exact fr_push HGX.out HG6.out)
  have HOL : Hid (OwnI (w66.setCell ⟨F, 1, none⟩ (.slice a66 n66 c66)) (F + 1) (.slice a66 n66 c66) (x1.E ++ [0])) := Lib.hid (by
    have h1 : OwnI w66 (F + 1) (.slice a66 n66 c66) (x1.E ++ [0]) := by unfold OwnI; simpa using HO6.out
    exact h1.kept GS.out (by rintro k ⟨⟩; exact Nat.lt_succ_self F))
  have HC1 : Hid (Cut1 wB F B x t.label box true true false (w66.setCell ⟨F, 1, none⟩ (.slice a66 n66 c66))) := Lib.hid (by
    obtain ⟨p1, p2⟩ := HB0.out.newE FR.out (heap_set (o := 1) HF6.out (.slice a66 n66 c66)) HOL.out (fun g e => by rcases HB6.out g e with e2 | e2; exact .inl (by rw [HVL.out]; exact e2); exact .inr e2)
    refine ⟨_, p1, (HS0.out.trans p2), ⟨HBG.out.L, by show x1.E ++ [0] = _; rw [HBG.out.E]; rfl, HBG.out.K⟩, ?_⟩
    rw [((HS0.out.trans p2)).1.block B HSZ.out (fun e => by rcases e with e | e; exact HFn.out.1 e; exact HFn.out.2 e), HBX.out, HBOX.out])
  clear ho hg hb hcf
  skip
  go_upto_region 4 with fail
  clear hst1 hst2
  have hcut := HC1.out
  generalize (w66.setCell ⟨F, 1, none⟩ (.slice a66 n66 c66)) = w4 at *
  clear HC1 HOL FR GS HF6 HB6 HG6 HO6 HGX HLN HOW HVL HBG HS0 HB0 
  obtain ⟨x1, hB1, hS1, hBg, hbx⟩ := hcut
  have HB0 := Lib.hid hB1; have HS0 := Lib.hid hS1; have HBG := Lib.hid hBg
  clear hB1 hS1 hBg hbx
  skip
  obtain ⟨al, ml, cl, hvl⟩ := own_sl3 HB0.out.ok
  have HVL := Lib.hid hvl
  have hcf := (flat_cells HB0.out.blk).2.2.1
  rw [hvl] at hcf
  have HOW : Hid (w4.ownsRow (F + 1) 22 1 (.slice al ml cl) (x1.ks.map Prod.fst).length (x1.ks.map Prod.fst)) := Lib.hid (by rw [← HVL.out]; have := HB0.out.ok; exact this)
  have HLN : Hid ((x1.ks.map Prod.fst).length ≤ 12) := Lib.hid (by have := congrArg List.length HBG.out.K; rw [List.length_map] at this; rw [List.length_map, this]; show (x.ks.map Prod.snd).length ≤ 12; rw [List.length_map, HK.out]; exact hn12)
  have HGX := Lib.hid (World.grownBy_alloc w4 (.cells #[.slice none 0 0] 22) none)
  clear hvl
  go_wp2_with (at_builtin; refine app_one rfl (.tmp 38) (.tmp 39) 57 22 (.slice none 0 0) 24 Try.underlying57 info_row rfl (by decide) rfl (F + 1) (.slice al ml cl) (x1.ks.map Prod.fst) rfl (World.ownsRow.kept HOW.out HGX.out (row_none _)) (w4.heap.size) (.slice none 0 0) rfl rfl (cell_new rfl) (by have := HLN.out; omega) (Nat.le_trans HB0.out.lt HGX.out.size) ?_)
  intro v66 w66 ho hg hb
  obtain ⟨a66, n66, c66, rfl⟩ := own_sl3 ho
  have HO6 := Lib.hid ho; have HG6 := Lib.hid hg
  have HB6 := Lib.hid (lies_of (a := w4.heap.size) hb (Nat.le_succ _))
  have HF6 := Lib.hid ((hg.block F (Nat.lt_of_lt_of_le HB0.out.lt HGX.out.size) (fun e => by have := (World.ownsRow.lt HOW.out F e.symm).1; omega)).trans ((HGX.out.block F HB0.out.lt (by simp)).trans HB0.out.blk))
  have hst1 := (flat_cells HF6.out).2.2.1
  have hst2 := (flat_cells HF6.out).2.2.2 2
  have GS := Lib.hid (grown_set w66 ⟨F, 2, none⟩ (.slice a66 n66 c66))
  have FR : Hid (Fr w4 (w66.setCell ⟨F, 2, none⟩ (.slice a66 n66 c66)) (fun k => k = F ∨ x1.vk.ownBlock = some k)) := Lib.hid (by rw [HVL.out]; exact fr_push HGX.out HG6.out)
  have HOL : Hid (OwnR (w66.setCell ⟨F, 2, none⟩ (.slice a66 n66 c66)) (F + 1) (.slice a66 n66 c66) (x1.ks ++ [((Value.slice none 0 0, []) : Row)])) := Lib.hid (by
    have h1 : OwnR w66 (F + 1) (.slice a66 n66 c66) (x1.ks ++ [((Value.slice none 0 0, []) : Row)]) := by unfold OwnR; simpa using HO6.out
    refine World.ownsRow.kept h1 GS.out ?_
    cases hv : (Value.slice a66 n66 c66).ownBlock with
    | none => exact .inl rfl
    | some g => exact .inr (fun e => by cases e; have := (World.ownsRow.lt h1 F hv).1; omega))
  have HC1 : Hid (Cut1 wB F B x t.label box true true true (w66.setCell ⟨F, 2, none⟩ (.slice a66 n66 c66))) := Lib.hid (by
    obtain ⟨p1, p2⟩ := HB0.out.newK HS0.out FR.out (heap_set (o := 2) HF6.out (.slice a66 n66 c66)) HOL.out (fun g e => by rcases HB6.out g e with e2 | e2; exact .inl (by rw [HVL.out]; exact e2); exact .inr e2) (fun q hq => by rcases List.mem_append.1 hq with hq | hq; exact .inl hq; rw [List.mem_singleton.1 hq]; exact .inr ⟨OwnI.nil _ _, fun g e => by cases e⟩)
    refine ⟨_, p1, p2, ⟨HBG.out.L, HBG.out.E, by show (x1.ks ++ [((Value.slice none 0 0, []) : Row)]).map Prod.snd = _; rw [List.map_append, HBG.out.K]; rfl⟩, ?_⟩
    rw [(p2).1.block B HSZ.out (fun e => by rcases e with e | e; exact HFn.out.1 e; exact HFn.out.2 e), HBX.out, HBOX.out])
  clear ho hg hb hcf
  obtain ⟨x5, hB5, hS5, hBg5, hbx5⟩ := HC1.out
  rw [← HBOX.out] at hbx5
  have hcb1 := (cells_of hbx5).2
  have HX5 := Lib.hid hB5; have HS5 := Lib.hid hS5; have HG5 := Lib.hid hBg5; have HBX5 := Lib.hid hbx5
  clear hB5 hS5 hBg5 hbx5
  go_wp2_with fail
  clear hst1 hst2
  have hcut := HC1.out
  generalize (w66.setCell ⟨F, 2, none⟩ (.slice a66 n66 c66)) = w5 at *
  clear HC1 HOL FR GS HF6 HB6 HG6 HO6 HGX HLN HOW HVL HBG HS0 HB0 
  clear hcut hcb1
  obtain ⟨C, hC⟩ : ∃ C, wB.heap.size = C := ⟨_, rfl⟩
  have HC := Lib.hid hC
  have HFC : Hid (F < C ∧ B < C) := Lib.hid ⟨by rw [← hC]; exact HFB.out.lt, by rw [← hC]; exact HSZ.out⟩
  have HP5 : Hid (Prog t.label n (t.kids.take 0) x x5) := Lib.hid ⟨by rw [HG5.out.L]; simp [preL], by rw [HG5.out.E]; simp [preL, flE], by rw [HG5.out.K]; simp [preL, flK]⟩
  clear hC HG5 HBX5
  go_loopw [6, 46] (fun kv i wr => ∃ (k : Nat) (x1 : FX), i = .int .i64 k ∧ k ≤ t.kids.length ∧ Hid (FlatB wr F x1) ∧ Hid (FS wB F x wr x1) ∧ Hid (Prog t.label n (t.kids.take k) x x1) ∧ Hid (OwnI wr C kv ((starts (n + 1) (t.kids.take k)).map Int.ofNat)) ∧ Hid (∀ g, kv.ownBlock = some g → ¬ x1.own g)) (fun _ i _ => t.kids.length - (intOf i).toNat)
  case atStart => exact ⟨0, x5, rfl, Nat.zero_le _, HX5, HS5, HP5, Lib.hid (by simp [starts]; exact OwnI.nil _ _), Lib.hid (by intro g e; cases e)⟩
  case round =>
    clear HX5 HS5 HP5
    obtain ⟨k, x1, rfl, hk, hB, hS, hP, hO, hN⟩ := hrel
    rename World => wr
    obtain ⟨av, mv, cv, hkv⟩ := own_sl3 hO.out
    subst hkv
    have HLS := Lib.hid (hP.out.lens HN.out HE.out HK.out)
    by_cases hkb : k < t.kids.length
    · have e1 : (k : Int) < (t.kids.length : Int) := by omega
      have i1 : IntKind.i64.wrap ((k : Int) + 1) = (k : Int) + 1 := IntWalk.i64_in _ (by omega)
      have HTR := Lib.hid ((HTK.out.same G0.out).fr hS.out.1 (fun b hb e => by
        rcases e with e | e
        · exact (HP.out b hb.1).1 e
        · exact (HP.out b hb.1).2 e))
      obtain ⟨b, off, a2, cap2, rfl, -, c1, c2, hK2⟩ := HTR.out.kid hkb
      have HKK := Lib.hid hK2; have HTS := Lib.hid (take_sz hkb); have HTL := Lib.hid (take_szle t.kids (k + 1)); have HKS := Lib.hid (size_kid (List.getElem_mem hkb))
      have HSE := Lib.hid (size_eq t)
      have HXN : Hid (x1.L.length = n + 1 + sizeL (t.kids.take k)) := Lib.hid HLS.out.1
      clear hK2
      have GA := Lib.hid (World.grownBy_alloc wr (.cells #[.int .i64 t.kids[k].label, .slice a2 t.kids[k].kids.length cap2] 45) none)
      go_wp2_with fail
      refine (IH.out _ HKS.out _ _ F x1 (HKK.out.same GA.out) (fun q hq => ⟨(HP.out q hq.1).1, fun e => by
        rcases hS.out.2 q e with e2 | e2
        · exact (HP.out q hq.1).2 e2
        · have := hq.2; have := HC.out; have := HFC.out; have := HBE.out; omega⟩) (hB.out.grow GA.out) (by have := HXN.out; have := HTS.out; have := HTL.out; have := HSE.out; have := HLEN.out; omega) (by rw [HLS.out.2.1, HXN.out]) (by rw [HLS.out.2.2, HXN.out])).mono ?_
      rintro e w7 ⟨x2, rfl, hB2, hS2, hA2⟩
      rw [HXN.out] at hA2 ⊢
      have HB2 := Lib.hid hB2; have HS2 := Lib.hid (FS.before GA.out hS2)
      have HPN : Hid (Prog t.label n (t.kids.take (k + 1)) x x2) := Lib.hid (by rw [List.take_succ_eq_append_getElem hkb]; exact hP.out.next hA2)
      have HKF : Hid (∀ g, (Value.slice av mv cv).ownBlock = some g → C ≤ g ∧ g < wr.heap.size) := Lib.hid hO.out.fresh
      have HN2 : Hid (∀ g, (Value.slice av mv cv).ownBlock = some g → ¬ x2.own g) := Lib.hid (fun g e e2 => by
        rcases HS2.out.2 g e2 with e3 | e3
        · exact hN.out g e e3
        · have := (HKF.out g e).2; omega)
      have HO2 : Hid (OwnI w7 C (.slice av mv cv) ((starts (n + 1) (t.kids.take k)).map Int.ofNat)) := Lib.hid (World.ownsRow.fr hO.out HS2.out.1 (fun g e e2 => by
        rcases e2 with e2 | e2
        · have := (HKF.out g e).1; have := HFC.out; omega
        · exact hN.out g e e2))
      have HWS : Hid (wr.heap.size ≤ w7.heap.size) := Lib.hid HS2.out.1.size
      have HLK : Hid ((((starts (n + 1) (t.kids.take k)).map Int.ofNat).map (Value.int .i64)).length ≤ 12) := Lib.hid (by rw [List.length_map, List.length_map, starts_len, List.length_take]; omega)
      have HCW : Hid (C ≤ w7.heap.size) := Lib.hid (by rw [← HC.out]; exact Nat.le_trans hS.out.1.size HWS.out)
      clear hB2 hS2 hA2 c1 c2
      have GB := Lib.hid (World.grownBy_alloc w7 (.cells #[.int .i64 ((n + 1 + sizeL (t.kids.take k) : Nat) : Int)] 3) none)
      go_wp2_with (at_builtin; refine app_one rfl (.tmp 50) (.tmp 54) 22 3 (.int .i64 0) 8 Try.underlying22 info_int rfl (by decide) rfl C (.slice av mv cv) (((starts (n + 1) (t.kids.take k)).map Int.ofNat).map (Value.int .i64)) rfl (World.ownsRow.kept (by rw [List.length_map]; exact HO2.out) GB.out (row_none _)) (w7.heap.size) (.int .i64 ((n + 1 + sizeL (t.kids.take k) : Nat) : Int)) rfl rfl (cell_new rfl) (by have := HLK.out; omega) (Nat.le_trans HCW.out GB.out.size) ?_)
      intro v8 w8 ho hg hb
      have HO8 : Hid (OwnI w8 C v8 ((starts (n + 1) (t.kids.take (k + 1))).map Int.ofNat)) := Lib.hid (by
        rw [List.take_succ_eq_append_getElem hkb, starts_snoc, List.map_append]
        unfold OwnI
        simpa using ho)
      have HFG : Hid (Fr w7 w8 (fun g => (Value.slice av mv cv).ownBlock = some g)) := Lib.hid ((fr_of GB.out (S := fun g => (Value.slice av mv cv).ownBlock = some g) (by simp)).trans (fr_of hg (S := fun g => (Value.slice av mv cv).ownBlock = some g) (fun _ h => h)) (fun _ _ h => h))
      have HB8 : Hid (FlatB w8 F x2) := Lib.hid (HB2.out.same (HFG.out.weak (fun g _ e e2 => by
        rcases e2 with e2 | e2
        · have := (HKF.out g e).1; have := HFC.out; omega
        · exact HN2.out g e e2)))
      have HS8 : Hid (FS wB F x w8 x2) := Lib.hid ⟨(hS.out.trans HS2.out).1.trans HFG.out (fun g hg e => by have := (HKF.out g e).1; have := HC.out; omega), (hS.out.trans HS2.out).2⟩
      have HN8 : Hid (∀ g, v8.ownBlock = some g → ¬ x2.own g) := Lib.hid (fun g e e2 => by
        rcases hb g e with e3 | e3
        · exact HN2.out g e3 e2
        · have := (HB2.out.fresh e2).2; have := GB.out.size; omega)
      clear ho hg hb
      go_wp2_with fail
      go_roundw
      case rel => exact ⟨k + 1, x2, by go_num, by omega, HB8, HS8, HPN, HO8, HN8⟩
      case measure => simp [intOf]; omega
    · obtain rfl : k = t.kids.length := by omega
      have e1 : ¬ (t.kids.length : Int) < (t.kids.length : Int) := by omega
      have HPD : Hid (Prog t.label n t.kids x x1) := Lib.hid (by have := hP.out; rwa [List.take_length] at this)
      have HOD : Hid (OwnI wr C (.slice av mv cv) ((starts (n + 1) t.kids).map Int.ofNat)) := Lib.hid (by have := hO.out; rwa [List.take_length] at this)
      have HLD : Hid (x1.L.length = n + 1 + sizeL t.kids ∧ x1.E.length = n + 1 + sizeL t.kids ∧ x1.ks.length = n + 1 + sizeL t.kids) := Lib.hid (by have := HLS.out; rwa [List.take_length] at this)
      obtain ⟨gk, ck, hvk, hgk⟩ := own_sl1 hB.out.ok (by rw [List.length_map, HLD.out.2.2]; omega)
      obtain ⟨ge, ce, hve, hge⟩ := own_sl1 hB.out.oe (by rw [HLD.out.2.1]; omega)
      obtain ⟨al, cl, hvl⟩ := own_sl hB.out.ol
      rw [List.length_map, HLD.out.2.2] at hvk
      rw [HLD.out.2.1] at hve
      rw [HLD.out.1] at hvl
      obtain ⟨M, hM⟩ : ∃ M, n + 1 + sizeL t.kids = M := ⟨_, rfl⟩
      have HM := Lib.hid hM
      rw [hM] at hvk hve hvl HLD
      have hnM : n < M := by omega
      have hnM2 : (n : Int) < (M : Int) := by omega
      have hM12 : M ≤ 12 := by have := HLEN.out; have := size_eq t; omega
      have hck := (flat_cells hB.out.blk).2.2.1
      rw [hvk] at hck
      have HOK : Hid (wr.ownsRow (F + 1) 22 1 (.slice (some ⟨gk, 0, none⟩) M ck) M (x1.ks.map Prod.fst)) := Lib.hid (by have := hB.out.ok; unfold OwnR at this; rwa [hvk, List.length_map, HLD.out.2.2] at this)
      have hkc : ∃ u, wr.cell? ⟨gk, n, none⟩ = some u := ⟨_, (World.ownsRow.cellAt HOK.out n (by omega)).trans (List.getElem?_eq_getElem (by rw [List.length_map, HLD.out.2.2]; exact hnM))⟩
      obtain ⟨u, hkc⟩ := hkc
      have hkf := World.ownsRow.frozenAt HOK.out n
      -- the kids
      have HGK : Hid (F < gk) := Lib.hid hgk
      have HVK := Lib.hid hvk; have HVE := Lib.hid hve; have HVL := Lib.hid hvl; have HGE : Hid (F < ge) := Lib.hid hge
      have HNK := Lib.hid (hB.out.newK (v := x1.vk) (ks := x1.ks.set n (.slice av mv cv, (starts (n + 1) t.kids).map Int.ofNat)) hS.out (w' := wr.setCell ⟨gk, n, none⟩ (.slice av mv cv)) (fr_of (grown_set wr ⟨gk, n, none⟩ (.slice av mv cv)) (fun k hk => by cases hk; exact .inr (by rw [HVK.out]; rfl))) (hB.out.setB (by omega)) (by
        have := (World.ownsRow.stored HOK.out n (.slice av mv cv)).1
        unfold OwnR
        rw [HVK.out, List.map_set, List.length_set, List.length_map, HLD.out.2.2]
        exact this) (fun g e => .inl e) (fun q hq => by
        rcases List.mem_or_eq_of_mem_set hq with hq | rfl
        · exact .inl hq
        · refine .inr ⟨ownI_base HOD.out HFC.out.1, fun g e => ⟨hN.out g e, ?_⟩⟩
          rw [HC.out]
          exact (HOD.out.fresh g e).1))
      clear hgk hge hM hvk hve hvl
      go_wp2_with fail
      clear hkc hkf hck
      generalize wr.setCell ⟨gk, n, none⟩ (.slice av mv cv) = w8 at *
      have HB8 := Lib.hid HNK.out.1; have HS8 := Lib.hid HNK.out.2
      obtain ⟨hc0, hc1, -, -⟩ := flat_cells HB8.out.blk
      change w8.drew.cell? _ = _ at hc0
      change w8.drew.cell? _ = _ at hc1
      dsimp only at hc0 hc1
      rw [HVL.out] at hc0
      rw [HVE.out] at hc1
      have HOE : Hid (OwnI w8 (F + 1) (.slice (some ⟨ge, 0, none⟩) M ce) x1.E) := Lib.hid (by have := HB8.out.oe; dsimp only at this; rwa [HVE.out] at this)
      obtain ⟨hec, hef⟩ := HOE.out.cell n (by rw [HLD.out.2.1]; exact hnM)
      change w8.drew.cell? _ = _ at hec
      change w8.drew.frozen? _ = _ at hef
      have HNE := Lib.hid ((HB8.out.grow (grown_drew w8 none)).newE (v := x1.ve) (E := x1.E.set n (M : Int)) (w' := w8.drew.setCell ⟨ge, n, none⟩ (.int .i64 (M : Int))) (fr_of (grown_set w8.drew ⟨ge, n, none⟩ (.int .i64 (M : Int))) (fun k hk => by cases hk; exact .inr (by show x1.ve.ownBlock = _; rw [HVE.out]; rfl))) ((HB8.out.grow (grown_drew w8 none)).setB (by have := HGE.out; omega)) (by
        rw [HVE.out]
        exact (show OwnI w8.drew (F + 1) (.slice (some ⟨ge, 0, none⟩) M ce) x1.E from HOE.out).stored n (M : Int)) (fun g e => .inl e))
      have HFS := Lib.hid (FS.before G0.out ((HS8.out.then (grown_drew w8 none)).trans HNE.out.2))
      go_region
      go_wp2_with fail
      go_ret
      exact ⟨_, by rw [HN.out]; rfl, HNE.out.1, HFS.out, by rw [HN.out]; exact HPD.out.done HE.out HK.out rfl (by rw [HM.out]) (List.map_set ..)⟩

end Go.Proofs.Ytnppmemcdcgjhaa
