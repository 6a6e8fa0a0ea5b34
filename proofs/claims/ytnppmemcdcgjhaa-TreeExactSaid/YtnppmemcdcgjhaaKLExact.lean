/- TreeExact: for every input it answers true. -/
import Derived.Test.YtnppmemcdcgjhaaMq
import Derived.Test.YtnppmemcdcgjhaaGt
import Derived.Test.YtnppmemcdcgjhaaKn
import Derived.Test.YtnppmemcdcgjhaaKm
namespace Go.Proofs.Ytnppmemcdcgjhaa
open Go.ChangeShapes Go.WideShapes Go.ChangeAt Go.RowKit Go.Deep Tr
set_option linter.unusedVariables false

theorem psmall4 {P : Nat → Prop} {t : Tr} {y : Value} {w : World} (h : TrK P w y t) :
    Calls Try.prog 31 #[.agg #[.int .i64 t.label, y], .int .i64 4] w (SmTo (size t ≤ 100000) w) :=
  (psmall_any 5 P t y w h (by decide)).mono fun e w' h => by
    obtain ⟨B, rfl, hB, hg⟩ := h
    exact ⟨B, rfl, fun e => Nat.le_trans (hB e) (by decide), hg⟩
/-- A tree that the deck's block has no part in. -/
def TX (w : World) (d : Nat) (a : Option Addr) (c : Nat) (t : Tr) : Prop := TrK (fun b => b ≠ d) w (.slice a t.kids.length c) t ∧ size t ≤ 100000
theorem TX.tr {w : World} {d : Nat} {a : Option Addr} {c : Nat} {t : Tr} (h : TX w d a c t) : TrK (fun b => b ≠ d) w (.slice a t.kids.length c) t := h.1
theorem TX.sz {w : World} {d : Nat} {a : Option Addr} {c : Nat} {t : Tr} (h : TX w d a c t) : size t ≤ 100000 := h.2
theorem TX.deal {w w' : World} {d : Nat} {a : Option Addr} {c : Nat} {t : Tr} (h : TX w d a c t) (g : w.grownBy w' (some d)) : TX w' d a c t := ⟨h.1.kept g (by rintro k ⟨⟩ h; exact h rfl), h.2⟩
theorem TX.same {w w' : World} {d : Nat} {a : Option Addr} {c : Nat} {t : Tr} (h : TX w d a c t) (g : w.grownBy w' none) : TX w' d a c t := ⟨h.1.same g, h.2⟩
theorem TX.raw {P : Nat → Prop} {w : World} {d : Nat} {a : Option Addr} {c : Nat} {t : Tr} (h : TrK P w (.slice a t.kids.length c) t) (hs : size t ≤ 100000) (hd : w.heap.size ≤ d) : TX w d a c t := ⟨h.bound.weak (fun b hb => by omega), hs⟩
theorem TX.new {w : World} {d : Nat} {a : Option Addr} {c : Nat} {t : Tr} {k : Int} (h : TrK (fun b => d < b) w (.slice a t.kids.length c) t) (hs : (size t : Int) ≤ k) (hk : k ≤ 100) : TX w d a c t := ⟨h.weak (fun b hb => by omega), by omega⟩
/-- Two boxes that the deck's block has no part in. -/
def BxD (w : World) (d g : Nat) (x y u v : Value) : Prop := Bx4 w g x y u v ∧ g + 1 < d
theorem BxD.deal {w w' : World} {d g : Nat} {x y u v : Value} (h : BxD w d g x y u v) (hg : w.grownBy w' (some d)) : BxD w' d g x y u v := by
  have h2 := h.2
  exact ⟨⟨hg.cell h.1.1 (by simp; omega), hg.cell h.1.2.1 (by simp; omega), hg.cell h.1.2.2.1 (by simp; omega), hg.cell h.1.2.2.2 (by simp; omega)⟩, h2⟩

/-- The pair number k of five. -/
def PairAt (w : World) (d B k : Nat) : Prop := ∃ (l1 : Int) (x1 : Tr) (a1 : Option Addr) (c1 : Nat) (x2 : Tr) (a2 : Option Addr) (c2 : Nat), w.cell? ⟨B, k * 4, none⟩ = some (.int .i64 x1.label) ∧ w.cell? ⟨B, k * 4 + 1, none⟩ = some (.slice a1 x1.kids.length c1) ∧ w.cell? ⟨B, k * 4 + 2, none⟩ = some (.int .i64 x2.label) ∧ w.cell? ⟨B, k * 4 + 3, none⟩ = some (.slice a2 x2.kids.length c2) ∧ TX w d a1 c1 x1 ∧ TX w d a2 c2 x2
theorem PairAt.deal {w w' : World} {d B k : Nat} (h : PairAt w d B k) (g : w.grownBy w' (some d)) (hB : B ≠ d) : PairAt w' d B k := by
  obtain ⟨l, x1, a1, c1, x2, a2, c2, h1, h2, h3, h4, h5, h6⟩ := h
  have hb : some B ≠ some d := by simpa using hB
  exact ⟨l, x1, a1, c1, x2, a2, c2, g.cell h1 hb, g.cell h2 hb, g.cell h3 hb, g.cell h4 hb, h5.deal g, h6.deal g⟩
theorem five_pairs {w : World} {d B : Nat} {e : TypeId} {t1 t2 t3 t4 t5 t6 t7 t8 t9 t10 : Tr} {a1 a2 a3 a4 a5 a6 a7 a8 a9 a10 : Option Addr} {c1 c2 c3 c4 c5 c6 c7 c8 c9 c10 : Nat}
    (h : w.heap[B]? = some (.cells #[.int .i64 t1.label, .slice a1 t1.kids.length c1, .int .i64 t2.label, .slice a2 t2.kids.length c2, .int .i64 t3.label, .slice a3 t3.kids.length c3, .int .i64 t4.label, .slice a4 t4.kids.length c4, .int .i64 t5.label, .slice a5 t5.kids.length c5, .int .i64 t6.label, .slice a6 t6.kids.length c6, .int .i64 t7.label, .slice a7 t7.kids.length c7, .int .i64 t8.label, .slice a8 t8.kids.length c8, .int .i64 t9.label, .slice a9 t9.kids.length c9, .int .i64 t10.label, .slice a10 t10.kids.length c10] e (0, 0)))
    (h1 : TX w d a1 c1 t1) (h2 : TX w d a2 c2 t2) (h3 : TX w d a3 c3 t3) (h4 : TX w d a4 c4 t4) (h5 : TX w d a5 c5 t5) (h6 : TX w d a6 c6 t6) (h7 : TX w d a7 c7 t7) (h8 : TX w d a8 c8 t8) (h9 : TX w d a9 c9 t9) (h10 : TX w d a10 c10 t10) (k : Nat) (hk : k < 5) : PairAt w d B k := by
  obtain rfl | rfl | rfl | rfl | rfl : k = 0 ∨ k = 1 ∨ k = 2 ∨ k = 3 ∨ k = 4 := by omega
  · exact ⟨0, t1, a1, c1, t2, a2, c2, by unfold World.cell?; dsimp only; rw [h]; rfl, by unfold World.cell?; dsimp only; rw [h]; rfl, by unfold World.cell?; dsimp only; rw [h]; rfl, by unfold World.cell?; dsimp only; rw [h]; rfl, h1, h2⟩
  · exact ⟨0, t3, a3, c3, t4, a4, c4, by unfold World.cell?; dsimp only; rw [h]; rfl, by unfold World.cell?; dsimp only; rw [h]; rfl, by unfold World.cell?; dsimp only; rw [h]; rfl, by unfold World.cell?; dsimp only; rw [h]; rfl, h3, h4⟩
  · exact ⟨0, t5, a5, c5, t6, a6, c6, by unfold World.cell?; dsimp only; rw [h]; rfl, by unfold World.cell?; dsimp only; rw [h]; rfl, by unfold World.cell?; dsimp only; rw [h]; rfl, by unfold World.cell?; dsimp only; rw [h]; rfl, h5, h6⟩
  · exact ⟨0, t7, a7, c7, t8, a8, c8, by unfold World.cell?; dsimp only; rw [h]; rfl, by unfold World.cell?; dsimp only; rw [h]; rfl, by unfold World.cell?; dsimp only; rw [h]; rfl, by unfold World.cell?; dsimp only; rw [h]; rfl, h7, h8⟩
  · exact ⟨0, t9, a9, c9, t10, a10, c10, by unfold World.cell?; dsimp only; rw [h]; rfl, by unfold World.cell?; dsimp only; rw [h]; rfl, by unfold World.cell?; dsimp only; rw [h]; rfl, by unfold World.cell?; dsimp only; rw [h]; rfl, h9, h10⟩
theorem quad_cells {w : World} {B : Nat} {v0 v1 v2 v3 : Value} {e : TypeId} (h : w.heap[B]? = some (.cells #[v0, v1, v2, v3] e (0, 0))) : w.cell? ⟨B, 0, none⟩ = some v0 ∧ w.cell? ⟨B, 1, none⟩ = some v1 ∧ w.cell? ⟨B, 2, none⟩ = some v2 ∧ w.cell? ⟨B, 3, none⟩ = some v3 :=
  ⟨by unfold World.cell?; dsimp only; rw [h]; rfl, by unfold World.cell?; dsimp only; rw [h]; rfl, by unfold World.cell?; dsimp only; rw [h]; rfl, by unfold World.cell?; dsimp only; rw [h]; rfl⟩
theorem three_rows {w : World} {B : Nat} {e : TypeId} {a1 a2 a3 : Option Addr} {c1 c2 c3 : Nat} {x1 x2 x3 : List Int} (h : w.heap[B]? = some (.cells #[.slice a1 x1.length c1, .slice a2 x2.length c2, .slice a3 x3.length c3] e (0, 0)))
    (h1 : Ints w (.slice a1 x1.length c1) x1) (l1 : x1.length ≤ 100000) (h2 : Ints w (.slice a2 x2.length c2) x2) (l2 : x2.length ≤ 100000) (h3 : Ints w (.slice a3 x3.length c3) x3) (l3 : x3.length ≤ 100000) (k : Nat) (hk : k < 3) :
    ∃ (a : Option Addr) (c : Nat) (us : List Int), w.cell? ⟨B, k, none⟩ = some (.slice a us.length c) ∧ Ints w (.slice a us.length c) us ∧ us.length ≤ 100000 := by
  obtain rfl | rfl | rfl : k = 0 ∨ k = 1 ∨ k = 2 := by omega
  · exact ⟨a1, c1, x1, by unfold World.cell?; dsimp only; rw [h]; rfl, h1, l1⟩
  · exact ⟨a2, c2, x2, by unfold World.cell?; dsimp only; rw [h]; rfl, h2, l2⟩
  · exact ⟨a3, c3, x3, by unfold World.cell?; dsimp only; rw [h]; rfl, h3, l3⟩
theorem three_new (w : World) (x y z : Obj) : w.grownBy ((((w.alloc x).alloc y).alloc z).drew) none ∧ ((((w.alloc x).alloc y).alloc z).drew).heap[w.heap.size + 1]? = some y ∧ ((((w.alloc x).alloc y).alloc z).drew).heap[w.heap.size + 1 + 1]? = some z := by
  refine ⟨grown_trans (grown_after (grown_after (World.grownBy_alloc _ _ _))) (grown_drew _ _), ?_, ?_⟩
  · exact heap_old _ (heap_new (w := w.alloc x) _ (by show _ = (w.heap.push _).size; simp))
  · exact heap_new (w := (w.alloc x).alloc y) _ (by show _ = ((w.heap.push _).push _).size; simp)
def BxX (w : World) (d g h : Nat) (x : Tr) (xa : Option Addr) (xc : Nat) (y : Tr) (ya : Option Addr) (yc : Nat) : Prop := w.cell? ⟨g, 0, none⟩ = some (.int .i64 x.label) ∧ w.cell? ⟨g, 1, none⟩ = some (.slice xa x.kids.length xc) ∧ w.cell? ⟨h, 0, none⟩ = some (.int .i64 y.label) ∧ w.cell? ⟨h, 1, none⟩ = some (.slice ya y.kids.length yc) ∧ g ≠ d ∧ h ≠ d
theorem BxX.deal {w w' : World} {d g h : Nat} {x : Tr} {xa : Option Addr} {xc : Nat} {y : Tr} {ya : Option Addr} {yc : Nat} (b : BxX w d g h x xa xc y ya yc) (k : w.grownBy w' (some d)) : BxX w' d g h x xa xc y ya yc := by
  obtain ⟨h1, h2, h3, h4, h5, h6⟩ := b
  exact ⟨k.cell h1 (by simpa using h5), k.cell h2 (by simpa using h5), k.cell h3 (by simpa using h6), k.cell h4 (by simpa using h6), h5, h6⟩
theorem BxX.same {w w' : World} {d g h : Nat} {x : Tr} {xa : Option Addr} {xc : Nat} {y : Tr} {ya : Option Addr} {yc : Nat} (b : BxX w d g h x xa xc y ya yc) (k : w.grownBy w' none) : BxX w' d g h x xa xc y ya yc := by
  obtain ⟨h1, h2, h3, h4, h5, h6⟩ := b
  exact ⟨k.cell h1 (by simp), k.cell h2 (by simp), k.cell h3 (by simp), k.cell h4 (by simp), h5, h6⟩
theorem BxX.cells {w : World} {d g h : Nat} {x : Tr} {xa : Option Addr} {xc : Nat} {y : Tr} {ya : Option Addr} {yc : Nat} (b : BxX w d g h x xa xc y ya yc) : w.cell? ⟨g, 0, none⟩ = some (.int .i64 x.label) ∧ w.cell? ⟨g, 1, none⟩ = some (.slice xa x.kids.length xc) ∧ w.cell? ⟨h, 0, none⟩ = some (.int .i64 y.label) ∧ w.cell? ⟨h, 1, none⟩ = some (.slice ya y.kids.length yc) := ⟨b.1, b.2.1, b.2.2.1, b.2.2.2.1⟩
theorem xm_deal {w w' : World} {d : Nat} {v : Value} {xs : List Int} (h : Ints w v xs ∧ ∀ k, v.ownBlock = some k → k ≠ d) (g : w.grownBy w' (some d)) : Ints w' v xs ∧ ∀ k, v.ownBlock = some k → k ≠ d :=
  ⟨h.1.kept g (by rintro k ⟨⟩ e; exact h.2 _ e rfl), h.2⟩
set_option maxRecDepth 100000 in
set_option maxHeartbeats 6000000 in
theorem walkTreeExact (a0 : Option Addr) (len0 cap0 : Nat) (z0 : List Int) (w : World) (w0 : IsRow .i64 w a0 len0 cap0 z0) (s t : Tr) (sa ta : Option Addr) (cs ct : Nat) (hs : TrK (fun _ => True) w (.slice sa s.kids.length cs) s) (ht : TrK (fun _ => True) w (.slice ta t.kids.length ct) t)
    (am : Option Addr) (cm : Nat) (xs : List Int) (hm : Ints w (.slice am xs.length cm) xs) (hmb : ∀ k, (Value.slice am xs.length cm).ownBlock = some k → k < w.heap.size) :
    Calls Try.prog 8 #[.slice a0 len0 cap0, .agg #[.int .i64 s.label, .slice sa s.kids.length cs], .agg #[.int .i64 t.label, .slice ta t.kids.length ct], .slice am xs.length cm] w fun e w' => e = .returned (.bool true) ∧ Below w.heap.size w w' := by
  obtain ⟨hI, hlen⟩ := w0.ints
  generalize z0.take len0 = zs at hI hlen
  subst hlen
  have HI := Lib.hid hI; have H := Lib.hid hs; have H' := Lib.hid ht; have HMI := Lib.hid hm; have HMB := Lib.hid hmb
  have hx := bx4_new w (.int .i64 s.label) (.slice sa s.kids.length cs) (.int .i64 t.label) (.slice ta t.kids.length ct) 45 45
  have hg0 : w.grownBy ((w.alloc (.cells #[.int .i64 s.label, .slice sa s.kids.length cs] 45)).alloc (.cells #[.int .i64 t.label, .slice ta t.kids.length ct] 45)) none := grown_after (World.grownBy_alloc _ _ none)
  have hsz2 : ((w.alloc (.cells #[.int .i64 s.label, .slice sa s.kids.length cs] 45)).alloc (.cells #[.int .i64 t.label, .slice ta t.kids.length ct] 45)).heap.size = w.heap.size + 2 := by show ((w.heap.push _).push _).size = _; simp
  have HX := Lib.hid hx; have HG := Lib.hid hg0; have HZ := Lib.hid hsz2
  clear hI w0 hs ht hm hmb hx hg0 hsz2
  have hnn : ∀ g : Nat, some g ≠ (none : Option Nat) := by intro g; simp
  go_enter Try.func8, Try.ntmps8
  go_wp2_with fail
  generalize (w.alloc (.cells #[.int .i64 s.label, .slice sa s.kids.length cs] 45)).alloc (.cells #[.int .i64 t.label, .slice ta t.kids.length ct] 45) = wb at *
  refine (awake04_any _).mono ?_
  rintro e w1 ⟨rfl, hg⟩
  replace HX := Lib.hid (HX.out.same hg); replace HZ : Hid (w.heap.size + 2 ≤ w1.heap.size) := Lib.hid (by have := HZ.out; have := hg.size; omega); replace HG := Lib.hid (grown_trans HG.out hg)
  clear hg
  go_wp2_with fail
  refine (few_any _ _ _ _).mono ?_
  rintro e w2 ⟨rfl, rfl⟩
  by_cases hfew : (zs.length : Int) ≤ 400
  case neg =>
    rw [decide_eq_false hfew]
    go_wp2_with fail
    refine (awake04_any _).mono ?_
    rintro e w9 ⟨rfl, hg⟩
    have HGX := Lib.hid (grown_trans HG.out hg)
    clear hg
    go_wp2_with fail
    go_ret
    exact ⟨rfl, below_of HGX.out⟩
  rw [decide_eq_true hfew]
  have b0 := HX.out.1; have b1 := HX.out.2.1
  go_wp2_with fail
  refine (psmall4 (H.out.same HG.out)).mono ?_
  rintro e w3 ⟨B1, rfl, hB, hg⟩
  have HS1 := Lib.hid hB
  replace HX := Lib.hid (HX.out.same hg); replace HZ : Hid (w.heap.size + 2 ≤ w3.heap.size) := Lib.hid (Nat.le_trans HZ.out hg.size); replace HG := Lib.hid (grown_trans HG.out hg)
  clear hg hB b0 b1
  cases B1 with
  | false =>
    go_wp2_with fail
    refine (awake04_any _).mono ?_
    rintro e w9 ⟨rfl, hg⟩
    have HGX := Lib.hid (grown_trans HG.out hg)
    clear hg
    go_wp2_with fail
    go_ret
    exact ⟨rfl, below_of HGX.out⟩
  | true =>
  have b2 := HX.out.2.2.1; have b3 := HX.out.2.2.2
  replace HS1 := Lib.hid (HS1.out rfl)
  go_wp2_with fail
  refine (psmall4 (H'.out.same HG.out)).mono ?_
  rintro e w4 ⟨B2, rfl, hB, hg⟩
  have HS2 := Lib.hid hB
  replace HX := Lib.hid (HX.out.same hg); replace HZ : Hid (w.heap.size + 2 ≤ w4.heap.size) := Lib.hid (Nat.le_trans HZ.out hg.size); replace HG := Lib.hid (grown_trans HG.out hg)
  clear hg hB b2 b3
  cases B2 with
  | false =>
    go_wp2_with fail
    refine (awake04_any _).mono ?_
    rintro e w9 ⟨rfl, hg⟩
    have HGX := Lib.hid (grown_trans HG.out hg)
    clear hg
    go_wp2_with fail
    go_ret
    exact ⟨rfl, below_of HGX.out⟩
  | true =>
  replace HS2 := Lib.hid (HS2.out rfl)
  by_cases h40 : (40 : Int) < (xs.length : Int)
  · go_wp2_with fail
    refine (awake04_any _).mono ?_
    rintro e w9 ⟨rfl, hg⟩
    have HGX := Lib.hid (grown_trans HG.out hg)
    clear hg
    go_wp2_with fail
    go_ret
    exact ⟨rfl, below_of HGX.out⟩
  have hx40 : xs.length ≤ 40 := by omega
  go_wp2_with fail
  refine (new_st (HI.out.same HG.out) (grown_refl w4 none)).mono ?_
  rintro e w5 ⟨p, d, rfl, hs⟩
  have HS := Lib.hid hs; have hd4 := hs.2.2
  have X1 := Lib.hid ((TX.raw (H.out.same HG.out) HS1.out hd4).same hs.2.1); have X2 := Lib.hid ((TX.raw (H'.out.same HG.out) HS2.out hd4).same hs.2.1)
  have XM : Hid (Ints w5 (.slice am xs.length cm) xs ∧ ∀ k, (Value.slice am xs.length cm).ownBlock = some k → k ≠ d) := Lib.hid ⟨(HMI.out.same HG.out).same hs.2.1, fun k hk => by have := HMB.out k hk; have := HG.out.size; omega⟩
  replace HX : Hid (BxD w5 d w.heap.size _ _ _ _) := Lib.hid ⟨HX.out.same hs.2.1, by have := HZ.out; omega⟩
  clear hs hd4 HZ HI HMI HMB H H'
  replace HS := Lib.hid (HS.out.step (grown_drew w5 none)); replace X1 := Lib.hid (X1.out.same (grown_drew w5 none)); replace X2 := Lib.hid (X2.out.same (grown_drew w5 none)); replace HX := Lib.hid (HX.out.deal (grown_drew w5 (some d)))
  replace XM : Hid (Ints w5.drew (.slice am xs.length cm) xs ∧ ∀ k, (Value.slice am xs.length cm).ownBlock = some k → k ≠ d) := Lib.hid ⟨XM.out.1.same (grown_drew w5 none), XM.out.2⟩
  go_wp2_with fail
  go_region_held3 (fun w' => w'.cell? ⟨w.heap.size, 0, none⟩ = some (.int .i64 s.label) ∧ w'.cell? ⟨w.heap.size, 1, none⟩ = some (.slice sa s.kids.length cs) ∧ w'.cell? ⟨w.heap.size + 1, 0, none⟩ = some (.int .i64 t.label) ∧ w'.cell? ⟨w.heap.size + 1, 1, none⟩ = some (.slice ta t.kids.length ct)) (first | exact HX.out.1 | exact (HX.out.deal (World.grownBy_alloc _ _ _)).1) (first
    | (go_at_call 32; (with_reducible refine (tree_stI 2 4 (by decide) (by decide) (by decide) (by decide) HS.out).mono ?_); rintro e q1 ⟨ya1, yc1, yt1, rfl, ht, hz, hl, hst, hg⟩; replace HS := Lib.hid hst; replace HX := Lib.hid (HX.out.deal hg); replace X1 := Lib.hid (X1.out.deal hg); replace X2 := Lib.hid (X2.out.deal hg); replace XM := Lib.hid (xm_deal XM.out hg); have Y1 := Lib.hid (TX.new ht hz (by decide)); clear ht hz hl hst hg)
    | (go_at_call 32; (with_reducible refine (tree_stI 2 12 (by decide) (by decide) (by decide) (by decide) HS.out).mono ?_); rintro e q2 ⟨ya2, yc2, yt2, rfl, ht, hz, hl, hst, hg⟩; replace HS := Lib.hid hst; replace HX := Lib.hid (HX.out.deal hg); replace X1 := Lib.hid (X1.out.deal hg); replace X2 := Lib.hid (X2.out.deal hg); replace XM := Lib.hid (xm_deal XM.out hg); replace Y1 := Lib.hid (Y1.out.deal hg); have Y2 := Lib.hid (TX.new ht hz (by decide)); clear ht hz hl hst hg)
    | (go_at_call 32; (with_reducible refine (tree_stI 1 6 (by decide) (by decide) (by decide) (by decide) HS.out).mono ?_); rintro e q3 ⟨ya3, yc3, yt3, rfl, ht, hz, hl, hst, hg⟩; replace HS := Lib.hid hst; replace HX := Lib.hid (HX.out.deal hg); replace X1 := Lib.hid (X1.out.deal hg); replace X2 := Lib.hid (X2.out.deal hg); replace XM := Lib.hid (xm_deal XM.out hg); replace Y1 := Lib.hid (Y1.out.deal hg); replace Y2 := Lib.hid (Y2.out.deal hg); have Y3 := Lib.hid (TX.new ht hz (by decide)); clear ht hz hl hst hg)
    | (go_at_call 32; (with_reducible refine (tree_stI 1 9 (by decide) (by decide) (by decide) (by decide) HS.out).mono ?_); rintro e q4 ⟨ya4, yc4, yt4, rfl, ht, hz, hl, hst, hg⟩; replace HS := Lib.hid hst; replace HX := Lib.hid (HX.out.deal hg); replace X1 := Lib.hid (X1.out.deal hg); replace X2 := Lib.hid (X2.out.deal hg); replace XM := Lib.hid (xm_deal XM.out hg); replace Y1 := Lib.hid (Y1.out.deal hg); replace Y2 := Lib.hid (Y2.out.deal hg); replace Y3 := Lib.hid (Y3.out.deal hg); have Y4 := Lib.hid (TX.new ht hz (by decide)); clear ht hz hl hst hg)
    | (go_at_call 32; (with_reducible refine (tree_stI 3 14 (by decide) (by decide) (by decide) (by decide) HS.out).mono ?_); rintro e q5 ⟨ya5, yc5, yt5, rfl, ht, hz, hl, hst, hg⟩; replace HS := Lib.hid hst; replace HX := Lib.hid (HX.out.deal hg); replace X1 := Lib.hid (X1.out.deal hg); replace X2 := Lib.hid (X2.out.deal hg); replace XM := Lib.hid (xm_deal XM.out hg); replace Y1 := Lib.hid (Y1.out.deal hg); replace Y2 := Lib.hid (Y2.out.deal hg); replace Y3 := Lib.hid (Y3.out.deal hg); replace Y4 := Lib.hid (Y4.out.deal hg); have Y5 := Lib.hid (TX.new ht hz (by decide)); clear ht hz hl hst hg)
    | (go_at_call 32; (with_reducible refine (tree_stI 2 8 (by decide) (by decide) (by decide) (by decide) HS.out).mono ?_); rintro e q6 ⟨ya6, yc6, yt6, rfl, ht, hz, hl, hst, hg⟩; replace HS := Lib.hid hst; replace HX := Lib.hid (HX.out.deal hg); replace X1 := Lib.hid (X1.out.deal hg); replace X2 := Lib.hid (X2.out.deal hg); replace XM := Lib.hid (xm_deal XM.out hg); replace Y1 := Lib.hid (Y1.out.deal hg); replace Y2 := Lib.hid (Y2.out.deal hg); replace Y3 := Lib.hid (Y3.out.deal hg); replace Y4 := Lib.hid (Y4.out.deal hg); replace Y5 := Lib.hid (Y5.out.deal hg); have Y6 := Lib.hid (TX.new ht hz (by decide)); clear ht hz hl hst hg)
    )
  rename_i hHd
  clear hHd
  have hb := heap_new (w := q6) (g := q6.heap.size) (.cells #[.int .i64 s.label, .slice sa s.kids.length cs, .int .i64 t.label, .slice ta t.kids.length ct, .int .i64 yt1.label, .slice ya1 yt1.kids.length yc1, .int .i64 yt2.label, .slice ya2 yt2.kids.length yc2, .int .i64 yt3.label, .slice ya3 yt3.kids.length yc3, .int .i64 yt4.label, .slice ya4 yt4.kids.length yc4, .int .i64 yt5.label, .slice ya5 yt5.kids.length yc5, .int .i64 t.label, .slice ta t.kids.length ct, .int .i64 s.label, .slice sa s.kids.length cs, .int .i64 yt6.label, .slice ya6 yt6.kids.length yc6] 47) rfl
  have hg := World.grownBy_alloc q6 (.cells #[.int .i64 s.label, .slice sa s.kids.length cs, .int .i64 t.label, .slice ta t.kids.length ct, .int .i64 yt1.label, .slice ya1 yt1.kids.length yc1, .int .i64 yt2.label, .slice ya2 yt2.kids.length yc2, .int .i64 yt3.label, .slice ya3 yt3.kids.length yc3, .int .i64 yt4.label, .slice ya4 yt4.kids.length yc4, .int .i64 yt5.label, .slice ya5 yt5.kids.length yc5, .int .i64 t.label, .slice ta t.kids.length ct, .int .i64 s.label, .slice sa s.kids.length cs, .int .i64 yt6.label, .slice ya6 yt6.kids.length yc6] 47) none
  have HF := Lib.hid (five_pairs hb (X1.out.same hg) (X2.out.same hg) (Y1.out.same hg) (Y2.out.same hg) (Y3.out.same hg) (Y4.out.same hg) (Y5.out.same hg) (X2.out.same hg) (X1.out.same hg) (Y6.out.same hg))
  replace XM : Hid (Ints _ (.slice am xs.length cm) xs ∧ ∀ k, (Value.slice am xs.length cm).ownBlock = some k → k ≠ d) := Lib.hid ⟨XM.out.1.same hg, XM.out.2⟩
  have HBD : Hid (q6.heap.size ≠ d) := Lib.hid (fun e => by have := HS.out.lt; omega)
  replace HS := Lib.hid (HS.out.step hg)
  clear hb hg X1 X2 Y1 Y2 Y3 Y4 Y5 Y6 HX
  go_wp2_with fail
  generalize q6.alloc (.cells #[.int .i64 s.label, .slice sa s.kids.length cs, .int .i64 t.label, .slice ta t.kids.length ct, .int .i64 yt1.label, .slice ya1 yt1.kids.length yc1, .int .i64 yt2.label, .slice ya2 yt2.kids.length yc2, .int .i64 yt3.label, .slice ya3 yt3.kids.length yc3, .int .i64 yt4.label, .slice ya4 yt4.kids.length yc4, .int .i64 yt5.label, .slice ya5 yt5.kids.length yc5, .int .i64 t.label, .slice ta t.kids.length ct, .int .i64 s.label, .slice sa s.kids.length cs, .int .i64 yt6.label, .slice ya6 yt6.kids.length yc6] 47) = WB at *
  generalize q6.heap.size = BB at *
  go_loopw [69] (fun i wr => ∃ k : Nat, i = .int .i64 k ∧ k ≤ 5 ∧ Hid (St w4 wr p d) ∧ Hid (WB.grownBy wr (some d))) (fun i _ => 5 - (intOf i).toNat)
  case atStart => exact ⟨0, rfl, Nat.zero_le _, HS, Lib.hid (grown_refl _ _)⟩
  case round =>
    clear HS
    obtain ⟨k, rfl, hk, HS, HGB⟩ := hrel
    by_cases hk5 : k < 5
    case neg =>
      obtain rfl : k = 5 := by omega
      go_wp2_with fail
      go_ret
      exact ⟨rfl, below_of (grown_trans HG.out HS.out.2.1)⟩
    have h2 : (k : Int) < 5 := by omega
    have i1 : IntKind.i64.wrap ((k : Int) + 1) = (k : Int) + 1 := IntWalk.i64_in _ (by omega)
    obtain ⟨l0, x, xa, xc, y, ya, yc, e0, e1, e2, e3, hx, hy⟩ := (HF.out k hk5).deal HGB.out HBD.out
    have X := Lib.hid hx; have Y := Lib.hid hy
    replace XM := Lib.hid (xm_deal XM.out HGB.out)
    clear hx hy
    go_wp2_with fail
    clear e0 e1 e2 e3
    have hb4 := heap_new (w := wr) (g := wr.heap.size) (.cells #[.int .i64 x.label, .slice xa x.kids.length xc, .int .i64 y.label, .slice ya y.kids.length yc] 47) rfl
    have k0 := quad_cells hb4
    go_cut [12, 13] (fun s12 s13 wx => ∃ g h, s12 = .pointer (some ⟨g, 0, none⟩) ∧ s13 = .pointer (some ⟨h, 0, none⟩) ∧ wr.grownBy wx none ∧ wx.heap[g]? = some (.cells #[.int .i64 x.label, .slice xa x.kids.length xc] 45 (0, 0)) ∧ wx.heap[h]? = some (.cells #[.int .i64 y.label, .slice ya y.kids.length yc] 45 (0, 0)) ∧ wr.heap.size ≤ g ∧ wr.heap.size ≤ h)
    case first =>
      obtain ⟨k0, k1, k2, k3⟩ := k0
      go_region
      all_goals
        go_wp2_with fail
        go_meet
        first
        | exact ⟨_, _, rfl, rfl, (three_new wr _ _ _).1, (three_new wr _ _ _).2.1, (three_new wr _ _ _).2.2, Nat.le_succ _, Nat.le_trans (Nat.le_succ _) (Nat.le_succ _)⟩
        | exact ⟨_, _, rfl, rfl, (three_new wr _ _ _).1, (three_new wr _ _ _).2.2, (three_new wr _ _ _).2.1, Nat.le_trans (Nat.le_succ _) (Nat.le_succ _), Nat.le_succ _⟩
    case rest =>
    obtain ⟨g, h, rfl, rfl, hg, hgx, hhy, hg1, hh1⟩ := hcut
    rename World => w7
    have hdw := HS.out.lt
    have GD : Hid (g ≠ d ∧ h ≠ d) := Lib.hid ⟨by omega, by omega⟩
    replace X := Lib.hid (X.out.same hg); replace Y := Lib.hid (Y.out.same hg); replace HS := Lib.hid (HS.out.step hg); replace HGB : Hid (WB.grownBy w7 (some d)) := Lib.hid (grown_then HGB.out hg (by simp))
    have HBX : Hid (BxX w7 d g h x xa xc y ya yc) := Lib.hid ⟨(cells_of hgx).1, (cells_of hgx).2, (cells_of hhy).1, (cells_of hhy).2, GD.out⟩
    replace XM : Hid (Ints w7 (.slice am xs.length cm) xs ∧ ∀ k, (Value.slice am xs.length cm).ownBlock = some k → k ≠ d) := Lib.hid ⟨XM.out.1.same hg, XM.out.2⟩
    clear k0 hb4 hg hgx hhy hg1 hh1 hdw GD
    go_wp2_with fail
    have GX : Hid (w7.grownBy w7.drew none) := Lib.hid (grown_drew _ _)
    go_region_held3 (fun w' => w'.cell? ⟨g, 0, none⟩ = some (.int .i64 x.label) ∧ w'.cell? ⟨g, 1, none⟩ = some (.slice xa x.kids.length xc) ∧ w'.cell? ⟨h, 0, none⟩ = some (.int .i64 y.label) ∧ w'.cell? ⟨h, 1, none⟩ = some (.slice ya y.kids.length yc)) (first | exact (HBX.out.same GX.out).cells) (first
      | (go_at_call 33; (with_reducible refine (ValidB_any (X.out.same GX.out).tr X.out.sz).mono ?_); rintro e q1 ⟨rfl, hg⟩; replace GX : Hid (w7.grownBy q1 none) := Lib.hid (grown_trans GX.out hg); clear hg)
      | (go_at_call 34; (with_reducible refine (rValidB_any (X.out.same GX.out).tr X.out.sz).mono ?_); rintro e q1 ⟨rfl, hg⟩; replace GX : Hid (w7.grownBy q1 none) := Lib.hid (grown_trans GX.out hg); clear hg)
      | (go_at_call 35; (with_reducible refine (SizeA_any x _ _ (X.out.same GX.out).tr X.out.sz).mono ?_); rintro e q1 ⟨rfl, hg⟩; replace GX : Hid (w7.grownBy q1 none) := Lib.hid (grown_trans GX.out hg); clear hg)
      | (go_at_call 36; (with_reducible refine (rSizeA_any x _ _ (X.out.same GX.out).tr X.out.sz).mono ?_); rintro e q1 ⟨rfl, hg⟩; replace GX : Hid (w7.grownBy q1 none) := Lib.hid (grown_trans GX.out hg); clear hg)
      | (go_at_call 37; (with_reducible refine (LeqB_any (X.out.same GX.out).tr (Y.out.same GX.out).tr X.out.sz Y.out.sz).mono ?_); rintro e q1 ⟨rfl, hg⟩; replace GX : Hid (w7.grownBy q1 none) := Lib.hid (grown_trans GX.out hg); clear hg)
      | (go_at_call 38; (with_reducible refine (rLeqB_any (X.out.same GX.out).tr (Y.out.same GX.out).tr X.out.sz Y.out.sz).mono ?_); rintro e q1 ⟨rfl, hg⟩; replace GX : Hid (w7.grownBy q1 none) := Lib.hid (grown_trans GX.out hg); clear hg)
      | (go_at_call 39; (with_reducible refine (CompareA_any x y _ _ _ (X.out.same GX.out).tr (Y.out.same GX.out).tr X.out.sz Y.out.sz).mono ?_); rintro e q1 ⟨rfl, hg⟩; replace GX : Hid (w7.grownBy q1 none) := Lib.hid (grown_trans GX.out hg); clear hg)
      | (go_at_call 40; (with_reducible refine (rCompareA_any x y _ _ _ (X.out.same GX.out).tr (Y.out.same GX.out).tr X.out.sz Y.out.sz).mono ?_); rintro e q1 ⟨rfl, hg⟩; replace GX : Hid (w7.grownBy q1 none) := Lib.hid (grown_trans GX.out hg); clear hg)
      | (go_at_call 41; (with_reducible refine (LabelsA_any x _ _ (X.out.same GX.out).tr X.out.sz).mono ?_); rintro e q1 ⟨vl, rfl, hv, hg⟩; replace GX : Hid (w7.grownBy q1 none) := Lib.hid (grown_trans GX.out hg); have V1 := Lib.hid hv; clear hg hv)
      | (go_at_call 42; (with_reducible refine (rLabelsA_any x _ _ (X.out.same GX.out).tr X.out.sz).mono ?_); rintro e q1 ⟨vl, rfl, hv, hg⟩; replace GX : Hid (w7.grownBy q1 none) := Lib.hid (grown_trans GX.out hg); replace V1 := Lib.hid (V1.out.same hg); have V2 := Lib.hid hv; clear hg hv)
      | (go_at_call 22; (with_reducible refine (same_any _ _ _ _ _ V1.out V2.out).mono ?_); rintro e q1 ⟨rfl, hg⟩; rw [beq_self_eq_true]; replace GX : Hid (w7.grownBy q1 none) := Lib.hid (grown_trans GX.out (hg.grown none)); clear hg))
    rename_i hHd
    clear hHd V1 V2
    replace X := Lib.hid (X.out.same GX.out); replace Y := Lib.hid (Y.out.same GX.out); replace HS := Lib.hid (HS.out.step GX.out); replace HGB : Hid (WB.grownBy q1 (some d)) := Lib.hid (grown_then HGB.out GX.out (by simp)); replace HBX := Lib.hid (HBX.out.same GX.out)
    replace XM : Hid (Ints q1 (.slice am xs.length cm) xs ∧ ∀ k, (Value.slice am xs.length cm).ownBlock = some k → k ≠ d) := Lib.hid ⟨XM.out.1.same GX.out, XM.out.2⟩
    clear GX
    have c0 := HBX.out.1; have c1 := HBX.out.2.1; have c2 := HBX.out.2.2.1; have c3 := HBX.out.2.2.2.1
    go_wp2_with fail
    refine (rEmbedB_any X.out.tr Y.out.tr X.out.sz Y.out.sz).mono ?_
    rintro e w10 ⟨ar, cr, rs, rfl, hor, hrl, hrb, hg⟩
    have HOR := Lib.hid hor; have HRL := Lib.hid hrl; have HRB := Lib.hid hrb; have HQZ := Lib.hid HS.out.lt
    replace X := Lib.hid (X.out.same hg); replace Y := Lib.hid (Y.out.same hg); replace HS := Lib.hid (HS.out.step hg); replace HGB : Hid (WB.grownBy w10 (some d)) := Lib.hid (grown_then HGB.out hg (by simp)); replace HBX := Lib.hid (HBX.out.same hg)
    replace XM : Hid (Ints w10 (.slice am xs.length cm) xs ∧ ∀ k, (Value.slice am xs.length cm).ownBlock = some k → k ≠ d) := Lib.hid ⟨XM.out.1.same hg, XM.out.2⟩
    have XR : Hid (Ints w10 (.slice ar rs.length cr) rs ∧ ∀ k, (Value.slice ar rs.length cr).ownBlock = some k → k ≠ d) := Lib.hid ⟨hor.ints (fun x hx => by have := hrb x hx; omega), fun k hk => by have := (hor.fresh k hk).1; have := HQZ.out; omega⟩
    have HGD := Lib.hid hor.good
    clear hor hrl hrb hg c0 c1 c2 c3 HOR HQZ
    have c0 := HBX.out.1; have c1 := HBX.out.2.1; have c2 := HBX.out.2.2.1; have c3 := HBX.out.2.2.2.1
    go_wp2_with fail
    refine (EmbedB_any X.out.tr Y.out.tr X.out.sz Y.out.sz).mono ?_
    rintro e w11 ⟨av, cv, vs, rfl, hov, hvl, hvp, hve, hg⟩
    have HOV := Lib.hid hov; have HVL := Lib.hid hvl; have HVP := Lib.hid hvp; have HVE := Lib.hid hve
    replace X := Lib.hid (X.out.same hg); replace Y := Lib.hid (Y.out.same hg); replace HS := Lib.hid (HS.out.step hg); replace HGB : Hid (WB.grownBy w11 (some d)) := Lib.hid (grown_then HGB.out hg (by simp)); replace HBX := Lib.hid (HBX.out.same hg)
    replace XM : Hid (Ints w11 (.slice am xs.length cm) xs ∧ ∀ k, (Value.slice am xs.length cm).ownBlock = some k → k ≠ d) := Lib.hid ⟨XM.out.1.same hg, XM.out.2⟩
    replace XR : Hid (Ints w11 (.slice ar rs.length cr) rs ∧ ∀ k, (Value.slice ar rs.length cr).ownBlock = some k → k ≠ d) := Lib.hid ⟨XR.out.1.same hg, XR.out.2⟩
    clear hov hvl hvp hve hg c0 c1 c2 c3
    go_upto_region 12 with fail
    go_cut [14, 15, 17, 148] (fun s14 s15 s17 s148 wx => s14 = .slice ar rs.length cr ∧ s148 = .bool false ∧ w11.grownBy wx none)
    case first =>
      have c0 := HBX.out.1; have c1 := HBX.out.2.1; have c2 := HBX.out.2.2.1; have c3 := HBX.out.2.2.2.1
      cases hE : embB x y with
      | true =>
        have HP := Lib.hid (HVP.out hE)
        clear hE
        go_wp2_with fail
        refine (rProvesT_any x y _ _ _ vs _ X.out.tr Y.out.tr X.out.sz Y.out.sz HOV.out HVL.out).mono ?_
        rintro e w12 ⟨rfl, hg⟩
        rw [HP.out]
        have G12 := Lib.hid hg
        clear hg c0 c1 c2 c3
        go_wp2_with fail
        go_meet
        exact ⟨rfl, rfl, G12.out⟩
      | false =>
        obtain rfl := HVE.out hE
        clear hE
        go_wp2_with fail
        go_meet
        exact ⟨rfl, rfl, grown_refl _ _⟩
    case rest =>
    obtain ⟨rfl, rfl, hg⟩ := hcut
    rename World => w14
    have hd11 := HS.out.lt
    replace X := Lib.hid (X.out.same hg); replace Y := Lib.hid (Y.out.same hg); replace HS := Lib.hid (HS.out.step hg); replace HGB : Hid (WB.grownBy w14 (some d)) := Lib.hid (grown_then HGB.out hg (by simp)); replace HBX := Lib.hid (HBX.out.same hg)
    replace XM : Hid (Ints w14 (.slice am xs.length cm) xs ∧ ∀ k, (Value.slice am xs.length cm).ownBlock = some k → k ≠ d) := Lib.hid ⟨XM.out.1.same hg, XM.out.2⟩
    replace XR : Hid (Ints w14 (.slice ar rs.length cr) rs ∧ ∀ k, (Value.slice ar rs.length cr).ownBlock = some k → k ≠ d) := Lib.hid ⟨XR.out.1.same hg, XR.out.2⟩
    clear hg HVP HVE HOV HVL hd11
    have HD14 := Lib.hid HS.out.lt
    have HH14 := Lib.hid (cell_size HBX.out.cells.2.2.1)
    go_wp2_with (at_builtin; refine app_ints rfl _ _ rfl w14.heap.size (.slice none 0 0) [] rfl (OwnI.nil _ _) (.slice ar rs.length cr) rs rfl XR.out.1 HGD.out (by have := HRL.out; simp; omega) (Nat.le_refl _) ?_)
    intro v13 w13 ho13 hg13
    have ho13 : OwnI w13 w14.heap.size v13 rs := by simpa using ho13
    have hg13 : w14.grownBy w13 none := hg13
    have HO := Lib.hid ho13; have HGN := Lib.hid hg13
    replace HS := Lib.hid (HS.out.step hg13)
    clear ho13 hg13
    obtain ⟨a13, c13, rfl⟩ := ownI_sl HO.out
    go_upto_if 153 with fail
    go_cut [18] (fun s18 wx => ∃ a18 c18 bs, s18 = .slice a18 (List.length bs) c18 ∧ Ints wx (.slice a18 (List.length bs) c18) bs ∧ bs.length ≤ 100000 ∧ St w4 wx p d ∧ w14.grownBy wx (some d))
    case first =>
      by_cases h0 : rs.length = 0
      · have e1 : ¬ (0 : Int) < (rs.length : Int) := by omega
        clear h0
        go_wp2_with fail
        go_meet
        exact ⟨a13, c13, rs, rfl, HO.out.ints (fun x hx => by have := HRB.out x hx; omega), HRL.out, HS.out, grown_then (grown_refl w14 (some d)) HGN.out (by simp)⟩
      · obtain ⟨g18, c18, hv18, hgb⟩ := own_sl1 HO.out (by omega)
        simp only [Value.slice.injEq] at hv18
        obtain ⟨rfl, -, rfl⟩ := hv18
        have e1 : (0 : Int) < (rs.length : Int) := by omega
        have HE1 : Hid ((1 : Int) ≤ (rs.length : Int)) := Lib.hid (by omega)
        have HE2 : Hid ((rs.length : Int) ≤ 4611686018427387904) := Lib.hid (by have := HRL.out; omega)
        have HGB8 := Lib.hid hgb
        clear h0 hgb
        go_wp2_with fail
        have HSV : Hid (sizeV y ≤ 100000) := Lib.hid (by unfold sizeV; have := Y.out.sz; split <;> omega)
        have i9 : IntKind.i64.wrap ((sizeV y : Int) + 2) = (sizeV y : Int) + 2 := IntWalk.i64_in _ (by have := HSV.out; omega)
        have HE3 : Hid ((1 : Int) ≤ (sizeV y : Int) + 2) := Lib.hid (by omega)
        have HE4 : Hid ((sizeV y : Int) + 2 ≤ 4611686018427387904) := Lib.hid (by have := HSV.out; omega)
        replace HS := Lib.hid (HS.out.step (grown_drew w13 none))
        have GX : Hid (w14.grownBy w13.drew (some d)) := Lib.hid (grown_then (grown_then (grown_refl w14 (some d)) HGN.out (by simp)) (grown_drew w13 none) (by simp))
        replace HO : Hid (OwnI w13.drew w14.heap.size (.slice (some ⟨g18, 0, none⟩) rs.length c13) rs) := Lib.hid (HO.out.kept (grown_drew w13 none) (by simp))
        have HKB : Hid (∀ k, some d = some k → k < w14.heap.size) := Lib.hid (by rintro k ⟨⟩; exact HD14.out)
        have HGH : Hid (some h ≠ some g18) := Lib.hid (by have := HH14.out; have := HGB8.out; simp; omega)
        go_region_held3 (fun w' => w'.cell? ⟨h, 0, none⟩ = some (.int .i64 y.label) ∧ w'.cell? ⟨h, 1, none⟩ = some (.slice ya y.kids.length yc)) (first | exact ⟨(HBX.out.deal GX.out).cells.2.2.1, (HBX.out.deal GX.out).cells.2.2.2⟩ | exact ⟨(grown_set _ _ _).cell (HBX.out.deal GX.out).cells.2.2.1 HGH.out, (grown_set _ _ _).cell (HBX.out.deal GX.out).cells.2.2.2 HGH.out⟩) (first
          | (go_at_call 17; (with_reducible refine (next_st HS.out _ HE1.out HE2.out).mono ?_); rintro e q2 ⟨y0, rfl, hy0, hy1, hs, hg⟩; obtain ⟨r, rfl⟩ : ∃ r : Nat, y0 = (r : Int) := ⟨y0.toNat, by omega⟩; have hri : (r : Int) < (rs.length : Int) := hy1; have HRI : Hid (r < rs.length) := Lib.hid (by omega); replace HS := Lib.hid hs; replace HO := Lib.hid (HO.out.kept hg HKB.out); replace GX := Lib.hid (grown_deal GX.out hg); clear hy0 hy1 hs hg)
          | (go_at_call 36; (with_reducible refine (rSizeA_any y _ _ (Y.out.deal GX.out).tr Y.out.sz).mono ?_); rintro e q3 ⟨rfl, hg⟩; replace HS := Lib.hid (HS.out.step hg); replace HO := Lib.hid (HO.out.kept hg (by simp)); replace GX : Hid (w14.grownBy q3 (some d)) := Lib.hid (grown_then GX.out hg (by simp)); clear hg)
          | (go_at_call 17; (with_reducible refine (next_st HS.out _ HE3.out HE4.out).mono ?_); rintro e q4 ⟨z4, rfl, hy0, hy1, hs, hg⟩; have HZ4 : Hid (0 ≤ z4 ∧ z4 ≤ 200000) := Lib.hid ⟨hy0, by have := HSV.out; omega⟩; replace HS := Lib.hid hs; replace HO := Lib.hid (HO.out.kept hg HKB.out); replace GX := Lib.hid (grown_deal GX.out hg); have hc := (HO.out.cell r HRI.out).1; have hf := (HO.out.cell r HRI.out).2; clear hy0 hy1 hs hg))
        have HST := Lib.hid (HO.out.stored r z4)
        have GS : Hid (q4.grownBy (q4.setCell ⟨g18, r, none⟩ (.int .i64 z4)) (some g18)) := Lib.hid (grown_set _ _ _)
        have HIN : Hid (Ints (q4.setCell ⟨g18, r, none⟩ (.int .i64 z4)) (.slice (some ⟨g18, 0, none⟩) rs.length c13) (rs.set r z4)) := Lib.hid (HST.out.ints (fun x hx => by
          rcases List.mem_or_eq_of_mem_set hx with h | rfl
          · have := HRB.out x h; omega
          · have := HZ4.out; omega))
        have HSF : Hid (St w4 (q4.setCell ⟨g18, r, none⟩ (.int .i64 z4)) p d) := Lib.hid ⟨HS.out.1.kept GS.out (by rintro k ⟨⟩; have := HD14.out; have := HGB8.out; omega), grown_then HS.out.2.1 GS.out (by rintro j ⟨⟩; exact .inl (by have := HS.out.2.2; have := HD14.out; have := HGB8.out; omega)), HS.out.2.2⟩
        have HGF : Hid (w14.grownBy (q4.setCell ⟨g18, r, none⟩ (.int .i64 z4)) (some d)) := Lib.hid (grown_then GX.out GS.out (by rintro j ⟨⟩; exact .inl HGB8.out))
        have HLN : Hid ((rs.set r z4).length = rs.length) := Lib.hid List.length_set
        have HFIN : Hid (∃ a18 c18 bs, Value.slice (some ⟨g18, 0, none⟩) rs.length c13 = .slice a18 (List.length bs) c18 ∧ Ints (q4.setCell ⟨g18, r, none⟩ (.int .i64 z4)) (.slice a18 (List.length bs) c18) bs ∧ bs.length ≤ 100000 ∧ St w4 (q4.setCell ⟨g18, r, none⟩ (.int .i64 z4)) p d ∧ w14.grownBy (q4.setCell ⟨g18, r, none⟩ (.int .i64 z4)) (some d)) :=
          Lib.hid ⟨_, c13, rs.set r z4, by rw [HLN.out], by rw [HLN.out]; exact HIN.out, by rw [HLN.out]; exact HRL.out, HSF.out, HGF.out⟩
        clear hc hf
        go_wp2_with fail
        go_meet
        exact HFIN.out
    case rest =>
    obtain ⟨a18, c18, bs, rfl, hbi, hbl, hst, hg⟩ := hcut
    rename World => w15
    have HBI := Lib.hid hbi; have HBL := Lib.hid hbl
    replace HS := Lib.hid hst; replace X := Lib.hid (X.out.deal hg); replace Y := Lib.hid (Y.out.deal hg); replace HBX := Lib.hid (HBX.out.deal hg); replace HGB := Lib.hid (grown_deal HGB.out hg); replace XM := Lib.hid (xm_deal XM.out hg); replace XR := Lib.hid (xm_deal XR.out hg)
    clear hbi hbl hst hg HO HGN
    go_wp2_with fail
    have hb3 := heap_new (w := w15) (g := w15.heap.size) (.cells #[.slice am xs.length cm, .slice ar rs.length cr, .slice a18 bs.length c18] 22) rfl
    have hg3 := World.grownBy_alloc w15 (.cells #[.slice am xs.length cm, .slice ar rs.length cr, .slice a18 bs.length c18] 22) none
    have HR3 := Lib.hid (three_rows hb3 (XM.out.1.same hg3) (by omega) (XR.out.1.same hg3) HRL.out (HBI.out.same hg3) HBL.out)
    replace HS := Lib.hid (HS.out.step hg3); replace X := Lib.hid (X.out.same hg3); replace Y := Lib.hid (Y.out.same hg3); replace HBX := Lib.hid (HBX.out.same hg3)
    generalize hW3 : w15.alloc (.cells #[.slice am xs.length cm, .slice ar rs.length cr, .slice a18 bs.length c18] 22) = W3 at *
    replace HGB : Hid (WB.grownBy W3 (some d)) := Lib.hid (grown_then HGB.out hg3 (by simp))
    generalize w15.heap.size = B3 at *
    clear hb3 hg3 hW3 HBI HBL
    go_loopw [170] (fun i wr => ∃ j : Nat, i = .int .i64 j ∧ j ≤ 3 ∧ Hid (W3.grownBy wr none)) (fun i _ => 3 - (intOf i).toNat)
    case atStart => exact ⟨0, rfl, Nat.zero_le _, Lib.hid (grown_refl _ _)⟩
    case round =>
      obtain ⟨j, rfl, hj, hG⟩ := hrel
      rename World => wj
      by_cases hj3 : j < 3
      · have h3 : (j : Int) < 3 := by omega
        have i2 : IntKind.i64.wrap ((j : Int) + 1) = (j : Int) + 1 := IntWalk.i64_in _ (by omega)
        obtain ⟨az, cz, us, hcz, hiz, hlz⟩ := HR3.out j hj3
        have hc3 := hG.out.cell hcz (hnn _)
        have IZ := Lib.hid (hiz.same hG.out); have LZ := Lib.hid hlz
        have XJ := Lib.hid (X.out.same hG.out); have YJ := Lib.hid (Y.out.same hG.out); have BJ := Lib.hid (HBX.out.same hG.out)
        clear hcz hiz hlz
        go_wp2_with fail
        have GX : Hid (wj.grownBy wj.drew none) := Lib.hid (grown_drew _ _)
        go_region_held3 (fun w' => w'.cell? ⟨g, 0, none⟩ = some (.int .i64 x.label) ∧ w'.cell? ⟨g, 1, none⟩ = some (.slice xa x.kids.length xc) ∧ w'.cell? ⟨h, 0, none⟩ = some (.int .i64 y.label) ∧ w'.cell? ⟨h, 1, none⟩ = some (.slice ya y.kids.length yc)) (first | exact (BJ.out.same GX.out).cells) (first
          | (go_at_call 46; (with_reducible refine (ProvesT_any x y _ _ _ us _ (XJ.out.same GX.out).tr (YJ.out.same GX.out).tr XJ.out.sz YJ.out.sz (IZ.out.same GX.out)).mono ?_); rintro e q5 ⟨rfl, hg⟩; replace GX : Hid (wj.grownBy q5 none) := Lib.hid (grown_trans GX.out hg); clear hg)
          | (go_at_call 45; (with_reducible refine (rProvesT_any x y _ _ _ us _ (XJ.out.same GX.out).tr (YJ.out.same GX.out).tr XJ.out.sz YJ.out.sz (IZ.out.same GX.out) LZ.out).mono ?_); rintro e q5 ⟨rfl, hg⟩; replace GX : Hid (wj.grownBy q5 none) := Lib.hid (grown_trans GX.out hg); clear hg))
        rename_i hHd
        clear hHd hc3
        have HGJ := Lib.hid (grown_trans hG.out GX.out)
        go_wp2_with fail
        go_roundw
        case rel => exact ⟨j + 1, by go_num, by omega, HGJ⟩
        case measure => simp [intOf]; omega
      · obtain rfl : j = 3 := by omega
        have HSE := Lib.hid (HS.out.step hG.out); have HGE : Hid (WB.grownBy wj (some d)) := Lib.hid (grown_then HGB.out hG.out (by simp))
        go_wp2_with fail
        go_roundw
        case rel => exact ⟨k + 1, by go_num, by omega, HSE, HGE⟩
        case measure => simp [intOf]; omega

end Go.Proofs.Ytnppmemcdcgjhaa
