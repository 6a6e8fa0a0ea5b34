/- Texts Gs, Gt, Tj, Tk in one. -/
import Derived.Test.YtoaoheblaidhmaaU18
import Derived.Test.YtoaoheblaidhmaaU2
import Derived.ChangeOld
import Derived.ShutString
namespace Go.Proofs.Ytoaoheblaidhmaa
open Go.RowKit
set_option linter.unusedVariables false

/-- What a vector that the deck deals is: n integers with P, in memory of the call's own. -/
def Dealt (P : Int → Prop) (p : Value) (d n : Nat) (w : World) (e : Ending) (w' : World) : Prop :=
  ∃ v xs, e = .returned v ∧ xs.length = n ∧ (∀ x ∈ xs, P x) ∧ OwnI w' w.heap.size v xs ∧ Deck w' p d ∧ w.grownBy w' (some d)

theorem small_any (p : Value) (d : Nat) (n most : Int) (w : World) (h : Deck w p d) (h0 : n ≤ 1000) (h1 : 0 ≤ most) (h2 : most ≤ 1000000) :
    Calls Try.prog 16 #[p, .int .i64 n, .int .i64 most] w (Dealt (fun x => 0 ≤ x ∧ x ≤ most) p d n.toNat w) := by
  have hd : d < w.heap.size := h.lt
  have H := Lib.hid h
  clear h
  go_enter Try.func16, Try.ntmps16
  go_wp2
  go_loopw [7, 8] (fun v i wr => ∃ (k : Nat) (xs : List Int), i = .int .i64 k ∧ k ≤ n.toNat ∧ xs.length = k ∧ Hid (∀ x ∈ xs, 0 ≤ x ∧ x ≤ most) ∧ Hid (OwnI wr w.heap.size v xs) ∧ Hid (Deck wr p d) ∧ Hid (w.grownBy wr (some d))) (fun _ i _ => (n - intOf i).toNat)
  case atStart => exact ⟨0, [], rfl, Nat.zero_le _, rfl, Lib.hid (by simp), Lib.hid (OwnI.nil _ _), H, Lib.hid (grown_refl _ _)⟩
  case round =>
    obtain ⟨k, xs, rfl, hk, hl, hx, ho, hD, hG⟩ := hrel
    by_cases hlt : (k : Int) < n
    · go_wp2_with fail
      refine (next_any _ _ _ _ hD.out (by omega) (by omega)).mono ?_
      rintro e w1 ⟨y, rfl, hy0, hy1, hD1, hG1⟩
      have HD1 := Lib.hid hD1
      have HO1 := Lib.hid (ho.out.kept hG1 (by rintro j ⟨⟩; exact hd))
      have HG1 := Lib.hid (grown_trans hG.out hG1)
      have hs1 := HG1.out.size
      clear hD1 hG1 hD ho hG
      go_wp2_with (at_builtin; refine app_int rfl _ _ rfl w.heap.size _ xs rfl (HO1.out.kept (World.grownBy_alloc _ _ none) (by simp)) w1.heap.size y rfl (by simp) (by omega) (by simp; omega) ?_)
      intro v' w2 ho2 hg2
      have HO2 := Lib.hid ho2
      have HG2 := Lib.hid (grown_then (grown_trans HG1.out (World.grownBy_alloc _ _ _)) hg2 (fun j hj => .inl (HO1.out.fresh j hj).1))
      have HD2 := Lib.hid ((HD1.out.kept (World.grownBy_alloc _ _ none) (by simp)).kept hg2 (fun j hj => by have := (HO1.out.fresh j hj).1; omega))
      clear ho2 hg2
      go_wp2_with fail
      go_roundw
      case rel => exact ⟨k + 1, xs ++ [y], by go_num, by omega, by simp [hl], Lib.hid (mem_snoc hx.out ⟨hy0, by omega⟩), HO2, HD2, HG2⟩
      case measure => simp [intOf]; omega
    · go_wp2
      go_ret
      exact ⟨_, xs, rfl, by omega, hx.out, ho.out, hD.out, hG.out⟩

end Go.Proofs.Ytoaoheblaidhmaa

namespace Go.Proofs.Ytoaoheblaidhmaa
open Go.RowKit
set_option linter.unusedVariables false

theorem own : ownKnob Try.prog.godebug = none := by kernel_rfl
theorem laidOut : laidOutB Try.prog = true := by kernel_rfl

def Vec (w : World) (d : Nat) (v : Value) (xs : List Int) : Prop := Ints w v xs ∧ ∀ g, v.ownBlock = some g → d < g
theorem Vec.slice {w : World} {d : Nat} {v : Value} {xs : List Int} (h : Vec w d v xs) : ∃ a cap, v = .slice a xs.length cap ∧ xs.length ≤ maxLen := by
  obtain ⟨⟨a, cap, hv, hl, -⟩, -⟩ := h
  exact ⟨a, cap, hv, hl⟩
theorem Vec.step {w w' : World} {d : Nat} {v : Value} {xs : List Int} (h : Vec w d v xs) (g : w.grownBy w' none) : Vec w' d v xs := ⟨h.1.same g, h.2⟩
theorem Vec.deal {w w' : World} {d : Nat} {v : Value} {xs : List Int} (h : Vec w d v xs) (g : w.grownBy w' (some d)) : Vec w' d v xs :=
  ⟨h.1.kept g (by rintro k ⟨⟩ e; exact Nat.lt_irrefl _ (h.2 _ e)), h.2⟩
theorem OwnI.vec {w : World} {base d : Nat} {v : Value} {xs : List Int} (h : OwnI w base v xs) (hb : ∀ x ∈ xs, -9223372036854775808 ≤ x ∧ x ≤ 9223372036854775807) (hd : d < base) : Vec w d v xs :=
  ⟨h.ints hb, fun g hg => Nat.lt_of_lt_of_le hd (h.fresh g hg).1⟩

/-- The state of a law: it began in w0, and has a deck in block d. -/
def St (w0 w : World) (p : Value) (d : Nat) : Prop := Deck w p d ∧ w0.grownBy w none ∧ w0.heap.size ≤ d
theorem St.step {w0 w w' : World} {p : Value} {d : Nat} (h : St w0 w p d) (g : w.grownBy w' none) : St w0 w' p d := ⟨h.1.kept g (by simp), grown_trans h.2.1 g, h.2.2⟩
theorem St.deal {w0 w w' : World} {p : Value} {d : Nat} (h : St w0 w p d) (hd : Deck w' p d) (g : w.grownBy w' (some d)) : St w0 w' p d :=
  ⟨hd, grown_then h.2.1 g (by rintro j ⟨⟩; exact .inl h.2.2), h.2.2⟩
theorem St.lt {w0 w : World} {p : Value} {d : Nat} (h : St w0 w p d) : d < w.heap.size := h.1.lt
theorem below_of {w w' : World} (g : w.grownBy w' none) : Below w.heap.size w w' := ⟨g.os, g.tape, g.output, g.size, fun k hk => g.block k hk (by simp)⟩
theorem St.below {w0 w : World} {p : Value} {d : Nat} (h : St w0 w p d) : Below w0.heap.size w0 w := below_of h.2.1
theorem St.drew {w0 w : World} {p : Value} {d : Nat} (h : St w0 w p d) {w' : World} (g : Drew w w') : St w0 w' p d := h.step (g.grown none)
theorem Vec.drew {w w' : World} {d : Nat} {v : Value} {xs : List Int} (h : Vec w d v xs) (g : Drew w w') : Vec w' d v xs := h.step (g.grown none)

theorem Ints.lt {w : World} {a : Option Addr} {n cap : Nat} {xs : List Int} (h : Ints w (.slice a n cap) xs) : xs = [] ∨ ∀ b, a = some b → b.block < w.heap.size := by
  obtain ⟨a', cap', hv, hl, hb, hc⟩ := h
  simp only [Value.slice.injEq] at hv
  obtain ⟨rfl, -, -⟩ := hv
  rcases hc with hc | ⟨b, off, rfl, hc⟩
  · exact .inl hc
  · cases xs with
    | nil => exact .inl rfl
    | cons x xs =>
      refine .inr ?_
      rintro b' ⟨⟩
      exact World.block_lt_of_cell? w _ (hc 0 (by simp))

theorem st_new {w0 w : World} {a : Option Addr} {cap : Nat} {xs : List Int} (h : Ints w (.slice a xs.length cap) xs) (g : w0.grownBy w none) :
    St w0 (w.alloc (.cells #[.slice a xs.length cap, .int .i64 0, .int .u64 11400714819323198485] 54)) (.pointer (some ⟨w.heap.size, 0, none⟩)) w.heap.size :=
  ⟨⟨a, xs, cap, 0, _, rfl, heap_new _ rfl, h.same (World.grownBy_alloc _ _ none), h.lt, by decide, by decide⟩, grown_trans g (World.grownBy_alloc _ _ none), g.size⟩

/-- What is told of a slice of integers that came in. -/
def IsRow (k : IntKind) (w : World) (a : Option Addr) (len cap : Nat) (zs : List Int) : Prop :=
  (a = none ∧ len = 0 ∧ cap = 0 ∧ zs = []) ∨
  ∃ x, a = some x ∧ len ≤ cap ∧ cap ≤ maxLen ∧ zs.length = cap ∧ (∀ i, i < zs.length → w.cell? (x.add i) = some (.int k (zs.getD i 0))) ∧ ∀ n ∈ zs, (Lit.int k n).wf = true

theorem IsRow.ints {w : World} {a : Option Addr} {len cap : Nat} {zs : List Int} (h : IsRow .i64 w a len cap zs) : Ints w (.slice a len cap) (zs.take len) ∧ (zs.take len).length = len := by
  rcases h with ⟨rfl, rfl, rfl, rfl⟩ | ⟨x, rfl, hl, hm, hz, hc, hw⟩
  · exact ⟨⟨none, 0, rfl, Nat.zero_le _, by simp, .inl rfl⟩, rfl⟩
  · have hlen : (zs.take len).length = len := by rw [List.length_take]; omega
    refine ⟨⟨some x, cap, by rw [hlen], by omega, fun y hy => ?_, ?_⟩, hlen⟩
    · have := hw y (List.mem_of_mem_take hy)
      simpa [Lit.wf, IntKind.min, IntKind.max, IntKind.signed, IntKind.bits] using this
    · cases hq : zs.take len with
      | nil => exact .inl rfl
      | cons y ys =>
        have h0 : 0 < len := by
          rw [hq] at hlen
          simp at hlen
          omega
        obtain ⟨b, off, spot⟩ := x
        have hspot : spot = none := by simpa [Addr.add] using World.cell?_spot (hc 0 (by omega))
        subst hspot
        refine .inr ⟨b, off, rfl, fun i hi => ?_⟩
        rw [← hq, hlen] at hi
        have := hc i (by omega)
        rw [← hq, List.getElem?_take, if_pos hi]
        have ha : (Addr.mk b off none).add i = ⟨b, off + i, none⟩ := by unfold Addr.add; split <;> simp_all
        rw [ha] at this
        simpa using this

def Began (w0 : World) (e : Ending) (w' : World) : Prop := ∃ p d, e = .returned p ∧ St w0 w' p d
theorem new_st {w0 w : World} {a : Option Addr} {cap : Nat} {xs : List Int} (h : Ints w (.slice a xs.length cap) xs) (g : w0.grownBy w none) :
    Calls Try.prog 11 #[.slice a xs.length cap] w (Began w0) :=
  (new_any a cap xs w h).mono fun e w' ⟨he, hw⟩ => ⟨_, _, he, hw ▸ st_new h g⟩

def Nexts (n : Int) (w0 w : World) (p : Value) (d : Nat) (e : Ending) (w' : World) : Prop := ∃ y : Int, e = .returned (.int .i64 y) ∧ 0 ≤ y ∧ y < n ∧ St w0 w' p d ∧ w.grownBy w' (some d)
theorem next_st {w0 w : World} {p : Value} {d : Nat} (h : St w0 w p d) (n : Int) (h1 : 1 ≤ n) (h2 : n ≤ 4611686018427387904) :
    Calls Try.prog 12 #[p, .int .i64 n] w (Nexts n w0 w p d) :=
  (next_any p d n w h.1 h1 h2).mono fun e w' ⟨y, he, h0, h1, hd, hg⟩ => ⟨y, he, h0, h1, h.deal hd hg, hg⟩

def Deals (P : Int → Prop) (n : Nat) (w0 w : World) (p : Value) (d : Nat) (e : Ending) (w' : World) : Prop :=
  ∃ v xs, e = .returned v ∧ xs.length = n ∧ (∀ x ∈ xs, P x) ∧ Vec w' d v xs ∧ St w0 w' p d ∧ w.grownBy w' (some d)
theorem small_st {w0 w : World} {p : Value} {d : Nat} (h : St w0 w p d) (n most : Int) (h1 : n ≤ 1000) (h2 : 0 ≤ most) (h3 : most ≤ 1000000) :
    Calls Try.prog 16 #[p, .int .i64 n, .int .i64 most] w (Deals (fun x => 0 ≤ x ∧ x ≤ most) n.toNat w0 w p d) :=
  (small_any p d n most w h.1 h1 h2 h3).mono fun e w' ⟨v, xs, he, hl, hp, ho, hd, hg⟩ => ⟨v, xs, he, hl, hp, ho.vec (by intro x hx; have := hp x hx; omega) h.lt, h.deal hd hg, hg⟩
end Go.Proofs.Ytoaoheblaidhmaa

namespace Go.Proofs.Ytoaoheblaidhmaa
open Go.RowKit
set_option linter.unusedVariables false

def RVec (w : World) (d : Nat) (v : Value) (xs : List Int) : Prop := RowOk w (v, xs) ∧ ∀ g, v.ownBlock = some g → d < g
theorem RVec.step {w w' : World} {d : Nat} {v : Value} {xs : List Int} (h : RVec w d v xs) (g : w.grownBy w' none) : RVec w' d v xs := ⟨h.1.same g, h.2⟩
theorem RVec.deal {w w' : World} {d : Nat} {v : Value} {xs : List Int} (h : RVec w d v xs) (g : w.grownBy w' (some d)) : RVec w' d v xs :=
  ⟨h.1.kept g (by rintro k ⟨⟩ e; exact Nat.lt_irrefl _ (h.2 _ e)), h.2⟩
theorem OwnI.rvec {w : World} {base d : Nat} {v : Value} {xs : List Int} (h : OwnI w base v xs) (hb : ∀ x ∈ xs, -9223372036854775808 ≤ x ∧ x ≤ 9223372036854775807) (hd : d < base) : RVec w d v xs :=
  ⟨h.row hb, fun g hg => Nat.lt_of_lt_of_le hd (h.fresh g hg).1⟩
theorem grown_deal {w w1 w2 : World} {d : Nat} (h : w.grownBy w1 (some d)) (h' : w1.grownBy w2 (some d)) : w.grownBy w2 (some d) := grown_then h h' (fun g e => .inr e)
theorem RowsP.far {w w' : World} {d k : Nat} {v : Value} {ps : List Row} (h : RowsP w v ps) (hf : FarR d v ps) (hk : k ≤ d) (g : w.grownBy w' (some k)) : RowsP w' v ps :=
  h.keptR g (fun j hj e => by cases hj; have := hf.1 _ e; omega) (fun p hp j hj e => by cases hj; have := hf.2 p hp _ e; omega)
theorem FarR.mono {d k : Nat} {v : Value} {ps : List Row} (hf : FarR d v ps) (hk : k ≤ d) : FarR k v ps := ⟨fun g h => Nat.lt_of_le_of_lt hk (hf.1 g h), fun p hp g h => Nat.lt_of_le_of_lt hk (hf.2 p hp g h)⟩
theorem St.set {w0 w w' : World} {p : Value} {d k : Nat} (h : St w0 w p d) (g : w.grownBy w' (some k)) (hk : d < k) : St w0 w' p d :=
  ⟨h.1.kept g (by rintro j ⟨⟩; exact hk), grown_then h.2.1 g (by rintro j ⟨⟩; exact .inl (Nat.le_trans h.2.2 (Nat.le_of_lt hk))), h.2.2⟩

/-- A set that the deck dealt. -/
def LinD (w : World) (d n : Nat) (v : Value) (b : List Int) (ps : List (List Int)) : Prop :=
  ∃ vb vp qs, v = .agg #[vb, vp] ∧ RVec w d vb b ∧ RowsP w vp qs ∧ Good vp ∧ FarR d vp qs ∧ qs.map Prod.snd = ps ∧ ValidS n b ps ∧ (∀ x ∈ b, x ≤ 4) ∧ ∀ p ∈ ps, ∀ x ∈ p, x ≤ 4
def LinDeal (n : Nat) (w0 w : World) (p : Value) (d : Nat) (e : Ending) (w' : World) : Prop := ∃ v b ps, e = .returned v ∧ LinD w' d n v b ps ∧ St w0 w' p d ∧ w.grownBy w' (some d)
/-- The periods so far. -/
def PersOk (n : Nat) (ps : List (List Int)) : Prop := Asc ps ∧ ∀ p ∈ ps, PerOk n p ∧ ∀ x ∈ p, x ≤ 4
theorem PersOk.put {n : Nat} {ps : List (List Int)} {r : List Int} (h : PersOk n ps) (hr : PerOk n r ∧ ∀ x ∈ r, x ≤ 4) : PersOk n (putL ps r) :=
  ⟨putL_asc r ps h.1, fun p hp => by
    rcases (putL_mem r ps p).1 hp with hp | rfl
    · exact h.2 p hp
    · exact hr⟩
theorem putL_len (r : List Int) : ∀ l : List (List Int), (putL l r).length ≤ l.length + 1
  | [] => by simp [putL]
  | x :: l => by
    have := putL_len r l
    unfold putL
    split
    · simp; omega
    · split <;> simp
/-- A number of a small period is one more. -/
theorem per_set {n m : Nat} {xs : List Int} (hl : xs.length = n) (hp : ∀ x ∈ xs, 0 ≤ x ∧ x ≤ 3) (hm : m < n) : PerOk n (xs.set m (xs[m]?.getD 0 + 1)) ∧ ∀ x ∈ xs.set m (xs[m]?.getD 0 + 1), x ≤ 4 := by
  have hx := mem_at hp (show m < xs.length by omega)
  have hall : ∀ x ∈ xs.set m (xs[m]?.getD 0 + 1), 0 ≤ x ∧ x ≤ 4 := by
    intro x h
    rcases List.mem_or_eq_of_mem_set h with h | rfl
    · have := hp x h; omega
    · omega
  refine ⟨⟨⟨by rw [List.length_set]; exact hl, fun x h => (hall x h).1⟩, ⟨_, List.mem_set (by omega) _, by omega⟩, fun x h => by have := (hall x h).2; omega⟩, fun x h => (hall x h).2⟩
theorem cells_free {w : World} {g : Nat} {x y : Value} {e : TypeId} (h : w.heap[g]? = some (.cells #[x, y] e (0, 0))) : w.frozen? ⟨g, 1, none⟩ = false := by
  unfold World.frozen?; dsimp only; rw [h]; rfl

set_option maxRecDepth 100000 in
set_option maxHeartbeats 1500000 in
theorem linear_st {w0 w : World} {p : Value} {d : Nat} (h : St w0 w p d) (n : Nat) (hn1 : 1 ≤ n) (hn4 : n ≤ 4) :
    Calls Try.prog 13 #[p, .int .i64 (n : Int)] w (LinDeal n w0 w p d) := by
  have HS := Lib.hid h
  clear h
  go_enter Try.func13, Try.ntmps13
  go_wp2_with fail
  have hsz1 : (w.alloc (.cells #[.slice none 0 0, .slice none 0 0] 26)).heap.size = w.heap.size + 1 := by show (w.heap.push _).size = _; simp
  have HS1 := Lib.hid (HS.out.step (World.grownBy_alloc w (.cells #[.slice none 0 0, .slice none 0 0] 26) none))
  have hh1 : (w.alloc (.cells #[.slice none 0 0, .slice none 0 0] 26)).heap[w.heap.size]? = some (.cells #[.slice none 0 0, .slice none 0 0] 26 (0, 0)) := heap_new _ rfl
  have hg1 := World.grownBy_alloc w (.cells #[.slice none 0 0, .slice none 0 0] 26) (some d)
  have hdw := HS.out.lt
  generalize (w.alloc (.cells #[.slice none 0 0, .slice none 0 0] 26)) = w1 at *
  refine (small_any p d n 4 _ HS1.out.1 (by omega) (by omega) (by omega)).mono ?_
  rintro e w2 ⟨vb, b, rfl, hl, hp, ho, hd, hg2⟩
  have hs4 : w.heap.size < w1.heap.size := by omega
  have HB := Lib.hid (ho.rvec (d := w.heap.size) (fun x hx => by have := hp x hx; omega) hs4)
  have HBF := Lib.hid ho.fresh
  have HBL : Hid (b.length = n) := Lib.hid (by rw [hl]; omega)
  have HBP := Lib.hid hp
  obtain ⟨ab, cb, rfl⟩ := ho.slice
  have HS2 := Lib.hid (HS1.out.deal hd hg2)
  have hh2 := (hg2.block _ hs4 (by simp; omega)).trans hh1
  have G2 := Lib.hid (grown_deal hg1 hg2)
  have B2 := hg2.size
  clear ho hl hp hd hg1 hg2 hh1 HS1
  go_wp2_with fail
  have hs25 : w.heap.size < w2.heap.size := by omega
  have HS3 := Lib.hid (HS2.out.step (World.grownBy_alloc w2 (.cells #[.slice ab b.length cb, .slice none 0 0] 26) none))
  have hh3 : (w2.alloc (.cells #[.slice ab b.length cb, .slice none 0 0] 26)).heap[w2.heap.size]? = some (.cells #[.slice ab b.length cb, .slice none 0 0] 26 (0, 0)) := heap_new _ rfl
  have hh3' : (w2.alloc (.cells #[.slice ab b.length cb, .slice none 0 0] 26)).heap[w.heap.size]? = some (.cells #[.slice none 0 0, .slice none 0 0] 26 (0, 0)) := heap_old _ hh2
  have hsz3 : w2.heap.size < (w2.alloc (.cells #[.slice ab b.length cb, .slice none 0 0] 26)).heap.size := by show _ < (w2.heap.push _).size; simp
  have hg3 := World.grownBy_alloc w2 (.cells #[.slice ab b.length cb, .slice none 0 0] 26) (some d)
  generalize (w2.alloc (.cells #[.slice ab b.length cb, .slice none 0 0] 26)) = w3 at *
  refine (next_st HS3.out 4 (by omega) (by omega)).mono ?_
  rintro e w4 ⟨k0, rfl, hk0, hk4, hs, hg4⟩
  have HS4 := Lib.hid hs
  have H4 := Lib.hid ((hg4.block _ (Nat.lt_trans hs25 hsz3) (by simp; omega)).trans hh3')
  have H5 := Lib.hid ((hg4.block _ hsz3 (by simp; omega)).trans hh3)
  have G4 := Lib.hid (grown_deal (grown_deal G2.out hg3) hg4)
  have HB4 := Lib.hid (HB.out.1.kept (grown_deal hg3 hg4) (by rintro k ⟨⟩ e; have := HB.out.2 _ e; omega))
  have HBG : Hid (∀ g, (Value.slice ab b.length cb).ownBlock = some g → w.heap.size < g ∧ g < w2.heap.size) := Lib.hid (fun g h => ⟨HB.out.2 g h, (HBF.out g h).2⟩)
  have hds : d < w2.heap.size := by omega
  have HW2 : Hid (w.heap.size < w2.heap.size) := Lib.hid hs25
  clear hs hg3 hg4 hh3 hh3' hh2 HS3 HB HBF G2 HS2 hsz3 hsz1 hs4 B2
  generalize hsv : w2.heap.size = s at *
  clear hsv
  go_wp2_with fail
  go_loopw [6] (fun i wr => ∃ (k : Int) (vp : Value) (qs : List Row), i = .int .i64 k ∧ 0 ≤ k ∧ (qs.length : Int) + k ≤ 3 ∧ Hid (wr.heap[s]? = some (.cells #[.slice ab b.length cb, vp] 26 (0, 0))) ∧ Hid (wr.heap[w.heap.size]? = some (.cells #[.slice none 0 0, .slice none 0 0] 26 (0, 0))) ∧ Hid (RowsP wr vp qs ∧ Good vp ∧ FarR s vp qs ∧ PersOk n (qs.map Prod.snd)) ∧ Hid (RowOk wr (.slice ab b.length cb, b)) ∧ Hid (St w0 wr p d) ∧ Hid (w.grownBy wr (some d))) (fun i _ => (intOf i).toNat)
  case atStart => exact ⟨k0, _, [], rfl, hk0, by simp; omega, H5, H4, Lib.hid ⟨⟨none, 0, rfl, Nat.zero_le _, .inl rfl, by simp⟩, Good.nil, ⟨by intro g h; simp [Value.ownBlock] at h, by simp⟩, by simp [PersOk, Asc]⟩, HB4, HS4, G4⟩
  case round =>
    clear H5 H4 HB4 HS4 G4
    obtain ⟨k, vp, qs, rfl, hk0, hk3, h5, h4, hq, hb, hs, hg⟩ := hrel
    rename World => wk
    by_cases hlt : 0 < k
    · go_wp2_with fail
      refine (small_any p d n 3 _ hs.out.1 (by omega) (by omega) (by omega)).mono ?_
      rintro e w5 ⟨v5, xs, rfl, hl5, hp5, ho5, hd5, hg5⟩
      obtain ⟨g, c, rfl, hbg, hgc⟩ := ownI_own ho5 (by omega)
      have L5 : Hid (xs.length = n) := Lib.hid (by rw [hl5]; omega)
      have P5 := Lib.hid hp5; have O5 := Lib.hid ho5; have BG5 := Lib.hid hbg
      have S5 := Lib.hid (hs.out.deal hd5 hg5)
      have lk := hs.out.lt
      have ls : s < wk.heap.size := (Array.getElem?_eq_some_iff.1 h5.out).1
      have gs : s < g := by omega
      have gd : d ≠ g := by omega
      have GK5 := Lib.hid hg5
      clear ho5 hp5 hd5 hg5 hl5 hbg hgc
      go_wp2_with fail
      refine (next_st S5.out n (by omega) (by omega)).mono ?_
      rintro e w6 ⟨y, rfl, hy0, hyn, hs6, hg6⟩
      obtain ⟨m, rfl⟩ : ∃ m : Nat, y = m := ⟨y.toNat, by omega⟩
      have hml : m < xs.length := by rw [L5.out]; omega
      have O6 := Lib.hid (O5.out.kept hg6 (by rintro j ⟨⟩; exact lk))
      have S6 := Lib.hid hs6
      have G6 := Lib.hid (grown_deal GK5.out hg6)
      have hxb := mem_at P5.out hml
      obtain ⟨hcell, hfr⟩ := O6.out.cell m hml
      have PS := Lib.hid (per_set L5.out P5.out (by have := L5.out; omega : m < n))
      have hyl : (m : Int) < (xs.length : Int) := by omega
      clear hs6 hg6 O5 S5 GK5
      generalize hX : xs[m]?.getD 0 = x at *
      have HX := Lib.hid hX
      clear hX
      have GS : w6.grownBy (w6.setCell ⟨g, m, none⟩ (.int .i64 (x + 1))) (some g) := grown_set w6 ⟨g, m, none⟩ (.int .i64 (x + 1))
      have G7 := Lib.hid (grown_then G6.out GS (fun j hj => .inl (by cases hj; exact BG5.out)))
      have H57 := Lib.hid ((G7.out.block _ ls (by simp; omega)).trans h5.out)
      have H47 := Lib.hid ((G7.out.block _ (by have := HW2.out; omega) (by simp; omega)).trans h4.out)
      have c57 := (cells_of H57.out).2
      have S7 := Lib.hid (S6.out.set GS (by show d < g; omega))
      have O7 := Lib.hid (O6.out.stored m (x + 1))
      have hsz7 : s < (w6.setCell ⟨g, m, none⟩ (.int .i64 (x + 1))).heap.size := (Array.getElem?_eq_some_iff.1 H57.out).1
      have gs7 : g < w6.heap.size := (O6.out.fresh g rfl).2
      clear GS O6 S6 G6 h5 h4
      go_wp2_with fail
      generalize hw7 : (w6.setCell ⟨g, m, none⟩ (.int .i64 (x + 1))) = w7 at *
      clear c57 hcell hfr hw7
      have R7 := Lib.hid (O7.out.row (fun z hz => by have := PS.out.1.1.2 z hz; have := PS.out.2 z hz; omega))
      have Q7 := Lib.hid (hq.out.1.far hq.out.2.2.1 (by omega) G7.out)
      have XL : Hid ((xs.set m (x + 1)).length = n) := Lib.hid (by rw [List.length_set]; exact L5.out)
      have hpl := put_far s vp _ qs (xs.set m (x + 1)) w7 Q7.out hq.out.2.1 R7.out (by omega) (by rw [XL.out]; omega) hsz7 hq.out.2.2.1
      refine hpl.mono ?_
      rintro e w8 ⟨v8, q8, rfl, hr8, hgd8, hq8, hgw8, hfar8⟩
      have H58 := Lib.hid ((hgw8.block _ hsz7 (by simp)).trans H57.out)
      have H48 := Lib.hid ((hgw8.block _ (by have := HW2.out; omega) (by simp)).trans H47.out)
      have S8 := Lib.hid (S7.out.step hgw8)
      have B8 := Lib.hid ((hb.out.kept G7.out (by rintro j ⟨⟩ e; have := HBG.out _ e; omega)).same hgw8)
      have G8 := Lib.hid (grown_deal hg.out (grown_then G7.out hgw8 (by simp)))
      have QL : Hid (q8.length ≤ qs.length + 1) := Lib.hid (by
        have h1 := congrArg List.length hq8
        have h2 := putL_len (xs.set m (x + 1)) (qs.map Prod.snd)
        rw [List.length_map] at h1 h2
        omega)
      have PQ : Hid (PersOk n (q8.map Prod.snd)) := Lib.hid (by rw [hq8]; exact hq.out.2.2.2.put PS.out)
      have R8 := Lib.hid hr8; have GD8 := Lib.hid hgd8; have F8 := Lib.hid hfar8
      obtain ⟨a8, c8, rfl, -, -, -⟩ := hr8
      have c58 := (cells_of H58.out).2
      have f58 := cells_free H58.out
      clear hpl hgd8 hq8 hgw8 hfar8 hb hq S7 H57 H47 R7 Q7 O7 hg G7
      go_wp2_with fail
      have GS : w8.grownBy (w8.setCell ⟨s, 1, none⟩ (.slice a8 q8.length c8)) (some s) := grown_set w8 ⟨s, 1, none⟩ (.slice a8 q8.length c8)
      have H59 := Lib.hid (heap_set (o := 1) H58.out (.slice a8 q8.length c8))
      have hql := QL.out
      go_roundw
      case rel => exact ⟨k - 1, _, q8, by go_num, by omega, by omega, H59, Lib.hid ((GS.block _ (by have := (Array.getElem?_eq_some_iff.1 H48.out).1; omega) (by have := HW2.out; simp; omega)).trans H48.out), Lib.hid ⟨R8.out.far F8.out (Nat.le_refl _) GS, GD8.out, F8.out, PQ.out⟩, Lib.hid (B8.out.kept GS (by rintro j ⟨⟩ e; have := HBG.out _ e; omega)), Lib.hid (S8.out.set GS hds), Lib.hid (grown_then G8.out GS (fun j hj => .inl (by cases hj; have := HW2.out; omega)))⟩
      case measure => simp [intOf]; omega
    · have hq3 : qs.length ≤ 3 := by omega
      obtain ⟨p1, p2, p3, p4, p5⟩ := put_set (x := .slice ab b.length cb) (y := vp) h4.out
      have VS : Hid (ValidS n b (qs.map Prod.snd)) := Lib.hid ⟨hn1, hn4, HBL.out, fun x hx => by have := HBP.out x hx; omega, fun p hp => (hq.out.2.2.2.2 p hp).1, by rw [List.length_map]; exact hq3, hq.out.2.2.2.1⟩
      have Q := Lib.hid hq.out
      obtain ⟨⟨ap, cp, rfl, -, -, -⟩, -⟩ := hq.out
      have c0 := (cells_of h5.out).1; have c1 := (cells_of h5.out).2
      have P1 := Lib.hid p1
      clear p1 hq
      go_wp2_with fail
      clear p2 p3 p4 p5 c0 c1
      have GW : Hid (wk.grownBy ((wk.setCell ⟨w.heap.size, 0, none⟩ (.slice ab b.length cb)).setCell ⟨w.heap.size, 1, none⟩ (.slice ap qs.length cp)) (some w.heap.size)) := Lib.hid (grown_trans (grown_set _ _ _) (grown_set _ _ _))
      generalize ((wk.setCell ⟨w.heap.size, 0, none⟩ (.slice ab b.length cb)).setCell ⟨w.heap.size, 1, none⟩ (.slice ap qs.length cp)) = W at *
      refine bodyPost_ret (results_cell_row rfl _ _ w.heap.size _ _ _ _ rfl P1.out Try.underlying26 rfl (by kernel_rfl)) rfl ?_
      exact ⟨_, b, qs.map Prod.snd, rfl, ⟨_, _, qs, rfl, ⟨hb.out.kept GW.out (by rintro j ⟨⟩ e; have := HBG.out _ e; omega), fun g h => by have := HBG.out g h; omega⟩, Q.out.1.far Q.out.2.2.1 (Nat.le_of_lt HW2.out) GW.out, Q.out.2.1, Q.out.2.2.1.mono (Nat.le_of_lt hds), rfl, VS.out, fun x hx => (HBP.out x hx).2, fun p hp => (Q.out.2.2.2.2 p hp).2⟩, hs.out.set GW.out hdw, grown_then hg.out GW.out (fun j hj => .inl (by cases hj; exact Nat.le_refl _))⟩

end Go.Proofs.Ytoaoheblaidhmaa

namespace Go.Proofs.Ytoaoheblaidhmaa
open Go.RowKit
set_option linter.unusedVariables false

theorem at_cell {w : World} {a : Option Addr} {c k : Nat} {xs : List Int} (h : RowOk w (.slice a xs.length c, xs)) (hk : k < xs.length) :
    ∃ b o, a = some ⟨b, o, none⟩ ∧ ∀ W, w.grownBy W none → W.cell? ⟨b, o + k, none⟩ = some (.int .i64 (xs[k]?.getD 0)) := by
  obtain ⟨⟨_, _, hv, _, _, hct⟩, -, -⟩ := h
  simp only [Value.slice.injEq] at hv
  obtain ⟨rfl, -, -⟩ := hv
  obtain ⟨bt, ot, e, hc⟩ := Ints.at hct hk
  exact ⟨bt, ot, e, fun W hW => hW.cell hc (by simp)⟩

set_option maxRecDepth 100000 in
set_option maxHeartbeats 3000000 in
theorem made_any (n : Nat) (sv tv : Value) (b ts : List Int) (ps : List (List Int)) (w : World) (h : LinV w sv b ps) (hs : ValidS n b ps) (ht : RowOk w (tv, ts)) (htl : ts.length = ps.length) (ht64 : ∀ t ∈ ts, 0 ≤ t ∧ t ≤ 64) :
    Calls Try.prog 31 #[sv, tv] w (Made (madeL b ps ts) w) := by
  obtain ⟨vb, vp, qs, rfl, hb, hq, hg, rfl⟩ := h
  have hbl := hs.2.2.1
  subst hbl
  rw [List.length_map] at htl
  have hn1 := hs.1
  have hn4 := hs.2.1
  have hq3 : qs.length ≤ 3 := by have := hs.2.2.2.2.2.1; rwa [List.length_map] at this
  have HS := Lib.hid hs; have HB := Lib.hid hb; have HQ := Lib.hid hq; have HT := Lib.hid ht; have HTL := Lib.hid htl; have H64 := Lib.hid ht64
  have ht3 : ts.length ≤ 3 := by omega
  have HP : Hid (∀ q ∈ qs, PerOk b.length q.2) := Lib.hid (fun q hq => hs.2.2.2.2.1 q.2 (List.mem_map_of_mem hq))
  obtain ⟨⟨ab, cb, hvb, -, -, -⟩, -, -⟩ := hb
  obtain ⟨⟨at_, ct, htv, -, -, -⟩, -, -⟩ := ht
  dsimp only at hvb htv
  subst hvb htv
  obtain ⟨ap, cp, rfl, -, -, -⟩ := hq
  clear hs hg htl ht64
  go_enter Try.func31, Try.ntmps31
  have HG1 := Lib.hid (World.grownBy_alloc w (.cells #[.slice ab b.length cb, .slice ap qs.length cp] 26) none)
  have h1 : (w.alloc (.cells #[.slice ab b.length cb, .slice ap qs.length cp] 26)).heap[w.heap.size]? = some (.cells #[.slice ab b.length cb, .slice ap qs.length cp] 26 (0, 0)) := heap_new _ rfl
  have HH1 := Lib.hid h1
  have hs1 : w.heap.size + 1 ≤ (w.alloc (.cells #[.slice ab b.length cb, .slice ap qs.length cp] 26)).heap.size := by show _ ≤ (w.heap.push _).size; simp
  clear h1
  go_wp2_with (at_builtin; refine app_ints rfl _ _ rfl (w.heap.size + 1) _ [] rfl (OwnI.nil _ _) _ b rfl (HB.out.same HG1.out).1 HB.out.2.1 (by simp; omega) hs1 ?_)
  intro v3 w3 ho3 hg3
  have C1 := Lib.hid (hg3.cell (cells_of HH1.out).2 (by simp [Value.ownBlock]))
  have G3 := Lib.hid (grown_then HG1.out hg3 (fun j hj => by cases hj))
  obtain ⟨g, c, rfl, hbg, hbc⟩ := ownI_own ho3 (by first | exact hn1 | (simp; omega))
  have O3 : Hid (OwnI w3 (w.heap.size + 1) (.slice (some ⟨g, 0, none⟩) b.length c) b) := Lib.hid ho3
  have BG := Lib.hid hbg
  clear ho3 hg3 hbg hbc
  go_wp2_with fail
  go_loopw [13] (fun i wr => ∃ (k : Nat), i = .int .i64 k ∧ k ≤ ts.length ∧ Hid (OwnI wr (w.heap.size + 1) (.slice (some ⟨g, 0, none⟩) b.length c) (madeL b ((qs.take k).map Prod.snd) (ts.take k))) ∧ Hid (w3.grownBy wr (some g))) (fun i _ => ts.length - (intOf i).toNat)
  case atStart => exact ⟨0, rfl, Nat.zero_le _, O3, Lib.hid (grown_refl _ _)⟩
  case round =>
    obtain ⟨k, rfl, hk, ho, hgk⟩ := hrel
    rename World => wk
    by_cases hkt : k < ts.length
    · have hlt : k < qs.length := by have := HTL.out; omega
      have GK : Hid (w.grownBy wk none) := Lib.hid (grown_then G3.out hgk.out (fun j hj => .inl (by cases hj; have := BG.out; omega)))
      obtain ⟨_, _, hv, _, hc, hrow⟩ := HQ.out
      simp only [Value.slice.injEq] at hv
      obtain ⟨rfl, -, -⟩ := hv
      obtain ⟨b1, o1, rfl, hx⟩ := RowsP.at hc hlt
      have HX := Lib.hid hx
      have HR0 : Hid (RowOk w (qs[k])) := Lib.hid (hrow _ (List.getElem_mem hlt))
      have HPK := Lib.hid (HP.out _ (List.getElem_mem hlt))
      obtain ⟨⟨ak, ck, hvk, -, -, -⟩, -, -⟩ := HR0.out
      have h1 : (k : Int) < (qs.length : Int) := by omega
      have h1' : (k : Int) < (ts.length : Int) := by omega
      have HSN : Hid (madeL b ((qs.take (k + 1)).map Prod.snd) (ts.take (k + 1)) = addk (ts[k]?.getD 0) (qs[k]).2 (madeL b ((qs.take k).map Prod.snd) (ts.take k))) := Lib.hid (by
        rw [snd_take qs k hlt, take_snoc' ts k hkt]
        exact madeL_snoc _ _ _ _ _ (by simp; omega))
      have HSL : Hid ((madeL b ((qs.take k).map Prod.snd) (ts.take k)).length = b.length) := Lib.hid (madeL_len _ _ _ (fun p hp => by obtain ⟨q, hq, rfl⟩ := List.mem_map.1 hp; exact (HP.out q (List.mem_of_mem_take hq)).1.1) rfl)
      have HSB : Hid (∀ x ∈ madeL b ((qs.take k).map Prod.snd) (ts.take k), 0 ≤ x ∧ x ≤ 4096) := Lib.hid (fun x hx => by
        have h2 := madeL_bd _ _ _ 16 (fun p hp => by obtain ⟨q, hq, rfl⟩ := List.mem_map.1 hp; exact HP.out q (List.mem_of_mem_take hq)) rfl (fun u hu => H64.out u (List.mem_of_mem_take hu)) (by omega) HS.out.2.2.2.1 x hx
        have h3 : ((qs.take k).map Prod.snd).length ≤ 3 := by simp; omega
        omega)
      have ht64 := mem_at H64.out hkt
      obtain ⟨bt, ot, rfl, htc⟩ := at_cell HT.out hkt
      have HTC2 := Lib.hid htc
      clear hc hrow htc hx
      generalize qs[k] = q at *
      generalize hY : ts[k]?.getD 0 = t at *
      obtain ⟨qv, p⟩ := q
      dsimp only at hvk HSN HPK HX HR0
      subst hvk
      generalize hSS : madeL b ((qs.take k).map Prod.snd) (ts.take k) = S at *
      clear hY hSS
      have hpb : p.length = b.length := HPK.out.1.1
      have HPB := Lib.hid hpb
      clear hpb
      go_wp2_with fail
      go_loopw [18] (fun i wr => ∃ (j : Nat) (zs : List Int), i = .int .i64 j ∧ j ≤ b.length ∧ Hid (zs.length = b.length ∧ zs.take j = (addk t p S).take j ∧ zs.drop j = S.drop j) ∧ Hid (OwnI wr (w.heap.size + 1) (.slice (some ⟨g, 0, none⟩) b.length c) zs) ∧ Hid (w3.grownBy wr (some g))) (fun i _ => b.length - (intOf i).toNat)
      case atStart => exact ⟨0, _, rfl, Nat.zero_le _, Lib.hid ⟨HSL.out, by simp, rfl⟩, ho, hgk⟩
      case round =>
        obtain ⟨j, zs, rfl, hj, hz, hoz, hgz⟩ := hrel
        rename World => wj
        by_cases hjb : j < b.length
        · have hjl : j < p.length := by have := HPB.out; omega
          have GJ : Hid (w.grownBy wj none) := Lib.hid (grown_then G3.out hgz.out (fun j hj => .inl (by cases hj; have := BG.out; omega)))
          have ST := Lib.hid (addk_step (t := t) HPK.out.1.1 HSL.out hz.out.1 hjb hz.out.2.1 hz.out.2.2)
          obtain ⟨bp, op, rfl, hpc⟩ := at_cell HR0.out hjl
          have cp1 := hpc _ GJ.out
          have ctt := HTC2.out _ GJ.out
          have cx := GJ.out.cell HX.out (by simp)
          have c1 := hgz.out.cell C1.out (by have := BG.out; simp; omega)
          obtain ⟨hcell, hfr⟩ := hoz.out.cell j (by have := hz.out.1; omega)
          have hyy := mem_at HPK.out.1.2 hjl
          have hyz := mem_at HPK.out.2.2 hjl
          have hxx : 0 ≤ zs[j]?.getD 0 ∧ zs[j]?.getD 0 ≤ 4096 := by
            rw [ST.out.1]
            exact mem_at HSB.out (by rw [HSL.out]; exact hjb)
          have h2 : (j : Int) < (p.length : Int) := by omega
          have h3 : (j : Int) < (b.length : Int) := by omega
          clear hpc
          generalize hX : zs[j]?.getD 0 = x at *
          generalize hY : p[j]?.getD 0 = y at *
          clear hX hY
          have m1 : 0 ≤ t * y := Int.mul_nonneg ht64.1 hyy
          have m2 : t * y ≤ 64 * 16 := Int.mul_le_mul ht64.2 hyz hyy (by omega)
          have g1 : IntKind.i64.wrap (t * y) = t * y := IntWalk.i64_in _ (by omega)
          have g2 : IntKind.i64.wrap (x + t * y) = x + t * y := IntWalk.i64_in _ (by omega)
          clear m1 m2 hyy hyz hxx ht64
          go_wp2_with fail
          go_region
          all_goals
            go_wp2_with fail
            go_roundw
            case rel => exact ⟨j + 1, zs.set j (x + t * y), by go_num, by omega, Lib.hid ⟨by rw [List.length_set]; exact hz.out.1, ST.out.2.1, ST.out.2.2⟩, Lib.hid ((hoz.out.stored j _).kept (grown_drew _ none) (by simp)), Lib.hid (grown_trans (grown_trans hgz.out (grown_set _ _ _)) (grown_drew _ _))⟩
            case measure => simp [intOf]; omega
        · have hq : zs = addk t p S := by
            have h2 := hz.out.1
            have h1 := hz.out.2.1
            rwa [List.take_of_length_le (by omega), List.take_of_length_le (by rw [addk_len HPK.out.1.1 HSL.out]; omega)] at h1
          subst hq
          have h2 : ¬ (j : Int) < (b.length : Int) := by omega
          go_wp2_with fail
          go_roundw
          case rel => exact ⟨k + 1, by go_num, by omega, by rw [HSN.out]; exact hoz, hgz⟩
          case measure => simp [intOf]; omega
    · have h1 : ¬ (k : Int) < (ts.length : Int) := by omega
      have hq : (qs.take k).map Prod.snd = qs.map Prod.snd ∧ ts.take k = ts := ⟨by rw [List.take_of_length_le (by have := HTL.out; omega)], List.take_of_length_le (by omega)⟩
      rw [hq.1, hq.2] at ho
      clear hq
      go_wp2_with fail
      go_ret
      exact ⟨_, rfl, ho.out.mono (by omega), grown_then G3.out hgk.out (fun j hj => .inl (by cases hj; have := BG.out; omega))⟩

end Go.Proofs.Ytoaoheblaidhmaa
