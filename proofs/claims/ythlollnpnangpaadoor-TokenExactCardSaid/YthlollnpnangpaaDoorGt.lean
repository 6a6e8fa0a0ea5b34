/- What a law carries: the deck, vectors beyond it, and that nothing old has turned. -/
import Derived.Test.YthlollnpnangpaaDoorGs
import Derived.ChangeOld
import Derived.ShutString
namespace Go.Proofs.YthlollnpnangpaaDoor
open Go.RowKit
set_option linter.unusedVariables false

theorem own : ownKnob Tryd.prog.godebug = none := by kernel_rfl
theorem laidOut : laidOutB Tryd.prog = true := by kernel_rfl

def Vec (w : World) (d : Nat) (v : Value) (xs : List Int) : Prop := Ints w v xs ∧ ∀ g, v.ownBlock = some g → d < g
theorem Vec.slice {w : World} {d : Nat} {v : Value} {xs : List Int} (h : Vec w d v xs) : ∃ a cap, v = .slice a xs.length cap ∧ xs.length ≤ maxLen := by
  obtain ⟨⟨a, cap, hv, hl, -⟩, -⟩ := h
  exact ⟨a, cap, hv, hl⟩
theorem Vec.step {w w' : World} {d : Nat} {v : Value} {xs : List Int} (h : Vec w d v xs) (g : w.grownBy w' none) : Vec w' d v xs := ⟨h.1.same g, h.2⟩
theorem Vec.deal {w w' : World} {d : Nat} {v : Value} {xs : List Int} (h : Vec w d v xs) (g : w.grownBy w' (some d)) : Vec w' d v xs :=
  ⟨h.1.kept g (by rintro k ⟨⟩ e; exact Nat.lt_irrefl _ (h.2 _ e)), h.2⟩
theorem OwnI.vec {w : World} {base d : Nat} {v : Value} {xs : List Int} (h : OwnI w base v xs) (hb : ∀ x ∈ xs, -9223372036854775808 ≤ x ∧ x ≤ 9223372036854775807) (hd : d < base) : Vec w d v xs :=
  ⟨h.ints hb, fun g hg => Nat.lt_of_lt_of_le hd (h.fresh g hg).1⟩

/-- The state of a law: it began in w0, and has a deck in block d. -/
def St (w0 w : World) (p : Value) (d : Nat) : Prop := Deck w p d ∧ w0.grownBy w none ∧ w0.heap.size ≤ d
theorem St.step {w0 w w' : World} {p : Value} {d : Nat} (h : St w0 w p d) (g : w.grownBy w' none) : St w0 w' p d := ⟨h.1.kept g (by simp), grown_trans h.2.1 g, h.2.2⟩
theorem St.deal {w0 w w' : World} {p : Value} {d : Nat} (h : St w0 w p d) (hd : Deck w' p d) (g : w.grownBy w' (some d)) : St w0 w' p d :=
  ⟨hd, grown_then h.2.1 g (by rintro j ⟨⟩; exact .inl h.2.2), h.2.2⟩
theorem St.lt {w0 w : World} {p : Value} {d : Nat} (h : St w0 w p d) : d < w.heap.size := h.1.lt
theorem below_of {w w' : World} (g : w.grownBy w' none) : Below w.heap.size w w' := ⟨g.os, g.tape, g.output, g.size, fun k hk => g.block k hk (by simp)⟩
theorem St.below {w0 w : World} {p : Value} {d : Nat} (h : St w0 w p d) : Below w0.heap.size w0 w := below_of h.2.1
theorem St.drew {w0 w : World} {p : Value} {d : Nat} (h : St w0 w p d) {w' : World} (g : Drew w w') : St w0 w' p d := h.step (g.grown none)
theorem Vec.drew {w w' : World} {d : Nat} {v : Value} {xs : List Int} (h : Vec w d v xs) (g : Drew w w') : Vec w' d v xs := h.step (g.grown none)

theorem Ints.lt {w : World} {a : Option Addr} {n cap : Nat} {xs : List Int} (h : Ints w (.slice a n cap) xs) : xs = [] ∨ ∀ b, a = some b → b.block < w.heap.size := by
  obtain ⟨a', cap', hv, hl, hb, hc⟩ := h
  simp only [Value.slice.injEq] at hv
  obtain ⟨rfl, -, -⟩ := hv
  rcases hc with hc | ⟨b, off, rfl, hc⟩
  · exact .inl hc
  · cases xs with
    | nil => exact .inl rfl
    | cons x xs =>
      refine .inr ?_
      rintro b' ⟨⟩
      exact World.block_lt_of_cell? w _ (hc 0 (by simp))

theorem st_new {w0 w : World} {a : Option Addr} {cap : Nat} {xs : List Int} (h : Ints w (.slice a xs.length cap) xs) (g : w0.grownBy w none) :
    St w0 (w.alloc (.cells #[.slice a xs.length cap, .int .i64 0, .int .u64 11400714819323198485] 48)) (.pointer (some ⟨w.heap.size, 0, none⟩)) w.heap.size :=
  ⟨⟨a, xs, cap, 0, _, rfl, heap_new _ rfl, h.same (World.grownBy_alloc _ _ none), h.lt, by decide, by decide⟩, grown_trans g (World.grownBy_alloc _ _ none), g.size⟩

/-- What is told of a slice of integers that came in. -/
def IsRow (k : IntKind) (w : World) (a : Option Addr) (len cap : Nat) (zs : List Int) : Prop :=
  (a = none ∧ len = 0 ∧ cap = 0 ∧ zs = []) ∨
  ∃ x, a = some x ∧ len ≤ cap ∧ cap ≤ maxLen ∧ zs.length = cap ∧ (∀ i, i < zs.length → w.cell? (x.add i) = some (.int k (zs.getD i 0))) ∧ ∀ n ∈ zs, (Lit.int k n).wf = true

theorem IsRow.ints {w : World} {a : Option Addr} {len cap : Nat} {zs : List Int} (h : IsRow .i64 w a len cap zs) : Ints w (.slice a len cap) (zs.take len) ∧ (zs.take len).length = len := by
  rcases h with ⟨rfl, rfl, rfl, rfl⟩ | ⟨x, rfl, hl, hm, hz, hc, hw⟩
  · exact ⟨⟨none, 0, rfl, Nat.zero_le _, by simp, .inl rfl⟩, rfl⟩
  · have hlen : (zs.take len).length = len := by rw [List.length_take]; omega
    refine ⟨⟨some x, cap, by rw [hlen], by omega, fun y hy => ?_, ?_⟩, hlen⟩
    · have := hw y (List.mem_of_mem_take hy)
      simpa [Lit.wf, IntKind.min, IntKind.max, IntKind.signed, IntKind.bits] using this
    · cases hq : zs.take len with
      | nil => exact .inl rfl
      | cons y ys =>
        have h0 : 0 < len := by
          rw [hq] at hlen
          simp at hlen
          omega
        obtain ⟨b, off, spot⟩ := x
        have hspot : spot = none := by simpa [Addr.add] using World.cell?_spot (hc 0 (by omega))
        subst hspot
        refine .inr ⟨b, off, rfl, fun i hi => ?_⟩
        rw [← hq, hlen] at hi
        have := hc i (by omega)
        rw [← hq, List.getElem?_take, if_pos hi]
        have ha : (Addr.mk b off none).add i = ⟨b, off + i, none⟩ := by unfold Addr.add; split <;> simp_all
        rw [ha] at this
        simpa using this

def Began (w0 : World) (e : Ending) (w' : World) : Prop := ∃ p d, e = .returned p ∧ St w0 w' p d
theorem new_st {w0 w : World} {a : Option Addr} {cap : Nat} {xs : List Int} (h : Ints w (.slice a xs.length cap) xs) (g : w0.grownBy w none) :
    Calls Tryd.prog 10 #[.slice a xs.length cap] w (Began w0) :=
  (new_any a cap xs w h).mono fun e w' ⟨he, hw⟩ => ⟨_, _, he, hw ▸ st_new h g⟩

def Nexts (n : Int) (w0 w : World) (p : Value) (d : Nat) (e : Ending) (w' : World) : Prop := ∃ y : Int, e = .returned (.int .i64 y) ∧ 0 ≤ y ∧ y < n ∧ St w0 w' p d ∧ w.grownBy w' (some d)
theorem next_st {w0 w : World} {p : Value} {d : Nat} (h : St w0 w p d) (n : Int) (h1 : 1 ≤ n) (h2 : n ≤ 4611686018427387904) :
    Calls Tryd.prog 20 #[p, .int .i64 n] w (Nexts n w0 w p d) :=
  (next_any p d n w h.1 h1 h2).mono fun e w' ⟨y, he, h0, h1, hd, hg⟩ => ⟨y, he, h0, h1, h.deal hd hg, hg⟩

def Deals (P : Int → Prop) (n : Nat) (w0 w : World) (p : Value) (d : Nat) (e : Ending) (w' : World) : Prop :=
  ∃ v xs, e = .returned v ∧ xs.length = n ∧ (∀ x ∈ xs, P x) ∧ Vec w' d v xs ∧ St w0 w' p d ∧ w.grownBy w' (some d)
end Go.Proofs.YthlollnpnangpaaDoor
