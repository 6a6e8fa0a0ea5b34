/- What the laws of stage 36 carry. -/
import Derived.Test.YtelpkcndbcfaiaaIz
namespace Go.Proofs.Ytelpkcndbcfaiaa
open Go.RowKit
set_option linter.unusedVariables false
theorem own : ownKnob Try.prog.godebug = none := by kernel_rfl
theorem laidOut : laidOutB Try.prog = true := by kernel_rfl
theorem below_of {w w' : World} (g : w.grownBy w' none) : Below w.heap.size w w' := ⟨g.os, g.tape, g.output, g.size, fun k hk => g.block k hk (by simp)⟩
/-- What is told of a slice of integers that came in. -/
def IsRow (k : IntKind) (w : World) (a : Option Addr) (len cap : Nat) (zs : List Int) : Prop :=
  (a = none ∧ len = 0 ∧ cap = 0 ∧ zs = []) ∨
  ∃ x, a = some x ∧ len ≤ cap ∧ cap ≤ maxLen ∧ zs.length = cap ∧ (∀ i, i < zs.length → w.cell? (x.add i) = some (.int k (zs.getD i 0))) ∧ ∀ n ∈ zs, (Lit.int k n).wf = true
theorem IsRow.u8 {w : World} {a : Option Addr} {len cap : Nat} {zs : List Int} (h : IsRow .u8 w a len cap zs) : U8s w (.slice a len cap) (zs.take len) ∧ (zs.take len).length = len ∧ len ≤ cap := by
  rcases h with ⟨rfl, rfl, rfl, rfl⟩ | ⟨x, rfl, hl, hm, hz, hc, hw⟩
  · exact ⟨⟨none, 0, rfl, Nat.zero_le _, by simp, .inl rfl⟩, rfl, Nat.le_refl _⟩
  · have hlen : (zs.take len).length = len := by rw [List.length_take]; omega
    refine ⟨⟨some x, cap, by rw [hlen], by omega, fun y hy => ?_, ?_⟩, hlen, hl⟩
    · have := hw y (List.mem_of_mem_take hy)
      simpa [Lit.wf, IntKind.min, IntKind.max, IntKind.signed, IntKind.bits] using this
    · cases hq : zs.take len with
      | nil => exact .inl rfl
      | cons y ys =>
        have h0 : 0 < len := by
          rw [hq] at hlen
          simp at hlen
          omega
        obtain ⟨b, off, spot⟩ := x
        have hspot : spot = none := by simpa [Addr.add] using World.cell?_spot (hc 0 (by omega))
        subst hspot
        refine .inr ⟨b, off, rfl, fun i hi => ?_⟩
        rw [← hq, hlen] at hi
        have := hc i (by omega)
        rw [← hq, List.getElem?_take, if_pos hi]
        have ha : (Addr.mk b off none).add i = ⟨b, off + i, none⟩ := by unfold Addr.add; split <;> simp_all
        rw [ha] at this
        rw [this]
        simp [List.getD]
theorem goodF_few {n : Nat} : ∀ {ls : List ArcP} {c : Nat}, RowsOk n ls → c + 3 * ls.length ≤ 256 → goodF n c ls = true
  | [], _, _, _ => rfl
  | l :: ls, c, h, hc => by
    have h1 := h l (by simp)
    simp only [List.length_cons] at hc
    rw [goodF, decide_eq_true (by omega)]
    have h2 : l.2.any (outB n) = false := by
      rw [List.any_eq_false]
      intro p hp
      have := h1.2 p hp
      unfold outB
      simp
      omega
    rw [h2]
    exact goodF_few (fun q hq => h q (List.mem_cons_of_mem _ hq)) (by omega)
theorem rows_good {ls : List ArcP} (h1 : 1 ≤ ls.length) (h6 : ls.length ≤ 6) (h : RowsOk ls.length ls) : goodS ls = true := by
  unfold goodS
  rw [decide_eq_true h1, decide_eq_true (by omega)]
  exact goodF_few h (by omega)
theorem rows_lab {n : Nat} {ls : List ArcP} (h : RowsOk n ls) : ∀ l ∈ ls.map Prod.snd, ∀ p ∈ l, 0 ≤ p.1 ∧ p.1 < 3 := fun l hl p hp => by
  obtain ⟨q, hq, rfl⟩ := List.mem_map.1 hl
  have := (h q hq).2 p hp
  exact ⟨this.1, this.2.1⟩
theorem rows_intB {n : Nat} {ls : List ArcP} (h : RowsOk n ls) : ∀ q ∈ ls, ∀ p ∈ q.2, IntB p.1 := fun q hq p hp => by
  have := (h q hq).2 p hp
  unfold IntB
  omega
/-- A system that a law has drawn. -/
structure SysD (d : Nat) (w : World) (v : Value) (ls : List ArcP) : Prop where
  b : SysB (d + 1) w v ls
  one : 1 ≤ ls.length
  six : ls.length ≤ 6
  ok : RowsOk ls.length ls
theorem SysD.step {d : Nat} {w w' : World} {v : Value} {ls : List ArcP} (h : SysD d w v ls) (g : w.grownBy w' none) : SysD d w' v ls := ⟨h.b.same g, h.one, h.six, h.ok⟩
theorem SysD.deal {d : Nat} {w w' : World} {v : Value} {ls : List ArcP} (h : SysD d w v ls) (g : w.grownBy w' (some d)) : SysD d w' v ls := ⟨h.b.kept g (by rintro k ⟨⟩; omega), h.one, h.six, h.ok⟩
theorem SysD.good {d : Nat} {w : World} {v : Value} {ls : List ArcP} (h : SysD d w v ls) : goodS ls = true := rows_good h.one h.six h.ok
theorem SysD.sys {d : Nat} {w : World} {v : Value} {ls : List ArcP} (h : SysD d w v ls) : SysG w (.agg #[v]) ls := ⟨⟨v, rfl, h.b.sys⟩, h.good⟩
theorem SysD.vs {d : Nat} {w : World} {v : Value} {ls : List ArcP} (h : SysD d w v ls) : VS (ls.map Prod.snd) := (good_parts h.good).2.2.1
theorem bits_one {i : Nat} (h : (1 : Nat).testBit i = true) : i = 0 := by
  by_cases e : i = 0
  · exact e
  · rw [Nat.testBit_eq_decide_div_mod_eq] at h
    have h2 : 1 < 2 ^ i := Nat.one_lt_two_pow e
    rw [Nat.div_eq_of_lt h2] at h
    simp at h
theorem run_gr {A B : Sys} (hA : VS A) (hB : VS B) : ∀ (u : List Int) (s t : Nat), (∀ i, s.testBit i = true → i < A.length ∧ ∃ j, j < B.length ∧ t.testBit j = true ∧ Gr A B i j) →
    ∀ i, (runN A s u).testBit i = true → i < A.length ∧ ∃ j, j < B.length ∧ (runN B t u).testBit j = true ∧ Gr A B i j
  | [], s, t, h => h
  | l :: u, s, t, h => by
    refine run_gr hA hB u (behN A s l) (behN B t l) (fun i hi => ?_)
    obtain ⟨x, hx, hs, p, hp, e, rfl⟩ := beh_bit.1 hi
    refine ⟨hA.at hp, ?_⟩
    obtain ⟨-, j, hj, ht, hg⟩ := h x hs
    obtain ⟨q, hq, e2, hg2⟩ := gr_sim A B x j hx hj hg p hp
    exact ⟨q.2.toNat, hB.at hq, beh_bit.2 ⟨j, hj, ht, q, hq, e2.trans e, rfl⟩, hg2⟩
/-- A system that simulates another one accepts all its words. -/
theorem gr_acc {A B : Sys} (hA : VS A) (hB : VS B) (h1 : 1 ≤ A.length) (h2 : 1 ≤ B.length) (h : Gr A B 0 0) {u : List Int} (hu : accB A u = true) : accB B u = true := by
  rw [acc_iff] at hu ⊢
  obtain ⟨i, hi⟩ := ne_bit hu
  obtain ⟨-, j, -, hj, -⟩ := run_gr hA hB u 1 1 (fun i hi => by
    rw [bits_one hi]
    exact ⟨by omega, 0, by omega, by decide, h⟩) i hi
  intro e
  rw [e] at hj
  simp at hj
theorem tr_none {A B : Sys} {most : Nat} {L : List Int} {ok : Bool} (h : TrR A B most L ok) (ha : ∀ u, accB A u = true → accB B u = true) : ok = false := by
  rcases h with ⟨-, -, h1, h2, -⟩ | ⟨h, -⟩
  · rw [ha L h1] at h2; cases h2
  · exact h
theorem Sd.below {w0 w : World} {p : Value} {d : Nat} (h : Sd w0 w p d) : Below w0.heap.size w0 w := below_of h.2.1
end Go.Proofs.Ytelpkcndbcfaiaa
