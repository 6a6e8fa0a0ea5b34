/- A list of tokens that comes in as an argument. -/
import Derived.Test.YthlollnpnangpaaDoorYg
import Derived.Deep.Slices
import Derived.ChangeSame
import Derived.ChangeMaps5
import Derived.Maps.RangeWalk
import Derived.Lib.SmallJoins
namespace Go.Proofs.YthlollnpnangpaaDoor
open Go.ChangeShapes Go.WideShapes Go.ChangeAt Go.RowKit Go.Deep Go.Joins
set_option linter.unusedVariables false
section
variable {H : Type} {enc : TypeId × Value → H} {W : World} {base : Nat} {held : Bool}
set_option maxRecDepth 100000 in
/-- The three cells of a token. -/
theorem tok_in {n : Nat} {cs : List Value} {x : DataW H × List MemPlace} (hl : cs.length = 3) (h : DataW.trod enc Tryd.prog W base (fun _ => true) held n 27 cs = some x) : ∃ t : Tk, cs = tkCells t ∧ t.2.1.length ≤ maxLen ∧ (-9223372036854775808 ≤ t.1 ∧ t.1 ≤ 9223372036854775807) := by
  obtain ⟨xs, k, hk, hxy, _, hxl, hf⟩ := DataW.trod_struct Tryd.underlying27 h
  match xs, hxl, cs, hl with
  | [y0, y1, y2], _, [v0, v1, v2], _ =>
    have g0 := hf 0 _ rfl
    have g1 := hf 1 _ rfl
    have g2 := hf 2 _ rfl
    simp [show Tryd.prog.cellsOf 3 = 1 by kernel_rfl, show Tryd.prog.cellsOf 9 = 1 by kernel_rfl] at g0 g1 g2
    obtain ⟨k0, e0, -, w0⟩ := DataW.trod_int Tryd.underlying3 g0
    obtain ⟨s1, e1, -, w1⟩ := DataW.trod_string Tryd.underlying9 g1
    obtain ⟨k2, e2, -, w2⟩ := DataW.trod_int Tryd.underlying3 g2
    simp only [List.cons.injEq, and_true] at e0 e1 e2
    subst e0 e1 e2
    refine ⟨(k0, s1.data.toList, k2), rfl, by simpa using w1, ?_⟩
    simpa [Lit.wf, IntKind.min, IntKind.max, IntKind.signed, IntKind.bits] using w0
set_option maxRecDepth 100000 in
theorem toks_in {fuel : Nat} {v : Value} {x : DataW H × List MemPlace} (h : DataW.trod enc Tryd.prog W base (fun _ => true) held fuel 23 [v] = some x) : ∃ ts : List Tk, Toks W v ts ∧ ∀ t ∈ ts, -9223372036854775808 ≤ t.1 ∧ t.1 ≤ 9223372036854775807 := by
  rcases open_slice Tryd.underlying23 h with ⟨hcs, _⟩ | ⟨a, len, cap, m, n, D, Pl, hcs, _, hl, hm, hmm, _, hx⟩
  · simp at hcs
    subst hcs
    exact ⟨[], ⟨none, 0, rfl, Nat.zero_le _, .inl rfl⟩, by simp⟩
  · simp at hcs
    subst hcs
    simp only [if_true] at hmm
    subst hmm
    rw [show Tryd.prog.cellsOf 27 = 3 by kernel_rfl] at hx
    have hex : ∀ i : Nat, ∃ t : Tk, i < m → (∀ j v, (tkCells t)[j]? = some v → W.cell? (a.add (i * 3 + j)) = some v) ∧ (-9223372036854775808 ≤ t.1 ∧ t.1 ≤ 9223372036854775807) := by
      intro i
      by_cases hi : i < m
      · obtain ⟨cs', h1, h2⟩ := hx i hi
        obtain ⟨-, hlen, hcell⟩ := World.cells?_some h1
        obtain ⟨t, rfl, -, ht⟩ := tok_in hlen h2
        refine ⟨t, fun _ => ⟨fun j v hv => ?_, ht⟩⟩
        have hj : j < 3 := by
          have := (List.getElem?_eq_some_iff.1 hv).1
          rw [hlen] at this
          exact this
        have h3 := hcell j hj
        rw [add_add] at h3
        rw [h3, ← hv]
      · exact ⟨(0, [], 0), fun h => absurd h hi⟩
    obtain ⟨U, hU⟩ := Classical.axiomOfChoice hex
    refine ⟨(List.range len).map U, ⟨some a, m, by simp, by simp; omega, ?_⟩, fun t ht => ?_⟩
    · rcases Nat.eq_zero_or_pos len with h0 | h0
      · subst h0; exact .inl rfl
      · obtain ⟨b, off, spot⟩ := a
        have hspot : spot = none := by simpa [Addr.add] using World.cell?_spot ((hU 0 (by omega)).1 0 _ rfl)
        subst hspot
        refine .inr ⟨b, off, rfl, fun i hi => ?_⟩
        have hi' : i < len := by simpa using hi
        have hc := (hU i (by omega)).1
        have e : ∀ j, (Addr.mk b off none).add j = ⟨b, off + j, none⟩ := fun j => by unfold Addr.add; split <;> simp_all
        have c0 := hc 0 _ rfl; have c1 := hc 1 _ rfl; have c2 := hc 2 _ rfl
        rw [e] at c0 c1 c2
        rw [List.getElem?_map, List.getElem?_range hi']
        simp only [Option.map_some]
        exact ⟨by simpa using c0, by simpa [Nat.add_assoc] using c1, by simpa [Nat.add_assoc] using c2⟩
    · obtain ⟨i, hi, rfl⟩ := List.mem_map.1 ht
      exact (hU i (by have := List.mem_range.1 hi; omega)).2
end
end Go.Proofs.YthlollnpnangpaaDoor
