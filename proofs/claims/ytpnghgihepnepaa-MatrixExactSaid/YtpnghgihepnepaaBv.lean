/- A [][]int that comes in. -/
import Derived.Test.YtpnghgihepnepaaBh
import Derived.Deep.Matrix
namespace Go.Proofs.Ytpnghgihepnepaa
open Go.RowKit
set_option linter.unusedVariables false

theorem irows_of {W : World} {x : Addr} {l c : Nat} {A : Nat → Option Addr} {L C : Nat → Nat} {Z : Nat → Nat → Int} (hl : l ≤ c) (hm : c ≤ maxLen)
    (hx : ∀ r, r < c → W.cell? (x.add r) = some (.slice (A r) (L r) (C r)) ∧ L r ≤ C r ∧ C r ≤ maxLen ∧ (A r = none → C r = 0) ∧ ∀ a', A r = some a' → ∀ k, k < C r → W.cell? (a'.add k) = some (.int .i64 (Z r k)) ∧ -9223372036854775808 ≤ Z r k ∧ Z r k ≤ 9223372036854775807) :
    ∃ ps : List Row, l = ps.length ∧ RowsI W (.slice (some x) ps.length c) ps := by
  refine ⟨(List.range l).map (fun r => (.slice (A r) (L r) (C r), (List.range (L r)).map (Z r))), by simp, some x, c, rfl, by simp; omega, ?_, fun p hp => ?_⟩
  · by_cases h0 : l = 0
    · subst h0; exact .inl rfl
    · obtain ⟨b, off, spot⟩ := x
      have hspot : spot = none := by simpa [Addr.add] using World.cell?_spot (hx 0 (by omega)).1
      subst hspot
      refine .inr ⟨b, off, rfl, fun i hi => ?_⟩
      have hi' : i < l := by simpa using hi
      have := (hx i (by omega)).1
      have ha : (Addr.mk b off none).add i = ⟨b, off + i, none⟩ := by unfold Addr.add; split <;> simp_all
      rw [ha] at this
      rw [this]
      simp [hi']
  · obtain ⟨r, hr, rfl⟩ := List.mem_map.1 hp
    have hr' : r < l := List.mem_range.1 hr
    obtain ⟨-, h1, h2, h3, h4⟩ := hx r (by omega)
    have hbd : ∀ z ∈ (List.range (L r)).map (Z r), -9223372036854775808 ≤ z ∧ z ≤ 9223372036854775807 := fun z hz => by
      obtain ⟨k, hk, rfl⟩ := List.mem_map.1 hz
      have hk' : k < L r := List.mem_range.1 hk
      cases ha : A r with
      | none => exact absurd (h3 ha) (by omega)
      | some a' => exact (h4 _ ha k (by omega)).2
    have hc : (List.range (L r)).map (Z r) = [] ∨ ∃ b off, A r = some ⟨b, off, none⟩ ∧ ∀ i, i < ((List.range (L r)).map (Z r)).length → W.cell? ⟨b, off + i, none⟩ = some (.int .i64 (((List.range (L r)).map (Z r))[i]?.getD 0)) := by
      by_cases h0 : L r = 0
      · exact .inl (by simp [h0])
      · cases ha : A r with
        | none => exact absurd (h3 ha) (by omega)
        | some a' =>
          obtain ⟨b, off, spot⟩ := a'
          have hc := fun k hk => (h4 _ ha k hk).1
          have hspot : spot = none := by simpa [Addr.add] using World.cell?_spot (hc 0 (by omega))
          subst hspot
          refine .inr ⟨b, off, rfl, fun i hi => ?_⟩
          have hi' : i < L r := by simpa using hi
          have := hc i (by omega)
          have he : (Addr.mk b off none).add i = ⟨b, off + i, none⟩ := by unfold Addr.add; split <;> simp_all
          rw [he] at this
          rw [this]
          simp [hi']
    have hI : Ints W (.slice (A r) (L r) (C r)) ((List.range (L r)).map (Z r)) := ⟨A r, C r, by simp, by simp; omega, hbd, hc⟩
    refine ⟨hI, fun hne => ⟨hI, ⟨fun n c e => ?_, fun a n c e => ?_⟩, fun g hg => ?_⟩⟩
    · simp only [Value.slice.injEq] at e
      obtain ⟨e1, rfl, rfl⟩ := e
      have := h3 e1
      omega
    · simp only [Value.slice.injEq] at e
      obtain ⟨-, rfl, rfl⟩ := e
      exact h1
    · rcases hc with hc | ⟨b, off, ha, hc⟩
      · exact absurd hc hne
      · dsimp only at hg
        rw [ha] at hg
        simp only [Value.ownBlock, Option.some.injEq] at hg
        subst hg
        have h5 : 0 < ((List.range (L r)).map (Z r)).length := List.length_pos_iff.2 hne
        exact World.block_lt_of_cell? W _ (hc 0 h5)
/-- As the kit's open_int_rows tells it. -/
theorem irows_in {W : World} {x : Addr} {base l c : Nat} {A : Nat → Option Addr} {L C : Nat → Nat} {Z : Nat → List Int} (hl : l ≤ c) (hm : c ≤ maxLen)
    (hx : ∀ r, r < c → W.cell? (x.add r) = some (.slice (A r) (L r) (C r)) ∧ L r ≤ C r ∧ C r ≤ maxLen ∧ (Z r).length = C r ∧ (∀ n ∈ Z r, (Lit.int .i64 n).wf = true) ∧ (A r = none → C r = 0) ∧
        ∀ a', A r = some a' → base ≤ a'.block ∧ ∀ k, k < C r → W.cell? (a'.add k) = some (.int .i64 ((Z r).getD k 0))) :
    ∃ ps : List Row, l = ps.length ∧ RowsI W (.slice (some x) ps.length c) ps :=
  irows_of (Z := fun r k => (Z r).getD k 0) hl hm (fun r hr => by
    obtain ⟨h1, h2, h3, h4, h5, h6, h7⟩ := hx r hr
    refine ⟨h1, h2, h3, h6, fun a' ha k hk => ⟨(h7 a' ha).2 k hk, ?_⟩⟩
    have hz : (Z r).getD k 0 ∈ Z r := by
      rw [List.getD_eq_getElem?_getD, List.getElem?_eq_getElem (by omega)]
      exact List.getElem_mem _
    have := h5 _ hz
    simpa [Lit.wf, IntKind.min, IntKind.max, IntKind.signed, IntKind.bits] using this)
end Go.Proofs.Ytpnghgihepnepaa
