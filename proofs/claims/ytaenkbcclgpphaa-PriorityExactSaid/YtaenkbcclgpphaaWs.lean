/- Words that a law draws; the order of subwords. -/
import Derived.Test.YtaenkbcclgpphaaWa
import Derived.Test.YtaenkbcclgpphaaGt
import Derived.Test.YtaenkbcclgpphaaWd
import Derived.Test.YtaenkbcclgpphaaWk
namespace Go.Proofs.Ytaenkbcclgpphaa
open Go.RowKit
set_option linter.unusedVariables false

/-- A row beyond the deck. -/
def RVec (w : World) (d : Nat) (v : Value) (xs : List Int) : Prop := RowOk w (v, xs) ∧ ∀ g, v.ownBlock = some g → d < g
theorem RVec.slice {w : World} {d : Nat} {v : Value} {xs : List Int} (h : RVec w d v xs) : ∃ a cap, v = .slice a xs.length cap ∧ xs.length ≤ maxLen := by
  obtain ⟨⟨⟨a, cap, hv, hl, -⟩, -⟩, -⟩ := h
  exact ⟨a, cap, hv, hl⟩
theorem RVec.step {w w' : World} {d : Nat} {v : Value} {xs : List Int} (h : RVec w d v xs) (g : w.grownBy w' none) : RVec w' d v xs := ⟨h.1.same g, h.2⟩
theorem RVec.deal {w w' : World} {d : Nat} {v : Value} {xs : List Int} (h : RVec w d v xs) (g : w.grownBy w' (some d)) : RVec w' d v xs :=
  ⟨h.1.kept g (by rintro k ⟨⟩ e; exact Nat.lt_irrefl _ (h.2 _ e)), h.2⟩
theorem RVec.drew {w w' : World} {d : Nat} {v : Value} {xs : List Int} (h : RVec w d v xs) (g : Drew w w') : RVec w' d v xs := h.step (g.grown none)
theorem OwnI.rvec {w : World} {base d : Nat} {v : Value} {xs : List Int} (h : OwnI w base v xs) (hb : ∀ x ∈ xs, -9223372036854775808 ≤ x ∧ x ≤ 9223372036854775807) (hd : d < base) : RVec w d v xs :=
  ⟨h.row hb, fun g hg => Nat.lt_of_lt_of_le hd (h.fresh g hg).1⟩

def DealsW (letters most : Int) (w0 w : World) (p : Value) (d : Nat) (e : Ending) (w' : World) : Prop :=
  ∃ v xs, e = .returned v ∧ (xs.length : Int) ≤ most ∧ (∀ x ∈ xs, 0 ≤ x ∧ x < letters) ∧ RVec w' d v xs ∧ St w0 w' p d ∧ w.grownBy w' (some d)
theorem word_st {w0 w : World} {p : Value} {d : Nat} (h : St w0 w p d) (letters most : Int) (h1 : 1 ≤ letters) (h2 : letters ≤ 100) (h3 : 0 ≤ most) (h4 : most ≤ 100) :
    Calls Try.prog 16 #[p, .int .i64 letters, .int .i64 most] w (DealsW letters most w0 w p d) := by
  have HS := Lib.hid h
  clear h
  have g1 : IntKind.i64.wrap (most + 1) = most + 1 := IntWalk.i64_in _ (by omega)
  have g2 : IntKind.i64.wrap (letters - 1) = letters - 1 := IntWalk.i64_in _ (by omega)
  go_enter Try.func16, Try.ntmps16
  go_wp2_with fail
  refine (next_st HS.out _ (by omega) (by omega)).mono ?_
  rintro e w1 ⟨y, rfl, hy0, hy1, hs, hg⟩
  have HS1 := Lib.hid hs; have HG1 := Lib.hid hg
  clear hs hg
  go_wp2_with fail
  refine (small_any p d y (letters - 1) _ HS1.out.1 (by omega) (by omega) (by omega)).mono ?_
  rintro e w2 ⟨v, xs, rfl, hl, hp, ho, hd, hg⟩
  have HL := Lib.hid hl; have HP := Lib.hid hp; have HO := Lib.hid ho; have HD := Lib.hid hd; have HG := Lib.hid hg
  clear hl hp ho hd hg
  go_wp2_with fail
  go_ret
  exact ⟨v, xs, rfl, by rw [HL.out]; omega, fun x hx => by have := HP.out x hx; omega, HO.out.rvec (fun x hx => by have := HP.out x hx; omega) HS1.out.lt, HS1.out.deal HD.out HG.out, grown_trans HG1.out HG.out⟩

/-! ### The order of subwords -/
theorem places_iff : ∀ (a b : List Int) (i : Nat), (placesL a b i).isSome = true ↔ a.Sublist b
  | [], b, i => by simp [placesL]
  | x :: xs, [], i => by simp [placesL]
  | x :: xs, y :: ys, i => by
    unfold placesL
    split
    · next h =>
      subst h
      rw [Option.isSome_map, places_iff xs ys (i + 1)]
      exact List.cons_sublist_cons.symm
    · next h =>
      rw [places_iff (x :: xs) ys (i + 1)]
      constructor
      · exact fun h' => h'.cons y
      · intro h'
        cases h' with
        | cons _ h' => exact h'
        | cons_cons _ h' => exact absurd rfl h
theorem leqW_iff (a b : List Int) : leqW a b = true ↔ validW a = true ∧ validW b = true ∧ a.Sublist b := by
  unfold leqW embedR
  cases ha : validW a <;> cases hb : validW b <;> simp [places_iff]
theorem leqW_trans {a b c : List Int} (h : leqW a b = true) (h' : leqW b c = true) : leqW a c = true := by
  rw [leqW_iff] at *
  exact ⟨h.1, h'.2.1, h.2.2.trans h'.2.2⟩
theorem leqW_anti {a b : List Int} (h : leqW a b = true) (h' : leqW b a = true) : (a == b) = true := by
  rw [leqW_iff] at *
  exact beq_iff_eq.2 (h.2.2.eq_of_length_le h'.2.2.length_le)
theorem leqW_refl {a : List Int} (h : validW a = true) : leqW a a = true := (leqW_iff a a).2 ⟨h, h, List.Sublist.refl _⟩
theorem letters_valid {xs : List Int} {letters most : Int} (hl : (xs.length : Int) ≤ most) (hp : ∀ x ∈ xs, 0 ≤ x ∧ x < letters) (h1 : most ≤ 12) (h2 : letters ≤ 16) : validW xs = true := by
  unfold validW
  rw [Bool.and_eq_true, List.all_eq_true]
  refine ⟨by simp; omega, fun x hx => ?_⟩
  have := hp x hx
  unfold letterB
  simp
  omega

/-- The places that are found prove. -/
theorem places_prove (B : List Int) : ∀ (a b pre : List Int) (before : Int) (ps : List Int), B = pre ++ b → before < pre.length → placesL a b pre.length = some ps → provesL B a ps before = true
  | [], b, pre, before, ps, hB, hb, h => by
    simp [placesL] at h
    subst h
    rfl
  | x :: xs, [], pre, before, ps, hB, hb, h => by simp [placesL] at h
  | x :: xs, y :: ys, pre, before, ps, hB, hb, h => by
    unfold placesL at h
    split at h
    · next hxy =>
      subst hxy
      rw [Option.map_eq_some_iff] at h
      obtain ⟨qs, hq, rfl⟩ := h
      have ih := places_prove B xs ys (pre ++ [x]) (pre.length : Int) qs (by rw [hB]; simp) (by simp; omega) (by simpa using hq)
      unfold provesL
      rw [ih]
      have h1 : B.length = pre.length + (ys.length + 1) := by rw [hB]; simp
      have h2 : B[pre.length]?.getD 0 = x := by rw [hB]; simp
      simp [hb, h2]
      omega
    · have ih := places_prove B (x :: xs) ys (pre ++ [y]) before ps (by rw [hB]; simp) (by simp; omega) (by simpa using h)
      exact ih
theorem embed_proves {a b ps : List Int} (h : embedR a b = some ps) : provesW a b ps = true := by
  unfold embedR at h
  split at h
  · next hv =>
    rw [Bool.and_eq_true] at hv
    unfold provesW
    rw [hv.1, hv.2, places_prove b a b [] (-1) ps rfl (by decide) h]
    rfl
  · cases h
/-- Places are indices. -/
theorem places_bd : ∀ (a b : List Int) (i : Nat) (ps : List Int), placesL a b i = some ps → ∀ p ∈ ps, (i : Int) ≤ p ∧ p < i + b.length
  | [], b, i, ps, h => by
    simp [placesL] at h
    subst h
    simp
  | x :: xs, [], i, ps, h => by simp [placesL] at h
  | x :: xs, y :: ys, i, ps, h => by
    unfold placesL at h
    split at h
    · rw [Option.map_eq_some_iff] at h
      obtain ⟨qs, hq, rfl⟩ := h
      intro p hp
      rcases List.mem_cons.1 hp with rfl | hp
      · simp; omega
      · have := places_bd xs ys (i + 1) qs hq p hp
        simp; omega
    · intro p hp
      have := places_bd (x :: xs) ys (i + 1) ps h p hp
      simp; omega
theorem embed_bd {a b : List Int} : ∀ x ∈ (embedR a b).getD [], -9223372036854775808 ≤ x ∧ x ≤ 9223372036854775807 := by
  intro x hx
  cases h : embedR a b with
  | none => rw [h] at hx; simp at hx
  | some ps =>
    rw [h] at hx
    unfold embedR at h
    split at h
    · next hv =>
      rw [Bool.and_eq_true] at hv
      have h1 := places_bd a b 0 ps h x hx
      have h2 := (validW_le hv.2).1
      omega
    · cases h

end Go.Proofs.Ytaenkbcclgpphaa
