/- What the law HilbertExact shares. -/
import Derived.Test.YtgcfafjgaifmiaaFr
import Derived.Test.YtgcfafjgaifmiaaEu
import Derived.Deep.Matrix
namespace Go.Proofs.Ytgcfafjgaifmiaa
open Go.RowKit
set_option linter.unusedVariables false

theorem irows_of {W : World} {x : Addr} {l c : Nat} {A : Nat → Option Addr} {L C : Nat → Nat} {Z : Nat → Nat → Int} (hl : l ≤ c) (hm : c ≤ maxLen)
    (hx : ∀ r, r < c → W.cell? (x.add r) = some (.slice (A r) (L r) (C r)) ∧ L r ≤ C r ∧ C r ≤ maxLen ∧ (A r = none → C r = 0) ∧ ∀ a', A r = some a' → ∀ k, k < C r → W.cell? (a'.add k) = some (.int .i64 (Z r k)) ∧ -9223372036854775808 ≤ Z r k ∧ Z r k ≤ 9223372036854775807) :
    ∃ ps : List Row, l = ps.length ∧ RowsI W (.slice (some x) ps.length c) ps := by
  refine ⟨(List.range l).map (fun r => (.slice (A r) (L r) (C r), (List.range (L r)).map (Z r))), by simp, some x, c, rfl, by simp; omega, ?_, fun p hp => ?_⟩
  · by_cases h0 : l = 0
    · subst h0; exact .inl rfl
    · obtain ⟨b, off, spot⟩ := x
      have hspot : spot = none := by simpa [Addr.add] using World.cell?_spot (hx 0 (by omega)).1
      subst hspot
      refine .inr ⟨b, off, rfl, fun i hi => ?_⟩
      have hi' : i < l := by simpa using hi
      have := (hx i (by omega)).1
      have ha : (Addr.mk b off none).add i = ⟨b, off + i, none⟩ := by unfold Addr.add; split <;> simp_all
      rw [ha] at this
      rw [this]
      simp [hi']
  · obtain ⟨r, hr, rfl⟩ := List.mem_map.1 hp
    have hr' : r < l := List.mem_range.1 hr
    obtain ⟨-, h1, h2, h3, h4⟩ := hx r (by omega)
    have hbd : ∀ z ∈ (List.range (L r)).map (Z r), -9223372036854775808 ≤ z ∧ z ≤ 9223372036854775807 := fun z hz => by
      obtain ⟨k, hk, rfl⟩ := List.mem_map.1 hz
      have hk' : k < L r := List.mem_range.1 hk
      cases ha : A r with
      | none => exact absurd (h3 ha) (by omega)
      | some a' => exact (h4 _ ha k (by omega)).2
    have hc : (List.range (L r)).map (Z r) = [] ∨ ∃ b off, A r = some ⟨b, off, none⟩ ∧ ∀ i, i < ((List.range (L r)).map (Z r)).length → W.cell? ⟨b, off + i, none⟩ = some (.int .i64 (((List.range (L r)).map (Z r))[i]?.getD 0)) := by
      by_cases h0 : L r = 0
      · exact .inl (by simp [h0])
      · cases ha : A r with
        | none => exact absurd (h3 ha) (by omega)
        | some a' =>
          obtain ⟨b, off, spot⟩ := a'
          have hc := fun k hk => (h4 _ ha k hk).1
          have hspot : spot = none := by simpa [Addr.add] using World.cell?_spot (hc 0 (by omega))
          subst hspot
          refine .inr ⟨b, off, rfl, fun i hi => ?_⟩
          have hi' : i < L r := by simpa using hi
          have := hc i (by omega)
          have he : (Addr.mk b off none).add i = ⟨b, off + i, none⟩ := by unfold Addr.add; split <;> simp_all
          rw [he] at this
          rw [this]
          simp [hi']
    have hI : Ints W (.slice (A r) (L r) (C r)) ((List.range (L r)).map (Z r)) := ⟨A r, C r, by simp, by simp; omega, hbd, hc⟩
    refine ⟨hI, fun hne => ⟨hI, ⟨fun n c e => ?_, fun a n c e => ?_⟩, fun g hg => ?_⟩⟩
    · simp only [Value.slice.injEq] at e
      obtain ⟨e1, rfl, rfl⟩ := e
      have := h3 e1
      omega
    · simp only [Value.slice.injEq] at e
      obtain ⟨-, rfl, rfl⟩ := e
      exact h1
    · rcases hc with hc | ⟨b, off, ha, hc⟩
      · exact absurd hc hne
      · dsimp only at hg
        rw [ha] at hg
        simp only [Value.ownBlock, Option.some.injEq] at hg
        subst hg
        have h5 : 0 < ((List.range (L r)).map (Z r)).length := List.length_pos_iff.2 hne
        exact World.block_lt_of_cell? W _ (hc 0 h5)
/-- As the kit's open_int_rows tells it. -/
theorem irows_in {W : World} {x : Addr} {base l c : Nat} {A : Nat → Option Addr} {L C : Nat → Nat} {Z : Nat → List Int} (hl : l ≤ c) (hm : c ≤ maxLen)
    (hx : ∀ r, r < c → W.cell? (x.add r) = some (.slice (A r) (L r) (C r)) ∧ L r ≤ C r ∧ C r ≤ maxLen ∧ (Z r).length = C r ∧ (∀ n ∈ Z r, (Lit.int .i64 n).wf = true) ∧ (A r = none → C r = 0) ∧
        ∀ a', A r = some a' → base ≤ a'.block ∧ ∀ k, k < C r → W.cell? (a'.add k) = some (.int .i64 ((Z r).getD k 0))) :
    ∃ ps : List Row, l = ps.length ∧ RowsI W (.slice (some x) ps.length c) ps :=
  irows_of (Z := fun r k => (Z r).getD k 0) hl hm (fun r hr => by
    obtain ⟨h1, h2, h3, h4, h5, h6, h7⟩ := hx r hr
    refine ⟨h1, h2, h3, h6, fun a' ha k hk => ⟨(h7 a' ha).2 k hk, ?_⟩⟩
    have hz : (Z r).getD k 0 ∈ Z r := by
      rw [List.getD_eq_getElem?_getD, List.getElem?_eq_getElem (by omega)]
      exact List.getElem_mem _
    have := h5 _ hz
    simpa [Lit.wf, IntKind.min, IntKind.max, IntKind.signed, IntKind.bits] using this)

/-- A matrix that came in, beside the deck in block d. -/
def RowsX (w : World) (d : Nat) (v : Value) (ps : List Row) : Prop := RowsI w v ps ∧ (ps ≠ [] → v.ownBlock ≠ some d) ∧ ∀ p ∈ ps, p.2 ≠ [] → p.1.ownBlock ≠ some d
theorem Ints.empty {w w' : World} {v : Value} (h : Ints w v []) : Ints w' v [] := by
  obtain ⟨a, cap, h1, h2, h3, h4⟩ := h
  exact ⟨a, cap, h1, h2, h3, .inl rfl⟩
theorem RowsX.kept {w w' : World} {d : Nat} {v : Value} {ps : List Row} {row : Option Nat} (h : RowsX w d v ps) (g : w.grownBy w' row) (hr : row = none ∨ row = some d) : RowsX w' d v ps := by
  obtain ⟨⟨a, cap, hv, hl, hc, hp⟩, h2, h3⟩ := h
  refine ⟨⟨a, cap, hv, hl, ?_, fun p hpm => ?_⟩, h2, h3⟩
  · rcases hc with rfl | ⟨b, off, rfl, hc⟩
    · exact .inl rfl
    · by_cases h0 : ps = []
      · exact .inl h0
      · refine .inr ⟨b, off, rfl, fun i hi => g.cell (hc i hi) (fun e => ?_)⟩
        have h4 := h2 h0
        rw [hv] at h4
        rcases hr with hr | hr
        · rw [hr] at e; cases e
        · rw [hr] at e
          cases e
          exact h4 rfl
  · obtain ⟨h5, h6⟩ := hp p hpm
    have hk : p.2 ≠ [] → ∀ k, row = some k → p.1.ownBlock ≠ some k := fun h0 k hk e => by
      rcases hr with hr | hr
      · rw [hr] at hk; cases hk
      · rw [hr] at hk; cases hk; exact h3 p hpm h0 e
    by_cases h0 : p.2 = []
    · refine ⟨?_, fun h => absurd h0 h⟩
      rw [h0] at h5 ⊢
      exact h5.empty
    · exact ⟨h5.kept g (hk h0), fun _ => (h6 h0).kept g (hk h0)⟩
theorem RowsX.same {w w' : World} {d : Nat} {v : Value} {ps : List Row} (h : RowsX w d v ps) (g : w.grownBy w' none) : RowsX w' d v ps := h.kept g (.inl rfl)
theorem RowsX.deal {w w' : World} {d : Nat} {v : Value} {ps : List Row} (h : RowsX w d v ps) (g : w.grownBy w' (some d)) : RowsX w' d v ps := h.kept g (.inr rfl)
theorem RowsX.slice {w : World} {d : Nat} {v : Value} {ps : List Row} (h : RowsX w d v ps) : ∃ a cap, v = .slice a ps.length cap := by obtain ⟨⟨a, cap, hv, _⟩, _⟩ := h; exact ⟨a, cap, hv⟩
theorem MatD.rowsX {w : World} {d : Nat} {v : Value} {ps : List Row} (h : MatD w d v ps) : RowsX w d v ps := by
  obtain ⟨base, hd, hm⟩ := h
  exact ⟨hm.rowsP.toI, fun _ e => by have := (hm.own.fresh d e).1; omega, fun p hp _ e => by have := ((hm.rows p hp).fresh d e).1; omega⟩
theorem cell_in {w : World} {b o : Nat} {v : Value} (h : w.cell? ⟨b, o, none⟩ = some v) : b < w.heap.size := by
  rcases Nat.lt_or_ge b w.heap.size with h1 | h1
  · exact h1
  · exfalso
    unfold World.cell? at h
    dsimp only at h
    rw [Array.getElem?_eq_none h1] at h
    simp at h
theorem RowsI.x {w0 w : World} {p : Value} {d : Nat} {v : Value} {ps : List Row} (h : RowsI w0 v ps) (hs : St w0 w p d) : RowsX w d v ps := by
  refine ⟨h.same hs.2.1, fun h0 e => ?_, fun q hq h0 e => ?_⟩
  · obtain ⟨a, cap, rfl, hl, hc, -⟩ := h
    rcases hc with rfl | ⟨b, off, rfl, hc⟩
    · exact h0 rfl
    · have h1 : 0 < ps.length := by cases ps with
        | nil => exact absurd rfl h0
        | cons _ _ => simp
      have := cell_in (hc 0 h1)
      simp only [Value.ownBlock, Option.some.injEq] at e
      have := hs.2.2
      omega
  · obtain ⟨-, -, -, -, -, hp⟩ := h
    have := ((hp q hq).2 h0).2.2 d e
    have := hs.2.2
    omega
/-- A vector that came in, beside the deck. -/
def IntX (w : World) (d : Nat) (v : Value) (xs : List Int) : Prop := Ints w v xs ∧ v.ownBlock ≠ some d
theorem IntX.same {w w' : World} {d : Nat} {v : Value} {xs : List Int} (h : IntX w d v xs) (g : w.grownBy w' none) : IntX w' d v xs := ⟨h.1.same g, h.2⟩
theorem IntX.deal {w w' : World} {d : Nat} {v : Value} {xs : List Int} (h : IntX w d v xs) (g : w.grownBy w' (some d)) : IntX w' d v xs := ⟨h.1.kept g (fun k hk => by cases hk; exact h.2), h.2⟩
theorem Vec.x {w : World} {d : Nat} {v : Value} {xs : List Int} (h : Vec w d v xs) : IntX w d v xs := ⟨h.1, fun e => by have := h.2 d e; omega⟩

theorem okWide_slice_lt {P : Program} {w : World} {r : Reach} {base : Nat} {t e : TypeId} {a : Addr} {len cap : Nat} (ht : P.underlying t = some (.slice e)) (h : Value.okWide P w r base t (.slice (some a) len cap)) : a.block < w.heap.size := by
  simp only [Value.okWide, ht, Cell.okWide, Cell.ok] at h
  obtain ⟨-, -, -, -, row, cells, hs, -⟩ := h
  unfold World.shape? at hs
  rcases Nat.lt_or_ge a.block w.heap.size with h1 | h1
  · exact h1
  · rw [Array.getElem?_eq_none h1] at hs; simp at hs
/-- A row that came in. -/
def RowB (w : World) (a : Option Addr) (len cap : Nat) (zs : List Int) : Prop := IsRow .i64 w a len cap zs ∧ ∀ x, a = some x → x.block < w.heap.size
theorem RowB.row {w : World} {a : Option Addr} {len cap : Nat} {zs : List Int} (h : RowB w a len cap zs) : RowOk w (.slice a len cap, zs.take len) ∧ (zs.take len).length = len := by
  obtain ⟨hi, hl⟩ := h.1.ints
  refine ⟨⟨hi, ?_, ?_⟩, hl⟩
  · rcases h.1 with ⟨rfl, rfl, rfl, -⟩ | ⟨x, rfl, h1, -⟩
    · exact Good.nil
    · exact Good.some _ h1
  · intro g hg
    cases a with
    | none => simp [Value.ownBlock] at hg
    | some x => simp only [Value.ownBlock, Option.some.injEq] at hg; have := h.2 x rfl; omega
/-- A row that is not the deck's. -/
def RIn (w : World) (d : Nat) (v : Value) (xs : List Int) : Prop := RowOk w (v, xs) ∧ ∀ g, v.ownBlock = some g → g ≠ d
theorem RIn.step {w w' : World} {d : Nat} {v : Value} {xs : List Int} (h : RIn w d v xs) (g : w.grownBy w' none) : RIn w' d v xs := ⟨h.1.same g, h.2⟩
theorem RIn.deal {w w' : World} {d : Nat} {v : Value} {xs : List Int} (h : RIn w d v xs) (g : w.grownBy w' (some d)) : RIn w' d v xs :=
  ⟨h.1.kept g (by rintro k ⟨⟩ e; exact h.2 _ e rfl), h.2⟩
theorem RIn.kept {w w' : World} {d : Nat} {v : Value} {xs : List Int} {row : Option Nat} (h : RIn w d v xs) (g : w.grownBy w' row) (hr : row = none ∨ row = some d) : RIn w' d v xs := by
  rcases hr with rfl | rfl
  · exact h.step g
  · exact h.deal g
theorem RIn.of {w w' : World} {d : Nat} {v : Value} {xs : List Int} (h : RowOk w (v, xs)) (g : w.grownBy w' none) (hd : w.heap.size ≤ d) : RIn w' d v xs :=
  ⟨h.same g, fun k hk => by have := h.2.2 k hk; omega⟩
def DealR (P : Int → Prop) (n : Nat) (w0 w : World) (p : Value) (d : Nat) (e : Ending) (w' : World) : Prop :=
  ∃ v xs, e = .returned v ∧ List.length xs = n ∧ (∀ x ∈ xs, P x) ∧ RIn w' d v xs ∧ St w0 w' p d ∧ w.grownBy w' (some d)
theorem small_row {w0 w : World} {p : Value} {d : Nat} (h : St w0 w p d) (n most : Int) (h1 : n ≤ 1000) (h2 : 0 ≤ most) (h3 : most ≤ 1000000) :
    Calls Try.prog 14 #[p, .int .i64 n, .int .i64 most] w (DealR (fun x => 0 ≤ x ∧ x ≤ most) n.toNat w0 w p d) :=
  (small_any p d n most w h.1 h1 h2 h3).mono fun e w' ⟨v, xs, he, hl, hp, ho, hd, hg⟩ => ⟨v, xs, he, hl, hp, ⟨ho.row (by intro x hx; have := hp x hx; omega), fun g hg' e => by have := (ho.fresh g hg').1; have := h.lt; omega⟩, h.deal hd hg, hg⟩
theorem slice_of {w : World} {v : Value} {xs : List Int} (h : Ints w v xs) : ∃ a cap, v = .slice a xs.length cap ∧ True := by obtain ⟨a, cap, h, -⟩ := h; exact ⟨a, cap, h, trivial⟩
/-- Matrices in a block of their own. -/
def MatsB (w : World) (d B m : Nat) : Prop := ∀ k, k < m → ∃ a n c ms, w.cell? ⟨B, k, none⟩ = some (.slice a n c) ∧ RowsX w d (.slice a n c) ms ∧ n = ms.length ∧ ms.length ≤ 1000 ∧ d < B
theorem MatsB.kept {w w' : World} {d B m : Nat} {row : Option Nat} (h : MatsB w d B m) (g : w.grownBy w' row) (hr : row = none ∨ row = some d) : MatsB w' d B m := by
  intro k hk
  obtain ⟨a, n, c, ms, h1, h3, h5, h6, h7⟩ := h k hk
  have hn : ∀ g : Nat, g = B → some g ≠ row := fun g e => by
    rcases hr with hr | hr <;> rw [hr] <;> simp
    omega
  exact ⟨a, n, c, ms, g.cell h1 (hn _ rfl), h3.kept g hr, h5, h6, h7⟩
theorem MatsB.step {w w' : World} {d B m : Nat} (h : MatsB w d B m) (g : w.grownBy w' none) : MatsB w' d B m := h.kept g (.inl rfl)
theorem MatsB.deal {w w' : World} {d B m : Nat} (h : MatsB w d B m) (g : w.grownBy w' (some d)) : MatsB w' d B m := h.kept g (.inr rfl)
/-- Vectors in a block of their own. -/
def VecsB (w : World) (d B m : Nat) : Prop := ∀ k, k < m → ∃ a n c xs, w.cell? ⟨B, k, none⟩ = some (.slice a n c) ∧ RIn w d (.slice a n c) xs ∧ n = xs.length ∧ d < B
theorem VecsB.kept {w w' : World} {d B m : Nat} {row : Option Nat} (h : VecsB w d B m) (g : w.grownBy w' row) (hr : row = none ∨ row = some d) : VecsB w' d B m := by
  intro k hk
  obtain ⟨a, n, c, xs, h1, h3, h5, h7⟩ := h k hk
  have hn : ∀ g : Nat, g = B → some g ≠ row := fun g e => by
    rcases hr with hr | hr <;> rw [hr] <;> simp
    omega
  exact ⟨a, n, c, xs, g.cell h1 (hn _ rfl), h3.kept g hr, h5, h7⟩
theorem VecsB.step {w w' : World} {d B m : Nat} (h : VecsB w d B m) (g : w.grownBy w' none) : VecsB w' d B m := h.kept g (.inl rfl)
theorem VecsB.deal {w w' : World} {d B m : Nat} (h : VecsB w d B m) (g : w.grownBy w' (some d)) : VecsB w' d B m := h.kept g (.inr rfl)
/-- make of integers, whatever the world: told ahead of a region that draws its order. -/
theorem made_ints (n : Nat) (hn : n ≤ 1000000) : ∃ O : Obj, (∀ w : World, (Instr.makeSlice 22 (.int .i64 (n : Int)) (.int .i64 (n : Int))).run Try.prog w = .ok (.slice (some ⟨w.heap.size, 0, none⟩) n n) (w.alloc O)) ∧ ∀ w : World, OwnI (w.alloc O) w.heap.size (.slice (some ⟨w.heap.size, 0, none⟩) n n) (List.replicate n 0) := by
  obtain ⟨i, hi, hz0, hz1, hz2⟩ := info_parts info_int
  refine ⟨.cells (madeCells (Value.int .i64 0).cells (n * i.size)) 3, fun w => ?_, fun w => ?_⟩
  · have hr := run_make (P := Try.prog) w 22 3 i (.int .i64 0) Try.underlying22 hi hz0 .i64 .i64 n n (by omega) (Int.le_refl _) (by rw [hz2]; omega) (by omega)
    simpa only [Int.toNat_natCast] using hr
  · have h1 := World.ownsRow_lit (base := w.heap.size) (e := 3) (size := i.size) w (madeCells (Value.int .i64 0).cells (n * i.size)) n (Nat.le_refl _) (by unfold maxLen; omega) (size_madeCells _ _)
    rw [hz1] at h1 ⊢
    unfold OwnI
    rw [List.length_replicate, List.map_replicate]
    rw [Nat.mul_one] at h1 ⊢
    simpa [Value.cells, toList_madeCells_one] using h1
def NarrowOk (ps : List Row) (w : World) (e : Ending) (w' : World) : Prop := (∃ B, e = .returned (.bool B) ∧ (B = true → ps.length ≤ 20)) ∧ w' = w
set_option maxRecDepth 100000 in
set_option maxHeartbeats 1000000 in
theorem narrow12_any (v : Value) (ps : List Row) (w : World) (h : RowsI w v ps) :
    Calls Try.prog 10 #[v] w (NarrowOk ps w) := by
  obtain ⟨a, cap, rfl, hl, -⟩ := id h
  have H := Lib.hid h
  unfold maxLen at hl
  clear h
  go_enter Try.func10, Try.ntmps10
  go_wp2_with fail
  go_loop [6] (fun i => ∃ k : Nat, i = .int .i64 k ∧ k ≤ ps.length) (fun i => ps.length - (intOf i).toNat)
  case atStart => exact ⟨0, rfl, Nat.zero_le _⟩
  case round =>
    obtain ⟨k, rfl, hk⟩ := hrel
    by_cases hkb : k < ps.length
    · have h3 : (k : Int) < (ps.length : Int) := by omega
      have i1 : IntKind.i64.wrap ((k : Int) + 1) = (k : Int) + 1 := IntWalk.i64_in _ (by omega)
      obtain ⟨b, off, a2, c2, rfl, hc, -⟩ := H.out.row hkb
      by_cases hR : (20 : Int) < (ps[k].2.length : Int)
      · go_wp2_with fail
        go_ret
        exact ⟨⟨_, rfl, by simp⟩, rfl⟩
      · go_wp2_with fail
        go_round
        case rel => exact ⟨k + 1, by go_num, by omega⟩
        case measure => simp [intOf]; omega
    · obtain rfl : k = ps.length := by omega
      have h3 : ¬ (ps.length : Int) < (ps.length : Int) := by omega
      by_cases h20 : (ps.length : Int) ≤ 20
      · go_wp2_with fail
        go_ret
        exact ⟨⟨_, rfl, fun _ => by omega⟩, rfl⟩
      · go_wp2_with fail
        go_ret
        exact ⟨⟨false, by simp, by simp⟩, rfl⟩
end Go.Proofs.Ytgcfafjgaifmiaa
