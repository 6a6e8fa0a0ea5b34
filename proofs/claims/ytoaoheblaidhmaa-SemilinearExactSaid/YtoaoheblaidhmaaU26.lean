/- Texts Vt, Vu, Lq in one. -/
import Derived.Test.YtoaoheblaidhmaaU25
import Derived.Deep.Matrix
import Derived.Deep.SlicePairs
import Derived.Maps.RangeWalk
import Derived.Lib.SmallJoins
import Derived.Test.YtoaoheblaidhmaaU18
namespace Go.Proofs.Ytoaoheblaidhmaa
open Go.ChangeShapes Go.WideShapes Go.ChangeAt Go.RowKit Go.Deep Go.Joins
set_option linter.unusedVariables false

theorem irows_of {W : World} {x : Addr} {l c : Nat} {A : Nat → Option Addr} {L C : Nat → Nat} {Z : Nat → Nat → Int} (hl : l ≤ c) (hm : c ≤ maxLen)
    (hx : ∀ r, r < c → W.cell? (x.add r) = some (.slice (A r) (L r) (C r)) ∧ L r ≤ C r ∧ C r ≤ maxLen ∧ (A r = none → C r = 0) ∧ ∀ a', A r = some a' → ∀ k, k < C r → W.cell? (a'.add k) = some (.int .i64 (Z r k)) ∧ -9223372036854775808 ≤ Z r k ∧ Z r k ≤ 9223372036854775807) :
    ∃ ps : List Row, l = ps.length ∧ RowsI W (.slice (some x) ps.length c) ps := by
  refine ⟨(List.range l).map (fun r => (.slice (A r) (L r) (C r), (List.range (L r)).map (Z r))), by simp, some x, c, rfl, by simp; omega, ?_, fun p hp => ?_⟩
  · by_cases h0 : l = 0
    · subst h0; exact .inl rfl
    · obtain ⟨b, off, spot⟩ := x
      have hspot : spot = none := by simpa [Addr.add] using World.cell?_spot (hx 0 (by omega)).1
      subst hspot
      refine .inr ⟨b, off, rfl, fun i hi => ?_⟩
      have hi' : i < l := by simpa using hi
      have := (hx i (by omega)).1
      have ha : (Addr.mk b off none).add i = ⟨b, off + i, none⟩ := by unfold Addr.add; split <;> simp_all
      rw [ha] at this
      rw [this]
      simp [hi']
  · obtain ⟨r, hr, rfl⟩ := List.mem_map.1 hp
    have hr' : r < l := List.mem_range.1 hr
    obtain ⟨-, h1, h2, h3, h4⟩ := hx r (by omega)
    have hbd : ∀ z ∈ (List.range (L r)).map (Z r), -9223372036854775808 ≤ z ∧ z ≤ 9223372036854775807 := fun z hz => by
      obtain ⟨k, hk, rfl⟩ := List.mem_map.1 hz
      have hk' : k < L r := List.mem_range.1 hk
      cases ha : A r with
      | none => exact absurd (h3 ha) (by omega)
      | some a' => exact (h4 _ ha k (by omega)).2
    have hc : (List.range (L r)).map (Z r) = [] ∨ ∃ b off, A r = some ⟨b, off, none⟩ ∧ ∀ i, i < ((List.range (L r)).map (Z r)).length → W.cell? ⟨b, off + i, none⟩ = some (.int .i64 (((List.range (L r)).map (Z r))[i]?.getD 0)) := by
      by_cases h0 : L r = 0
      · exact .inl (by simp [h0])
      · cases ha : A r with
        | none => exact absurd (h3 ha) (by omega)
        | some a' =>
          obtain ⟨b, off, spot⟩ := a'
          have hc := fun k hk => (h4 _ ha k hk).1
          have hspot : spot = none := by simpa [Addr.add] using World.cell?_spot (hc 0 (by omega))
          subst hspot
          refine .inr ⟨b, off, rfl, fun i hi => ?_⟩
          have hi' : i < L r := by simpa using hi
          have := hc i (by omega)
          have he : (Addr.mk b off none).add i = ⟨b, off + i, none⟩ := by unfold Addr.add; split <;> simp_all
          rw [he] at this
          rw [this]
          simp [hi']
    have hI : Ints W (.slice (A r) (L r) (C r)) ((List.range (L r)).map (Z r)) := ⟨A r, C r, by simp, by simp; omega, hbd, hc⟩
    refine ⟨hI, fun hne => ⟨hI, ⟨fun n c e => ?_, fun a n c e => ?_⟩, fun g hg => ?_⟩⟩
    · simp only [Value.slice.injEq] at e
      obtain ⟨e1, rfl, rfl⟩ := e
      have := h3 e1
      omega
    · simp only [Value.slice.injEq] at e
      obtain ⟨-, rfl, rfl⟩ := e
      exact h1
    · rcases hc with hc | ⟨b, off, ha, hc⟩
      · exact absurd hc hne
      · dsimp only at hg
        rw [ha] at hg
        simp only [Value.ownBlock, Option.some.injEq] at hg
        subst hg
        have h5 : 0 < ((List.range (L r)).map (Z r)).length := List.length_pos_iff.2 hne
        exact World.block_lt_of_cell? W _ (hc 0 h5)
/-- As the kit's open_int_rows tells it. -/
theorem irows_in {W : World} {x : Addr} {base l c : Nat} {A : Nat → Option Addr} {L C : Nat → Nat} {Z : Nat → List Int} (hl : l ≤ c) (hm : c ≤ maxLen)
    (hx : ∀ r, r < c → W.cell? (x.add r) = some (.slice (A r) (L r) (C r)) ∧ L r ≤ C r ∧ C r ≤ maxLen ∧ (Z r).length = C r ∧ (∀ n ∈ Z r, (Lit.int .i64 n).wf = true) ∧ (A r = none → C r = 0) ∧
        ∀ a', A r = some a' → base ≤ a'.block ∧ ∀ k, k < C r → W.cell? (a'.add k) = some (.int .i64 ((Z r).getD k 0))) :
    ∃ ps : List Row, l = ps.length ∧ RowsI W (.slice (some x) ps.length c) ps :=
  irows_of (Z := fun r k => (Z r).getD k 0) hl hm (fun r hr => by
    obtain ⟨h1, h2, h3, h4, h5, h6, h7⟩ := hx r hr
    refine ⟨h1, h2, h3, h6, fun a' ha k hk => ⟨(h7 a' ha).2 k hk, ?_⟩⟩
    have hz : (Z r).getD k 0 ∈ Z r := by
      rw [List.getD_eq_getElem?_getD, List.getElem?_eq_getElem (by omega)]
      exact List.getElem_mem _
    have := h5 _ hz
    simpa [Lit.wf, IntKind.min, IntKind.max, IntKind.signed, IntKind.bits] using this)

theorem okWide_slice_lt {P : Program} {w : World} {r : Reach} {base : Nat} {t e : TypeId} {a : Addr} {len cap : Nat} (ht : P.underlying t = some (.slice e)) (h : Value.okWide P w r base t (.slice (some a) len cap)) : a.block < w.heap.size := by
  simp only [Value.okWide, ht, Cell.okWide, Cell.ok] at h
  obtain ⟨-, -, -, -, row, cells, hs, -⟩ := h
  unfold World.shape? at hs
  rcases Nat.lt_or_ge a.block w.heap.size with h1 | h1
  · exact h1
  · rw [Array.getElem?_eq_none h1] at hs; simp at hs
theorem IsRow.e {w : World} {a : Option Addr} {len cap : Nat} {zs : List Int} (h : IsRow .i64 w a len cap zs) : RowE w (.slice a len cap, zs.take len) ∧ (zs.take len).length = len := by
  obtain ⟨hi, hl⟩ := h.ints
  refine ⟨⟨hi, ?_, fun hn g hg => ?_⟩, hl⟩
  · rcases h with ⟨rfl, rfl, rfl, -⟩ | ⟨x, rfl, h1, -⟩
    · exact Good.nil
    · exact Good.some _ h1
  · rcases h with ⟨rfl, rfl, rfl, -⟩ | ⟨x, rfl, h1, h2, h3, h4, -⟩
    · simp [Value.ownBlock] at hg
    · simp only [Value.ownBlock, Option.some.injEq] at hg
      subst hg
      have hp : 0 < zs.length := by
        rcases Nat.eq_zero_or_pos zs.length with h0 | h0
        · have : zs = [] := List.eq_nil_of_length_eq_zero h0
          subst this
          simp at hn
        · exact h0
      have := World.block_lt_of_cell? w _ (h4 0 hp)
      unfold Addr.add at this
      split at this <;> exact this
section
variable {H : Type} {enc : TypeId × Value → H} {W : World} {base : Nat} {held : Bool}
/-- A cell that reads as a []int. -/
theorem ints_in {fuel : Nat} {v : Value} {x : DataW H × List MemPlace} (h : DataW.trod enc Try.prog W base (fun _ => true) held fuel 22 [v] = some x) : ∃ (a : Option Addr) (cap : Nat) (zs : List Int), v = .slice a zs.length cap ∧ RowE W (.slice a zs.length cap, zs) := by
  rcases open_ints Try.underlying22 Try.underlying3 (by kernel_rfl) h with ⟨hcs, _⟩ | ⟨x, l, c, zs, hcs, _, hl, hm, hz, _, hcell, hwz⟩
  · simp at hcs
    subst hcs
    exact ⟨none, 0, [], rfl, (IsRow.e (zs := []) (.inl ⟨rfl, rfl, rfl, rfl⟩)).1⟩
  · simp at hcs
    subst hcs
    obtain ⟨h1, h2⟩ := IsRow.e (w := W) (a := some x) (len := l) (cap := c) (zs := zs) (.inr ⟨_, rfl, hl, hm, by simpa using hz, hcell, hwz⟩)
    refine ⟨some x, c, zs.take l, by rw [h2], by rw [h2]; exact h1⟩
/-- A cell that reads as a [][]int. -/
theorem rows_in {fuel : Nat} {v : Value} {x : DataW H × List MemPlace} (h : DataW.trod enc Try.prog W base (fun _ => true) held fuel 24 [v] = some x) : ∃ (a : Option Addr) (cap : Nat) (ps : List Row), v = .slice a ps.length cap ∧ RowsI W (.slice a ps.length cap) ps ∧ Good (.slice a ps.length cap) := by
  rcases open_int_rows Try.underlying24 Try.underlying22 Try.underlying3 (by kernel_rfl) (by kernel_rfl) h with ⟨hcs, _⟩ | ⟨x, l, c, A, L, C, Z, hcs, _, hl, hm, _, hx⟩
  · simp at hcs
    subst hcs
    exact ⟨none, 0, [], rfl, (OwnP.nil W 0).rows.toI, Good.nil⟩
  · simp at hcs
    subst hcs
    obtain ⟨ps, hlen, hr⟩ := irows_in hl hm hx
    subst hlen
    exact ⟨some x, c, ps, rfl, hr, Good.some _ hl⟩
/-- The two cells of a set. -/
theorem cells_in {f g : Nat} {v0 v1 : Value} {x y : DataW H × List MemPlace} (h0 : DataW.trod enc Try.prog W base (fun _ => true) held f 22 [v0] = some x) (h1 : DataW.trod enc Try.prog W base (fun _ => true) held g 24 [v1] = some y) : ∃ b qs, LinX W (.agg #[v0, v1]) b qs := by
  obtain ⟨a, cap, zs, rfl, hz⟩ := ints_in h0
  obtain ⟨a1, cap1, ps, rfl, hp, hg⟩ := rows_in h1
  exact ⟨zs, ps, _, _, rfl, hz, hp, hg⟩
set_option maxRecDepth 100000 in
/-- A set that comes in as an argument: its base is in memory. -/
theorem lin_in {r : Reach} {b0 : Nat} {v : Value} {d : DataW H} {p : List MemPlace} (hv : Value.okWide Try.prog W r b0 26 v) (h : DataW.Trod enc Try.prog W base (fun _ => true) held 26 v d p) :
    ∃ v0 v1 b qs, v = .agg #[v0, v1] ∧ LinX W (.agg #[v0, v1]) b qs ∧ RowOk W (v0, b) := by
  have hv' := hv
  obtain ⟨v0, v1, y0, y1, n, rfl, rfl, rfl, h0, h1⟩ := open_agg2 Try.underlying26 (by kernel_rfl) (by kernel_rfl) hv h
  obtain ⟨a, cap, zs, rfl, hz⟩ := ints_in h0
  obtain ⟨a1, cap1, ps, rfl, hp, hg⟩ := rows_in h1
  refine ⟨_, _, zs, ps, rfl, ⟨_, _, rfl, hz, hp, hg⟩, hz.1, hz.2.1, fun g hg' => ?_⟩
  cases a with
  | none => simp [Value.ownBlock] at hg'
  | some ad =>
    simp only [Value.ownBlock, Option.some.injEq] at hg'
    subst hg'
    simp only [Value.okWide, Try.underlying26] at hv'
    obtain ⟨cs, hcs, -, ts, hts, -, hall⟩ := hv'
    simp only [Value.agg.injEq] at hcs
    subst hcs
    obtain ⟨u, hu, hc⟩ := hall 0 _ rfl
    have hts' : Try.prog.cellTypes Try.prog.depth 26 = some [22, 24] := by kernel_rfl
    rw [hts'] at hts
    cases hts
    have hu' : u = 22 := by simpa using hu.symm
    subst hu'
    refine okWide_slice_lt (base := b0) (r := r) (len := zs.length) (cap := cap) Try.underlying22 ?_
    simp only [Value.okWide, Try.underlying22]
    exact hc
/-- Sets that come in. -/
def SetsI (w : World) (v : Value) (us : List SetR) : Prop :=
  ∃ a cap, v = .slice a us.length cap ∧ us.length ≤ maxLen ∧ (us = [] ∨ ∃ b off, a = some ⟨b, off, none⟩ ∧ CellsS w b off (us.map Prod.fst)) ∧ ∀ u ∈ us, LinX w (.agg #[u.1.1, u.1.2]) u.2.1 u.2.2
theorem SetsI.same {w w' : World} {v : Value} {us : List SetR} (h : SetsI w v us) (g : w.grownBy w' none) : SetsI w' v us := by
  obtain ⟨a, cap, h1, h2, h3, h4⟩ := h
  refine ⟨a, cap, h1, h2, ?_, fun u hu => (h4 u hu).same g⟩
  rcases h3 with h3 | ⟨b, off, h5, h6⟩
  · exact .inl h3
  · exact .inr ⟨b, off, h5, h6.same g⟩
theorem SetsI.x {w : World} {v : Value} {us : List SetR} (h : SetsI w v us) (h20 : us.length ≤ 20) (hq : ∀ u ∈ us, u.2.2.length ≤ 20) : SetsX w v us := by
  obtain ⟨a, cap, h1, h2, h3, h4⟩ := h
  exact ⟨a, cap, h1, h20, h3, fun u hu => ⟨h4 u hu, hq u hu⟩⟩
theorem SetsI.at {w : World} {a : Option Addr} {n cap : Nat} {us : List SetR} (h : SetsI w (.slice a n cap) us) {k : Nat} (hk : k < us.length) :
    ∃ b off, a = some ⟨b, off, none⟩ ∧ w.cell? ⟨b, off + k * 2, none⟩ = some us[k].1.1 ∧ w.cell? ⟨b, off + k * 2 + 1, none⟩ = some us[k].1.2 ∧ LinX w (.agg #[us[k].1.1, us[k].1.2]) us[k].2.1 us[k].2.2 := by
  obtain ⟨a', cap', hv, -, hc, hr⟩ := h
  simp only [Value.slice.injEq] at hv
  obtain ⟨rfl, -, rfl⟩ := hv
  rcases hc with hc | ⟨b, off, rfl, hc⟩
  · rw [hc] at hk; simp at hk
  · have h1 := hc k (by rw [List.length_map]; exact hk)
    simp only [List.getElem_map] at h1
    exact ⟨b, off, rfl, h1.1, h1.2, hr _ (List.getElem_mem hk)⟩
/-- A []Linear that comes in. -/
theorem sets_in {fuel : Nat} {v : Value} {x : DataW H × List MemPlace} (h : DataW.trod enc Try.prog W base (fun _ => true) held fuel 23 [v] = some x) : ∃ us, SetsI W v us := by
  rcases open_slice_pairs Try.underlying23 Try.underlying26 (by kernel_rfl) rfl rfl (by kernel_rfl) (by kernel_rfl) h with ⟨hcs, _⟩ | ⟨a, len, cap, m, n, V0, V1, D0, D1, P0, P1, hcs, _, hl, hm, hmm, _, hx⟩
  · simp at hcs
    subst hcs
    exact ⟨[], none, 0, rfl, Nat.zero_le _, .inl rfl, by simp⟩
  · simp at hcs
    subst hcs
    simp only [if_true] at hmm
    subst hmm
    have hex : ∀ i : Nat, ∃ u : List Int × List Row, i < m → LinX W (.agg #[V0 i, V1 i]) u.1 u.2 := by
      intro i
      by_cases hi : i < m
      · obtain ⟨-, -, h0, h1⟩ := hx i hi
        obtain ⟨b, qs, hl⟩ := cells_in h0 h1
        exact ⟨(b, qs), fun _ => hl⟩
      · exact ⟨([], []), fun h => absurd h hi⟩
    obtain ⟨U, hU⟩ := Classical.axiomOfChoice hex
    refine ⟨(List.range len).map (fun i => ((V0 i, V1 i), U i)), some a, m, by simp, by simp; omega, ?_, fun u hu => ?_⟩
    · rcases Nat.eq_zero_or_pos len with h0 | h0
      · subst h0; exact .inl rfl
      · obtain ⟨b, off, spot⟩ := a
        have hspot : spot = none := by simpa [Addr.add] using World.cell?_spot (hx 0 (by omega)).1
        subst hspot
        refine .inr ⟨b, off, rfl, fun i hi => ?_⟩
        have hi' : i < len := by simpa using hi
        obtain ⟨h1, h2, -, -⟩ := hx i (by omega)
        have e1 : (Addr.mk b off none).add (i * 2) = ⟨b, off + i * 2, none⟩ := by unfold Addr.add; split <;> simp_all
        have e2 : (Addr.mk b off none).add (i * 2 + 1) = ⟨b, off + i * 2 + 1, none⟩ := by unfold Addr.add; split <;> simp_all <;> omega
        rw [e1] at h1
        rw [e2] at h2
        simp only [List.map_map, List.getElem_map, List.getElem_range, Function.comp]
        exact ⟨h1, h2⟩
    · obtain ⟨i, hi, rfl⟩ := List.mem_map.1 hu
      exact hU i (by have := List.mem_range.1 hi; omega)
end
/-- What holds in every later world, whatever the deck deals. -/
def Ev (d : Nat) (P : World → Prop) (w : World) : Prop := ∀ w', w.grownBy w' (some d) → P w'
theorem Ev.at {d : Nat} {P : World → Prop} {w : World} (h : Ev d P w) : P w := h w (World.grownBy.refl w _)
theorem Ev.deal {d : Nat} {P : World → Prop} {w w' : World} (h : Ev d P w) (g : w.grownBy w' (some d)) : Ev d P w' := fun w2 g2 => h w2 (grown_trans g g2)
theorem Ev.step {d : Nat} {P : World → Prop} {w w' : World} (h : Ev d P w) (g : w.grownBy w' none) : Ev d P w' := h.deal (g.but _)
theorem Ev.of {d : Nat} {P : World → Prop} {w0 w : World} {p : Value} (hs : St w0 w p d) (h : P w0) (hP : ∀ a b : World, a.grownBy b none → P a → P b) : Ev d P w :=
  fun w' g => hP w0 w' (grown_then hs.2.1 g (by rintro j ⟨⟩; exact .inl hs.2.2)) h
theorem Ev.lin {w : World} {d n : Nat} {v : Value} {b : List Int} {ps : List (List Int)} (h : LinD w d n v b ps) : ∃ qs : List Row, qs.map Prod.snd = ps ∧ Ev d (fun w' => LinX w' v b qs ∧ RowOk w' ((match v with | .agg cs => cs.getD 0 (.slice none 0 0) | _ => .slice none 0 0), b)) w := by
  obtain ⟨vb, vp, qs, rfl, h1, h2, h3, h4, h5, h6, h7⟩ := h
  refine ⟨qs, h5, fun w' g => ?_⟩
  have hb := (h1.deal g).1
  exact ⟨⟨_, _, rfl, hb.e, (h2.far h4 (Nat.le_refl _) g).toI, h3⟩, hb⟩
end Go.Proofs.Ytoaoheblaidhmaa

namespace Go.Proofs.Ytoaoheblaidhmaa
open Go.RowKit
set_option linter.unusedVariables false

theorem info_lin : (Try.prog.info? 26).map (fun i => (i.zero, i.size, i.bytes)) = some (some (.agg #[.slice none 0 0, .slice none 0 0]), 2, 48) := by kernel_rfl
def flatS : List SetR → List Value
  | [] => []
  | u :: us => u.1.1 :: u.1.2 :: flatS us
theorem flatS_len : ∀ us, (flatS us).length = us.length * 2
  | [] => rfl
  | u :: us => by simp [flatS, flatS_len us]; omega
theorem flatS_at : ∀ (us : List SetR) (i : Nat) (h : i < us.length), (flatS us)[i * 2]? = some us[i].1.1 ∧ (flatS us)[i * 2 + 1]? = some us[i].1.2
  | [], i, h => by simp at h
  | u :: us, 0, h => by simp [flatS]
  | u :: us, i + 1, h => by
    obtain ⟨h1, h2⟩ := flatS_at us i (by simpa using h)
    have e1 : (i + 1) * 2 = i * 2 + 1 + 1 := by omega
    rw [e1]
    simp only [flatS, List.getElem?_cons_succ, List.getElem_cons_succ]
    exact ⟨h1, h2⟩
theorem linX_one {w : World} {x y : Value} {b : List Int} {q : List Row} (h : LinX w (.agg #[x, y]) b q) : x.oneCell' = true ∧ y.oneCell' = true := by
  obtain ⟨vb, vp, he, hb, ⟨a, cap, rfl, -⟩, -⟩ := h
  simp only [Value.agg.injEq, Array.mk.injEq, List.cons.injEq, and_true] at he
  obtain ⟨rfl, rfl⟩ := he
  exact ⟨slice_oneI hb.1, rfl⟩
theorem wp_app_sets {o : Oper} {a : Act} {w w1 : World} {K : Act → World → Prop} {Q : Exit → Act → World → Prop} (s x : Operand)
    (ho : o.op = .call { callee := .builtin .append, args := #[s, x], argTypes := #[23, 23] }) (G : Nat) (x0 y0 : Value) (hs : a.eval s = .slice (some ⟨G, 0, none⟩) 1 1)
    (hown : w.ownsRow w1.heap.size 26 2 (.slice (some ⟨G, 0, none⟩) 1 1) 1 [x0, y0]) (hw : w1.grownBy w none) (hG : w1.heap.size ≤ G) (b0 : List Int) (q0 : List Row) (h0 : LinX w1 (.agg #[x0, y0]) b0 q0) (hq0 : q0.length ≤ 20)
    (v2 : Value) (us : List SetR) (hx : a.eval x = v2) (h2 : SetsI w1 v2 us) (h20 : us.length ≤ 12) (hq : ∀ u ∈ us, u.2.2.length ≤ 20)
    (h : ∀ a' c' w', SetsX w' (.slice a' (us.length + 1) c') (((x0, y0), (b0, q0)) :: us) → w1.grownBy w' none → w.grownBy w' (some G) → K (a.put o.dst (.slice a' (us.length + 1) c')) w') : Oper.wp Try.prog o a w K Q := by
  obtain ⟨i, hi, hz0, hz1, hz2⟩ := info_parts info_lin
  have gfin : ∀ w', w.grownBy w' (some G) → w1.grownBy w' none := fun w' g => grown_then hw g (by rintro j ⟨⟩; exact .inl hG)
  have hall : ∀ w', w1.grownBy w' none → ∀ u ∈ (((x0, y0), (b0, q0)) :: us : List SetR), LinX w' (.agg #[u.1.1, u.1.2]) u.2.1 u.2.2 ∧ u.2.2.length ≤ 20 := fun w' g u hu => by
    rcases List.mem_cons.1 hu with rfl | hu
    · exact ⟨h0.same g, hq0⟩
    · obtain ⟨-, -, -, -, -, hl⟩ := h2
      exact ⟨(hl u hu).same g, hq u hu⟩
  obtain ⟨au, cu, hv2, hm2, hc2, hl2⟩ := h2.same hw
  rcases Nat.eq_zero_or_pos us.length with hu0 | hup
  · have e0 : us = [] := List.eq_nil_of_length_eq_zero hu0
    subst e0
    have hr := run_append_zero (P := Try.prog) (w := w) w1.heap.size 23 o.type 26 i 2 Try.underlying23 hi _ _ _ hown au cu
    have hx' := hx.trans hv2
    unfold Oper.wp execOp
    simp only [ho, resolve, invoke, builtin, Sem.run_bind, Sem.run_pure, Result.andThen_ok, List.map_toArray, List.map_cons, List.map_nil, hs, hx', List.length_nil, hr]
    refine h _ 1 w ⟨_, 1, rfl, by simp, .inr ⟨G, 0, rfl, fun j hj => ?_⟩, hall w hw⟩ hw (grown_refl _ _)
    obtain rfl : j = 0 := by simpa using hj
    exact ⟨by rw [show 0 + 0 * 2 = 0 from rfl, World.ownsRow.cellAt hown 0 (by omega)]; rfl, by rw [show 0 + 0 * 2 + 1 = 1 from rfl, World.ownsRow.cellAt hown 1 (by omega)]; rfl⟩
  rcases hc2 with rfl | ⟨b, off, rfl, hc2⟩
  · simp at hup
  have hx' := hx.trans hv2
  refine wp_append_lies w s x 23 ho w1.heap.size 26 i (.agg #[.slice none 0 0, .slice none 0 0]) 2 48 Try.underlying23 hi hz0 hz1 hz2 rfl (by decide) _ 1 [x0, y0] hs hown ⟨b, off, none⟩ us.length cu (flatS us) hx' (flatS_len us) ?_ ?_ hup ?_ ?_ hw.size w.heap.size rfl ?_
  · intro j u hu
    have hj : j < us.length * 2 := by
      rcases Nat.lt_or_ge j (flatS us).length with h3 | h3
      · rwa [flatS_len] at h3
      · rw [List.getElem?_eq_none h3] at hu; cases hu
    have he : (⟨b, off, none⟩ : Addr).add j = ⟨b, off + j, none⟩ := by
      unfold Addr.add
      split
      · next h0 => rw [h0]; rfl
      · rfl
    rw [he]
    have hi2 : j / 2 < us.length := by omega
    have hcc := hc2 (j / 2) (by rw [List.length_map]; exact hi2)
    simp only [List.getElem_map] at hcc
    obtain ⟨f1, f2⟩ := flatS_at us (j / 2) hi2
    rcases Nat.mod_two_eq_zero_or_one j with hm | hm
    · have e : j = j / 2 * 2 := by omega
      rw [e] at hu
      rw [f1] at hu
      cases hu
      rw [show off + j = off + j / 2 * 2 by omega]
      exact hcc.1
    · have e : j = j / 2 * 2 + 1 := by omega
      rw [e] at hu
      rw [f2] at hu
      cases hu
      rw [show off + j = off + j / 2 * 2 + 1 by omega]
      exact hcc.2
  · intro u hu
    have : ∀ us : List SetR, (∀ u ∈ us, LinX w (.agg #[u.1.1, u.1.2]) u.2.1 u.2.2) → ∀ z ∈ flatS us, z.oneCell' = true := by
      intro us
      induction us with
      | nil => intro _ z hz; simp [flatS] at hz
      | cons u us ih =>
        intro hl z hz
        have h3 := linX_one (hl u (by simp))
        simp only [flatS, List.mem_cons] at hz
        rcases hz with rfl | rfl | hz
        · exact h3.1
        · exact h3.2
        · exact ih (fun v hv => hl v (by simp [hv])) z hz
    exact this us hl2 u hu
  · unfold maxLen; omega
  · omega
  · intro g cap w' k1 k2 k3 _
    have hn : 1 + us.length = us.length + 1 := by omega
    rw [hn] at k1 ⊢
    refine h _ cap w' ⟨_, cap, rfl, by simp; omega, .inr ⟨g, 0, rfl, fun j hj => ?_⟩, hall w' (gfin w' k2)⟩ (gfin w' k2) k2
    have hj' : j < us.length + 1 := by simpa using hj
    have ha := World.ownsRow.cellAt k1 (j * 2) (by omega)
    have hb := World.ownsRow.cellAt k1 (j * 2 + 1) (by omega)
    rw [show 0 + j * 2 = j * 2 by omega]
    have hf := flatS_at (((x0, y0), (b0, q0)) :: us) j (by simpa using hj')
    have he : ([x0, y0] ++ flatS us) = flatS (((x0, y0), (b0, q0)) :: us) := rfl
    rw [he] at ha hb
    rw [ha, hb]
    simp only [List.getElem_map]
    exact hf
theorem step_app_sets {ops : Array Oper} {o : Oper} {a : Act} {w w1 : World} {K : Act → World → Prop} {Q : Exit → Act → World → Prop} {E : Prop} (hgd : o.guard = none) (s x : Operand)
    (ho : o.op = .call { callee := .builtin .append, args := #[s, x], argTypes := #[23, 23] }) (G : Nat) (x0 y0 : Value) (hs : a.eval s = .slice (some ⟨G, 0, none⟩) 1 1)
    (hown : w.ownsRow w1.heap.size 26 2 (.slice (some ⟨G, 0, none⟩) 1 1) 1 [x0, y0]) (hw : w1.grownBy w none) (hG : w1.heap.size ≤ G) (b0 : List Int) (q0 : List Row) (h0 : LinX w1 (.agg #[x0, y0]) b0 q0) (hq0 : q0.length ≤ 20)
    (v2 : Value) (us : List SetR) (hx : a.eval x = v2) (h2 : SetsI w1 v2 us) (h20 : us.length ≤ 12) (hq : ∀ u ∈ us, u.2.2.length ≤ 20)
    (h : ∀ a' c' w', SetsX w' (.slice a' (us.length + 1) c') (((x0, y0), (b0, q0)) :: us) → w1.grownBy w' none → w.grownBy w' (some G) → K (a.put o.dst (.slice a' (us.length + 1) c')) w') : if Region.wanted o (yielded ops a.tmps) = true then Oper.wp Try.prog o a w K Q else E := by
  have hw' : Region.wanted o (yielded ops a.tmps) = true := by simp [Region.wanted, hgd]
  rw [if_pos hw']
  exact wp_app_sets s x ho G x0 y0 hs hown hw hG b0 q0 h0 hq0 v2 us hx h2 h20 hq h
end Go.Proofs.Ytoaoheblaidhmaa

namespace Go.Proofs.Ytoaoheblaidhmaa
open Go.RowKit
set_option linter.unusedVariables false

/-- A world that has grown out of w. -/
structure Later (w : World) where
  to : World
  grown : w.grownBy to none

instance laterIs (w : World) : Nonempty (Later w) := ⟨⟨w, grown_refl w none⟩⟩
/-- A region that asks the tape, walked in the order of the text, each operation in every world grown out of the first. -/
theorem wp_region_later {id : Nat} {Q : Exit → Act → World → Prop} {a : Act} {w : World} {l : List Oper} (hm : Try.prog.follows .mixedOrders = true) (hB : Region.lexB .any l.toArray = true)
    (h : wpQuiet Try.prog l.toArray (fun w' => ∃ x : Later w, w' = x.to) (fun a' => ∀ w', (∃ x : Later w, w' = x.to) → Q .normal a' w') l a) : (Code.region id l.toArray true).wp Try.prog Q a w :=
  wp_region_quiet (C := fun w' => ∃ x : Later w, w' = x.to) hm hB ⟨⟨{ w with drawn := w.drawn + 1 }, grown_drew w none⟩, rfl⟩ (by simpa using h)

theorem Calls.later {f : FuncId} {args : Array Value} {w : World} {x : Later w} {v : Value} (h : Calls Try.prog f args x.to fun e w' => e = .returned v ∧ x.to.grownBy w' none) :
    Calls Try.prog f args x.to fun e w'' => e = .returned v ∧ ∃ y : Later w, w'' = y.to :=
  h.mono fun _ w' ⟨he, hg⟩ => ⟨he, ⟨w', grown_trans x.grown hg⟩, rfl⟩

end Go.Proofs.Ytoaoheblaidhmaa
