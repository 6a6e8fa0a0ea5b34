/- The sanity check of the laws of stage 36. -/
import Derived.Test.YtelpkcndbcfaiaaIu
namespace Go.Proofs.Ytelpkcndbcfaiaa
open Go.RowKit
set_option linter.unusedVariables false
/-- v is the system all. -/
def AllW (w : World) (v : Value) : Prop := ∃ ls, SysG w v ls ∧ ls.map Prod.snd = all3
theorem AllW.same {w w' : World} {v : Value} (h : AllW w v) (g : w.grownBy w' none) : AllW w' v := by
  obtain ⟨ls, h1, h2⟩ := h
  exact ⟨ls, h1.same g, h2⟩
theorem all_good {ls : List ArcP} (h : ls.map Prod.snd = all3) : goodS ls = true := by
  match ls, h with
  | [(v, l)], h =>
    simp only [List.map_cons, List.map_nil, all3, List.cons.injEq, and_true] at h
    subst h
    rfl
theorem allW_of {w : World} {e : Ending} {w' : World} (h : AllR w e w') : ∃ v, e = .returned v ∧ ∃ u, v = u ∧ AllW w' u ∧ w.grownBy w' none := by
  obtain ⟨a, cap, ls, rfl, hb, hm, hg⟩ := h
  exact ⟨_, rfl, _, rfl, ⟨ls, ⟨⟨_, rfl, hb.sys⟩, all_good hm⟩, hm⟩, hg⟩
/-- What the operations around a call of Simulates leave. -/
def SimA (vo : Value) (r : Bool) (i : Nat) (v : Value) (w : World) : Prop :=
  match i with
  | 0 => v = vo
  | 1 => AllW w v
  | 2 => v = .tuple #[.bool r, .int .i64 0]
  | 3 => v = .tuple #[.bool r, .int .i64 0]
  | 4 => v = .bool r
  | 5 => v = .int .i64 0
  | 6 => v = .bool r
  | 7 => v = .int .i64 0
  | _ => True
theorem SimA.mono {vo : Value} {r : Bool} (i : Nat) (v : Value) (w w' : World) (g : w.grownBy w' none) (h : SimA vo r i v w) : SimA vo r i v w' := by
  unfold SimA at *
  split at h <;> first
    | exact h
    | exact AllW.same h g
/-- What the operations around a call of Simulates leave. -/
def SimB (vo : Value) (r : Bool) (i : Nat) (v : Value) (w : World) : Prop :=
  match i with
  | 0 => AllW w v
  | 1 => v = vo
  | 2 => v = .tuple #[.bool r, .int .i64 0]
  | 3 => v = .tuple #[.bool r, .int .i64 0]
  | 4 => v = .bool r
  | 5 => v = .int .i64 0
  | 6 => v = .bool r
  | 7 => v = .int .i64 0
  | _ => True
theorem SimB.mono {vo : Value} {r : Bool} (i : Nat) (v : Value) (w w' : World) (g : w.grownBy w' none) (h : SimB vo r i v w) : SimB vo r i v w' := by
  unfold SimB at *
  split at h <;> first
    | exact h
    | exact AllW.same h g
/-- What the operations around the call of Trace leave. -/
def TraV (vo : Value) (i : Nat) (v : Value) (w : World) : Prop :=
  match i with
  | 0 => AllW w v
  | 1 => v = vo
  | 2 => ∃ u, v = .tuple #[u, .bool true, .int .i64 0] ∧ IntsR w u [0]
  | 3 => ∃ u, v = .tuple #[u, .bool true, .int .i64 0] ∧ IntsR w u [0]
  | 4 => IntsR w v [0]
  | 5 => v = .bool true
  | 6 => v = .int .i64 0
  | 7 => IntsR w v [0]
  | 8 => v = .bool true
  | 9 => v = .int .i64 0
  | _ => True
theorem TraV.mono {vo : Value} (i : Nat) (v : Value) (w w' : World) (g : w.grownBy w' none) (h : TraV vo i v w) : TraV vo i v w' := by
  unfold TraV at *
  split at h <;> first
    | exact h
    | exact AllW.same h g
    | exact IntsR.same h g
    | (obtain ⟨u, h1, h2⟩ := h; exact ⟨u, h1, h2.same g⟩)
def one2 : Sys := [[(1, 1)], []]
theorem gr_one : grB one2 all3 = true := grB_iff.2 (gr_all (by decide) 0)
theorem gr_not : grB all3 one2 = false := by
  cases h : grB all3 one2 with
  | false => rfl
  | true =>
    obtain ⟨q, hq, e, -⟩ := gr_sim all3 one2 0 0 (by decide) (by decide) (grB_iff.1 h) (0, 0) (by decide)
    have : q = (1, 1) := by simpa [arcsOf, one2] using hq
    subst this
    cases e
theorem all_lab {x : Int} (h : accB all3 [x] = true) : x = 0 ∨ x = 1 ∨ x = 2 := by
  rw [acc_iff] at h
  obtain ⟨j, hj⟩ := ne_bit h
  obtain ⟨y, hy, h1, p, hp, e, -⟩ := beh_bit.1 (show (behN all3 1 x).testBit j = true from hj)
  have hy0 : y = 0 := by simp [all3] at hy; omega
  subst hy0
  have hp2 : p = (0, 0) ∨ p = (1, 0) ∨ p = (2, 0) := by simpa [arcsOf, all3] using hp
  rcases hp2 with rfl | rfl | rfl
  · exact .inl e.symm
  · exact .inr (.inl e.symm)
  · exact .inr (.inr e.symm)
theorem tr_sane {L : List Int} {ok : Bool} (h : TrR all3 one2 3 L ok) : L = [0] ∧ ok = true := by
  rcases h with ⟨hok, -, h1, h2, h3⟩ | ⟨-, -, h3⟩
  · refine ⟨?_, hok⟩
    have hw := h3 [0] (by decide +kernel) (by decide +kernel)
    match L, h1, h2, hw with
    | [], _, h2, _ => exact absurd h2 (by decide +kernel)
    | [x], h1, _, hw =>
      have hx : ¬ (0 : Int) < x := fun hx => hw (.inr ⟨rfl, .inl hx⟩)
      have hx0 : x = 0 := by rcases all_lab h1 with h | h | h <;> omega
      rw [hx0]
    | x :: y :: l, _, _, hw => exact absurd (.inl (by simp)) hw
  · have := h3 [0] (by decide) (by decide +kernel)
    exact absurd this (by decide +kernel)
set_option maxRecDepth 100000 in
set_option maxHeartbeats 4000000 in
theorem awake36_any (w : World) : Calls Try.prog 9 #[] w fun e w' => e = .returned (.bool true) ∧ w.grownBy w' none := by
  obtain ⟨H, hH⟩ : ∃ H, w.heap.size = H := ⟨_, rfl⟩
  go_enter Try.func9, Try.ntmps9
  go_wp2_with fail
  obtain ⟨w3, hw3⟩ : ∃ w3, w3 = (((w.alloc (.cells #[.int .i64 1, .int .i64 1] 61)).alloc (.cells #[.slice (some ⟨H, 0, none⟩) 1 1, .slice none 0 0] 59)).alloc (.cells #[.slice (some ⟨H + 1, 0, none⟩) 2 2] 25)) := ⟨_, rfl⟩
  have hg3 : w.grownBy w3 none := by rw [hw3]; exact grown_aft2 (grown_aft2 (World.grownBy_alloc _ _ _))
  have b0 : w3.heap[H]? = some (.cells #[.int .i64 1, .int .i64 1] 61 (0, 0)) := by rw [hw3]; exact heap_old _ (heap_old _ (heap_new _ hH.symm))
  have b1 : w3.heap[H + 1]? = some (.cells #[.slice (some ⟨H, 0, none⟩) 1 1, .slice none 0 0] 59 (0, 0)) := by rw [hw3]; exact heap_old _ (heap_new _ (by show _ = (w.heap.push _).size; simp [hH]))
  have b2 : w3.heap[H + 1 + 1]? = some (.cells #[.slice (some ⟨H + 1, 0, none⟩) 2 2] 25 (0, 0)) := by rw [hw3]; exact heap_new _ (by show _ = ((w.heap.push _).push _).size; simp [hH])
  have HC : Hid (w3.cell? ⟨H + 1 + 1, 0, none⟩ = some (.slice (some ⟨H + 1, 0, none⟩) 2 2)) := Lib.hid (by unfold World.cell?; dsimp only; rw [b2]; rfl)
  obtain ⟨lo, hlo⟩ : ∃ lo : List ArcP, lo = [(.slice (some ⟨H, 0, none⟩) 1 1, [(1, 1)]), (.slice none 0 0, [])] := ⟨_, rfl⟩
  have HONE : Hid (SysG w3 (.agg #[.slice (some ⟨H + 1, 0, none⟩) 2 2]) lo) := Lib.hid (by
    rw [hlo]
    refine ⟨⟨_, rfl, some ⟨H + 1, 0, none⟩, 2, rfl, by show 2 ≤ maxLen; unfold maxLen; omega, .inr ⟨H + 1, 0, rfl, fun i hi => ?_⟩, fun q hq => ?_⟩, rfl⟩
    · have hi2 : i = 0 ∨ i = 1 := by simp at hi; omega
      unfold World.cell?
      dsimp only
      rw [b1]
      rcases hi2 with rfl | rfl <;> rfl
    · simp only [List.mem_cons, List.not_mem_nil, or_false] at hq
      rcases hq with rfl | rfl
      · refine ⟨some ⟨H, 0, none⟩, 1, rfl, by show 1 ≤ maxLen; unfold maxLen; omega, .inr ⟨H, 0, rfl, fun i hi => ?_⟩⟩
        obtain rfl : i = 0 := by simp at hi; omega
        unfold World.cell?
        dsimp only
        rw [b0]
        exact ⟨rfl, rfl⟩
      · exact ⟨none, 0, rfl, Nat.zero_le _, .inl rfl⟩)
  have HLO : Hid (lo.map Prod.snd = one2) := Lib.hid (by rw [hlo]; rfl)
  have HLN : Hid (lo.length ≤ 6) := Lib.hid (by rw [hlo]; show 2 ≤ 6; omega)
  have HG3 := Lib.hid hg3
  rw [← hw3]
  clear hw3 hg3 b0 b1 b2 hH hlo
  refine wp_told (SimA (.agg #[.slice (some ⟨H + 1, 0, none⟩) 2 2]) true) (by kernel_rfl) (by kernel_rfl) SimA.mono ?_ ?_
  · refine ⟨?_, ?_, ?_, ?_, ?_, ?_, ?_, ?_, trivial⟩
    · intro x wt hx hg hd
      have e0 : x.eval (.tmp 1) = .pointer (some ⟨H + 1 + 1, 0, none⟩) := (hx.eval (s := 1) (by decide)).trans rfl
      have c0 := hg.cell HC.out (by simp)
      refine .inl ⟨wanted_noI rfl, ?_⟩
      unfold Oper.wp
      simp only [execOp, e0]
      go_simp
      exact ⟨_, rfl, rfl, grown_refl _ _⟩
    · intro x wt hx hg hd
      exact .inl ⟨wanted_noI rfl, oper_callI 15 16 _ _ _ _ _ _ Try.f16 _ Try.func16 (by kernel_rfl) rfl [] rfl _ (all_any wt) (fun e w4 hh => by obtain ⟨aa, cc, ls, rfl, hb, hm, hg2⟩ := hh; exact ⟨_, rfl, _, rfl, ⟨ls, ⟨⟨_, rfl, hb.sys⟩, all_good hm⟩, hm⟩, hg2⟩)⟩
    · intro x wt hx hg hd
      have e1 : x.eval (.tmp 14) = (.agg #[.slice (some ⟨H + 1, 0, none⟩) 2 2]) := hd 0 (by decide) 14 rfl
      obtain ⟨la, hla, hma⟩ : AllW wt (x.eval (.tmp 15)) := hd 1 (by decide) 15 rfl
      obtain ⟨va, hva⟩ : ∃ va, x.eval (.tmp 15) = va := ⟨_, rfl⟩
      rw [hva] at hla
      refine .inl ⟨wanted_noI rfl, oper_callI 16 25 _ _ _ _ _ _ Try.f25 _ Try.func25 (by kernel_rfl) rfl [(.agg #[.slice (some ⟨H + 1, 0, none⟩) 2 2]), va] (by simp only [List.map_cons, List.map_nil]; rw [e1, hva]) _ (simulates_any (.agg #[.slice (some ⟨H + 1, 0, none⟩) 2 2]) va lo la wt (HONE.out.same hg) hla) (fun e w4 hh => ⟨_, hh.1, _, rfl, ?_, hh.2⟩)⟩
      (show Value.tuple #[.bool (grB (lo.map Prod.snd) (la.map Prod.snd)), .int .i64 0] = _; rw [hma, HLO.out, gr_one])
    · intro x wt hx hg hd
      have e0 : x.eval (.tmp 16) = .tuple #[.bool true, .int .i64 0] := hd 2 (by decide) 16 rfl
      refine .inl ⟨wanted_noI rfl, ?_⟩
      unfold Oper.wp
      simp only [execOp, e0]
      go_simp
      exact ⟨_, rfl, rfl, grown_refl _ _⟩
    · intro x wt hx hg hd
      have e0 : x.eval (.tmp 13) = .tuple #[.bool true, .int .i64 0] := hd 3 (by decide) 13 rfl
      refine .inl ⟨wanted_noI rfl, ?_⟩
      unfold Oper.wp
      simp only [execOp, e0]
      go_simp
      exact ⟨_, rfl, rfl, grown_refl _ _⟩
    · intro x wt hx hg hd
      have e0 : x.eval (.tmp 13) = .tuple #[.bool true, .int .i64 0] := hd 3 (by decide) 13 rfl
      refine .inl ⟨wanted_noI rfl, ?_⟩
      unfold Oper.wp
      simp only [execOp, e0]
      go_simp
      exact ⟨_, rfl, rfl, grown_refl _ _⟩
    · intro x wt hx hg hd
      have e0 : x.eval (.tmp 17) = .bool true := hd 4 (by decide) 17 rfl
      refine .inl ⟨wanted_noI rfl, ?_⟩
      unfold Oper.wp
      simp only [execOp, e0]
      go_simp
      exact ⟨_, rfl, rfl, grown_refl _ _⟩
    · intro x wt hx hg hd
      have e0 : x.eval (.tmp 18) = .int .i64 0 := hd 5 (by decide) 18 rfl
      refine .inl ⟨wanted_noI rfl, ?_⟩
      unfold Oper.wp
      simp only [execOp, e0]
      go_simp
      exact ⟨_, rfl, rfl, grown_refl _ _⟩
  intro vs w4 g4 hv
  have e6 : vs 6 = .bool true := hv 6 2 rfl
  have e7 : vs 7 = .int .i64 0 := hv 7 3 rfl
  simp only [putAll, Nat.reduceAdd, e6, e7]
  have HG4 := Lib.hid (grown_trans HG3.out g4)
  have HC4 := Lib.hid (g4.cell HC.out (by simp))
  have HO4 := Lib.hid (HONE.out.same g4)
  clear hv e6 e7 g4 HC HONE
  go_simp
  go_wp2_with fail
  refine wp_told (SimB (.agg #[.slice (some ⟨H + 1, 0, none⟩) 2 2]) false) (by kernel_rfl) (by kernel_rfl) SimB.mono ?_ ?_
  · refine ⟨?_, ?_, ?_, ?_, ?_, ?_, ?_, ?_, trivial⟩
    · intro x wt hx hg hd
      exact .inl ⟨wanted_noI rfl, oper_callI 20 16 _ _ _ _ _ _ Try.f16 _ Try.func16 (by kernel_rfl) rfl [] rfl _ (all_any wt) (fun e w4 hh => by obtain ⟨aa, cc, ls, rfl, hb, hm, hg2⟩ := hh; exact ⟨_, rfl, _, rfl, ⟨ls, ⟨⟨_, rfl, hb.sys⟩, all_good hm⟩, hm⟩, hg2⟩)⟩
    · intro x wt hx hg hd
      have e0 : x.eval (.tmp 1) = .pointer (some ⟨H + 1 + 1, 0, none⟩) := (hx.eval (s := 1) (by decide)).trans rfl
      have c0 := hg.cell HC4.out (by simp)
      refine .inl ⟨wanted_noI rfl, ?_⟩
      unfold Oper.wp
      simp only [execOp, e0]
      go_simp
      exact ⟨_, rfl, rfl, grown_refl _ _⟩
    · intro x wt hx hg hd
      have e1 : x.eval (.tmp 21) = (.agg #[.slice (some ⟨H + 1, 0, none⟩) 2 2]) := hd 1 (by decide) 21 rfl
      obtain ⟨la, hla, hma⟩ : AllW wt (x.eval (.tmp 20)) := hd 0 (by decide) 20 rfl
      obtain ⟨va, hva⟩ : ∃ va, x.eval (.tmp 20) = va := ⟨_, rfl⟩
      rw [hva] at hla
      refine .inl ⟨wanted_noI rfl, oper_callI 22 25 _ _ _ _ _ _ Try.f25 _ Try.func25 (by kernel_rfl) rfl [va, (.agg #[.slice (some ⟨H + 1, 0, none⟩) 2 2])] (by simp only [List.map_cons, List.map_nil]; rw [e1, hva]) _ (simulates_any va (.agg #[.slice (some ⟨H + 1, 0, none⟩) 2 2]) la lo wt hla (HO4.out.same hg)) (fun e w4 hh => ⟨_, hh.1, _, rfl, ?_, hh.2⟩)⟩
      (show Value.tuple #[.bool (grB (la.map Prod.snd) (lo.map Prod.snd)), .int .i64 0] = _; rw [hma, HLO.out, gr_not])
    · intro x wt hx hg hd
      have e0 : x.eval (.tmp 22) = .tuple #[.bool false, .int .i64 0] := hd 2 (by decide) 22 rfl
      refine .inl ⟨wanted_noI rfl, ?_⟩
      unfold Oper.wp
      simp only [execOp, e0]
      go_simp
      exact ⟨_, rfl, rfl, grown_refl _ _⟩
    · intro x wt hx hg hd
      have e0 : x.eval (.tmp 19) = .tuple #[.bool false, .int .i64 0] := hd 3 (by decide) 19 rfl
      refine .inl ⟨wanted_noI rfl, ?_⟩
      unfold Oper.wp
      simp only [execOp, e0]
      go_simp
      exact ⟨_, rfl, rfl, grown_refl _ _⟩
    · intro x wt hx hg hd
      have e0 : x.eval (.tmp 19) = .tuple #[.bool false, .int .i64 0] := hd 3 (by decide) 19 rfl
      refine .inl ⟨wanted_noI rfl, ?_⟩
      unfold Oper.wp
      simp only [execOp, e0]
      go_simp
      exact ⟨_, rfl, rfl, grown_refl _ _⟩
    · intro x wt hx hg hd
      have e0 : x.eval (.tmp 23) = .bool false := hd 4 (by decide) 23 rfl
      refine .inl ⟨wanted_noI rfl, ?_⟩
      unfold Oper.wp
      simp only [execOp, e0]
      go_simp
      exact ⟨_, rfl, rfl, grown_refl _ _⟩
    · intro x wt hx hg hd
      have e0 : x.eval (.tmp 24) = .int .i64 0 := hd 5 (by decide) 24 rfl
      refine .inl ⟨wanted_noI rfl, ?_⟩
      unfold Oper.wp
      simp only [execOp, e0]
      go_simp
      exact ⟨_, rfl, rfl, grown_refl _ _⟩
  intro vs w5 g5 hv
  have e6 : vs 6 = .bool false := hv 6 4 rfl
  have e7 : vs 7 = .int .i64 0 := hv 7 5 rfl
  simp only [putAll, Nat.reduceAdd, e6, e7]
  have HG5 := Lib.hid (grown_trans HG4.out g5)
  have HC5 := Lib.hid (g5.cell HC4.out (by simp))
  have HO5 := Lib.hid (HO4.out.same g5)
  clear hv e6 e7 g5 HC4 HO4
  go_simp
  go_wp2_with fail
  refine wp_told (TraV (.agg #[.slice (some ⟨H + 1, 0, none⟩) 2 2])) (by kernel_rfl) (by kernel_rfl) TraV.mono ?_ ?_
  · refine ⟨?_, ?_, ?_, ?_, ?_, ?_, ?_, ?_, ?_, ?_, trivial⟩
    · intro x wt hx hg hd
      exact .inl ⟨wanted_noI rfl, oper_callI 26 16 _ _ _ _ _ _ Try.f16 _ Try.func16 (by kernel_rfl) rfl [] rfl _ (all_any wt) (fun e w4 hh => by obtain ⟨aa, cc, ls, rfl, hb, hm, hg2⟩ := hh; exact ⟨_, rfl, _, rfl, ⟨ls, ⟨⟨_, rfl, hb.sys⟩, all_good hm⟩, hm⟩, hg2⟩)⟩
    · intro x wt hx hg hd
      have e0 : x.eval (.tmp 1) = .pointer (some ⟨H + 1 + 1, 0, none⟩) := (hx.eval (s := 1) (by decide)).trans rfl
      have c0 := hg.cell HC5.out (by simp)
      refine .inl ⟨wanted_noI rfl, ?_⟩
      unfold Oper.wp
      simp only [execOp, e0]
      go_simp
      exact ⟨_, rfl, rfl, grown_refl _ _⟩
    · intro x wt hx hg hd
      have e1 : x.eval (.tmp 27) = .agg #[.slice (some ⟨H + 1, 0, none⟩) 2 2] := hd 1 (by decide) 27 rfl
      obtain ⟨la, hla, hma⟩ : AllW wt (x.eval (.tmp 26)) := hd 0 (by decide) 26 rfl
      obtain ⟨va, hva⟩ : ∃ va, x.eval (.tmp 26) = va := ⟨_, rfl⟩
      rw [hva] at hla
      have hll : la.length ≤ 6 := by
        have := congrArg List.length hma
        rw [List.length_map] at this
        rw [this]
        decide
      have hlb : ∀ q ∈ la, ∀ p ∈ q.2, IntB p.1 := fun q hq p hp => by
        have h1 : q.2 ∈ all3 := by rw [← hma]; exact List.mem_map.2 ⟨q, hq, rfl⟩
        have h2 : q.2 = [(0, 0), (1, 0), (2, 0)] := by simpa [all3] using h1
        rw [h2] at hp
        simp only [List.mem_cons, List.not_mem_nil, or_false] at hp
        rcases hp with rfl | rfl | rfl <;> (unfold IntB; constructor <;> decide)
      refine .inl ⟨wanted_noI rfl, oper_callI 28 29 _ _ _ _ _ _ Try.f29 _ Try.func29 (by kernel_rfl) rfl [va, .agg #[.slice (some ⟨H + 1, 0, none⟩) 2 2], .int .i64 ((3 : Nat) : Int)] (by simp only [List.map_cons, List.map_nil]; rw [e1, hva]; rfl) _ (trace_any va _ la lo 3 wt hla (HO5.out.same hg) (by omega) hll HLN.out hlb) (fun e w4 hh => ?_)⟩
      obtain ⟨v, L, ok, rfl, hI, hT, hg2⟩ := hh
      rw [hma, HLO.out] at hT
      obtain ⟨rfl, rfl⟩ := tr_sane hT
      exact ⟨_, rfl, _, rfl, ⟨v, rfl, hI⟩, hg2⟩
    · intro x wt hx hg hd
      obtain ⟨u, e0, hu⟩ : ∃ u, x.eval (.tmp 28) = .tuple #[u, .bool true, .int .i64 0] ∧ IntsR wt u [0] := hd 2 (by decide) 28 rfl
      refine .inl ⟨wanted_noI rfl, ?_⟩
      unfold Oper.wp
      simp only [execOp, e0]
      go_simp
      exact ⟨_, rfl, ⟨u, rfl, hu⟩, grown_refl _ _⟩
    · intro x wt hx hg hd
      obtain ⟨u, e0, hu⟩ : ∃ u, x.eval (.tmp 25) = .tuple #[u, .bool true, .int .i64 0] ∧ IntsR wt u [0] := hd 3 (by decide) 25 rfl
      refine .inl ⟨wanted_noI rfl, ?_⟩
      unfold Oper.wp
      simp only [execOp, e0]
      go_simp
      exact ⟨_, rfl, hu, grown_refl _ _⟩
    · intro x wt hx hg hd
      obtain ⟨u, e0, hu⟩ : ∃ u, x.eval (.tmp 25) = .tuple #[u, .bool true, .int .i64 0] ∧ IntsR wt u [0] := hd 3 (by decide) 25 rfl
      refine .inl ⟨wanted_noI rfl, ?_⟩
      unfold Oper.wp
      simp only [execOp, e0]
      go_simp
      exact ⟨_, rfl, rfl, grown_refl _ _⟩
    · intro x wt hx hg hd
      obtain ⟨u, e0, hu⟩ : ∃ u, x.eval (.tmp 25) = .tuple #[u, .bool true, .int .i64 0] ∧ IntsR wt u [0] := hd 3 (by decide) 25 rfl
      refine .inl ⟨wanted_noI rfl, ?_⟩
      unfold Oper.wp
      simp only [execOp, e0]
      go_simp
      exact ⟨_, rfl, rfl, grown_refl _ _⟩
    · intro x wt hx hg hd
      have e0 : IntsR wt (x.eval (.tmp 29)) [0] := hd 4 (by decide) 29 rfl
      obtain ⟨u, hu⟩ : ∃ u, x.eval (.tmp 29) = u := ⟨_, rfl⟩
      rw [hu] at e0
      refine .inl ⟨wanted_noI rfl, ?_⟩
      unfold Oper.wp
      simp only [execOp, hu]
      go_simp
      exact ⟨_, rfl, e0, grown_refl _ _⟩
    · intro x wt hx hg hd
      have e0 : x.eval (.tmp 30) = .bool true := hd 5 (by decide) 30 rfl
      refine .inl ⟨wanted_noI rfl, ?_⟩
      unfold Oper.wp
      simp only [execOp, e0]
      go_simp
      exact ⟨_, rfl, rfl, grown_refl _ _⟩
    · intro x wt hx hg hd
      have e0 : x.eval (.tmp 31) = .int .i64 0 := hd 6 (by decide) 31 rfl
      refine .inl ⟨wanted_noI rfl, ?_⟩
      unfold Oper.wp
      simp only [execOp, e0]
      go_simp
      exact ⟨_, rfl, rfl, grown_refl _ _⟩
  intro vs w6 g6 hv
  have e7 : IntsR w6 (vs 7) [0] := hv 7 6 rfl
  have e8 : vs 8 = .bool true := hv 8 7 rfl
  have e9 : vs 9 = .int .i64 0 := hv 9 8 rfl
  obtain ⟨ta, tc, hva, -, hcl⟩ := e7
  have hcl2 : ∃ b off, ta = some ⟨b, off, none⟩ ∧ w6.cell? ⟨b, off, none⟩ = some (.int .i64 0) := by
    rcases hcl with h0 | ⟨b, off, e, h⟩
    · cases h0
    · exact ⟨b, off, e, h 0 (by decide)⟩
  obtain ⟨tb, to, rfl, t0⟩ := hcl2
  have hva2 : vs 7 = .slice (some ⟨tb, to, none⟩) 1 tc := hva
  simp only [putAll, Nat.reduceAdd, hva2, e8, e9]
  have HG6 := Lib.hid (grown_trans HG5.out g6)
  have HC6 := Lib.hid (g6.cell HC5.out (by simp))
  have HO6 := Lib.hid (HO5.out.same g6)
  have c6 := HC6.out
  clear hv e8 e9 g6 HC5 HO5 hva hva2 hcl
  go_simp
  go_wp2_with fail
  have HO8 : Hid (lo.length ≤ 8) := Lib.hid (by have := HLN.out; omega)
  have A1 : Hid (accB (lo.map Prod.snd) [1] = true) := Lib.hid (by rw [HLO.out]; decide +kernel)
  have A2 : Hid (accB (lo.map Prod.snd) [1, 1] = false) := Lib.hid (by rw [HLO.out]; decide +kernel)
  refine (accepts_any _ _ lo [1] _ (HO6.out.same (World.grownBy_alloc _ _ none)) HO8.out ⟨_, 1, rfl, by show 1 ≤ maxLen; unfold maxLen; omega, .inr ⟨w6.heap.size, 0, rfl, fun i hi => ?_⟩⟩).mono ?_
  · obtain rfl : i = 0 := by simp at hi; omega
    unfold World.cell?
    dsimp only
    rw [heap_new _ rfl]
    rfl
  rintro e w7 ⟨rfl, hg7⟩
  rw [A1.out]
  have HG7 := Lib.hid (grown_trans (World.grownBy_alloc _ _ none) hg7)
  have c7 := HG7.out.cell HC6.out (by simp)
  clear hg7 c6
  go_wp2_with fail
  refine (accepts_any _ _ lo [1, 1] _ ((HO6.out.same HG7.out).same (World.grownBy_alloc _ _ none)) HO8.out ⟨_, 2, rfl, by show 2 ≤ maxLen; unfold maxLen; omega, .inr ⟨w7.heap.size, 0, rfl, fun i hi => ?_⟩⟩).mono ?_
  · have hi2 : i = 0 ∨ i = 1 := by simp at hi; omega
    unfold World.cell?
    dsimp only
    rw [heap_new _ rfl]
    rcases hi2 with rfl | rfl <;> rfl
  rintro e w8 ⟨rfl, hg8⟩
  rw [A2.out]
  have HG8 := Lib.hid (grown_trans HG6.out (grown_trans HG7.out (grown_trans (World.grownBy_alloc _ _ none) hg8)))
  clear hg8 c7
  go_wp2_with fail
  go_ret
  exact ⟨rfl, HG8.out⟩
end Go.Proofs.Ytelpkcndbcfaiaa
