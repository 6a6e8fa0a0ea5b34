/- Finite systems in memory; arcs searched by a closure; Check. -/
import Derived.Test.YtelpkcndbcfaiaaIa
import Derived.Test.YtelpkcndbcfaiaaRows
import Derived.Test.YtelpkcndbcfaiaaGo
import Derived.Lib.Walk
import Derived.Lib.Slices
import Derived.Deep.RegionHeld3
namespace Go.Proofs.Ytelpkcndbcfaiaa
open Go.RowKit
set_option linter.unusedVariables false
/-- v reads as a list of arcs. -/
def ArcsR (w : World) (v : Value) (l : List Ar) : Prop := ∃ a cap, v = .slice a l.length cap ∧ l.length ≤ maxLen ∧
  (l = [] ∨ ∃ b off, a = some ⟨b, off, none⟩ ∧ ∀ i, i < l.length → w.cell? ⟨b, off + i * 2, none⟩ = (l[i]?.map (fun p => Value.int .i64 p.1)) ∧ w.cell? ⟨b, off + i * 2 + 1, none⟩ = (l[i]?.map (fun p => Value.int .i64 p.2)))
theorem ArcsR.kept {w w' : World} {v : Value} {l : List Ar} {row : Option Nat} (h : ArcsR w v l) (g : w.grownBy w' row) (hr : ∀ k, row = some k → v.ownBlock ≠ some k) : ArcsR w' v l := by
  obtain ⟨a, cap, rfl, hl, hc⟩ := h
  refine ⟨a, cap, rfl, hl, ?_⟩
  rcases hc with hc | ⟨b, off, rfl, hc⟩
  · exact .inl hc
  · refine .inr ⟨b, off, rfl, fun i hi => ?_⟩
    obtain ⟨h1, h2⟩ := hc i hi
    rw [List.getElem?_eq_getElem hi] at h1 h2 ⊢
    have hn : some b ≠ row := fun e => hr b e.symm rfl
    exact ⟨g.cell h1 hn, g.cell h2 hn⟩
theorem ArcsR.same {w w' : World} {v : Value} {l : List Ar} (h : ArcsR w v l) (g : w.grownBy w' none) : ArcsR w' v l := h.kept g (by simp)
theorem ArcsR.at {w : World} {v : Value} {l : List Ar} (h : ArcsR w v l) {k : Nat} (hk : k < l.length) :
    ∃ b off cap, v = .slice (some ⟨b, off, none⟩) l.length cap ∧ w.cell? ⟨b, off + k * 2, none⟩ = some (.int .i64 l[k].1) ∧ w.cell? ⟨b, off + k * 2 + 1, none⟩ = some (.int .i64 l[k].2) := by
  obtain ⟨a, cap, rfl, -, hc⟩ := h
  rcases hc with rfl | ⟨b, off, rfl, hc⟩
  · simp at hk
  · obtain ⟨h1, h2⟩ := hc k hk
    rw [List.getElem?_eq_getElem hk] at h1 h2
    exact ⟨b, off, cap, rfl, h1, h2⟩
abbrev ArcP := Value × List Ar
/-- v reads as the rows of arcs of a system. -/
def SysL (w : World) (v : Value) (ls : List ArcP) : Prop := ∃ a cap, v = .slice a ls.length cap ∧ ls.length ≤ maxLen ∧
  (ls = [] ∨ ∃ b off, a = some ⟨b, off, none⟩ ∧ ∀ i, i < ls.length → w.cell? ⟨b, off + i, none⟩ = (ls[i]?.map (fun q => q.1))) ∧ ∀ q ∈ ls, ArcsR w q.1 q.2
theorem SysL.same {w w' : World} {v : Value} {ls : List ArcP} (h : SysL w v ls) (g : w.grownBy w' none) : SysL w' v ls := by
  obtain ⟨a, cap, rfl, hl, hc, hr⟩ := h
  refine ⟨a, cap, rfl, hl, ?_, fun q hq => (hr q hq).same g⟩
  rcases hc with hc | ⟨b, off, rfl, hc⟩
  · exact .inl hc
  · refine .inr ⟨b, off, rfl, fun i hi => ?_⟩
    have h1 := hc i hi
    rw [List.getElem?_eq_getElem hi] at h1 ⊢
    exact g.cell h1 (by simp)
theorem SysL.at {w : World} {v : Value} {ls : List ArcP} (h : SysL w v ls) {k : Nat} (hk : k < ls.length) :
    ∃ b off cap, v = .slice (some ⟨b, off, none⟩) ls.length cap ∧ w.cell? ⟨b, off + k, none⟩ = some ls[k].1 ∧ ArcsR w ls[k].1 ls[k].2 := by
  obtain ⟨a, cap, rfl, -, hc, hr⟩ := h
  rcases hc with rfl | ⟨b, off, rfl, hc⟩
  · simp at hk
  · have h1 := hc k hk
    rw [List.getElem?_eq_getElem hk] at h1
    exact ⟨b, off, cap, rfl, h1, hr _ (List.getElem_mem hk)⟩
def IdxA (B : Bool) (w : World) (e : Ending) (w' : World) : Prop := ∃ k : Int, e = .returned (.int .i64 k) ∧ decide (0 ≤ k) = B ∧ w.grownBy w' none
theorem anyA_snoc (P : Ar → Bool) (l : List Ar) (k : Nat) (h : k < l.length) : (l.take (k + 1)).any P = ((l.take k).any P || P l[k]) := by
  rw [List.take_succ_eq_append_getElem h, List.any_append]
  simp only [List.any_cons, List.any_nil, Bool.or_false]
theorem anyA_hit (P : Ar → Bool) (l : List Ar) (k : Nat) (h : k < l.length) (hp : P l[k] = true) : l.any P = true := by
  rw [List.any_eq_true]
  exact ⟨_, List.getElem_mem h, hp⟩
/-- A cell that holds a number. -/
def HeldI (w : World) (c : Nat) (n : Int) : Prop := w.cell? ⟨c, 0, none⟩ = some (.int .i64 n)
theorem HeldI.same {w w' : World} {c : Nat} {n : Int} (h : HeldI w c n) (g : w.grownBy w' none) : HeldI w' c n := g.cell h (by simp)
/-- An arc that leads out. -/
def outB (n : Int) (p : Ar) : Bool := decide (p.2 < 0) || decide (n ≤ p.2)
set_option maxRecDepth 100000 in
theorem pred_out (l t n : Int) (c : Nat) (w : World) (h : HeldI w c n) :
    Calls Try.prog 39 #[.agg #[.int .i64 l, .int .i64 t], .pointer (some ⟨c, 0, none⟩)] w fun e w' => e = .returned (.bool (outB n (l, t))) ∧ w.grownBy w' none := by
  have H : (w.alloc (.cells #[.int .i64 l, .int .i64 t] 61)).cell? ⟨c, 0, none⟩ = some (.int .i64 n) := (World.grownBy_alloc w _ none).cell h (by simp)
  have H' : (w.alloc (.cells #[.int .i64 l, .int .i64 t] 61)).cell? ⟨c, 0, none⟩ = some (.int .i64 n) := (World.grownBy_alloc w _ none).cell h (by simp)
  unfold HeldI at h
  go_enter Try.func39, Try.ntmps39
  by_cases h0 : t < 0
  · go_wp2_with fail
    go_ret
    exact ⟨ret_bool (by unfold outB; simp [h0]), World.grownBy_alloc _ _ none⟩
  · by_cases h1 : n ≤ t
    · go_wp2_with fail
      go_ret
      exact ⟨ret_bool (by unfold outB; simp [h1]), World.grownBy_alloc _ _ none⟩
    · go_wp2_with fail
      go_ret
      exact ⟨ret_bool (by unfold outB; simp [h0, h1]), World.grownBy_alloc _ _ none⟩
set_option maxRecDepth 100000 in
set_option maxHeartbeats 2000000 in
theorem index_out (v : Value) (l : List Ar) (n : Int) (c : Nat) (w : World) (h : ArcsR w v l) (hp : HeldI w c n) :
    Calls Try.prog 59 #[v, .func (.func 39) #[] #[.pointer (some ⟨c, 0, none⟩)]] w (IdxA (l.any (outB n)) w) := by
  have H := Lib.hid h
  have HP := Lib.hid hp
  clear hp
  obtain ⟨a, cap, rfl, hl, -⟩ := h
  unfold maxLen at hl
  go_enter Try.func59, Try.ntmps59
  go_wp2_with fail
  go_loopw [8] (fun i wr => ∃ k : Nat, k ≤ l.length ∧ i = .int .i64 k ∧ Hid ((l.take k).any (outB n) = false) ∧ Hid (w.grownBy wr none)) (fun i _ => l.length - (intOf i).toNat)
  case atStart => exact ⟨0, Nat.zero_le _, rfl, Lib.hid (by simp), Lib.hid (grown_refl _ _)⟩
  case round =>
    obtain ⟨k, hk, rfl, hn, hg⟩ := hrel
    by_cases hlt : k < l.length
    · obtain ⟨b, off, cap', hv, c1, c2⟩ := (H.out.same hg.out).at hlt
      simp only [Value.slice.injEq] at hv
      obtain ⟨rfl, -, rfl⟩ := hv
      have HM := Lib.hid (List.getElem_mem hlt)
      have HS := Lib.hid (anyA_snoc (outB n) l k hlt)
      have HT := Lib.hid (anyA_hit (outB n) l k hlt)
      have HC := Lib.hid (HP.out.same hg.out)
      have h1 : (k : Int) < (l.length : Int) := by omega
      generalize (l[k]) = q at *
      obtain ⟨ql, qt⟩ := q
      dsimp only at c1 c2
      go_wp2_with fail
      refine (pred_out ql qt n c _ HC.out).mono ?_
      rintro e w1 ⟨rfl, hg1⟩
      have HG := Lib.hid (grown_trans hg.out hg1)
      clear hg1
      cases hb : ((outB n) (ql, qt))
      · rw [hb] at HS
        go_wp2_with fail
        go_roundw
        case rel => exact ⟨k + 1, by omega, by go_num, Lib.hid (by rw [HS.out, hn.out]; rfl), HG⟩
        case measure => simp [intOf]; omega
      · go_wp2_with fail
        go_ret
        exact ⟨k, rfl, by rw [HT.out hb]; simp, HG.out⟩
    · have hne : (l.any (outB n)) = false := by have := hn.out; rwa [List.take_of_length_le (by omega)] at this
      have HN := Lib.hid hne
      clear hne
      go_wp2_with fail
      go_ret
      exact ⟨-1, rfl, by rw [HN.out]; rfl, hg.out⟩
set_option maxRecDepth 100000 in
theorem has_out (v : Value) (l : List Ar) (n : Int) (c : Nat) (w : World) (h : ArcsR w v l) (hp : HeldI w c n) :
    Calls Try.prog 38 #[v, .func (.func 39) #[] #[.pointer (some ⟨c, 0, none⟩)]] w fun e w' => e = .returned (.bool (l.any (outB n))) ∧ w.grownBy w' none := by
  have H := Lib.hid h
  have HP := Lib.hid hp
  clear hp
  obtain ⟨a, cap, rfl, hl, -⟩ := h
  go_enter Try.func38, Try.ntmps38
  go_wp2_with fail
  refine (index_out (l := l) (w := w) (h := H.out) (hp := HP.out)).mono ?_
  rintro e w' ⟨k, rfl, hk, hg⟩
  have HK := Lib.hid hk; have HG := Lib.hid hg
  clear hk hg
  go_wp2_with fail
  go_ret
  exact ⟨ret_bool HK.out, HG.out⟩
end Go.Proofs.Ytelpkcndbcfaiaa
