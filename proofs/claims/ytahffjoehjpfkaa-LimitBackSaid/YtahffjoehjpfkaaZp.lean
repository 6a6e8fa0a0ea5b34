/- limit: the deck's vectors, and what the laws share. -/
import Derived.Test.YtahffjoehjpfkaaZo
import Derived.Test.YtahffjoehjpfkaaGw
import Derived.Maps.RangeWalk
namespace Go.Proofs.Ytahffjoehjpfkaa
open Go.RowKit
set_option linter.unusedVariables false

/-- In every later world, whatever the deck deals. -/
def Ev (d : Nat) (P : World → Prop) (w : World) : Prop := ∀ w', w.grownBy w' (some d) → P w'
theorem Ev.at {d : Nat} {P : World → Prop} {w : World} (h : Ev d P w) : P w := h w (World.grownBy.refl w _)
theorem Ev.deal {d : Nat} {P : World → Prop} {w w' : World} (h : Ev d P w) (g : w.grownBy w' (some d)) : Ev d P w' := fun w2 g2 => h w2 (grown_trans g g2)
theorem Ev.step {d : Nat} {P : World → Prop} {w w' : World} (h : Ev d P w) (g : w.grownBy w' none) : Ev d P w' := h.deal (g.but _)
theorem Ev.on {d : Nat} {P : World → Prop} {w w' : World} (h : Ev d P w) (g : w.grownBy w' none) : P w' := h w' (g.but _)
theorem ev_rows {w : World} {d base : Nat} {v : Value} {qs : List Row} (h : RowsP w v qs) (hn : NewR base v qs) (hd : d < base) : Ev d (fun W => RowsP W v qs) w := fun W g => by
  obtain ⟨a, cap, rfl, hl, hc, hr⟩ := h
  refine ⟨a, cap, rfl, hl, ?_, fun q hq => (hr q hq).kept g (by rintro k ⟨⟩ e; have := hn.2 q hq _ e; omega)⟩
  rcases hc with hc | ⟨b, off, rfl, hc⟩
  · exact .inl hc
  · refine .inr ⟨b, off, rfl, fun i hi => g.cell (hc i hi) (by intro e; have := hn.1 b rfl; simp only [Option.some.injEq] at e; omega)⟩
theorem newR_own {w : World} {base : Nat} {v : Value} {qs : List Row} (h : OwnP w base v qs) (hr : ∀ q ∈ qs, ∀ g, q.1.ownBlock = some g → base ≤ g) : NewR base v qs := ⟨fun g hg => (h.fresh g hg).1, hr⟩
theorem ownP_deal {w w' : World} {d base : Nat} {v : Value} {qs : List Row} (h : OwnP w base v qs) (hr : ∀ q ∈ qs, ∀ g, q.1.ownBlock = some g → base ≤ g) (hd : d < base) (g : w.grownBy w' (some d)) : OwnP w' base v qs := by
  refine ⟨World.ownsRow.kept h.1 g ?_, fun q hq => ⟨(h.2 q hq).1.kept g (by rintro k ⟨⟩ e; have := hr q hq _ e; omega), (h.2 q hq).2⟩⟩
  cases hv : v.ownBlock with
  | none => exact .inl rfl
  | some k => exact .inr (fun e => by simp only [Option.some.injEq] at e; have := (h.fresh k hv).1; omega)
theorem elem_valid {xs : List Int} (hl : xs.length ≤ 6) (h : ∀ x ∈ xs, Elem x) : validB xs = true := by
  unfold validB
  simp only [Bool.and_eq_true, decide_eq_true_eq, List.all_eq_true]
  refine ⟨hl, fun x hx => ?_⟩
  have := h x hx
  unfold Elem at this
  unfold elemB numB
  simp only [Bool.or_eq_true, beq_iff_eq, Bool.and_eq_true, decide_eq_true_eq]
  omega
def VecsTo (n : Nat) (most : Int) (w0 w : World) (p : Value) (d : Nat) (e : Ending) (w' : World) : Prop :=
  ∃ v ps, e = .returned v ∧ Ev d (fun W => RowsP W v ps) w' ∧ Good v ∧ (ps.length : Int) ≤ most ∧ (∀ q ∈ ps, q.2.length = n ∧ validB q.2 = true) ∧ St w0 w' p d ∧ w.grownBy w' (some d)
set_option maxRecDepth 20000 in
set_option maxHeartbeats 2000000 in
theorem vectors_ev {w0 w : World} {p : Value} {d : Nat} (h : St w0 w p d) (n : Nat) (most : Int) (hn : n ≤ 6) (h0 : 0 ≤ most) (h1 : most ≤ 20) :
    Calls Try.prog 20 #[p, .int .i64 n, .int .i64 most, .bool true] w (VecsTo n most w0 w p d) := by
  have HS := Lib.hid h; have hlt := h.lt
  have HN := Lib.hid hn
  have i0 : IntKind.i64.wrap (most + 1) = most + 1 := IntWalk.i64_in _ (by omega)
  clear h
  go_enter Try.func20, Try.ntmps20
  go_wp2_with fail
  refine (next_st HS.out (most + 1) (by omega) (by omega)).mono ?_
  rintro e w1 ⟨y, rfl, hy0, hy1, hs, hg⟩
  obtain ⟨k0, rfl⟩ : ∃ k : Nat, y = (k : Int) := ⟨y.toNat, by omega⟩
  have HS1 := Lib.hid hs; have HG1 := Lib.hid hg
  have O1 : Hid (OwnP w1 w.heap.size (.slice none 0 0) []) := Lib.hid (OwnP.nil _ _)
  clear hs hg i0
  go_wp2_with fail
  go_loopw [10, 9] (fun i lv wr => ∃ (k : Nat) (al : Option Addr) (cl : Nat) (qs : List Row), i = .int .i64 k ∧ lv = .slice al qs.length cl ∧ (qs.length : Int) + k ≤ most ∧ Hid (OwnP wr w.heap.size (.slice al qs.length cl) qs ∧ (∀ q ∈ qs, ∀ g, q.1.ownBlock = some g → w.heap.size ≤ g) ∧ ∀ q ∈ qs, q.2.length = n ∧ validB q.2 = true) ∧ Hid (St w0 wr p d) ∧ Hid (w.grownBy wr (some d))) (fun i _ _ => (intOf i).toNat)
  case atStart => exact ⟨k0, none, 0, [], rfl, rfl, by simp; omega, Lib.hid ⟨O1.out, by simp, by simp⟩, HS1, HG1⟩
  case round =>
    clear O1 HS1 HG1
    obtain ⟨k, al, cl, qs, rfl, rfl, hk, hq, hs, hg⟩ := hrel
    by_cases hk0 : 0 < k
    · obtain ⟨j, rfl⟩ : ∃ j, k = j + 1 := ⟨k - 1, by omega⟩
      have g1 : (0 : Int) < ((j + 1 : Nat) : Int) := by omega
      have i1 : IntKind.i64.wrap (((j + 1 : Nat) : Int) - 1) = (j : Int) := by rw [show ((j + 1 : Nat) : Int) - 1 = j by omega]; exact IntWalk.i64_in _ (by omega)
      have i2 : IntKind.i64.wrap ((j : Int) + 1 - 1) = (j : Int) := by rw [show (j : Int) + 1 - 1 = j by omega]; exact IntWalk.i64_in _ (by omega)
      go_wp2_with fail
      refine (vector_true p d n _ hs.out.1 (by have := HN.out; omega)).mono ?_
      rintro e w5 ⟨gv, xs, rfl, hxl, hxe, ho5, hd5, hg5⟩
      have hxl' : xs.length = n := by simpa using hxl
      have R5 := Lib.hid (ho5.row (elem_bd hxe)); have F5 := Lib.hid ho5.fresh; have HS5 := Lib.hid (hs.out.deal hd5 hg5); have G5 := Lib.hid hg5
      have V5 : Hid (xs.length = n ∧ validB xs = true) := Lib.hid ⟨hxl', elem_valid (by rw [hxl']; exact HN.out) hxe⟩
      have O5 : Hid (OwnP w5 w.heap.size (.slice al qs.length cl) qs) := Lib.hid (ownP_deal hq.out.1 hq.out.2.1 hlt hg5)
      have HSZ : Hid (w.heap.size ≤ (w5.alloc (.cells #[gv] 22)).heap.size) := Lib.hid (Nat.le_trans hg.out.size (Nat.le_trans hg5.size (World.grownBy_alloc w5 _ none).size))
      obtain ⟨ag, cg, rfl⟩ := ownI_sl' ho5
      clear ho5 hd5 hg5 hxe hxl hxl'
      have HFAR : Hid (∀ z, Value.ownBlock (.slice ag xs.length cg) = some z → Value.ownBlock (.slice al qs.length cl) ≠ some z) := Lib.hid (fun z hz e => by
        have h6 := (F5.out z hz).1
        have h7 := (hq.out.1.fresh z e).2
        omega)
      go_wp2_with (at_builtin; refine app_row_at rfl _ _ rfl w.heap.size _ qs rfl (O5.out.same (World.grownBy_alloc _ _ none)) w5.heap.size (.slice ag xs.length cg, xs) rfl (by rw [World.cell?, heap_new _ rfl]; rfl) (R5.out.same (World.grownBy_alloc _ _ none)) HFAR.out (by omega) HSZ.out ?_)
      intro a6 n6 c6 w6 hn6 ho6 hg6 hfr6
      have O6 := Lib.hid ho6
      have G6 : Hid (w5.grownBy w6 none ∨ True) := Lib.hid (.inr trivial)
      have hgx : w.grownBy w6 (some d) := grown_then (grown_trans hg.out (grown_trans G5.out ((World.grownBy_alloc w5 _ none).but _))) hg6 (fun z hz => .inl (O5.out.fresh z hz).1)
      have GX := Lib.hid hgx
      have HS6 : Hid (St w0 w6 p d) := Lib.hid (by
        have h7 := HS5.out.step (World.grownBy_alloc w5 (.cells #[.slice ag xs.length cg] 22) none)
        refine ⟨h7.1.kept hg6 (fun z hz => ?_), grown_then h7.2.1 hg6 (fun z hz => .inl ?_), h7.2.2⟩
        · have := (O5.out.fresh z hz).1; omega
        · have := (O5.out.fresh z hz).1; have := HS.out.2.1.size; omega)
      have hn6' : n6 = qs.length + 1 := hn6.trans (by simp)
      subst hn6'
      clear ho6 hg6 hn6 hfr6 hgx G6
      go_wp2_with fail
      go_roundw
      case rel => exact ⟨j, a6, c6, qs ++ [(.slice ag xs.length cg, xs)], by first | rfl | go_num, by simp, by simp; omega, Lib.hid ⟨by simpa using O6.out, fun q hq' g hg' => by
        rcases List.mem_append.1 hq' with h6 | h6
        · exact hq.out.2.1 q h6 g hg'
        · rw [List.mem_singleton.1 h6] at hg'; exact Nat.le_trans hg.out.size (F5.out g hg').1, fun q hq' => by
        rcases List.mem_append.1 hq' with h6 | h6
        · exact hq.out.2.2 q h6
        · rw [List.mem_singleton.1 h6]; exact V5.out⟩, HS6, GX⟩
      case measure => (simp [intOf]; try omega)
    · obtain rfl : k = 0 := by omega
      have g1 : ¬ (0 : Int) < (((0 : Nat) : Int)) := by omega
      have HM : Hid ((qs.length : Int) ≤ most) := Lib.hid (by omega)
      go_wp2_with fail
      go_ret
      exact ⟨_, qs, rfl, ev_rows hq.out.1.rows (newR_own hq.out.1 hq.out.2.1) hlt, hq.out.1.good1, HM.out, hq.out.2.2, hs.out, hg.out⟩
end Go.Proofs.Ytahffjoehjpfkaa
