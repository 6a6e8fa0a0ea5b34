/- Trees in memory; count, compare. -/
import Derived.Test.YtnppmemcdcgjhaaKa
import Derived.Test.YtnppmemcdcgjhaaGl
import Derived.Test.YtnppmemcdcgjhaaGd
import Derived.StillTailTactics
import Derived.Deep.RegionHeld3
namespace Go.Proofs.Ytnppmemcdcgjhaa
open Go.RowKit Tr
set_option linter.unusedVariables false

/-- The value y is the list of the kids of the tree t; its blocks meet P. -/
inductive TrK (P : Nat → Prop) (w : World) : Value → Tr → Prop
  | mk (l : Int) (ks : List Tr) (a : Option Addr) (cap : Nat) (ys : Nat → Value)
    (hl : -9223372036854775808 ≤ l ∧ l ≤ 9223372036854775807) (hn : ks.length ≤ cap) (hm : cap ≤ maxLen) (ha : a = none → cap = 0)
    (hc : ∀ i (h : i < ks.length), ∃ b off, a = some ⟨b, off, none⟩ ∧ P b ∧ w.cell? ⟨b, off + i * 2, none⟩ = some (.int .i64 ks[i].label) ∧ w.cell? ⟨b, off + i * 2 + 1, none⟩ = some (ys i))
    (hk : ∀ i (h : i < ks.length), TrK P w (ys i) ks[i]) : TrK P w (.slice a ks.length cap) (.node l ks)
theorem TrK.open {P : Nat → Prop} {w : World} {y : Value} {t : Tr} (h : TrK P w y t) :
    ∃ a cap, ∃ ys : Nat → Value, y = .slice a t.kids.length cap ∧ (-9223372036854775808 ≤ t.label ∧ t.label ≤ 9223372036854775807) ∧ t.kids.length ≤ cap ∧ cap ≤ maxLen ∧ (a = none → cap = 0) ∧
      (∀ i (h : i < t.kids.length), ∃ b off, a = some ⟨b, off, none⟩ ∧ P b ∧ w.cell? ⟨b, off + i * 2, none⟩ = some (.int .i64 t.kids[i].label) ∧ w.cell? ⟨b, off + i * 2 + 1, none⟩ = some (ys i)) ∧
      (∀ i (h : i < t.kids.length), TrK P w (ys i) t.kids[i]) := by
  cases h with
  | mk l ks a cap ys hl hn hm ha hc hk => exact ⟨a, cap, ys, rfl, hl, hn, hm, ha, hc, hk⟩
theorem TrK.slice {P : Nat → Prop} {w : World} {y : Value} {t : Tr} (h : TrK P w y t) : ∃ a cap, y = .slice a t.kids.length cap := by
  obtain ⟨a, cap, ys, h, -⟩ := h.open
  exact ⟨a, cap, h⟩
/-- A kid of a tree in memory. -/
theorem TrK.kid {P : Nat → Prop} {w : World} {a : Option Addr} {n cap : Nat} {t : Tr} (h : TrK P w (.slice a n cap) t) {i : Nat} (hi : i < t.kids.length) :
    ∃ b off a2 cap2, a = some ⟨b, off, none⟩ ∧ P b ∧ w.cell? ⟨b, off + i * 2, none⟩ = some (.int .i64 t.kids[i].label) ∧ w.cell? ⟨b, off + i * 2 + 1, none⟩ = some (.slice a2 t.kids[i].kids.length cap2) ∧ TrK P w (.slice a2 t.kids[i].kids.length cap2) t.kids[i] := by
  obtain ⟨a', cap', ys, hv, -, -, -, -, hc, hk⟩ := h.open
  simp only [Value.slice.injEq] at hv
  obtain ⟨rfl, -, rfl⟩ := hv
  obtain ⟨b, off, h1, h2, h3, h4⟩ := hc i hi
  obtain ⟨a2, cap2, hy⟩ := (hk i hi).slice
  have h5 := hk i hi
  rw [hy] at h4 h5
  exact ⟨b, off, a2, cap2, h1, h2, h3, h4, h5⟩
theorem TrK.keep {P : Nat → Prop} {w w' : World} {y : Value} {t : Tr} (h : TrK P w y t) (g : ∀ b o v, P b → w.cell? ⟨b, o, none⟩ = some v → w'.cell? ⟨b, o, none⟩ = some v) : TrK P w' y t := by
  induction h with
  | mk l ks a cap ys hl hn hm ha hc hk ih =>
    refine .mk l ks a cap ys hl hn hm ha (fun i hi => ?_) ih
    obtain ⟨b, off, h1, h2, h3, h4⟩ := hc i hi
    exact ⟨b, off, h1, h2, g _ _ _ h2 h3, g _ _ _ h2 h4⟩
theorem TrK.weak {P Q : Nat → Prop} {w : World} {y : Value} {t : Tr} (h : TrK P w y t) (g : ∀ b, P b → Q b) : TrK Q w y t := by
  induction h with
  | mk l ks a cap ys hl hn hm ha hc hk ih =>
    refine .mk l ks a cap ys hl hn hm ha (fun i hi => ?_) ih
    obtain ⟨b, off, h1, h2, h3⟩ := hc i hi
    exact ⟨b, off, h1, g _ h2, h3⟩
theorem TrK.kept {P : Nat → Prop} {w w' : World} {y : Value} {t : Tr} {row : Option Nat} (h : TrK P w y t) (g : w.grownBy w' row) (hr : ∀ k, row = some k → ¬ P k) : TrK P w' y t :=
  h.keep (fun b o v hb hc => g.cell hc (fun e => hr b e.symm hb))
theorem TrK.same {P : Nat → Prop} {w w' : World} {y : Value} {t : Tr} (h : TrK P w y t) (g : w.grownBy w' none) : TrK P w' y t := h.kept g (by simp)
theorem TrK.bound {P : Nat → Prop} {w : World} {y : Value} {t : Tr} (h : TrK P w y t) : TrK (fun b => P b ∧ b < w.heap.size) w y t := by
  induction h with
  | mk l ks a cap ys hl hn hm ha hc hk ih =>
    refine .mk l ks a cap ys hl hn hm ha (fun i hi => ?_) ih
    obtain ⟨b, off, h1, h2, h3, h4⟩ := hc i hi
    refine ⟨b, off, h1, ⟨h2, ?_⟩, h3, h4⟩
    rcases Nat.lt_or_ge b w.heap.size with h | h
    · exact h
    · have : w.heap[b]? = none := Array.getElem?_eq_none h
      simp [World.cell?, this] at h3

def CntTo (s : Nat) (w : World) (e : Ending) (w' : World) : Prop := ∃ c : Nat, e = .returned (.int .i64 (c : Int)) ∧ 1 ≤ c ∧ c ≤ s ∧ (s ≤ 12 → c = s) ∧ (12 < s → 12 < c) ∧ w.grownBy w' none
theorem take_sz {ks : List Tr} {i : Nat} (h : i < ks.length) : sizeL (ks.take (i + 1)) = sizeL (ks.take i) + size ks[i] := by
  rw [List.take_succ_eq_append_getElem h, sizeL_snoc]
theorem take_szle (ks : List Tr) (i : Nat) : sizeL (ks.take i) ≤ sizeL ks := by
  have := congrArg sizeL (List.take_append_drop i ks)
  rw [sizeL_app] at this
  omega
set_option maxRecDepth 100000 in
set_option maxHeartbeats 1000000 in
theorem count_any {P : Nat → Prop} (t : Tr) : ∀ (y : Value) (w : World), TrK P w y t → size t ≤ 100000 →
    Calls Try.prog 58 #[.agg #[.int .i64 t.label, y]] w (CntTo (size t) w) := by
  induction t using tr_ind with
  | h t ih =>
  intro y w h hsz
  obtain ⟨a, cap, rfl⟩ := h.slice
  have H := Lib.hid h; have IH := Lib.hid ih; have HS := Lib.hid hsz
  have HSE := Lib.hid (size_eq t)
  have hkl : t.kids.length ≤ 100000 := by have := sizeL_len t.kids; rw [size_eq] at hsz; omega
  clear h ih hsz
  go_enter Try.func58, Try.ntmps58
  go_wp2_with fail
  generalize hwb : World.alloc _ _ = wb
  have HG : Hid (w.grownBy wb none) := Lib.hid (by rw [← hwb]; exact World.grownBy_alloc _ _ none)
  clear hwb
  go_loopw [3, 9] (fun n i wr => ∃ (k c : Nat), i = .int .i64 k ∧ n = .int .i64 c ∧ k ≤ t.kids.length ∧ 1 ≤ c ∧ c ≤ 100000 ∧ Hid (c ≤ 1 + sizeL (t.kids.take k)) ∧ Hid (1 + sizeL (t.kids.take k) ≤ 12 → c = 1 + sizeL (t.kids.take k)) ∧ Hid (12 < 1 + sizeL (t.kids.take k) → 12 < c) ∧ Hid (w.grownBy wr none)) (fun _ i _ => t.kids.length - (intOf i).toNat)
  case atStart => exact ⟨0, 1, rfl, rfl, Nat.zero_le _, Nat.le_refl _, by omega, Lib.hid (by simp [sizeL]), Lib.hid (by simp [sizeL]), Lib.hid (by simp [sizeL]), HG⟩
  case round =>
    obtain ⟨k, c, rfl, rfl, hk, hc1, hcm, h1, h2, h3, hG⟩ := hrel
    by_cases hkb : k < t.kids.length
    · have e1 : (k : Int) < (t.kids.length : Int) := by omega
      have i1 : IntKind.i64.wrap ((k : Int) + 1) = (k : Int) + 1 := IntWalk.i64_in _ (by omega)
      obtain ⟨b, off, a2, cap2, rfl, -, c1, c2, hK⟩ := (H.out.same hG.out).kid hkb
      have HK := Lib.hid hK; have HTS := Lib.hid (take_sz hkb); have HTL := Lib.hid (take_szle t.kids (k + 1)); have HKS := Lib.hid (size_kid (List.getElem_mem hkb))
      clear hK
      by_cases hc : c ≤ 12
      · have e2 : ¬ (12 : Int) < (c : Int) := by omega
        have HCE : Hid (c = 1 + sizeL (t.kids.take k)) := Lib.hid (h2.out (by
          rcases Nat.lt_or_ge 12 (1 + sizeL (t.kids.take k)) with h | h
          · have := h3.out h; omega
          · exact h))
        go_wp2_with fail
        refine (IH.out _ HKS.out _ _ (HK.out.same (World.grownBy_alloc _ _ none)) (by have := HS.out; have := HKS.out; omega)).mono ?_
        rintro e w1 ⟨c', rfl, p1, p2, p3, p4, hg⟩
        have P2 := Lib.hid p2; have P3 := Lib.hid p3; have P4 := Lib.hid p4
        have hcc : c + c' ≤ 100000 := by have := HCE.out; have := HTS.out; have := HTL.out; have := HSE.out; have := HS.out; omega
        have HG1 := Lib.hid (grown_trans (grown_trans hG.out (World.grownBy_alloc _ _ none)) hg)
        clear p2 p3 p4 hg c1 c2
        have i2 : IntKind.i64.wrap ((c : Int) + (c' : Int)) = (c : Int) + (c' : Int) := IntWalk.i64_in _ (by omega)
        go_wp2_with fail
        go_roundw
        case rel =>
          refine ⟨k + 1, c + c', by go_num, by go_num, by omega, by omega, hcc, Lib.hid ?_, Lib.hid ?_, Lib.hid ?_, HG1⟩
          · have := HCE.out; have := HTS.out; have := P2.out; omega
          · intro h; have := HCE.out; have := HTS.out; have := P3.out; have := P2.out; omega
          · intro h
            have := HCE.out; have := HTS.out
            rcases Nat.lt_or_ge 12 (size t.kids[k]) with h' | h'
            · have := P4.out h'; omega
            · have := P3.out h'; omega
        case measure => simp [intOf]; omega
      · have e2 : (12 : Int) < (c : Int) := by omega
        go_wp2_with fail
        go_ret
        refine ⟨c, rfl, hc1, ?_, ?_, ?_, grown_trans hG.out (World.grownBy_alloc _ _ none)⟩
        · have := h1.out; have := take_szle t.kids k; have := HSE.out; omega
        · intro h; have := h1.out; have := take_szle t.kids k; have := HSE.out; omega
        · intro _; omega
    · obtain rfl : k = t.kids.length := by omega
      have e1 : ¬ (t.kids.length : Int) < (t.kids.length : Int) := by omega
      go_wp2_with fail
      go_ret
      have h1 := h1.out; have h2 := h2.out; have h3 := h3.out; have hs := HSE.out
      rw [List.take_length] at h1 h2 h3
      exact ⟨c, rfl, hc1, by omega, fun h => by rw [hs, Nat.add_comm]; exact h2 (by omega), fun h => h3 (by omega), hG.out⟩

mutual
def cmpT : Tr → Tr → Int
  | .node l ks, .node m js => if orderI l m ≠ 0 then orderI l m else if orderI ks.length js.length ≠ 0 then orderI ks.length js.length else cmpL ks js
def cmpL : List Tr → List Tr → Int
  | [], _ => 0
  | k :: ks, js => match js with
    | [] => 0
    | j :: js => if cmpT k j ≠ 0 then cmpT k j else cmpL ks js
end
theorem cmpT_eq (s t : Tr) : cmpT s t = if orderI s.label t.label ≠ 0 then orderI s.label t.label else if orderI s.kids.length t.kids.length ≠ 0 then orderI s.kids.length t.kids.length else cmpL s.kids t.kids := by
  cases s; cases t; rw [cmpT]; rfl
theorem cmpL_take : ∀ (ks js : List Tr) (i : Nat), i < ks.length → i < js.length → cmpL (ks.take i) (js.take i) = 0 → cmpL (ks.take (i + 1)) (js.take (i + 1)) = cmpT (ks[i]?.getD (.node 0 [])) (js[i]?.getD (.node 0 []))
  | k :: ks, j :: js, 0, _, _, _ => by
    simp only [List.take_succ_cons, List.take_zero, cmpL, List.getElem?_cons_zero, Option.getD_some]
    split
    · rfl
    · rename_i h; rw [Decidable.not_not] at h; exact h.symm
  | k :: ks, j :: js, i + 1, h1, h2, h => by
    simp only [List.take_succ_cons, cmpL] at h ⊢
    split at h
    · rename_i h3; exact absurd h h3
    · rename_i h3
      rw [if_neg h3]
      simpa using cmpL_take ks js i (by simpa using h1) (by simpa using h2) h
theorem cmpL_at : ∀ (ks js : List Tr) (i : Nat), i < ks.length → i < js.length → cmpL (ks.take i) (js.take i) = 0 → cmpT (ks[i]?.getD (.node 0 [])) (js[i]?.getD (.node 0 [])) ≠ 0 → cmpL ks js = cmpT (ks[i]?.getD (.node 0 [])) (js[i]?.getD (.node 0 []))
  | k :: ks, j :: js, 0, _, _, _, hne => by
    simp only [List.getElem?_cons_zero, Option.getD_some] at hne ⊢
    rw [cmpL, if_pos hne]
  | k :: ks, j :: js, i + 1, h1, h2, h, hne => by
    simp only [List.take_succ_cons, cmpL] at h ⊢
    split at h
    · rename_i h3; exact absurd h h3
    · rename_i h3
      rw [if_neg h3]
      simpa using cmpL_at ks js i (by simpa using h1) (by simpa using h2) h (by simpa using hne)
def CmpTo (c : Int) (w : World) (e : Ending) (w' : World) : Prop := e = .returned (.int .i64 c) ∧ w.grownBy w' none

end Go.Proofs.Ytnppmemcdcgjhaa
