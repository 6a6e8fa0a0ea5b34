/- Matchings and covers. -/
import Derived.Test.YtnppmemcdcgjhaaHl
namespace Go.Proofs.Ytnppmemcdcgjhaa
open Go.RowKit
set_option linter.unusedVariables false

def NuToC (T : List (List Bool)) (w : World) (e : Ending) (w' : World) : Prop := ∃ n : Nat, e = .returned (.int .i64 (n : Int)) ∧ Nu T n ∧ (∃ O, MostI T T.length O n) ∧ w.grownBy w' none
set_option maxRecDepth 100000 in
set_option maxHeartbeats 1000000 in
theorem mostC_any (vt : Value) (ps : List BRow) (w : World) (ht : BRowsP w vt ps) (hf : Few12 ps) :
    Calls Try.prog 48 #[vt] w (NuToC (ps.map Prod.snd) w) := by
  have HT := Lib.hid ht; have HF := Lib.hid hf
  obtain ⟨a, cap, rfl, -, -, -⟩ := ht
  have hl12 : ps.length ≤ 12 := hf.1
  have HTL : Hid ((ps.map Prod.snd).length = ps.length) := Lib.hid (by simp)
  clear hf
  go_enter Try.func48, Try.ntmps48
  go_wp2_with fail
  generalize hwb : World.alloc _ _ = wb
  have hA : ArrO wb w.heap.size (List.replicate 12 0) := by rw [← hwb]; exact ⟨rfl, heap_new _ rfl⟩
  have hg : w.grownBy wb none := by rw [← hwb]; exact World.grownBy_alloc _ _ none
  have HA := Lib.hid hA; have HG := Lib.hid hg
  clear hwb hA hg
  go_loopw [4, 9] (fun nv i wr => ∃ (k n : Nat) (O : List Nat), i = .int .i64 k ∧ nv = .int .i64 n ∧ k ≤ ps.length ∧ n ≤ k ∧ Hid (MostI (ps.map Prod.snd) k O n) ∧ Hid (ArrO wr w.heap.size O) ∧ Hid (w.grownBy wr none)) (fun _ i _ => ps.length - (intOf i).toNat)
  case atStart => exact ⟨0, 0, _, rfl, rfl, Nat.zero_le _, Nat.le_refl _, Lib.hid (most_start _), HA, HG⟩
  case round =>
    obtain ⟨k, n, O, rfl, rfl, hk, hn, hI, hA, hG⟩ := hrel
    by_cases hkb : k < ps.length
    · have h1 : (k : Int) < (ps.length : Int) := by omega
      have i1 : IntKind.i64.wrap ((k : Int) + 1) = (k : Int) + 1 := IntWalk.i64_in _ (by omega)
      have i2 : IntKind.i64.wrap ((n : Int) + 1) = (n : Int) + 1 := IntWalk.i64_in _ (by omega)
      go_wp2_with fail
      refine (augment_any _ ps w w.heap.size wr.heap.size HT.out HF.out.1 HF.out.2 _ k O (List.replicate 12 false) _ rfl hkb hI.out.pre ⟨grown_trans hG.out (World.grownBy_alloc _ _ none), ⟨hA.out.1, heap_old _ hA.out.2⟩, ⟨rfl, heap_new _ rfl⟩, Nat.le_refl _, hG.out.size, Nat.ne_of_lt (Array.getElem?_eq_some_iff.1 hA.out.2).1⟩).mono ?_
      rintro e w1 ⟨O1, S1, ha1, (⟨rfl, hw⟩ | ⟨rfl, rfl, hl⟩)⟩
      · have HI2 := Lib.hid (hI.out.win hw); have HA2 := Lib.hid ha1.o; have HG2 := Lib.hid ha1.g
        clear ha1 hw
        go_wp2_with fail
        go_roundw
        case rel => exact ⟨k + 1, n + 1, O1, by go_num, by go_num, by omega, by omega, HI2, HA2, HG2⟩
        case measure => simp [intOf]; omega
      · have HI2 := Lib.hid (hI.out.lose hl (fun r j hj => (HF.out.tb hj).2)); have HA2 := Lib.hid ha1.o; have HG2 := Lib.hid ha1.g
        clear ha1 hl
        go_wp2_with fail
        go_roundw
        case rel => exact ⟨k + 1, n, O1, by go_num, rfl, by omega, by omega, HI2, HA2, HG2⟩
        case measure => simp [intOf]; omega
    · obtain rfl : k = ps.length := by omega
      have h1 : ¬ (ps.length : Int) < (ps.length : Int) := by omega
      go_wp2_with fail
      go_ret
      have h2 := hI.out
      rw [← HTL.out] at h2
      exact ⟨n, rfl, h2.nu (fun r j hj => (HF.out.tb hj).1), ⟨O, h2⟩, hG.out⟩

def MostToC (T : List (List Bool)) (w : World) (e : Ending) (w' : World) : Prop := ∃ n : Nat, e = .returned (.tuple #[.int .i64 (n : Int), .bool true]) ∧ Nu T n ∧ (∃ O, MostI T T.length O n) ∧ w.grownBy w' none
set_option maxRecDepth 100000 in
theorem MostC_any (vt : Value) (ps : List BRow) (w : World) (ht : BRowsP w vt ps) (hv : validT (ps.map Prod.snd) = true) :
    Calls Try.prog 20 #[vt] w (MostToC (ps.map Prod.snd) w) := by
  have HT := Lib.hid ht; have HF := Lib.hid (validT_few hv)
  obtain ⟨a, cap, rfl, -, -, -⟩ := ht
  go_enter Try.func20, Try.ntmps20
  go_wp2_with fail
  refine (Valid_any _ ps _ HT.out).mono ?_
  rintro e w1 ⟨rfl, hw1⟩
  rw [hw1, hv]
  clear hw1 w1 hv
  go_wp2_with fail
  refine (mostC_any _ ps _ HT.out HF.out).mono ?_
  rintro e w2 ⟨n, rfl, hn, hc, hg⟩
  have HN := Lib.hid hn; have HC := Lib.hid hc; have HG := Lib.hid hg
  clear hn hc hg
  go_wp2_with fail
  go_ret2
  exact ⟨n, rfl, HN.out, HC.out, HG.out⟩

def seesB (T : List (List Bool)) (s rows c : Nat) : Bool := (List.range rows).any (fun r => s.testBit r && tb T r c)
def szB (s rows : Nat) : Nat := ((List.range rows).filter (fun r => s.testBit r)).length
def snB (T : List (List Bool)) (s rows cols : Nat) : Nat := ((List.range cols).filter (seesB T s rows)).length
theorem seesB_iff {T : List (List Bool)} {s rows c : Nat} : seesB T s rows c = true ↔ ∃ r, r < rows ∧ s.testBit r = true ∧ tb T r c = true := by
  unfold seesB
  simp [List.any_eq_true]
theorem filter_split {α : Type} (p : α → Bool) : ∀ l : List α, (l.filter p).length + (l.filter (fun a => !p a)).length = l.length
  | [] => rfl
  | x :: l => by
    have := filter_split p l
    cases h : p x <;> simp [h] <;> omega
open Classical in
theorem koenig_le {T : List (List Bool)} {M : List (Nat × Nat)} {cols : Nat} (hM : IsM T M) (hc : ∀ r j, tb T r j = true → j < cols) (s : Nat) : szB s T.length + M.length ≤ snB T s T.length cols + T.length := by
  let mb : Nat → Bool := fun r => (M.map Prod.fst).contains r
  have hmb : ∀ r, mb r = true → ∃ p ∈ M, p.1 = r := fun r hr => by
    have := List.contains_iff_mem.1 hr
    obtain ⟨p, hp, e⟩ := List.mem_map.1 this
    exact ⟨p, hp, e⟩
  let f : Nat → Nat × Nat := fun r => if h : ∃ p ∈ M, p.1 = r then (0, h.choose.2) else (1, r)
  have hf1 : ∀ r, (∃ p ∈ M, p.1 = r) → ∃ p ∈ M, p.1 = r ∧ f r = (0, p.2) := fun r h => ⟨h.choose, h.choose_spec.1, h.choose_spec.2, by show (if h : ∃ p ∈ M, p.1 = r then (0, h.choose.2) else (1, r)) = _; rw [dif_pos h]⟩
  have hf2 : ∀ r, (¬ ∃ p ∈ M, p.1 = r) → f r = (1, r) := fun r h => by show (if h : ∃ p ∈ M, p.1 = r then (0, h.choose.2) else (1, r)) = _; rw [dif_neg h]
  have hU : ((List.range T.length).filter mb).length + ((List.range T.length).filter (fun a => !mb a)).length = T.length := by
    rw [filter_split]; simp
  have hMm : M.length ≤ ((List.range T.length).filter mb).length := by
    have := len_le_of_sub hM.fst (k := (List.range T.length).filter mb) (fun x hx => by
      rw [List.mem_filter, List.mem_range]
      obtain ⟨p, hp, rfl⟩ := List.mem_map.1 hx
      exact ⟨tb_lt0 (hM.edge p hp), List.contains_iff_mem.2 (List.mem_map_of_mem hp)⟩)
    simpa using this
  have hS : (((List.range T.length).filter (fun r => s.testBit r)).map f).Nodup := by
    refine nodup_map_on (nodup_filter _ List.nodup_range) (fun a ha b hb e => ?_)
    by_cases h1 : ∃ p ∈ M, p.1 = a
    · obtain ⟨p, hp, e1, e2⟩ := hf1 a h1
      by_cases h2 : ∃ p ∈ M, p.1 = b
      · obtain ⟨q, hq, e3, e4⟩ := hf1 b h2
        rw [e2, e4] at e
        simp only [Prod.mk.injEq, true_and] at e
        have := inj_of_nodup hM.snd p hp q hq e
        rw [← e1, ← e3, this]
      · rw [e2, hf2 b h2] at e
        simp at e
    · rw [hf2 a h1] at e
      by_cases h2 : ∃ p ∈ M, p.1 = b
      · obtain ⟨q, hq, e3, e4⟩ := hf1 b h2
        rw [e4] at e
        simp at e
      · rw [hf2 b h2] at e
        simpa using e
  have := len_le_of_sub hS (k := ((List.range cols).filter (seesB T s T.length)).map (fun c => (0, c)) ++ ((List.range T.length).filter (fun a => !mb a)).map (fun r => (1, r))) (fun x hx => by
    obtain ⟨r, hr, rfl⟩ := List.mem_map.1 hx
    rw [List.mem_filter, List.mem_range] at hr
    rw [List.mem_append]
    by_cases h1 : ∃ p ∈ M, p.1 = r
    · obtain ⟨p, hp, e1, e2⟩ := hf1 r h1
      rw [e2]
      refine .inl (List.mem_map.2 ⟨p.2, ?_, rfl⟩)
      rw [List.mem_filter, List.mem_range]
      have he := hM.edge p hp
      exact ⟨hc _ _ he, seesB_iff.2 ⟨r, hr.1, hr.2, by rw [← e1]; exact he⟩⟩
    · rw [hf2 r h1]
      refine .inr (List.mem_map.2 ⟨r, ?_, rfl⟩)
      rw [List.mem_filter, List.mem_range]
      refine ⟨hr.1, ?_⟩
      cases e : mb r
      · rfl
      · exact absurd (hmb r e) h1)
  rw [List.length_append, List.length_map, List.length_map, List.length_map] at this
  unfold szB snB
  omega
/-- A set of rows as a number. -/
def enc : Nat → (Nat → Bool) → Nat
  | 0, _ => 0
  | k + 1, f => (if f 0 then 1 else 0) + 2 * enc k (fun i => f (i + 1))
theorem enc_lt : ∀ (k : Nat) (f : Nat → Bool), enc k f < 2 ^ k
  | 0, f => by simp [enc]
  | k + 1, f => by
    have := enc_lt k (fun i => f (i + 1))
    unfold enc
    rw [Nat.pow_succ]
    split <;> omega
theorem enc_bit : ∀ (k : Nat) (f : Nat → Bool) (i : Nat), i < k → (enc k f).testBit i = f i
  | 0, f, i, h => by omega
  | k + 1, f, 0, _ => by
    unfold enc
    rw [Nat.testBit_zero]
    cases f 0 <;> simp <;> omega
  | k + 1, f, i + 1, h => by
    have := enc_bit k (fun i => f (i + 1)) i (by omega)
    unfold enc
    rw [Nat.testBit_add_one]
    have e : ((if f 0 = true then 1 else 0) + 2 * enc k (fun i => f (i + 1))) / 2 = enc k (fun i => f (i + 1)) := by split <;> omega
    rw [e, this]
open Classical in
theorem koenig_at {T : List (List Bool)} {O : List Nat} {n : Nat} (h : MostI T T.length O n) (cols : Nat) : ∃ s, s < 2 ^ T.length ∧ snB T s T.length cols + T.length ≤ szB s T.length + n := by
  obtain ⟨D, C, hs, h1, h2⟩ := h.shut
  refine ⟨enc T.length (fun r => decide (D r)), enc_lt _ _, ?_⟩
  have hb : ∀ r, r < T.length → (enc T.length (fun r => decide (D r))).testBit r = decide (D r) := fun r hr => enc_bit _ _ r hr
  generalize enc T.length (fun r => decide (D r)) = s at *
  have hC : ∀ c, seesB T s T.length c = true → C c := fun c hc => by
    obtain ⟨r, hr, hr2, hr3⟩ := seesB_iff.1 hc
    rw [hb r hr] at hr2
    exact hs.1 r (of_decide_eq_true hr2) c hr3
  have hU : ((List.range T.length).filter (mt O)).length + ((List.range T.length).filter (fun a => !mt O a)).length = T.length := by
    rw [filter_split]; simp
  rw [h.cnt] at hU
  have hn : (((List.range cols).filter (seesB T s T.length)).map (fun c => ow O c - 1) ++ (List.range T.length).filter (fun a => !mt O a)).Nodup := by
    refine List.nodup_append.2 ⟨nodup_map_on (nodup_filter _ List.nodup_range) (fun a ha b hb' e => ?_), nodup_filter _ List.nodup_range, fun a ha b hb' => ?_⟩
    · have c1 := hs.2 a (hC a (List.mem_filter.1 ha).2)
      have c2 := hs.2 b (hC b (List.mem_filter.1 hb').2)
      exact h.inj a b c1.1 (by have := c1.1; have := c2.1; omega)
    · rintro rfl
      obtain ⟨c, hc, e⟩ := List.mem_map.1 ha
      have c1 := hs.2 c (hC c (List.mem_filter.1 hc).2)
      have : mt O a = true := mt_iff.2 ⟨c, by have := c1.1; omega⟩
      have h3 := (List.mem_filter.1 hb').2
      rw [this] at h3
      cases h3
  have := len_le_of_sub hn (k := (List.range T.length).filter (fun r => s.testBit r)) (fun x hx => by
    rw [List.mem_filter, List.mem_range]
    rcases List.mem_append.1 hx with hx | hx
    · obtain ⟨c, hc, rfl⟩ := List.mem_map.1 hx
      have c1 := hs.2 c (hC c (List.mem_filter.1 hc).2)
      have hlt := h1 _ c1.2
      exact ⟨hlt, by rw [hb _ hlt]; exact decide_eq_true c1.2⟩
    · rw [List.mem_filter, List.mem_range] at hx
      have : mt O x = false := by simpa using hx.2
      exact ⟨hx.1, by rw [hb _ hx.1]; exact decide_eq_true (h2 x hx.1 this)⟩)
  rw [List.length_append, List.length_map] at this
  unfold szB snB
  omega

end Go.Proofs.Ytnppmemcdcgjhaa
