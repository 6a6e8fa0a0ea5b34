/- branch, Proves. -/
import Derived.Test.YtnppmemcdcgjhaaKk
namespace Go.Proofs.Ytnppmemcdcgjhaa
open Go.RowKit Tr
set_option linter.unusedVariables false

/-- Which kid has a number in its subtree; -1 if none. -/
def brL : List Tr → Nat → Int → Nat → Int
  | [], _, _, _ => -1
  | k :: ks, n, y, i => if (n : Int) ≤ y ∧ y < ((n + size k : Nat) : Int) then (i : Int) else brL ks (n + size k) y (i + 1)
theorem brL_step {ks : List Tr} {n κ : Nat} {y : Int} (hκ : κ < ks.length) : brL (ks.drop κ) (n + sizeL (ks.take κ)) y κ = if ((n + sizeL (ks.take κ) : Nat) : Int) ≤ y ∧ y < ((n + sizeL (ks.take κ) + size ks[κ] : Nat) : Int) then (κ : Int) else brL (ks.drop (κ + 1)) (n + sizeL (ks.take (κ + 1))) y (κ + 1) := by
  rw [List.drop_eq_getElem_cons hκ, brL, take_sz hκ, Nat.add_assoc]
set_option maxRecDepth 100000 in
set_option maxHeartbeats 1000000 in
theorem branch_any (t u : Tr) (a1 a2 a3 : Option Addr) (c1 c2 c3 n : Nat) (y : Int) (w : World) (h : FlatV w t (.slice a1 (size t) c1) (.slice a2 (size t) c2) (.slice a3 (size t) c3)) (hu : SegL (pre t) n u) (ht : size t ≤ 12) :
    Calls Try.prog 65 #[.agg #[.slice a1 (size t) c1, .slice a2 (size t) c2, .slice a3 (size t) c3], .int .i64 (n : Int), .int .i64 y] w (CmpTo (brL u.kids (n + 1) y 0) w) := by
  have H := Lib.hid h; have HU := Lib.hid hu
  have hn12 : n + size u ≤ size t := by have := seg_lt hu; rwa [len_pre] at this
  have hu1 := size_pos u
  have hkl : u.kids.length ≤ 12 := by have := sizeL_len u.kids; have := size_eq u; omega
  have HSE := Lib.hid (size_eq u)
  obtain ⟨kb, ko, ka, kc, ha3, hkc, hki⟩ := h.kid (seg_root hu)
  subst ha3
  have HKI := Lib.hid hki
  have hnt : (n : Int) < (size t : Int) := by omega
  have G0 := Lib.hid (World.grownBy_alloc w (.cells #[.slice a1 (size t) c1, .slice a2 (size t) c2, .slice (some ⟨kb, ko, none⟩) (size t) c3] 71) none)
  have HB := Lib.hid (heap_new (w := w) (g := w.heap.size) (.cells #[.slice a1 (size t) c1, .slice a2 (size t) c2, .slice (some ⟨kb, ko, none⟩) (size t) c3] 71) rfl)
  have hkc1 := G0.out.cell hkc (by simp)
  clear h hu hki hkc
  go_enter Try.func65, Try.ntmps65
  go_wp2_with fail
  clear hkc1
  generalize w.alloc (.cells #[.slice a1 (size t) c1, .slice a2 (size t) c2, .slice (some ⟨kb, ko, none⟩) (size t) c3] 71) = wb at *
  go_loop [15] (fun ix => ∃ κ : Nat, ix = .int .i64 κ ∧ κ ≤ u.kids.length ∧ Hid (brL u.kids (n + 1) y 0 = brL (u.kids.drop κ) (n + 1 + sizeL (u.kids.take κ)) y κ)) (fun ix => u.kids.length - (intOf ix).toNat)
  case atStart => exact ⟨0, rfl, Nat.zero_le _, Lib.hid (by simp [sizeL])⟩
  case round =>
    obtain ⟨κ, rfl, hκ, hE⟩ := hrel
    by_cases hκb : κ < u.kids.length
    · have e1 : (κ : Int) < (u.kids.length : Int) := by omega
      have i1 : IntKind.i64.wrap ((κ : Int) + 1) = (κ : Int) + 1 := IntWalk.i64_in _ (by omega)
      obtain ⟨rb, ro, rfl, hrc⟩ := ints_starts HKI.out hκb
      have hr1 := G0.out.cell hrc (by simp)
      have HS := Lib.hid (hE.out.trans (brL_step hκb))
      obtain ⟨eb, eo, ha2, hec⟩ := H.out.end_ (seg_root (seg_kid HU.out hκb))
      subst ha2
      have he1 := G0.out.cell hec (by simp)
      have hb1 := (flat3 HB.out).2.1
      have hsl := take_szle u.kids (κ + 1)
      have hs2 := take_sz hκb
      have hse := HSE.out
      obtain ⟨q, hq⟩ : ∃ q, n + 1 + sizeL (u.kids.take κ) = q := ⟨_, rfl⟩
      rw [hq] at hr1 he1 HS
      have hk1 := size_pos u.kids[κ]
      have hqt : (q : Int) < (size t : Int) := by omega
      have HQ := Lib.hid hq
      obtain ⟨q2, hq2⟩ : ∃ q2, q + size u.kids[κ] = q2 := ⟨_, rfl⟩
      rw [hq2] at he1 HS
      clear hrc hec hsl hs2 hse hq hq2 hk1
      by_cases hy1 : (q : Int) ≤ y
      · by_cases hy2 : y < (q2 : Int)
        · go_wp2_with fail
          go_ret
          exact ⟨ret_int (by rw [HS.out, if_pos ⟨hy1, hy2⟩]), G0.out⟩
        · have hy3 : (q2 : Int) ≤ y := by omega
          go_wp2_with fail
          go_round
          case rel => exact ⟨κ + 1, by go_num, by omega, Lib.hid (by rw [HS.out, if_neg (by omega)])⟩
          case measure => simp [intOf]; omega
      · have hy3 : y < (q : Int) := by omega
        go_wp2_with fail
        go_round
        case rel => exact ⟨κ + 1, by go_num, by omega, Lib.hid (by rw [HS.out, if_neg (by omega)])⟩
        case measure => simp [intOf]; omega
    · obtain rfl : κ = u.kids.length := by omega
      have e1 : ¬ (u.kids.length : Int) < (u.kids.length : Int) := by omega
      go_wp2_with fail
      go_ret
      exact ⟨ret_int (by rw [hE.out, List.drop_length]; rfl), G0.out⟩

def nodeD (t : Tr) (n : Nat) : Tr := (pre t)[n]?.getD (.node 0 [])
def okB (t : Tr) : Bool := decide (size t ≤ 12) && (pre t).all (fun u => decide (0 ≤ u.label) && decide (u.label < 16))
theorem okB_iff {t : Tr} : okB t = true ↔ OkT t := by
  unfold okB OkT
  simp
def labB (s t : Tr) (xs : List Int) (i : Nat) : Bool := decide (0 ≤ xs[i]?.getD 0) && decide (xs[i]?.getD 0 < (size t : Int)) && decide ((nodeD t (xs[i]?.getD 0).toNat).label = (nodeD s i).label)
def ascB (t : Tr) (xs : List Int) (z : Nat) : Int → List Nat → Bool
  | _, [] => true
  | b, k :: ks => decide (b < brL (nodeD t z).kids (z + 1) (xs[k]?.getD 0) 0) && ascB t xs z (brL (nodeD t z).kids (z + 1) (xs[k]?.getD 0) 0) ks
def kidB (s t : Tr) (xs : List Int) (i : Nat) : Bool := ascB t xs (xs[i]?.getD 0).toNat (-1) (starts (i + 1) (nodeD s i).kids)
def provB (s t : Tr) (xs : List Int) : Bool := okB s && okB t && (xs.length == size s) && (List.range (size s)).all (labB s t xs) && (List.range (size s)).all (kidB s t xs)
theorem provB_false1 {s t : Tr} {xs : List Int} (h : ¬ OkT s) : provB s t xs = false := by
  unfold provB
  cases e : okB s
  · rfl
  · exact absurd (okB_iff.1 e) h
theorem provB_false2 {s t : Tr} {xs : List Int} (h : ¬ OkT t) : provB s t xs = false := by
  unfold provB
  cases e : okB t
  · simp
  · exact absurd (okB_iff.1 e) h
theorem provB_false3 {s t : Tr} {xs : List Int} (h : xs.length ≠ size s) : provB s t xs = false := by
  unfold provB
  have : (xs.length == size s) = false := by simpa using h
  rw [this]; simp
theorem provB_false4 {s t : Tr} {xs : List Int} {i : Nat} (hi : i < size s) (h : labB s t xs i = false) : provB s t xs = false := by
  unfold provB
  have : (List.range (size s)).all (labB s t xs) = false := by
    rw [List.all_eq_false]
    exact ⟨i, List.mem_range.2 hi, by rw [h]; simp⟩
  rw [this]; simp
theorem provB_false5 {s t : Tr} {xs : List Int} {i : Nat} (hi : i < size s) (h : kidB s t xs i = false) : provB s t xs = false := by
  unfold provB
  have : (List.range (size s)).all (kidB s t xs) = false := by
    rw [List.all_eq_false]
    exact ⟨i, List.mem_range.2 hi, by rw [h]; simp⟩
  rw [this]; simp
theorem provB_true {s t : Tr} {xs : List Int} (h1 : OkT s) (h2 : OkT t) (h3 : xs.length = size s) (h4 : ∀ i, i < size s → labB s t xs i = true) (h5 : ∀ i, i < size s → kidB s t xs i = true) : provB s t xs = true := by
  unfold provB
  rw [okB_iff.2 h1, okB_iff.2 h2, h3]
  simp only [beq_self_eq_true, Bool.and_self, Bool.true_and, Bool.and_eq_true, List.all_eq_true, List.mem_range]
  exact ⟨h4, h5⟩
theorem ascB_drop {t : Tr} {xs : List Int} {z : Nat} {b : Int} {ks : List Nat} {κ k : Nat} (h : ks[κ]? = some k) : ascB t xs z b (ks.drop κ) = (decide (b < brL (nodeD t z).kids (z + 1) (xs[k]?.getD 0) 0) && ascB t xs z (brL (nodeD t z).kids (z + 1) (xs[k]?.getD 0) 0) (ks.drop (κ + 1))) := by
  obtain ⟨hl, he⟩ := List.getElem?_eq_some_iff.1 h
  rw [List.drop_eq_getElem_cons hl, he, ascB]
theorem brL_le : ∀ (ks : List Tr) (n : Nat) (y : Int) (i : Nat), -1 ≤ brL ks n y i ∧ brL ks n y i ≤ i + ks.length
  | [], n, y, i => by simp [brL]
  | k :: ks, n, y, i => by
    have := brL_le ks (n + size k) y (i + 1)
    rw [brL, List.length_cons]
    split <;> omega
def BoolTo (b : Bool) (w : World) (e : Ending) (w' : World) : Prop := e = .returned (.bool b) ∧ w.grownBy w' none
theorem nodeD_at {t : Tr} {n : Nat} (h : n < size t) : (pre t)[n]? = some (nodeD t n) := by
  unfold nodeD
  rw [List.getElem?_eq_getElem (by rw [len_pre]; exact h)]; rfl
theorem nodeD_seg {t : Tr} {n : Nat} (h : n < size t) : SegL (pre t) n (nodeD t n) := by
  obtain ⟨v, h1, h2, -⟩ := seg_in t (seg_pre t) n h
  rw [Nat.zero_add] at h1
  rw [nodeD_at h] at h2
  cases h2
  exact h1

set_option maxRecDepth 100000 in
set_option maxHeartbeats 4000000 in
theorem ProvesT_any {P Q : Nat → Prop} (s t : Tr) (y z vm : Value) (xs : List Int) (w : World) (h : TrK P w y s) (h' : TrK Q w z t) (hs : size s ≤ 100000) (ht : size t ≤ 100000) (hm : Ints w vm xs) :
    Calls Try.prog 46 #[.agg #[.int .i64 s.label, y], .agg #[.int .i64 t.label, z], vm] w (BoolTo (provB s t xs) w) := by
  obtain ⟨a, cap, rfl⟩ := h.slice
  obtain ⟨a', cap', rfl⟩ := h'.slice
  have H := Lib.hid h; have H' := Lib.hid h'; have HS := Lib.hid hs; have HT := Lib.hid ht
  have HM := Lib.hid hm
  obtain ⟨am, cm, rfl, -⟩ := hm
  clear h h' hs ht
  go_enter Try.func46, Try.ntmps46
  go_wp2_with fail
  have hb1 := heap_old (.cells #[.int .i64 t.label, .slice a' t.kids.length cap'] 45) (heap_new (w := w) (g := w.heap.size) (.cells #[.int .i64 s.label, .slice a s.kids.length cap] 45) rfl)
  have hb2 := heap_new (w := w.alloc (.cells #[.int .i64 s.label, .slice a s.kids.length cap] 45)) (g := w.heap.size + 1) (.cells #[.int .i64 t.label, .slice a' t.kids.length cap'] 45) (by show _ = (w.heap.push _).size; simp)
  have hg0 : w.grownBy ((w.alloc (.cells #[.int .i64 s.label, .slice a s.kids.length cap] 45)).alloc (.cells #[.int .i64 t.label, .slice a' t.kids.length cap'] 45)) none := grown_after (World.grownBy_alloc _ _ none)
  generalize (w.alloc (.cells #[.int .i64 s.label, .slice a s.kids.length cap] 45)).alloc (.cells #[.int .i64 t.label, .slice a' t.kids.length cap'] 45) = wb at *
  have HB2 := Lib.hid hb2; have HG0 := Lib.hid hg0
  clear hb1 hb2 hg0
  refine (flatten_any s _ _ (H.out.same HG0.out) HS.out).mono ?_
  rintro e w1 hf
  obtain ⟨hg, B1, a1, a2, a3, n, c1, c2, c3, rfl, ht1, hf1⟩ := flat_any3 hf
  have HT1 := Lib.hid ht1; have HF1 := Lib.hid hf1; have G1 := Lib.hid hg
  clear hf ht1 hf1 hg
  have GA := Lib.hid (World.grownBy_alloc w1 (.cells #[.slice a1 n c1, .slice a2 n c2, .slice a3 n c3] 71) none)
  have hF1 := heap_new (w := w1) (g := w1.heap.size) (.cells #[.slice a1 n c1, .slice a2 n c2, .slice a3 n c3] 71) rfl
  have HX1 := Lib.hid hF1
  have hx0 := GA.out.cell (G1.out.cell (cells_of HB2.out).1 (by simp)) (by simp); have hx1 := GA.out.cell (G1.out.cell (cells_of HB2.out).2 (by simp)) (by simp)
  clear hF1
  go_wp2_with fail
  clear hx0 hx1
  obtain ⟨F1, hF⟩ : ∃ F1, w1.heap.size = F1 := ⟨_, rfl⟩
  rw [hF] at HX1 ⊢
  clear hF
  have G2 := Lib.hid (grown_trans G1.out GA.out)
  clear GA
  have HT2 : Hid (B1 = true → OkT s ∧ n = size s ∧ FlatV (w1.alloc (.cells #[.slice a1 n c1, .slice a2 n c2, .slice a3 n c3] 71)) s (.slice a1 n c1) (.slice a2 n c2) (.slice a3 n c3)) := Lib.hid (fun h => ⟨(HT1.out h).1, (HT1.out h).2.1, (HT1.out h).2.2.same (World.grownBy_alloc _ _ none)⟩)
  clear HT1 G1
  generalize w1.alloc (.cells #[.slice a1 n c1, .slice a2 n c2, .slice a3 n c3] 71) = w2 at *
  refine (flatten_any t _ _ (H'.out.same (grown_trans HG0.out G2.out)) HT.out).mono ?_
  rintro e w3 hf
  obtain ⟨hg, B2, b1, b2, b3, n', d1, d2, d3, rfl, ht1, hf1⟩ := flat_any3 hf
  have G3 := Lib.hid hg
  have GA := Lib.hid (World.grownBy_alloc w3 (.cells #[.slice b1 n' d1, .slice b2 n' d2, .slice b3 n' d3] 71) none)
  have HX2 := Lib.hid (heap_new (w := w3) (g := w3.heap.size) (.cells #[.slice b1 n' d1, .slice b2 n' d2, .slice b3 n' d3] 71) rfl)
  have HX3 : Hid ((w3.alloc (.cells #[.slice b1 n' d1, .slice b2 n' d2, .slice b3 n' d3] 71)).heap[F1]? = some (.cells #[.slice a1 n c1, .slice a2 n c2, .slice a3 n c3] 71 (0, 0))) := Lib.hid (heap_old _ ((hg.block F1 (Array.getElem?_eq_some_iff.1 HX1.out).1 (by simp)).trans HX1.out))
  have HT4 : Hid (B2 = true → OkT t ∧ n' = size t ∧ FlatV (w3.alloc (.cells #[.slice b1 n' d1, .slice b2 n' d2, .slice b3 n' d3] 71)) t (.slice b1 n' d1) (.slice b2 n' d2) (.slice b3 n' d3)) := Lib.hid (fun h => ⟨(ht1 h).1, (ht1 h).2.1, (ht1 h).2.2.same GA.out⟩)
  have HF4 := Lib.hid hf1
  have HT3 : Hid (B1 = true → OkT s ∧ n = size s ∧ FlatV (w3.alloc (.cells #[.slice b1 n' d1, .slice b2 n' d2, .slice b3 n' d3] 71)) s (.slice a1 n c1) (.slice a2 n c2) (.slice a3 n c3)) := Lib.hid (fun h => ⟨(HT2.out h).1, (HT2.out h).2.1, (HT2.out h).2.2.same (grown_trans hg GA.out)⟩)
  have G4 := Lib.hid (grown_trans (grown_trans HG0.out G2.out) (grown_trans hg GA.out))
  clear hf ht1 hf1 hg HT2 G3 G2 HX1
  have HMI := Lib.hid (HM.out.same G4.out)
  clear HM GA H H' HB2 HG0 HS HT
  have q0 := (flat3 HX3.out).1; have q1 := (flat3 HX3.out).2.1; have q2 := (flat3 HX3.out).2.2
  have q3 := (flat3 HX2.out).1; have q4 := (flat3 HX2.out).2.1; have q5 := (flat3 HX2.out).2.2
  cases B1 with
  | false =>
    have HNO := Lib.hid (provB_false1 (t := t) (xs := xs) (HF1.out rfl))
    go_wp2_with fail
    go_ret
    exact ⟨ret_bool HNO.out.symm, G4.out⟩
  | true =>
    cases B2 with
    | false =>
      have HNO := Lib.hid (provB_false2 (s := s) (xs := xs) (HF4.out rfl))
      go_wp2_with fail
      go_ret
      exact ⟨ret_bool HNO.out.symm, G4.out⟩
    | true =>
      obtain ⟨hok1, hn, hv1⟩ := HT3.out rfl
      obtain ⟨hok2, hn', hv2⟩ := HT4.out rfl
      subst hn hn'
      have OK1 := Lib.hid hok1; have OK2 := Lib.hid hok2; have HV1 := Lib.hid hv1; have HV2 := Lib.hid hv2
      have hs12 : size s ≤ 12 := hok1.1
      have ht12 : size t ≤ 12 := hok2.1
      clear hok1 hok2 hv1 hv2 HT3 HT4 HF1 HF4
      by_cases hlen : xs.length = size s
      · have k1 : ((xs.length : Int) != (size s : Int)) = false := by simp; omega
        have HLEN := Lib.hid hlen
        clear hlen
        obtain ⟨am', cm', hvm, -, -, hmc⟩ := HMI.out
        simp only [Value.slice.injEq] at hvm
        obtain ⟨rfl, -, rfl⟩ := hvm
        have HMC := Lib.hid hmc
        have hxl : xs.length ≤ 12 := by rw [HLEN.out]; exact hs12
        clear hmc
        go_wp2_with fail
        clear q0 q1 q2 q3 q4 q5
        obtain ⟨F2, hF⟩ : ∃ F2, w3.heap.size = F2 := ⟨_, rfl⟩
        rw [hF] at HX2 ⊢
        clear hF
        generalize w3.alloc (.cells #[.slice b1 (size t) d1, .slice b2 (size t) d2, .slice b3 (size t) d3] 71) = W at *
        go_loopw [45] (fun ix wr => ∃ i : Nat, ix = .int .i64 i ∧ i ≤ xs.length ∧ Hid (∀ l, l < i → labB s t xs l = true) ∧ Hid (W.grownBy wr none)) (fun ix _ => xs.length - (intOf ix).toNat)
        case atStart => exact ⟨0, rfl, Nat.zero_le _, Lib.hid (by omega), Lib.hid (grown_refl _ _)⟩
        case round =>
          obtain ⟨i, rfl, hi, hL, hG⟩ := hrel
          rename World => wr
          have hnn : ∀ g : Nat, some g ≠ (none : Option Nat) := by intro g; simp
          have q0 := hG.out.cell (flat3 HX3.out).1 (hnn _); have q1 := hG.out.cell (flat3 HX3.out).2.1 (hnn _); have q2 := hG.out.cell (flat3 HX3.out).2.2 (hnn _)
          have q3 := hG.out.cell (flat3 HX2.out).1 (hnn _); have q4 := hG.out.cell (flat3 HX2.out).2.1 (hnn _); have q5 := hG.out.cell (flat3 HX2.out).2.2 (hnn _)
          by_cases hib : i < xs.length
          · have e1 : (i : Int) < (xs.length : Int) := by omega
            have his : i < size s := by rw [← HLEN.out]; exact hib
            have e2 : (i : Int) < (size s : Int) := by omega
            have i1 : IntKind.i64.wrap ((i : Int) + 1) = (i : Int) + 1 := IntWalk.i64_in _ (by omega)
            obtain ⟨mb, mo, rfl, hx⟩ := Ints.at HMC.out hib
            have hx1 := hG.out.cell hx (hnn _)
            obtain ⟨lb, lo, ha1, hlc⟩ := HV1.out.lab (nodeD_at his)
            subst ha1
            have hl1 := hG.out.cell hlc (hnn _)
            have HLI : Hid (labB s t xs i = (decide (0 ≤ xs[i]?.getD 0) && decide (xs[i]?.getD 0 < (size t : Int)) && decide ((nodeD t (xs[i]?.getD 0).toNat).label = (nodeD s i).label))) := Lib.hid rfl
            have HNX : Hid (labB s t xs i = true → ∀ l, l < i + 1 → labB s t xs l = true) := Lib.hid (fun h l hl => by
              by_cases e : l = i
              · subst e; exact h
              · exact hL.out l (by omega))
            have HFA : Hid (labB s t xs i = false → provB s t xs = false) := Lib.hid (provB_false4 his)
            clear hx hlc hnn
            generalize xs[i]?.getD 0 = z at *
            by_cases hz0 : z < 0
            · have HB := Lib.hid (HFA.out (by rw [HLI.out, decide_eq_false (by omega)]; rfl))
              go_wp2_with fail
              go_big_quiet (fail)
              go_wp2_with fail
              go_ret
              exact ⟨ret_bool HB.out.symm, grown_trans (grown_trans G4.out hG.out) (grown_drewN _ _ _)⟩
            · by_cases hzt : (size t : Int) ≤ z
              · have HB := Lib.hid (HFA.out (by rw [HLI.out, decide_eq_false (p := z < (size t : Int)) (by omega)]; simp))
                have hd0 : decide (z < 0) = false := decide_eq_false hz0
                have hd1 : decide ((size t : Int) ≤ z) = true := decide_eq_true hzt
                go_wp2_with fail
                go_big_quiet (fail)
                go_wp2_with fail
                go_ret
                exact ⟨ret_bool HB.out.symm, grown_trans (grown_trans G4.out hG.out) (grown_drewN _ _ _)⟩
              · obtain ⟨n, rfl⟩ : ∃ n : Nat, z = (n : Int) := ⟨z.toNat, by omega⟩
                have hzt2 : (n : Int) < (size t : Int) := by omega
                obtain ⟨nb, no, hb1, hnc⟩ := HV2.out.lab (nodeD_at (t := t) (n := n) (by omega))
                subst hb1
                have hn1 := hG.out.cell hnc (by simp)
                clear hnc
                have hd0 : decide ((n : Int) < 0) = false := decide_eq_false (by omega)
                have hd1 : decide ((size t : Int) ≤ (n : Int)) = false := decide_eq_false (by omega)
                have hd2 : decide (size t ≤ n) = false := decide_eq_false (by omega)
                have hd3 : n < size t := by omega
                have HTN : Hid ((n : Int).toNat = n) := Lib.hid (Int.toNat_natCast n)
                by_cases hlab : (nodeD t n).label = (nodeD s i).label
                · have hd : ((nodeD t n).label != (nodeD s i).label) = false := by simp [hlab]
                  have HB := Lib.hid (HNX.out (by rw [HLI.out, HTN.out, decide_eq_true hlab, decide_eq_true hzt2, decide_eq_true (by omega)]; rfl))
                  clear hlab
                  go_wp2_with fail
                  go_big_quiet (fail)
                  go_wp2_with fail
                  go_roundw
                  case rel => exact ⟨i + 1, by go_num, by omega, HB, Lib.hid (grown_trans hG.out (grown_drewN _ _ _))⟩
                  case measure => simp [intOf]; omega
                · have hd : ((nodeD t n).label != (nodeD s i).label) = true := by simpa using hlab
                  have HB := Lib.hid (HFA.out (by rw [HLI.out, HTN.out, decide_eq_false hlab]; simp))
                  clear hlab
                  go_wp2_with fail
                  go_big_quiet (fail)
                  go_wp2_with fail
                  go_ret
                  exact ⟨ret_bool HB.out.symm, grown_trans (grown_trans G4.out hG.out) (grown_drewN _ _ _)⟩
          · obtain rfl : i = xs.length := by omega
            have e1 : ¬ (xs.length : Int) < (xs.length : Int) := by omega
            have HLA : Hid (∀ l, l < size s → labB s t xs l = true) := Lib.hid (by rw [← HLEN.out]; exact hL.out)
            go_wp2_with fail
            clear q0 q1 q2 q3 q4 q5 hL
            go_loopw [76] (fun ix wr2 => ∃ i : Nat, ix = .int .i64 i ∧ i ≤ size s ∧ Hid (∀ l, l < i → kidB s t xs l = true) ∧ Hid (W.grownBy wr2 none)) (fun ix _ => size s - (intOf ix).toNat)
            case atStart => exact ⟨0, rfl, Nat.zero_le _, Lib.hid (by omega), hG⟩
            case round =>
              clear hG
              obtain ⟨i, rfl, hi, hK, hG⟩ := hrel
              rename World => wq
              by_cases hib : i < size s
              · have e2 : (i : Int) < (size s : Int) := by omega
                have i1 : IntKind.i64.wrap ((i : Int) + 1) = (i : Int) + 1 := IntWalk.i64_in _ (by omega)
                obtain ⟨kb, ko, ka, kc, ha3, hkc, hki⟩ := HV1.out.kid (nodeD_at hib)
                have q2 := hG.out.cell (flat3 HX3.out).2.2 (by simp)
                subst ha3
                have hk1 := hG.out.cell hkc (by simp)
                have HKI := Lib.hid hki
                obtain ⟨mb, mo, rfl, hx⟩ := Ints.at HMC.out (show i < xs.length by rw [HLEN.out]; exact hib)
                have HXC := Lib.hid hx
                have hlab := HLA.out i hib
                unfold labB at hlab
                simp only [Bool.and_eq_true, decide_eq_true_eq] at hlab
                obtain ⟨⟨hz0, hz1⟩, -⟩ := hlab
                have HKB : Hid (kidB s t xs i = ascB t xs (xs[i]?.getD 0).toNat (-1) (starts (i + 1) (nodeD s i).kids)) := Lib.hid rfl
                have HNX : Hid (kidB s t xs i = true → ∀ l, l < i + 1 → kidB s t xs l = true) := Lib.hid (fun h l hl => by
                  by_cases e : l = i
                  · subst e; exact h
                  · exact hK.out l (by omega))
                have HFA : Hid (kidB s t xs i = false → provB s t xs = false) := Lib.hid (provB_false5 hib)
                have HLN : Hid (i + 1 + sizeL (nodeD s i).kids ≤ size s) := Lib.hid (by have := seg_lt (nodeD_seg hib); rw [len_pre, size_eq] at this; omega)
                clear hkc hki hx hK
                generalize hzv : xs[i]?.getD 0 = z at *
                have HZV := Lib.hid hzv
                clear hzv
                obtain ⟨n, rfl⟩ : ∃ n : Nat, z = (n : Int) := ⟨z.toNat, by omega⟩
                have hnt : n < size t := by omega
                rw [Int.toNat_natCast] at HKB
                have hkl12 : (nodeD s i).kids.length ≤ 12 := by have := sizeL_len (nodeD s i).kids; have := HLN.out; omega
                have HSEG := Lib.hid (nodeD_seg hnt)
                have him : (i : Int) < (xs.length : Int) := by rw [HLEN.out]; exact e2
                generalize nodeD s i = u at *
                go_wp2_with fail
                clear hk1 q2
                go_loopw [15, 83] (fun bx ix wr => ∃ (κ : Nat) (b : Int), ix = .int .i64 κ ∧ bx = .int .i64 b ∧ -1 ≤ b ∧ b ≤ 100 ∧ κ ≤ u.kids.length ∧ Hid (kidB s t xs i = ascB t xs n b ((starts (i + 1) u.kids).drop κ)) ∧ Hid (W.grownBy wr none)) (fun _ ix _ => u.kids.length - (intOf ix).toNat)
                case atStart => exact ⟨0, -1, rfl, rfl, by omega, by omega, Nat.zero_le _, HKB, hG⟩
                case round =>
                  clear hG
                  obtain ⟨κ, b, rfl, rfl, hb0, hb1, hκ, hA, hG⟩ := hrel
                  rename World => wr
                  by_cases hκb : κ < u.kids.length
                  · have e1 : (κ : Int) < (u.kids.length : Int) := by omega
                    have i3 : IntKind.i64.wrap ((κ : Int) + 1) = (κ : Int) + 1 := IntWalk.i64_in _ (by omega)
                    obtain ⟨rb, ro, rfl, hrc⟩ := ints_starts HKI.out hκb
                    have hr1 := hG.out.cell hrc (by simp)
                    have hst := starts_at u.kids (i + 1) κ hκb
                    have hsl := take_szle u.kids (κ + 1); have hs2 := take_sz hκb; have hs3 := size_pos u.kids[κ]; have hs4 := HLN.out
                    obtain ⟨q, hq⟩ : ∃ q, i + 1 + sizeL (u.kids.take κ) = q := ⟨_, rfl⟩
                    rw [hq] at hr1 hst
                    have hqx : q < xs.length := by rw [HLEN.out]; omega
                    have hqi : (q : Int) < (xs.length : Int) := by omega
                    have HAD := Lib.hid (hA.out.trans (ascB_drop hst))
                    obtain ⟨mb', mo', hme, hy⟩ := Ints.at HMC.out hqx
                    simp only [Option.some.injEq, Addr.mk.injEq, and_true] at hme
                    obtain ⟨rfl, rfl⟩ := hme
                    have GD := Lib.hid (grown_trans hG.out (grown_drew wr none))
                    have q3 := GD.out.cell (flat3 HX2.out).1 (by simp); have q4 := GD.out.cell (flat3 HX2.out).2.1 (by simp); have q5 := GD.out.cell (flat3 HX2.out).2.2 (by simp)
                    have hx1 := GD.out.cell HXC.out (by simp); have hy1 := GD.out.cell hy (by simp)
                    have HND : Hid (nodeD t n = nodeD t n) := Lib.hid rfl
                    have HBR := Lib.hid (brL_le (nodeD t n).kids (n + 1) (xs[q]?.getD 0) 0)
                    have HTK : Hid ((nodeD t n).kids.length ≤ 12) := Lib.hid (by have := sizeL_len (nodeD t n).kids; have h2 := seg_lt HSEG.out; rw [len_pre, size_eq] at h2; omega)
                    clear hrc hst hsl hs2 hs3 hs4 hq hy
                    generalize xs[q]?.getD 0 = yv at *
                    go_wp2_with fail
                    go_still_tail 9, (by kernel_rfl)
                    change wpList _ _ _ _ _ wr.drew
                    generalize wr.drew = wd at *
                    go_wp2_with fail
                    (with_reducible refine (branch_any t (nodeD t n) b1 b2 b3 d1 d2 d3 n yv wd (HV2.out.same GD.out) HSEG.out ht12).mono ?_)
                    rintro e w8 ⟨rfl, hg⟩
                    have G8 := Lib.hid (grown_trans GD.out hg)
                    have hbr0 : -1 ≤ brL (nodeD t n).kids (n + 1) yv 0 := HBR.out.1
                    have hbr1 : brL (nodeD t n).kids (n + 1) yv 0 ≤ 100 := by have := HBR.out.2; have := HTK.out; omega
                    clear hg q3 q4 q5 hx1 hy1 hr1
                    generalize brL (nodeD t n).kids (n + 1) yv 0 = c at *
                    by_cases hcb : c ≤ b
                    · have HB := Lib.hid (HFA.out (by rw [HAD.out, decide_eq_false (by omega)]; rfl))
                      go_wp2_with fail
                      go_ret
                      exact ⟨ret_bool HB.out.symm, grown_trans G4.out G8.out⟩
                    · have HB := Lib.hid (HAD.out.trans (by rw [decide_eq_true (by omega), Bool.true_and]))
                      go_wp2_with fail
                      go_roundw
                      case rel => exact ⟨κ + 1, c, by go_num, rfl, hbr0, hbr1, by omega, HB, G8⟩
                      case measure => simp [intOf]; omega
                  · obtain rfl : κ = u.kids.length := by omega
                    have e1 : ¬ (u.kids.length : Int) < (u.kids.length : Int) := by omega
                    have HB := Lib.hid (HNX.out (by
                      rw [hA.out]
                      have : (starts (i + 1) u.kids).drop u.kids.length = [] := List.drop_eq_nil_of_le (by rw [starts_len]; exact Nat.le_refl _)
                      rw [this]; rfl))
                    go_wp2_with fail
                    go_roundw
                    case rel => exact ⟨i + 1, by go_num, by omega, HB, hG⟩
                    case measure => simp [intOf]; omega
              · obtain rfl : i = size s := by omega
                have e2 : ¬ (size s : Int) < (size s : Int) := by omega
                have HB := Lib.hid (provB_true OK1.out OK2.out HLEN.out HLA.out hK.out)
                go_wp2_with fail
                go_ret
                exact ⟨ret_bool HB.out.symm, grown_trans G4.out hG.out⟩
      · have k1 : ((xs.length : Int) != (size s : Int)) = true := by simp; omega
        have HB := Lib.hid (provB_false3 (t := t) hlen)
        clear hlen
        go_wp2_with fail
        go_ret
        exact ⟨ret_bool HB.out.symm, G4.out⟩

end Go.Proofs.Ytnppmemcdcgjhaa
