/- The reference's right, Proves. -/
import Derived.Test.YtnppmemcdcgjhaaMk
namespace Go.Proofs.Ytnppmemcdcgjhaa
open Go.RowKit Tr
set_option linter.unusedVariables false

mutual
def rgtB (t : Tr) (xs : List Int) : Tr → Nat → Bool
  | .node l ks, x => decide ((nodeD t (xs[x]?.getD 0).toNat).label = l) && rgtL t xs ks (xs[x]?.getD 0).toNat (-1) (x + 1)
def rgtL (t : Tr) (xs : List Int) : List Tr → Nat → Int → Nat → Bool
  | [], _, _, _ => true
  | k :: ks, z, b, n => decide (b < brL (nodeD t z).kids (z + 1) (xs[n]?.getD 0) 0) && rgtB t xs k n && rgtL t xs ks z (brL (nodeD t z).kids (z + 1) (xs[n]?.getD 0) 0) (n + size k)
end
theorem rgtB_eq (t : Tr) (xs : List Int) (u : Tr) (x : Nat) : rgtB t xs u x = (decide ((nodeD t (xs[x]?.getD 0).toNat).label = u.label) && rgtL t xs u.kids (xs[x]?.getD 0).toNat (-1) (x + 1)) := by
  cases u; rw [rgtB]; rfl
theorem rgtL_drop {t : Tr} {xs : List Int} {ks : List Tr} {z n i : Nat} {b : Int} (hi : i < ks.length) : rgtL t xs (ks.drop i) z b n = (decide (b < brL (nodeD t z).kids (z + 1) (xs[n]?.getD 0) 0) && rgtB t xs ks[i] n && rgtL t xs (ks.drop (i + 1)) z (brL (nodeD t z).kids (z + 1) (xs[n]?.getD 0) 0) (n + size ks[i])) := by
  rw [List.drop_eq_getElem_cons hi, rgtL]
theorem kid_at : ∀ (ks : List Tr) (m : Nat), m < sizeL ks → ∃ i, ∃ hi : i < ks.length, ∃ r, m = sizeL (ks.take i) + r ∧ r < size ks[i] := by
  intro ks
  induction ks with
  | nil => intro m hm; rw [sizeL] at hm; omega
  | cons k ks ihk =>
    intro m hm
    rw [sizeL] at hm
    by_cases h1 : m < size k
    · exact ⟨0, by simp, m, by simp [sizeL], by simpa using h1⟩
    · obtain ⟨i, hi, r, h2, h3⟩ := ihk (m - size k) (by omega)
      exact ⟨i + 1, by simpa using hi, r, by rw [List.take_succ_cons, sizeL]; omega, by simpa using h3⟩
theorem rgtL_iff {t : Tr} {xs : List Int} : ∀ (ks : List Tr) (z : Nat) (b : Int) (n : Nat), rgtL t xs ks z b n = true ↔ (ascB t xs z b (starts n ks) = true ∧ ∀ i (h : i < ks.length), rgtB t xs ks[i] (n + sizeL (ks.take i)) = true)
  | [], z, b, n => by simp [rgtL, starts, ascB]
  | k :: ks, z, b, n => by
    rw [rgtL, starts, ascB]
    simp only [Bool.and_eq_true, rgtL_iff ks]
    constructor
    · rintro ⟨⟨h1, h2⟩, h3, h4⟩
      refine ⟨⟨h1, h3⟩, fun i hi => ?_⟩
      cases i with
      | zero => simpa [sizeL] using h2
      | succ i =>
        have := h4 i (by simpa using hi)
        simp only [List.getElem_cons_succ, List.take_succ_cons, sizeL]
        rw [← Nat.add_assoc]; exact this
    · rintro ⟨⟨h1, h3⟩, h4⟩
      refine ⟨⟨h1, ?_⟩, h3, fun i hi => ?_⟩
      · have := h4 0 (by simp)
        simpa [sizeL] using this
      · have := h4 (i + 1) (by simpa using hi)
        simp only [List.getElem_cons_succ, List.take_succ_cons, sizeL] at this
        rw [← Nat.add_assoc] at this; exact this
theorem rgtB_iff {s t : Tr} {xs : List Int} (u : Tr) : ∀ (i : Nat), SegL (pre s) i u → (rgtB t xs u i = true ↔ ∀ j, i ≤ j → j < i + size u → (nodeD t (xs[j]?.getD 0).toNat).label = (nodeD s j).label ∧ kidB s t xs j = true) := by
  induction u using tr_ind with
  | h u ih =>
  intro i hseg
  have hnd : nodeD s i = u := by unfold nodeD; rw [seg_root hseg]; rfl
  rw [rgtB_eq, Bool.and_eq_true, decide_eq_true_eq, rgtL_iff]
  have hk : kidB s t xs i = ascB t xs (xs[i]?.getD 0).toNat (-1) (starts (i + 1) u.kids) := by unfold kidB; rw [hnd]
  constructor
  · rintro ⟨h1, h2, h3⟩ j hj1 hj2
    by_cases e : j = i
    · subst e; rw [hnd]; exact ⟨h1, by rw [hk]; exact h2⟩
    · rw [size_eq] at hj2
      obtain ⟨a, ha, r, h4, h5⟩ := kid_at u.kids (j - (i + 1)) (by omega)
      exact (ih _ (size_kid (List.getElem_mem ha)) _ (seg_kid hseg ha)).1 (h3 a ha) j (by omega) (by omega)
  · intro h
    have h0 := h i (Nat.le_refl _) (by have := size_pos u; omega)
    rw [hnd, hk] at h0
    refine ⟨h0.1, h0.2, fun a ha => (ih _ (size_kid (List.getElem_mem ha)) _ (seg_kid hseg ha)).2 (fun j h1 h2 => h j (by omega) ?_)⟩
    have e1 := take_sz ha; have e2 := take_szle u.kids (a + 1)
    rw [size_eq u]; omega
/-- The reference's way to prove is the program's. -/
theorem prov_rgt {s t : Tr} {xs : List Int} (h1 : OkT s) (h2 : OkT t) (h3 : xs.length = size s) (h4 : ∀ i, i < xs.length → 0 ≤ xs[i]?.getD 0 ∧ xs[i]?.getD 0 < (size t : Int)) : provB s t xs = rgtB t xs s 0 := by
  rw [Bool.eq_iff_iff, rgtB_iff s 0 (seg_pre s)]
  unfold provB
  rw [okB_iff.2 h1, okB_iff.2 h2, h3]
  simp only [beq_self_eq_true, Bool.and_self, Bool.true_and, Bool.and_eq_true, List.all_eq_true, List.mem_range, labB, decide_eq_true_eq]
  constructor
  · rintro ⟨ha, hb⟩ j - hj
    exact ⟨(ha j (by omega)).2, hb j (by omega)⟩
  · intro h
    exact ⟨fun i hi => ⟨h4 i (by omega), (h i (Nat.zero_le _) (by omega)).1⟩, fun i hi => (h i (Nat.zero_le _) (by omega)).2⟩

set_option maxRecDepth 100000 in
set_option maxHeartbeats 1500000 in
theorem right_any (t : Tr) (xs : List Int) (ht : size t ≤ 100000) (hxs : ∀ i, i < xs.length → 0 ≤ xs[i]?.getD 0 ∧ xs[i]?.getD 0 < (size t : Int)) (hxl : xs.length ≤ 100000) (u : Tr) : ∀ (P Q : Nat → Prop) (y z vm : Value) (x : Nat) (w : World), TrK P w y u → TrK Q w z t → Ints w vm xs → size u ≤ 100000 → x + size u ≤ xs.length →
    Calls Try.prog 64 #[.agg #[.int .i64 u.label, y], .int .i64 (x : Int), .agg #[.int .i64 t.label, z], vm] w (BoolTo (rgtB t xs u x) w) := by
  have HXS := Lib.hid hxs; have HT := Lib.hid ht
  clear hxs ht
  induction u using tr_ind with
  | h u ih =>
  intro P Q y z vm x w h h' hm hs hx
  obtain ⟨a, cap, rfl⟩ := h.slice
  obtain ⟨a', cap', rfl⟩ := h'.slice
  have H := Lib.hid h; have H' := Lib.hid h'; have HS := Lib.hid hs; have IH := Lib.hid ih; have HM := Lib.hid hm
  have hul : u.kids.length ≤ 100000 := by have := sizeL_len u.kids; rw [size_eq] at hs; omega
  have hu1 := size_pos u
  have hxb : x < xs.length := by omega
  have hxi : (x : Int) < (xs.length : Int) := by omega
  have i0 : IntKind.i64.wrap ((x : Int) + 1) = ((x + 1 : Nat) : Int) := by rw [IntWalk.i64_in _ (by omega)]; omega
  have HX := Lib.hid hx
  obtain ⟨am, cm, rfl, hmn, -, hmc⟩ := hm
  obtain ⟨mb, mo, rfl, hxc⟩ := Ints.at hmc hxb
  have HMC := Lib.hid hmc
  have hz := HXS.out x hxb
  have HE := Lib.hid (rgtB_eq t xs u x)
  obtain ⟨n, hn⟩ : ∃ n : Nat, xs[x]?.getD 0 = (n : Int) := ⟨(xs[x]?.getD 0).toNat, by omega⟩
  rw [hn] at hxc hz HE
  have hnt : n < size t := by omega
  rw [Int.toNat_natCast] at HE
  have HNT := Lib.hid hnt
  have hn1 : n ≤ 100000 := by have := HT.out; omega
  have HN := Lib.hid hn
  have hx4 := bx4_new w (.int .i64 u.label) (.slice a u.kids.length cap) (.int .i64 t.label) (.slice a' t.kids.length cap') 45 45
  have hg0 : w.grownBy ((w.alloc (.cells #[.int .i64 u.label, .slice a u.kids.length cap] 45)).alloc (.cells #[.int .i64 t.label, .slice a' t.kids.length cap'] 45)) none := grown_after (World.grownBy_alloc _ _ none)
  have HX4 := Lib.hid hx4; have HG0 := Lib.hid hg0; have HXC := Lib.hid hxc
  clear h h' ih hmc hz hn hx4 hg0 hxc hnt hs hx hu1
  have hnn : ∀ g : Nat, some g ≠ (none : Option Nat) := by intro g; simp
  go_enter Try.func64, Try.ntmps64
  go_upto_region 1 with fail
  generalize (w.alloc (.cells #[.int .i64 u.label, .slice a u.kids.length cap] 45)).alloc (.cells #[.int .i64 t.label, .slice a' t.kids.length cap'] 45) = wb at *
  go_cut [9] (fun s9 wx => ∃ g an cn, s9 = .pointer (some ⟨g, 0, none⟩) ∧ wb.grownBy wx none ∧ wx.heap[g]? = some (.cells #[.int .i64 (nodeD t n).label, .slice an (nodeD t n).kids.length cn] 45 (0, 0)) ∧ TrK Q wx (.slice an (nodeD t n).kids.length cn) (nodeD t n))
  case first =>
    have GX : Hid (wb.grownBy wb.drew none) := Lib.hid (grown_drew _ _)
    have HB' := Lib.hid (H'.out.same HG0.out).bound
    have GA : Hid (wb.grownBy (wb.alloc (.cells #[.int .i64 0, .slice none 0 0] 45)).drew none) := Lib.hid (grown_trans (World.grownBy_alloc _ _ none) (grown_drew _ none))
    have HA : Hid ((wb.alloc (.cells #[.int .i64 0, .slice none 0 0] 45)).drew.heap[wb.heap.size]? = some (.cells #[.int .i64 0, .slice none 0 0] 45 (0, 0))) := Lib.hid (heap_new _ rfl)
    have HSA : Hid (wb.heap.size < (wb.alloc (.cells #[.int .i64 0, .slice none 0 0] 45)).drew.heap.size) := Lib.hid (Array.getElem?_eq_some_iff.1 HA.out).1
    go_region_held3 (fun w' => w'.cell? ⟨w.heap.size + 1, 0, none⟩ = some (.int .i64 t.label) ∧ w'.cell? ⟨w.heap.size + 1, 1, none⟩ = some (.slice a' t.kids.length cap') ∧ w'.cell? ⟨mb, mo + x, none⟩ = some (.int .i64 (n : Int))) (first | exact ⟨GX.out.cell HX4.out.2.2.1 (hnn _), GX.out.cell HX4.out.2.2.2 (hnn _), GX.out.cell (HG0.out.cell HXC.out (hnn _)) (hnn _)⟩ | exact ⟨(grown_after GX.out).cell HX4.out.2.2.1 (hnn _), (grown_after GX.out).cell HX4.out.2.2.2 (hnn _), (grown_after GX.out).cell (HG0.out.cell HXC.out (hnn _)) (hnn _)⟩ | exact ⟨GA.out.cell HX4.out.2.2.1 (hnn _), GA.out.cell HX4.out.2.2.2 (hnn _), GA.out.cell (HG0.out.cell HXC.out (hnn _)) (hnn _)⟩ | exact ⟨HE5.out.2.1.cell HX4.out.2.2.1 (hnn _), HE5.out.2.1.cell HX4.out.2.2.2 (hnn _), HE5.out.2.1.cell (HG0.out.cell HXC.out (hnn _)) (hnn _)⟩) (first
      | (go_at_call 72; (with_reducible refine (rnode_any t _ _ _ n (HB'.out.same (grown_drew wb none)) HT.out HNT.out).mono ?_); rintro e w5 ⟨an, cn, rfl, hk5, hg5⟩; have K5 := Lib.hid hk5; have G5 := Lib.hid hg5; replace GX : Hid (wb.grownBy w5 none) := Lib.hid (grown_trans GX.out hg5); have HWAY : Hid True := Lib.hid trivial; clear hk5 hg5)
      | (go_at_call 72; (with_reducible refine (rnode_any t _ _ _ n (HB'.out.same GA.out) HT.out HNT.out).mono ?_); rintro e w5 ⟨an, cn, rfl, hk5, hg5⟩; have K5 := Lib.hid hk5; have G5 := Lib.hid hg5; replace GX : Hid (wb.grownBy w5 none) := Lib.hid (grown_trans GA.out hg5); have HA5 := Lib.hid ((hg5.block _ HSA.out (by simp)).trans HA.out); obtain ⟨p1, p2, p3, p4, p5⟩ := put_set (x := .int .i64 (nodeD t n).label) (y := .slice an (nodeD t n).kids.length cn) HA5.out; have HE5 := Lib.hid (nd_end (w0 := wb) GX.out (Nat.le_refl _) HA5.out (.int .i64 (nodeD t n).label) (.slice an (nodeD t n).kids.length cn)); clear hk5 hg5 p1))
    all_goals
      go_wp2_with fail
      go_meet
      first
      | exact ⟨w5.heap.size, an, cn, rfl, grown_after GX.out, heap_new _ rfl, (K5.out.same (World.grownBy_alloc _ _ none)).weak (fun b h => h.1)⟩
      | exact ⟨wb.heap.size, an, cn, rfl, HE5.out.2.1, HE5.out.1, (K5.out.kept HE5.out.2.2 (by rintro j ⟨⟩ h; have := h.2; omega)).weak (fun b h => h.1)⟩
  case rest =>
    obtain ⟨g, an, cn, rfl, hg1, hh1, hk1⟩ := hcut
    rename World => w1
    have HX1 := Lib.hid (HX4.out.same hg1); have G1 := Lib.hid (grown_trans HG0.out hg1); have HK1 := Lib.hid hk1; have HH1 := Lib.hid hh1
    have q0 := (cells_of hh1).1
    have b0 := HX1.out.1
    clear hg1 hh1 hk1 HX4 HG0
    by_cases hlab : (nodeD t n).label = u.label
    case neg =>
      have k1 : ((nodeD t n).label != u.label) = true := by simpa using hlab
      have HF : Hid (rgtB t xs u x = false) := Lib.hid (by rw [HE.out, decide_eq_false hlab]; rfl)
      clear hlab
      go_wp2_with fail
      go_ret
      exact ⟨ret_bool HF.out.symm, G1.out⟩
    have k1 : ((nodeD t n).label != u.label) = false := by simp [hlab]
    replace HE : Hid (rgtB t xs u x = rgtL t xs u.kids n (-1) (x + 1)) := Lib.hid (by rw [HE.out, decide_eq_true hlab, Bool.true_and])
    clear hlab
    go_wp2_with fail
    clear i0 b0 q0 k1
    have HSU := Lib.hid (size_eq u)
    have HB1 := Lib.hid HX1.out.2.1
    have HTB := Lib.hid (show (nodeD t n).kids.length ≤ 100000 from by
      have h1 := size_in (t := t) (u := nodeD t n) (List.mem_of_getElem? (nodeD_at HNT.out)); have h2 := sizeL_len (nodeD t n).kids; rw [size_eq (nodeD t n)] at h1; have := HT.out; omega)
    have HTS2 := Lib.hid (show size (nodeD t n) ≤ 100000 from by
      have h1 := size_in (t := t) (u := nodeD t n) (List.mem_of_getElem? (nodeD_at HNT.out)); have := HT.out; omega)
    generalize hv : nodeD t n = v at *
    have HV := Lib.hid hv
    clear hv
    go_loopw [10, 11, 12] (fun l p i wr => ∃ (k q : Nat) (b : Int), i = .int .i64 k ∧ k ≤ u.kids.length ∧ p = .int .i64 (q : Int) ∧ q ≤ 200000 ∧ l = .int .i64 b ∧ -1 ≤ b ∧ b ≤ 100000 ∧ Hid (q = x + 1 + sizeL (u.kids.take k)) ∧ Hid (rgtB t xs u x = rgtL t xs (u.kids.drop k) n b q) ∧ Hid (w1.grownBy wr none)) (fun _ _ i _ => u.kids.length - (intOf i).toNat)
    case atStart => exact ⟨0, x + 1, -1, rfl, Nat.zero_le _, by go_num, by omega, rfl, by omega, by omega, Lib.hid (by simp [sizeL]), HE, Lib.hid (grown_refl _ _)⟩
    case round =>
      clear HE
      obtain ⟨k, q, b, rfl, hk, rfl, hq, rfl, hb0, hb1, hQ, hR, hG⟩ := hrel
      have b1 := hG.out.cell HB1.out (hnn _)
      by_cases hkb : k < u.kids.length
      · have e1 : (k : Int) < (u.kids.length : Int) := by omega
        have i1 : IntKind.i64.wrap ((k : Int) + 1) = (k : Int) + 1 := IntWalk.i64_in _ (by omega)
        have HKS := Lib.hid (size_kid (List.getElem_mem hkb)); have HTK := Lib.hid (take_sz hkb); have HTL := Lib.hid (take_szle u.kids (k + 1)); have HP1 := Lib.hid (size_pos u.kids[k])
        have HQX : Hid (q + size u.kids[k] ≤ xs.length) := Lib.hid (by have := hQ.out; have := HTK.out; have := HTL.out; have := HSU.out; have := HX.out; omega)
        have hqx : q < xs.length := by have := HQX.out; have := HP1.out; omega
        have hqi : (q : Int) < (xs.length : Int) := by omega
        obtain ⟨mb', mo', hme, hy⟩ := Ints.at HMC.out hqx
        simp only [Option.some.injEq, Addr.mk.injEq, and_true] at hme
        obtain ⟨rfl, rfl⟩ := hme
        have GD := Lib.hid (grown_trans (grown_trans G1.out hG.out) (grown_drew wr none))
        have y1 := GD.out.cell hy (hnn _); have x1 := GD.out.cell HXC.out (hnn _)
        have v0 := (grown_trans hG.out (grown_drew wr none)).cell (cells_of HH1.out).1 (hnn _); have v1 := (grown_trans hG.out (grown_drew wr none)).cell (cells_of HH1.out).2 (hnn _)
        have HRD := Lib.hid (hR.out.trans (rgtL_drop hkb))
        clear hy
        generalize hyv : xs[q]?.getD 0 = yv at *
        have HYV := Lib.hid hyv
        clear hyv
        go_wp2_with fail
        go_still_tail 9, (by kernel_rfl)
        change wpList _ _ _ _ _ wr.drew
        have HKD := Lib.hid ((HK1.out.same hG.out).same (grown_drew wr none)); have GW := Lib.hid (grown_trans hG.out (grown_drew wr none))
        generalize wr.drew = wd at *
        go_wp2_with fail
        (with_reducible refine (rchild_any v _ wd n yv HKD.out HTS2.out hn1).mono ?_)
        rintro e w8 ⟨rfl, hg8⟩
        have G8 := Lib.hid (grown_trans GW.out hg8)
        have HBR := Lib.hid (brL_le v.kids (n + 1) yv 0)
        have hc0 : -1 ≤ brL v.kids (n + 1) yv 0 := HBR.out.1
        have hc1 : brL v.kids (n + 1) yv 0 ≤ 100000 := by have := HBR.out.2; have := HTB.out; omega
        clear hg8 y1 x1 v0 v1 b1
        rw [HV.out] at HRD
        generalize brL v.kids (n + 1) yv 0 = c at *
        by_cases hcb : c ≤ b
        · have HF := Lib.hid (HRD.out.trans (by rw [decide_eq_false (by omega), Bool.false_and, Bool.false_and]))
          have hd : decide (c ≤ b) = true := decide_eq_true hcb
          clear hcb
          go_wp2_with fail
          go_big_quiet (fail)
          go_wp2_with fail
          go_ret
          exact ⟨ret_bool HF.out.symm, grown_trans (grown_trans G1.out G8.out) (grown_drewN _ _ _)⟩
        · have hd : decide (c ≤ b) = false := decide_eq_false hcb
          have HR2 := Lib.hid (HRD.out.trans (by rw [decide_eq_true (by omega), Bool.true_and]))
          obtain ⟨bb, off, a2, cap2, rfl, -, c1, c2, hK⟩ := (H.out.same (grown_trans G1.out G8.out)).kid hkb
          have HK := Lib.hid (hK.same (grown_drew w8 none)); have HKT := Lib.hid ((H'.out.same (grown_trans G1.out G8.out)).same (grown_drew w8 none)); have HMT := Lib.hid ((HM.out.same (grown_trans G1.out G8.out)).same (grown_drew w8 none))
          have C1 := Lib.hid c1; have C2 := Lib.hid c2; have B1 := Lib.hid (G8.out.cell HB1.out (hnn _)); have B2 := Lib.hid (G8.out.cell HX1.out.2.2.1 (hnn _)); have B3 := Lib.hid (G8.out.cell HX1.out.2.2.2 (hnn _))
          have HKL : Hid (size u.kids[k] ≤ 100000) := Lib.hid (by have := HKS.out; have := HS.out; omega)
          clear hcb hK
          go_wp2_with fail
          have GX : Hid (w8.grownBy w8.drew none) := Lib.hid (grown_drew _ none)
          go_region_held3 (fun w' => w'.cell? ⟨w.heap.size, 1, none⟩ = some (.slice (some ⟨bb, off, none⟩) u.kids.length cap) ∧ w'.cell? ⟨bb, off + k * 2, none⟩ = some (.int .i64 u.kids[k].label) ∧ w'.cell? ⟨bb, off + k * 2 + 1, none⟩ = some (.slice a2 u.kids[k].kids.length cap2) ∧ w'.cell? ⟨w.heap.size + 1, 0, none⟩ = some (.int .i64 t.label) ∧ w'.cell? ⟨w.heap.size + 1, 1, none⟩ = some (.slice a' t.kids.length cap')) (first | exact ⟨GX.out.cell B1.out (hnn _), GX.out.cell C1.out (hnn _), GX.out.cell C2.out (hnn _), GX.out.cell B2.out (hnn _), GX.out.cell B3.out (hnn _)⟩) (first
            | (go_at_call 64; (with_reducible refine (IH.out _ HKS.out _ _ _ _ _ q _ HK.out HKT.out HMT.out HKL.out HQX.out).mono ?_); rintro e w9 ⟨rfl, hg9⟩; have W9 := Lib.hid hg9; replace GX : Hid (w8.grownBy w9 none) := Lib.hid (grown_trans GX.out hg9); clear hg9))
          rename_i hHd
          clear hHd
          have G9 := Lib.hid (grown_trans G8.out GX.out)
          cases hB : rgtB t xs u.kids[k] q with
          | false =>
            have HF := Lib.hid (HR2.out.trans (by rw [hB, Bool.false_and]))
            clear hB
            go_wp2_with fail
            go_ret
            exact ⟨ret_bool HF.out.symm, grown_trans G1.out G9.out⟩
          | true =>
            have HR3 := Lib.hid (HR2.out.trans (by rw [hB, Bool.true_and]))
            have c1' := GX.out.cell C1.out (hnn _); have c2' := GX.out.cell C2.out (hnn _); have b1' := GX.out.cell B1.out (hnn _)
            have HK9 := Lib.hid (HK.out.same W9.out)
            clear hB c1 c2
            go_wp2_with fail
            refine (rwalk_any u.kids[k] _ _ HK9.out HKL.out).mono ?_
            rintro e w7 ⟨v7, rfl, ho7, hg7⟩
            obtain ⟨a7, c7, rfl⟩ := ownI_sl ho7
            have hln : ((pre u.kids[k]).map label).length = size u.kids[k] := by rw [List.length_map, len_pre]
            rw [hln]
            have G7 := Lib.hid (grown_trans G9.out hg7)
            have hq7 : q + size u.kids[k] ≤ 200000 := by have := HQX.out; omega
            have i5 : IntKind.i64.wrap ((q : Int) + (size u.kids[k] : Int)) = ((q + size u.kids[k] : Nat) : Int) := by rw [IntWalk.i64_in _ (by omega)]; omega
            have HQ7 : Hid (q + size u.kids[k] = x + 1 + sizeL (u.kids.take (k + 1))) := Lib.hid (by have := hQ.out; have := HTK.out; omega)
            clear hln ho7 hg7 c1' c2' b1'
            go_wp2_with fail
            go_roundw
            case rel => exact ⟨k + 1, q + size u.kids[k], c, by go_num, by omega, by go_num, hq7, rfl, hc0, hc1, HQ7, HR3, G7⟩
            case measure => simp [intOf]; omega
      · obtain rfl : k = u.kids.length := by omega
        have e1 : ¬ (u.kids.length : Int) < (u.kids.length : Int) := by omega
        go_wp2_with fail
        go_ret
        exact ⟨ret_bool (by rw [hR.out, List.drop_length]; rfl), grown_trans G1.out hG.out⟩

end Go.Proofs.Ytnppmemcdcgjhaa
