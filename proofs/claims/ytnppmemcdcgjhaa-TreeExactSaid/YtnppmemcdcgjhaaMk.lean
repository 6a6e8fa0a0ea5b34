/- The reference's node, child. -/
import Derived.Test.YtnppmemcdcgjhaaMj
import Derived.Test.YtnppmemcdcgjhaaKl
namespace Go.Proofs.Ytnppmemcdcgjhaa
open Go.RowKit Tr
set_option linter.unusedVariables false

theorem nodeD_zero (t : Tr) : nodeD t 0 = t := by unfold nodeD; rw [pre_eq]; rfl
theorem nodeD_kid {t : Tr} {i r : Nat} (hi : i < t.kids.length) (hr : r < size t.kids[i]) : nodeD t (1 + sizeL (t.kids.take i) + r) = nodeD t.kids[i] r := by
  have h := seg_kid (seg_pre t) hi r hr
  rw [Nat.zero_add] at h
  unfold nodeD
  rw [h]
def NdTo (P : Nat → Prop) (t : Tr) (n : Nat) (w : World) (e : Ending) (w' : World) : Prop := ∃ a c, e = .returned (.agg #[.int .i64 (nodeD t n).label, .slice a (nodeD t n).kids.length c]) ∧ TrK P w' (.slice a (nodeD t n).kids.length c) (nodeD t n) ∧ w.grownBy w' none
/-- The result's cell, put at the end. -/
theorem nd_end {w0 w1 : World} {g : Nat} {e : TypeId} {u v : Value} (hg : w0.grownBy w1 none) (hsz : w0.heap.size ≤ g) (hb : w1.heap[g]? = some (.cells #[u, v] e (0, 0))) (x y : Value) :
    ((w1.setCell ⟨g, 0, none⟩ x).setCell ⟨g, 1, none⟩ y).heap[g]? = some (.cells #[x, y] e (0, 0)) ∧ w0.grownBy ((w1.setCell ⟨g, 0, none⟩ x).setCell ⟨g, 1, none⟩ y) none ∧ w1.grownBy ((w1.setCell ⟨g, 0, none⟩ x).setCell ⟨g, 1, none⟩ y) (some g) :=
  have h2 : w1.grownBy ((w1.setCell ⟨g, 0, none⟩ x).setCell ⟨g, 1, none⟩ y) (some g) := grown_trans (grown_set w1 ⟨g, 0, none⟩ x) (grown_set _ ⟨g, 1, none⟩ y)
  ⟨(put_set hb).1, grown_then hg h2 (fun j hj => .inl (by cases hj; exact hsz)), h2⟩
set_option maxRecDepth 100000 in
set_option maxHeartbeats 1500000 in
theorem rnode_any (t : Tr) : ∀ (P : Nat → Prop) (y : Value) (w : World) (n : Nat), TrK P w y t → size t ≤ 100000 → n < size t →
    Calls Try.prog 72 #[.agg #[.int .i64 t.label, y], .int .i64 (n : Int)] w (NdTo P t n w) := by
  induction t using tr_ind with
  | h t ih =>
  intro P y w n h hs hn
  obtain ⟨a, cap, rfl⟩ := h.slice
  have H := Lib.hid h; have HB := Lib.hid h.bound; have HS := Lib.hid hs; have IH := Lib.hid ih; have HN := Lib.hid hn
  have htl : t.kids.length ≤ 100000 := by have := sizeL_len t.kids; rw [size_eq] at hs; omega
  have hn2 : n ≤ 100000 := by omega
  clear h ih hs hn
  have hx := bx4_new w (.int .i64 t.label) (.slice a t.kids.length cap) (.int .i64 0) (.slice none 0 0) 45 45
  have hg0 : w.grownBy ((w.alloc (.cells #[.int .i64 t.label, .slice a t.kids.length cap] 45)).alloc (.cells #[.int .i64 0, .slice none 0 0] 45)) none := grown_after (World.grownBy_alloc _ _ none)
  have hb1 : ((w.alloc (.cells #[.int .i64 t.label, .slice a t.kids.length cap] 45)).alloc (.cells #[.int .i64 0, .slice none 0 0] 45)).heap[w.heap.size + 1]? = some (.cells #[.int .i64 0, .slice none 0 0] 45 (0, 0)) := heap_new _ (by show _ = (w.heap.push _).size; simp)
  by_cases hn0 : n = 0
  · subst hn0
    go_enter Try.func72, Try.ntmps72
    go_wp2_with fail
    refine bodyPost_ret (results_cell_row rfl _ _ (w.heap.size + 1) _ _ _ _ rfl (heap_new _ (by show _ = (w.heap.push _).size; simp)) Try.underlying45 rfl (by kernel_rfl)) rfl ?_
    unfold NdTo
    rw [nodeD_zero]
    exact ⟨a, cap, rfl, H.out.same (grown_after (World.grownBy_alloc _ _ none)), grown_after (World.grownBy_alloc _ _ none)⟩
  · have e0 : ((n : Int) == 0) = false := by simp; omega
    have i0 : IntKind.i64.wrap ((n : Int) - 1) = ((n - 1 : Nat) : Int) := by rw [IntWalk.i64_in _ (by omega)]; omega
    have HBX := Lib.hid hx.2.1; have HR := Lib.hid hb1; have HG := Lib.hid hg0; have HP := Lib.hid hn0
    clear hx hg0 hb1 hn0
    go_enter Try.func72, Try.ntmps72
    go_wp2_with fail
    clear i0 e0
    go_loopw [1, 5] (fun m i wr => ∃ (k r : Nat), i = .int .i64 k ∧ k ≤ t.kids.length ∧ m = .int .i64 (r : Int) ∧ r ≤ 100000 ∧ Hid (n = 1 + sizeL (t.kids.take k) + r) ∧ Hid (wr.cell? ⟨w.heap.size, 1, none⟩ = some (.slice a t.kids.length cap)) ∧ Hid (wr.heap[w.heap.size + 1]? = some (.cells #[.int .i64 0, .slice none 0 0] 45 (0, 0))) ∧ Hid (w.grownBy wr none)) (fun _ i _ => t.kids.length - (intOf i).toNat)
    case atStart => exact ⟨0, n - 1, rfl, Nat.zero_le _, rfl, by omega, Lib.hid (by have := HP.out; simp [sizeL]; omega), HBX, HR, HG⟩
    case round =>
      clear HBX HR HG
      obtain ⟨k, r, rfl, hk, rfl, hr, hE, hBX, hR, hG⟩ := hrel
      have hb1 := hBX.out
      by_cases hkb : k < t.kids.length
      · have e1 : (k : Int) < (t.kids.length : Int) := by omega
        have i1 : IntKind.i64.wrap ((k : Int) + 1) = (k : Int) + 1 := IntWalk.i64_in _ (by omega)
        obtain ⟨b, off, a2, cap2, rfl, -, c1, c2, hK⟩ := (HB.out.same hG.out).kid hkb
        have HK := Lib.hid hK; have HKS := Lib.hid (size_kid (List.getElem_mem hkb)); have HTS := Lib.hid (take_sz hkb)
        have C1 := Lib.hid c1; have C2 := Lib.hid c2
        have HKS6 : Hid (size t.kids[k] ≤ 100000) := Lib.hid (by have := HKS.out; have := HS.out; omega)
        clear hK
        go_wp2_with fail
        refine (rwalk_any t.kids[k] _ _ HK.out HKS6.out).mono ?_
        rintro e w7 ⟨v7, rfl, ho7, hg7⟩
        obtain ⟨a7, c7, rfl⟩ := ownI_sl ho7
        have hln : ((pre t.kids[k]).map label).length = size t.kids[k] := by rw [List.length_map, len_pre]
        rw [hln]
        have hbx := hg7.cell hBX.out (by simp); have d1 := hg7.cell C1.out (by simp); have d2 := hg7.cell C2.out (by simp)
        have HR7 := Lib.hid ((hg7.block _ (Array.getElem?_eq_some_iff.1 hR.out).1 (by simp)).trans hR.out)
        have HBX7 := Lib.hid hbx; have HG7 := Lib.hid (grown_trans hG.out hg7); have HK7 := Lib.hid (HK.out.same hg7)
        clear hln ho7 hg7 c1 c2 hb1
        by_cases hrs : r < size t.kids[k]
        · have e2 : (r : Int) < (size t.kids[k] : Int) := by omega
          have HND : Hid (nodeD t n = nodeD t.kids[k] r) := Lib.hid (by rw [hE.out]; exact nodeD_kid hkb hrs)
          have HRS := Lib.hid hrs
          clear hrs
          go_wp2_with fail
          refine (IH.out _ HKS.out _ _ _ r HK7.out HKS6.out HRS.out).mono ?_
          rintro e w8 ⟨a8, c8, rfl, hk8, hg8⟩
          have HR8 := (hg8.block _ (Array.getElem?_eq_some_iff.1 HR7.out).1 (by simp)).trans HR7.out
          obtain ⟨p1, p2, p3, p4, p5⟩ := put_set (x := .int .i64 (nodeD t.kids[k] r).label) (y := .slice a8 (nodeD t.kids[k] r).kids.length c8) HR8
          have HE8 := Lib.hid (nd_end (grown_trans HG7.out hg8) (Nat.le_succ _) HR8 (.int .i64 (nodeD t.kids[k] r).label) (.slice a8 (nodeD t.kids[k] r).kids.length c8))
          have HK8 := Lib.hid hk8
          clear p1 hk8 HR8 hbx d1 d2
          go_wp2_with fail
          clear p2 p3 p4 p5
          refine bodyPost_ret (results_cell_row rfl _ _ (w.heap.size + 1) _ _ _ _ rfl HE8.out.1 Try.underlying45 rfl (by kernel_rfl)) rfl ?_
          unfold NdTo
          rw [HND.out]
          exact ⟨a8, c8, rfl, (HK8.out.kept HE8.out.2.2 (by rintro j ⟨⟩ h; have := h.2; omega)).weak (fun b h => h.1), HE8.out.2.1⟩
        · have e2 : ¬ (r : Int) < (size t.kids[k] : Int) := by omega
          have i3 : IntKind.i64.wrap ((r : Int) - (size t.kids[k] : Int)) = ((r - size t.kids[k] : Nat) : Int) := by rw [IntWalk.i64_in _ (by omega)]; omega
          have HE7 : Hid (n = 1 + sizeL (t.kids.take (k + 1)) + (r - size t.kids[k])) := Lib.hid (by have := hE.out; have := HTS.out; omega)
          have hr7 : r - size t.kids[k] ≤ 100000 := by omega
          clear hrs
          go_wp2_with fail
          go_roundw
          case rel => exact ⟨k + 1, r - size t.kids[k], by go_num, by omega, rfl, hr7, HE7, HBX7, HR7, HG7⟩
          case measure => simp [intOf]; omega
      · exfalso
        obtain rfl : k = t.kids.length := by omega
        have h1 := hE.out; have h2 := HN.out
        rw [List.take_length] at h1
        rw [size_eq] at h2
        omega

set_option maxRecDepth 100000 in
set_option maxHeartbeats 1500000 in
theorem rchild_any {P : Nat → Prop} (t : Tr) (y : Value) (w : World) (n : Nat) (o : Int) (h : TrK P w y t) (hs : size t ≤ 100000) (hn : n ≤ 100000) :
    Calls Try.prog 73 #[.agg #[.int .i64 t.label, y], .int .i64 (n : Int), .int .i64 o] w (CmpTo (brL t.kids (n + 1) o 0) w) := by
  obtain ⟨a, cap, rfl⟩ := h.slice
  have H := Lib.hid h; have HS := Lib.hid hs
  have htl : t.kids.length ≤ 100000 := by have := sizeL_len t.kids; rw [size_eq] at hs; omega
  have i0 : IntKind.i64.wrap ((n : Int) + 1) = ((n + 1 : Nat) : Int) := by rw [IntWalk.i64_in _ (by omega)]; omega
  have hb := box_cells w (.int .i64 t.label) (.slice a t.kids.length cap) 45
  have HB := Lib.hid hb.2
  have HG0 : Hid (w.grownBy (w.alloc (.cells #[.int .i64 t.label, .slice a t.kids.length cap] 45)) none) := Lib.hid (World.grownBy_alloc _ _ none)
  have HSE := Lib.hid (size_eq t)
  clear h hs hb
  go_enter Try.func73, Try.ntmps73
  go_wp2_with fail
  clear i0
  go_loopw [7, 8] (fun m i wr => ∃ (k q : Nat), i = .int .i64 k ∧ k ≤ t.kids.length ∧ m = .int .i64 (q : Int) ∧ q ≤ 300000 ∧ Hid (q = n + 1 + sizeL (t.kids.take k)) ∧ Hid (brL t.kids (n + 1) o 0 = brL (t.kids.drop k) (n + 1 + sizeL (t.kids.take k)) o k) ∧ Hid (wr.cell? ⟨w.heap.size, 1, none⟩ = some (.slice a t.kids.length cap)) ∧ Hid (w.grownBy wr none)) (fun _ i _ => t.kids.length - (intOf i).toNat)
  case atStart => exact ⟨0, n + 1, rfl, Nat.zero_le _, rfl, by omega, Lib.hid (by simp [sizeL]), Lib.hid (by simp [sizeL]), HB, HG0⟩
  case round =>
    clear HB HG0
    obtain ⟨k, q, rfl, hk, rfl, hq, hE, hR, hBX, hG⟩ := hrel
    have hb1 := hBX.out
    by_cases hkb : k < t.kids.length
    · have e1 : (k : Int) < (t.kids.length : Int) := by omega
      have i1 : IntKind.i64.wrap ((k : Int) + 1) = (k : Int) + 1 := IntWalk.i64_in _ (by omega)
      obtain ⟨b, off, a2, cap2, rfl, -, c1, c2, hK⟩ := (H.out.same hG.out).kid hkb
      have HK := Lib.hid hK; have HKS := Lib.hid (size_kid (List.getElem_mem hkb)); have HTS := Lib.hid (take_sz hkb); have HTL := Lib.hid (take_szle t.kids (k + 1))
      have HKS6 : Hid (size t.kids[k] ≤ 100000) := Lib.hid (by have := HKS.out; have := HS.out; omega)
      have HB2 := Lib.hid (hR.out.trans (brL_step hkb))
      clear hK
      go_wp2_with fail
      refine (rwalk_any t.kids[k] _ _ HK.out HKS6.out).mono ?_
      rintro e w7 ⟨v7, rfl, ho7, hg7⟩
      obtain ⟨a7, c7, rfl⟩ := ownI_sl ho7
      have hln : ((pre t.kids[k]).map label).length = size t.kids[k] := by rw [List.length_map, len_pre]
      rw [hln]
      have HBX7 := Lib.hid (hg7.cell hBX.out (by simp)); have HG7 := Lib.hid (grown_trans hG.out hg7)
      have hq7 : q + size t.kids[k] ≤ 300000 := by have := hE.out; have := HTS.out; have := HTL.out; have := HSE.out; have := HS.out; omega
      have i5 : IntKind.i64.wrap ((q : Int) + (size t.kids[k] : Int)) = ((q + size t.kids[k] : Nat) : Int) := by rw [IntWalk.i64_in _ (by omega)]; omega
      have HE7 : Hid (q + size t.kids[k] = n + 1 + sizeL (t.kids.take (k + 1))) := Lib.hid (by have := hE.out; have := HTS.out; omega)
      have HQ : Hid (n + 1 + sizeL (t.kids.take k) = q) := Lib.hid hE.out.symm
      rw [HQ.out] at HB2
      clear hln ho7 hg7 c1 c2 hb1
      obtain ⟨q2, hq2⟩ : ∃ q2, q + size t.kids[k] = q2 := ⟨_, rfl⟩
      rw [hq2] at HE7 hq7 i5 HB2
      have HQ2 := Lib.hid hq2
      clear hq2
      by_cases hy1 : (q : Int) ≤ o
      · by_cases hy2 : o < (q2 : Int)
        · have hd : decide (o ≥ (q : Int)) = true := decide_eq_true hy1
          go_wp2_with fail
          go_ret
          exact ⟨ret_int (by rw [HB2.out, if_pos ⟨hy1, hy2⟩]), HG7.out⟩
        · have hy3 : (q2 : Int) ≤ o := by omega
          go_wp2_with fail
          go_roundw
          case rel => exact ⟨k + 1, q2, by go_num, by omega, rfl, hq7, HE7, Lib.hid (by rw [HB2.out, if_neg (by omega)]), HBX7, HG7⟩
          case measure => simp [intOf]; omega
      · have hy3 : o < (q : Int) := by omega
        go_wp2_with fail
        go_roundw
        case rel => exact ⟨k + 1, q2, by go_num, by omega, rfl, hq7, HE7, Lib.hid (by rw [HB2.out, if_neg (by omega)]), HBX7, HG7⟩
        case measure => simp [intOf]; omega
    · obtain rfl : k = t.kids.length := by omega
      have e1 : ¬ (t.kids.length : Int) < (t.kids.length : Int) := by omega
      go_wp2_with fail
      go_ret
      exact ⟨ret_int (by rw [hR.out, List.drop_length]; rfl), hG.out⟩

end Go.Proofs.Ytnppmemcdcgjhaa
