/- Compare of trees of any size; Size, Labels of any tree. -/
import Derived.Test.YtnppmemcdcgjhaaMm
import Derived.Test.YtnppmemcdcgjhaaGr
namespace Go.Proofs.Ytnppmemcdcgjhaa
open Go.RowKit Tr
set_option linter.unusedVariables false

def cmpA (s t : Tr) : Int := if 12 < size s then (if 12 < size t then 0 else 1) else if 12 < size t then -1 else cmpT s t
theorem dec_c {n c : Nat} (p3 : n ≤ 12 → c = n) (p4 : 12 < n → 12 < c) : decide ((12 : Int) < (c : Int)) = decide (12 < n) := by
  rcases Nat.lt_or_ge 12 n with h | h
  · have := p4 h
    rw [decide_eq_true (by omega), decide_eq_true h]
  · have := p3 h
    rw [decide_eq_false (by omega), decide_eq_false (by omega)]
set_option maxRecDepth 100000 in
set_option maxHeartbeats 1500000 in
theorem CompareA_any {P Q : Nat → Prop} (s t : Tr) (y z : Value) (w : World) (h : TrK P w y s) (h' : TrK Q w z t) (hs : size s ≤ 100000) (ht : size t ≤ 100000) :
    Calls Try.prog 39 #[.agg #[.int .i64 s.label, y], .agg #[.int .i64 t.label, z]] w (CmpTo (cmpA s t) w) := by
  obtain ⟨a, cap, rfl⟩ := h.slice
  obtain ⟨a', cap', rfl⟩ := h'.slice
  have H := Lib.hid h; have H' := Lib.hid h'; have HS1 := Lib.hid hs; have HT1 := Lib.hid ht
  clear h h' hs ht
  have hnn : ∀ g : Nat, some g ≠ (none : Option Nat) := by intro g; simp
  have hx := bx4_new w (.int .i64 s.label) (.slice a s.kids.length cap) (.int .i64 t.label) (.slice a' t.kids.length cap') 45 45
  have hg0 : w.grownBy ((w.alloc (.cells #[.int .i64 s.label, .slice a s.kids.length cap] 45)).alloc (.cells #[.int .i64 t.label, .slice a' t.kids.length cap'] 45)) none := grown_after (World.grownBy_alloc _ _ none)
  have B2 := Lib.hid hx; have HG := Lib.hid hg0
  clear hx hg0
  obtain ⟨bs, hbs⟩ : ∃ b, decide (12 < size s) = b := ⟨_, rfl⟩
  obtain ⟨bt, hbt⟩ : ∃ b, decide (12 < size t) = b := ⟨_, rfl⟩
  have BS := Lib.hid hbs; have BT := Lib.hid hbt
  clear hbs hbt
  go_enter Try.func39, Try.ntmps39
  go_wp2_with fail
  generalize (w.alloc (.cells #[.int .i64 s.label, .slice a s.kids.length cap] 45)).alloc (.cells #[.int .i64 t.label, .slice a' t.kids.length cap'] 45) = wb at *
  have GX : Hid (wb.grownBy wb.drew none) := Lib.hid (grown_drew _ none)
  go_region_held3 (fun w' => w'.cell? ⟨w.heap.size, 0, none⟩ = some (.int .i64 s.label) ∧ w'.cell? ⟨w.heap.size, 1, none⟩ = some (.slice a s.kids.length cap) ∧ w'.cell? ⟨w.heap.size + 1, 0, none⟩ = some (.int .i64 t.label) ∧ w'.cell? ⟨w.heap.size + 1, 1, none⟩ = some (.slice a' t.kids.length cap')) (first | exact B2.out.same GX.out) (first
    | (go_at_call 58; (with_reducible refine (count_any s (.slice a s.kids.length cap) _ (H.out.same (grown_trans HG.out GX.out)) HS1.out).mono ?_); rintro e w5 ⟨c, rfl, p1, p2, p3, p4, hg⟩; have hd1 := (dec_c p3 p4).trans BS.out; replace GX : Hid (wb.grownBy w5 none) := Lib.hid (grown_trans GX.out hg); clear p1 p2 p3 p4 hg)
    | (go_at_call 58; (with_reducible refine (count_any t (.slice a' t.kids.length cap') _ (H'.out.same (grown_trans HG.out GX.out)) HT1.out).mono ?_); rintro e w5 ⟨c, rfl, p1, p2, p3, p4, hg⟩; have hd2 := (dec_c p3 p4).trans BT.out; replace GX : Hid (wb.grownBy w5 none) := Lib.hid (grown_trans GX.out hg); clear p1 p2 p3 p4 hg))
  all_goals
    have G5 := Lib.hid (grown_trans HG.out GX.out)
    have B5 := Lib.hid (B2.out.same GX.out)
    clear hd1 hd2
    cases bs with
    | true =>
      have hs12 := of_decide_eq_true BS.out
      cases bt with
      | true =>
        have ht12 := of_decide_eq_true BT.out
        have HE : Hid (cmpA s t = 0) := Lib.hid (by unfold cmpA; rw [if_pos hs12, if_pos ht12])
        clear hs12 ht12
        go_wp2_with fail
        go_ret
        exact ⟨ret_int HE.out.symm, G5.out⟩
      | false =>
        have ht12 := of_decide_eq_false BT.out
        have HE : Hid (cmpA s t = 1) := Lib.hid (by unfold cmpA; rw [if_pos hs12, if_neg ht12])
        clear hs12 ht12
        go_wp2_with fail
        go_ret
        exact ⟨ret_int HE.out.symm, G5.out⟩
    | false =>
      have hs12 := of_decide_eq_false BS.out
      cases bt with
      | true =>
        have ht12 := of_decide_eq_true BT.out
        have HE : Hid (cmpA s t = -1) := Lib.hid (by unfold cmpA; rw [if_neg hs12, if_pos ht12])
        clear hs12 ht12
        go_wp2_with fail
        go_ret
        exact ⟨ret_int HE.out.symm, G5.out⟩
      | false =>
        have ht12 := of_decide_eq_false BT.out
        have HE : Hid (cmpA s t = cmpT s t) := Lib.hid (by unfold cmpA; rw [if_neg hs12, if_neg ht12])
        have c1 := B5.out.1; have c2 := B5.out.2.1; have c3 := B5.out.2.2.1; have c4 := B5.out.2.2.2
        clear hs12 ht12
        go_wp2_with fail
        refine (compare_any s t _ _ _ (H.out.same G5.out) (H'.out.same G5.out) HS1.out).mono ?_
        rintro e w7 ⟨rfl, hg⟩
        have G7 := Lib.hid (grown_trans G5.out hg)
        clear hg c1 c2 c3 c4
        go_wp2_with fail
        go_ret
        exact ⟨ret_int HE.out.symm, G7.out⟩

set_option maxRecDepth 100000 in
set_option maxHeartbeats 1500000 in
theorem rcompareT_any (s : Tr) : ∀ (P Q : Nat → Prop) (t : Tr) (y z : Value) (w : World), TrK P w y s → TrK Q w z t → size s ≤ 100000 →
    Calls Try.prog 60 #[.agg #[.int .i64 s.label, y], .agg #[.int .i64 t.label, z]] w (CmpTo (cmpT s t) w) := by
  induction s using tr_ind with
  | h s ih =>
  intro P Q t y z w h h' hsz
  obtain ⟨a, cap, rfl⟩ := h.slice
  obtain ⟨a', cap', rfl⟩ := h'.slice
  have H := Lib.hid h; have H' := Lib.hid h'; have IH := Lib.hid ih; have HS := Lib.hid hsz; have HE := Lib.hid (cmpT_eq s t)
  have hkl : s.kids.length ≤ 100000 := by have := sizeL_len s.kids; rw [size_eq] at hsz; omega
  have hnn : ∀ g : Nat, some g ≠ (none : Option Nat) := by intro g; simp
  have hx := bx4_new w (.int .i64 s.label) (.slice a s.kids.length cap) (.int .i64 t.label) (.slice a' t.kids.length cap') 45 45
  have hg0 : w.grownBy ((w.alloc (.cells #[.int .i64 s.label, .slice a s.kids.length cap] 45)).alloc (.cells #[.int .i64 t.label, .slice a' t.kids.length cap'] 45)) none := grown_after (World.grownBy_alloc _ _ none)
  have B2 := Lib.hid hx; have HG := Lib.hid hg0
  clear h h' ih hsz hx hg0
  have K0 : Hid (s.label ≠ t.label → cmpT s t = orderI s.label t.label) := Lib.hid (fun h => by rw [HE.out, if_pos (fun e => h (orderI_zero.1 e))])
  have K1 : Hid (s.label = t.label → s.kids.length ≠ t.kids.length → cmpT s t = orderI s.kids.length t.kids.length) := Lib.hid (fun h h2 => by
    rw [HE.out, if_neg (by rw [Decidable.not_not]; exact orderI_zero.2 h), if_pos (fun e => h2 (by have := orderI_zero.1 e; omega))])
  have K2 : Hid (s.label = t.label → s.kids.length = t.kids.length → cmpT s t = cmpL s.kids t.kids) := Lib.hid (fun h h2 => by
    rw [HE.out, if_neg (by rw [Decidable.not_not]; exact orderI_zero.2 h), if_neg (by rw [Decidable.not_not]; exact orderI_zero.2 (by omega))])
  by_cases h1 : s.label = t.label
  case neg =>
    have k1 : (s.label != t.label) = true := by simpa using h1
    have HV := Lib.hid (K0.out h1)
    clear h1
    go_enter Try.func60, Try.ntmps60
    go_wp2_with fail
    refine (order_any _ _ _).mono ?_
    rintro e w1 ⟨rfl, hw1⟩
    subst hw1
    go_wp2_with fail
    go_ret
    exact ⟨ret_int HV.out.symm, HG.out⟩
  have k1 : (s.label != t.label) = false := by simp [h1]
  by_cases h2 : s.kids.length = t.kids.length
  case neg =>
    have k2 : ((s.kids.length : Int) != (t.kids.length : Int)) = true := by simp; omega
    have HV := Lib.hid (K1.out h1 h2)
    clear h1 h2
    go_enter Try.func60, Try.ntmps60
    go_wp2_with fail
    refine (order_any _ _ _).mono ?_
    rintro e w1 ⟨rfl, hw1⟩
    subst hw1
    go_wp2_with fail
    go_ret
    exact ⟨ret_int HV.out.symm, HG.out⟩
  have k2 : ((s.kids.length : Int) != (t.kids.length : Int)) = false := by simp; omega
  have HV := Lib.hid (K2.out h1 h2); have HL := Lib.hid h2
  clear h1 h2
  go_enter Try.func60, Try.ntmps60
  go_wp2_with fail
  generalize (w.alloc (.cells #[.int .i64 s.label, .slice a s.kids.length cap] 45)).alloc (.cells #[.int .i64 t.label, .slice a' t.kids.length cap'] 45) = wb at *
  go_loopw [5] (fun i wr => ∃ k : Nat, i = .int .i64 k ∧ k ≤ s.kids.length ∧ Hid (cmpL (s.kids.take k) (t.kids.take k) = 0) ∧ Hid (Bx4 wr w.heap.size (.int .i64 s.label) (.slice a s.kids.length cap) (.int .i64 t.label) (.slice a' t.kids.length cap')) ∧ Hid (w.grownBy wr none)) (fun i _ => s.kids.length - (intOf i).toNat)
  case atStart => exact ⟨0, rfl, Nat.zero_le _, Lib.hid (by simp [cmpL]), B2, HG⟩
  case round =>
    clear B2 HG k1 k2
    obtain ⟨k, rfl, hk, hC, hB, hG⟩ := hrel
    have b1 := hB.out.2.1; have b3 := hB.out.2.2.2
    by_cases hkb : k < s.kids.length
    · have e1 : (k : Int) < (s.kids.length : Int) := by omega
      have hkt : k < t.kids.length := by have := HL.out; omega
      have e3 : (k : Int) < (t.kids.length : Int) := by omega
      have i1 : IntKind.i64.wrap ((k : Int) + 1) = (k : Int) + 1 := IntWalk.i64_in _ (by omega)
      obtain ⟨b, off, a2, cap2, rfl, -, c1, c2, hK⟩ := (H.out.same hG.out).kid hkb
      obtain ⟨b', off', a3, cap3, rfl, -, c3, c4, hK'⟩ := (H'.out.same hG.out).kid hkt
      have HK := Lib.hid (hK.same (grown_drew wr none)); have HK' := Lib.hid (hK'.same (grown_drew wr none))
      have HKS := Lib.hid (size_kid (List.getElem_mem hkb))
      have HKL : Hid (size s.kids[k] ≤ 100000) := Lib.hid (by have := HS.out; have := HKS.out; omega)
      have C1 := Lib.hid c1; have C2 := Lib.hid c2; have C3 := Lib.hid c3; have C4 := Lib.hid c4
      have HA := Lib.hid (cmpL_at s.kids t.kids k hkb hkt hC.out); have HT := Lib.hid (cmpL_take s.kids t.kids k hkb hkt hC.out)
      rw [List.getElem?_eq_getElem hkb, List.getElem?_eq_getElem hkt, Option.getD_some, Option.getD_some] at HA HT
      clear hK hK'
      go_wp2_with fail
      have GX : Hid (wr.grownBy wr.drew none) := Lib.hid (grown_drew _ none)
      go_region_held3 (fun w' => w'.cell? ⟨w.heap.size, 1, none⟩ = some (.slice (some ⟨b, off, none⟩) s.kids.length cap) ∧ w'.cell? ⟨w.heap.size + 1, 1, none⟩ = some (.slice (some ⟨b', off', none⟩) t.kids.length cap') ∧ w'.cell? ⟨b, off + k * 2, none⟩ = some (.int .i64 s.kids[k].label) ∧ w'.cell? ⟨b, off + k * 2 + 1, none⟩ = some (.slice a2 s.kids[k].kids.length cap2) ∧ w'.cell? ⟨b', off' + k * 2, none⟩ = some (.int .i64 t.kids[k].label) ∧ w'.cell? ⟨b', off' + k * 2 + 1, none⟩ = some (.slice a3 t.kids[k].kids.length cap3)) (first | exact ⟨GX.out.cell hB.out.2.1 (hnn _), GX.out.cell hB.out.2.2.2 (hnn _), GX.out.cell C1.out (hnn _), GX.out.cell C2.out (hnn _), GX.out.cell C3.out (hnn _), GX.out.cell C4.out (hnn _)⟩) (first
        | (go_at_call 60; (with_reducible refine (IH.out _ HKS.out _ _ t.kids[k] _ _ _ HK.out HK'.out HKL.out).mono ?_); rintro e w5 ⟨rfl, hg5⟩; replace GX : Hid (wr.grownBy w5 none) := Lib.hid (grown_trans GX.out hg5); clear hg5))
      rename_i hHd
      clear hHd c1 c2 c3 c4 b1 b3
      have G5 := Lib.hid (grown_trans hG.out GX.out); have B5 := Lib.hid (hB.out.same GX.out)
      generalize cmpT s.kids[k] t.kids[k] = c at *
      by_cases hc : c = 0
      · have k3 : (c != 0) = false := by simp [hc]
        have HT2 := Lib.hid (HT.out.trans hc)
        clear hc
        go_wp2_with fail
        go_roundw
        case rel => exact ⟨k + 1, by go_num, by omega, HT2, B5, G5⟩
        case measure => simp [intOf]; omega
      · have k3 : (c != 0) = true := by simpa using hc
        have HV2 := Lib.hid (HV.out.trans (HA.out hc))
        clear hc
        go_wp2_with fail
        go_ret
        exact ⟨ret_int HV2.out.symm, G5.out⟩
    · obtain rfl : k = s.kids.length := by omega
      have e1 : ¬ (s.kids.length : Int) < (s.kids.length : Int) := by omega
      have HV2 : Hid (cmpT s t = 0) := Lib.hid (by
        have h := hC.out
        rw [List.take_length, HL.out, List.take_length] at h
        exact HV.out.trans h)
      go_wp2_with fail
      go_ret
      exact ⟨ret_int HV2.out.symm, hG.out⟩

end Go.Proofs.Ytnppmemcdcgjhaa
