/- Compare of the reference; Size and Labels of any tree, both sides. -/
import Derived.Test.YtnppmemcdcgjhaaMn
namespace Go.Proofs.Ytnppmemcdcgjhaa
open Go.RowKit Tr
set_option linter.unusedVariables false

theorem lb_dec {p : Prop} [Decidable p] {B : Bool} (h : B = true ↔ p) : B = decide p := by
  rw [Bool.eq_iff_iff, decide_eq_true_iff]; exact h
set_option maxRecDepth 100000 in
set_option maxHeartbeats 1500000 in
theorem rCompareA_any {P Q : Nat → Prop} (s t : Tr) (y z : Value) (w : World) (h : TrK P w y s) (h' : TrK Q w z t) (hs : size s ≤ 100000) (ht : size t ≤ 100000) :
    Calls Try.prog 40 #[.agg #[.int .i64 s.label, y], .agg #[.int .i64 t.label, z]] w (CmpTo (cmpA s t) w) := by
  obtain ⟨a, cap, rfl⟩ := h.slice
  obtain ⟨a', cap', rfl⟩ := h'.slice
  have H := Lib.hid h; have H' := Lib.hid h'; have HS1 := Lib.hid hs; have HT1 := Lib.hid ht
  clear h h' hs ht
  have hx := bx4_new w (.int .i64 s.label) (.slice a s.kids.length cap) (.int .i64 t.label) (.slice a' t.kids.length cap') 45 45
  have hg0 : w.grownBy ((w.alloc (.cells #[.int .i64 s.label, .slice a s.kids.length cap] 45)).alloc (.cells #[.int .i64 t.label, .slice a' t.kids.length cap'] 45)) none := grown_after (World.grownBy_alloc _ _ none)
  have B2 := Lib.hid hx; have HG := Lib.hid hg0
  clear hx hg0
  go_enter Try.func40, Try.ntmps40
  go_wp2_with fail
  generalize (w.alloc (.cells #[.int .i64 s.label, .slice a s.kids.length cap] 45)).alloc (.cells #[.int .i64 t.label, .slice a' t.kids.length cap'] 45) = wb at *
  refine (rsmall_any s _ _ (H.out.same HG.out) HS1.out).mono ?_
  rintro e w1 ⟨B1, rfl, hb, hg⟩
  have E1 := Lib.hid hb; replace HG := Lib.hid (grown_trans HG.out hg); replace B2 := Lib.hid (B2.out.same hg)
  clear hb hg
  cases B1 with
  | true =>
    have hs12 : ¬ 12 < size s := by have := E1.out.1 rfl; omega
    have HS12 := Lib.hid hs12
    have c3 := B2.out.2.2.1; have c4 := B2.out.2.2.2
    clear hs12
    go_wp2_with fail
    refine (rsmall_any t _ _ (H'.out.same HG.out) HT1.out).mono ?_
    rintro e w2 ⟨B3, rfl, hb, hg⟩
    have E2 := Lib.hid hb; replace HG := Lib.hid (grown_trans HG.out hg); replace B2 := Lib.hid (B2.out.same hg)
    clear hb hg c3 c4
    cases B3 with
    | true =>
      have HE : Hid (cmpA s t = cmpT s t) := Lib.hid (by have := E2.out.1 rfl; unfold cmpA; rw [if_neg HS12.out, if_neg (by omega)])
      have c1 := B2.out.1; have c2 := B2.out.2.1; have c3 := B2.out.2.2.1; have c4 := B2.out.2.2.2
      go_wp2_with fail
      refine (rcompareT_any s _ _ t _ _ _ (H.out.same HG.out) (H'.out.same HG.out) HS1.out).mono ?_
      rintro e w7 ⟨rfl, hg⟩
      have G7 := Lib.hid (grown_trans HG.out hg)
      clear hg c1 c2 c3 c4
      go_wp2_with fail
      go_ret
      exact ⟨ret_int HE.out.symm, G7.out⟩
    | false =>
      have HE : Hid (cmpA s t = -1) := Lib.hid (by
        have : 12 < size t := by
          rcases Nat.lt_or_ge 12 (size t) with h | h
          · exact h
          · have := E2.out.2 h; cases this
        unfold cmpA; rw [if_neg HS12.out, if_pos this])
      have c1 := B2.out.1; have c2 := B2.out.2.1
      go_wp2_with fail
      refine (rsmall_any s _ _ (H.out.same HG.out) HS1.out).mono ?_
      rintro e w3 ⟨B4, rfl, hb, hg⟩
      obtain rfl : B4 = true := hb.2 (by have := HS12.out; omega)
      replace HG := Lib.hid (grown_trans HG.out hg)
      clear hb hg c1 c2
      go_wp2_with fail
      go_ret
      exact ⟨ret_int HE.out.symm, HG.out⟩
  | false =>
    have HS12 : Hid (12 < size s) := Lib.hid (by
      rcases Nat.lt_or_ge 12 (size s) with h | h
      · exact h
      · have := E1.out.2 h; cases this)
    have c1 := B2.out.1; have c2 := B2.out.2.1
    go_wp2_with fail
    refine (rsmall_any s _ _ (H.out.same HG.out) HS1.out).mono ?_
    rintro e w3 ⟨B4, rfl, hb, hg⟩
    obtain rfl : B4 = false := by
      cases B4 with
      | false => rfl
      | true => have := hb.1 rfl; have := HS12.out; omega
    replace HG := Lib.hid (grown_trans HG.out hg); replace B2 := Lib.hid (B2.out.same hg)
    clear hb hg c1 c2
    have c3 := B2.out.2.2.1; have c4 := B2.out.2.2.2
    go_wp2_with fail
    refine (rsmall_any t _ _ (H'.out.same HG.out) HT1.out).mono ?_
    rintro e w2 ⟨B3, rfl, hb, hg⟩
    have E2 := Lib.hid hb; replace HG := Lib.hid (grown_trans HG.out hg)
    clear hb hg c3 c4
    cases B3 with
    | true =>
      have HE : Hid (cmpA s t = 1) := Lib.hid (by have := E2.out.1 rfl; unfold cmpA; rw [if_pos HS12.out, if_neg (by omega)])
      go_wp2_with fail
      go_ret
      exact ⟨ret_int HE.out.symm, HG.out⟩
    | false =>
      have HE : Hid (cmpA s t = 0) := Lib.hid (by
        have : 12 < size t := by
          rcases Nat.lt_or_ge 12 (size t) with h | h
          · exact h
          · have := E2.out.2 h; cases this
        unfold cmpA; rw [if_pos HS12.out, if_pos this])
      go_wp2_with fail
      go_ret
      exact ⟨ret_int HE.out.symm, HG.out⟩

/-! ### Size, Labels -/
def sizeV (t : Tr) : Nat := if okB t = true then size t else 0
def labsV (t : Tr) : List Int := if okB t = true then (pre t).map label else []
theorem sizeV_ok {t : Tr} (h : OkT t) : sizeV t = size t := by unfold sizeV; rw [if_pos (okB_iff.2 h)]
theorem sizeV_no {t : Tr} (h : ¬ OkT t) : sizeV t = 0 := by unfold sizeV; rw [if_neg (fun e => h (okB_iff.1 e))]
theorem labsV_ok {t : Tr} (h : OkT t) : labsV t = (pre t).map label := by unfold labsV; rw [if_pos (okB_iff.2 h)]
theorem labsV_no {t : Tr} (h : ¬ OkT t) : labsV t = [] := by unfold labsV; rw [if_neg (fun e => h (okB_iff.1 e))]
theorem ints_nil (w : World) : Ints w (.slice none 0 0) [] := (OwnI.nil w 0).ints (by simp)
set_option maxRecDepth 100000 in
theorem SizeA_any {P : Nat → Prop} (t : Tr) (y : Value) (w : World) (h : TrK P w y t) (hs : size t ≤ 100000) :
    Calls Try.prog 35 #[.agg #[.int .i64 t.label, y]] w (IntTo (sizeV t) w) := by
  by_cases hok : OkT t
  · rw [sizeV_ok hok]; exact SizeT_any t y w h hok
  obtain ⟨a, cap, rfl⟩ := h.slice
  have H := Lib.hid h; have HOK := Lib.hid hok; have HS := Lib.hid hs
  have HE := Lib.hid (sizeV_no hok)
  clear h hok hs
  have HG := Lib.hid (World.grownBy_alloc w (.cells #[.int .i64 t.label, .slice a t.kids.length cap] 45) none)
  go_enter Try.func35, Try.ntmps35
  go_wp2_with fail
  refine (flatten_any t _ _ (H.out.same HG.out) HS.out).mono ?_
  rintro e w1 ⟨hg, (⟨hok, vl, ve, vk, rfl, hv, -⟩ | ⟨hok, rfl⟩)⟩
  · exact absurd hok HOK.out
  · have G1 := Lib.hid (grown_trans HG.out hg)
    clear hg hok
    go_wp2_with fail
    go_ret
    exact ⟨by rw [HE.out]; rfl, grown_after G1.out⟩
set_option maxRecDepth 100000 in
theorem LabelsA_any {P : Nat → Prop} (t : Tr) (y : Value) (w : World) (h : TrK P w y t) (hs : size t ≤ 100000) :
    Calls Try.prog 41 #[.agg #[.int .i64 t.label, y]] w (IntsTo (labsV t) w) := by
  by_cases hok : OkT t
  · rw [labsV_ok hok]; exact LabelsT_any t y w h hok
  obtain ⟨a, cap, rfl⟩ := h.slice
  have H := Lib.hid h; have HOK := Lib.hid hok; have HS := Lib.hid hs
  have HE := Lib.hid (labsV_no hok)
  clear h hok hs
  have HG := Lib.hid (World.grownBy_alloc w (.cells #[.int .i64 t.label, .slice a t.kids.length cap] 45) none)
  go_enter Try.func41, Try.ntmps41
  go_wp2_with fail
  refine (flatten_any t _ _ (H.out.same HG.out) HS.out).mono ?_
  rintro e w1 ⟨hg, (⟨hok, vl, ve, vk, rfl, hv, -⟩ | ⟨hok, rfl⟩)⟩
  · exact absurd hok HOK.out
  · have G1 := Lib.hid (grown_trans HG.out hg)
    clear hg hok
    go_wp2_with fail
    go_ret
    exact ⟨_, rfl, by rw [HE.out]; exact ints_nil _, grown_after G1.out⟩
set_option maxRecDepth 100000 in
theorem rSizeA_any {P : Nat → Prop} (t : Tr) (y : Value) (w : World) (h : TrK P w y t) (hs : size t ≤ 100000) :
    Calls Try.prog 36 #[.agg #[.int .i64 t.label, y]] w (IntTo (sizeV t) w) := by
  obtain ⟨a, cap, rfl⟩ := h.slice
  have H := Lib.hid h; have HS := Lib.hid hs
  have hb := box_cells w (.int .i64 t.label) (.slice a t.kids.length cap) 45
  have HB := Lib.hid hb
  clear h hs hb
  have HG := Lib.hid (World.grownBy_alloc w (.cells #[.int .i64 t.label, .slice a t.kids.length cap] 45) none)
  go_enter Try.func36, Try.ntmps36
  go_wp2_with fail
  generalize w.alloc (.cells #[.int .i64 t.label, .slice a t.kids.length cap] 45) = wb at *
  refine (rValidT_any t _ _ (H.out.same HG.out) HS.out).mono ?_
  rintro e w1 ⟨B, rfl, hb, hg⟩
  have E := Lib.hid hb; have c1 := hg.cell HB.out.1 (by simp); have c2 := hg.cell HB.out.2 (by simp); replace HG := Lib.hid (grown_trans HG.out hg)
  clear hb hg
  cases B with
  | false =>
    have HE : Hid (sizeV t = 0) := Lib.hid (sizeV_no (fun h => by have := E.out.2 h; cases this))
    go_wp2_with fail
    go_ret
    exact ⟨by rw [HE.out]; rfl, HG.out⟩
  | true =>
    have HOK := Lib.hid (E.out.1 rfl)
    have HE := Lib.hid (sizeV_ok HOK.out)
    go_wp2_with fail
    refine (rcount_any t 12 _ _ (H.out.same HG.out) HS.out (by omega)).mono ?_
    rintro e w2 ⟨c, rfl, -, p2, p3, p4, hg⟩
    have hc := p3 (by have := HOK.out.1; omega)
    have HC := Lib.hid hc; replace HG := Lib.hid (grown_trans HG.out hg)
    clear p2 p3 p4 hg hc c1 c2
    go_wp2_with fail
    go_ret
    exact ⟨by rw [HE.out, HC.out]; rfl, HG.out⟩
set_option maxRecDepth 100000 in
theorem rLabelsA_any {P : Nat → Prop} (t : Tr) (y : Value) (w : World) (h : TrK P w y t) (hs : size t ≤ 100000) :
    Calls Try.prog 42 #[.agg #[.int .i64 t.label, y]] w (IntsTo (labsV t) w) := by
  obtain ⟨a, cap, rfl⟩ := h.slice
  have H := Lib.hid h; have HS := Lib.hid hs; have HLB := Lib.hid (TrK.labels t h)
  have hb := box_cells w (.int .i64 t.label) (.slice a t.kids.length cap) 45
  have HB := Lib.hid hb
  clear h hs hb
  have HG := Lib.hid (World.grownBy_alloc w (.cells #[.int .i64 t.label, .slice a t.kids.length cap] 45) none)
  go_enter Try.func42, Try.ntmps42
  go_wp2_with fail
  generalize w.alloc (.cells #[.int .i64 t.label, .slice a t.kids.length cap] 45) = wb at *
  refine (rValidT_any t _ _ (H.out.same HG.out) HS.out).mono ?_
  rintro e w1 ⟨B, rfl, hb, hg⟩
  have E := Lib.hid hb; have c1 := hg.cell HB.out.1 (by simp); have c2 := hg.cell HB.out.2 (by simp); replace HG := Lib.hid (grown_trans HG.out hg)
  clear hb hg
  cases B with
  | false =>
    have HE : Hid (labsV t = []) := Lib.hid (labsV_no (fun h => by have := E.out.2 h; cases this))
    go_wp2_with fail
    go_ret
    exact ⟨_, rfl, by rw [HE.out]; exact ints_nil _, HG.out⟩
  | true =>
    have HE := Lib.hid (labsV_ok (E.out.1 rfl))
    go_wp2_with fail
    refine (rwalk_any t _ _ (H.out.same HG.out) HS.out).mono ?_
    rintro e w2 ⟨v2, rfl, ho, hg⟩
    have HO := Lib.hid ho; replace HG := Lib.hid (grown_trans HG.out hg)
    clear ho hg c1 c2
    go_wp2_with fail
    go_ret
    exact ⟨_, rfl, by rw [HE.out]; exact HO.out.ints (fun x hx => by obtain ⟨u, hu, rfl⟩ := List.mem_map.1 hx; exact HLB.out u hu), HG.out⟩

end Go.Proofs.Ytnppmemcdcgjhaa
