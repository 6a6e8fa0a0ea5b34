/- TreeCompare: for every input it answers true. -/
import Derived.Test.YtnppmemcdcgjhaaKn
import Derived.Deep.RegionHeld3
namespace Go.Proofs.Ytnppmemcdcgjhaa
open Tr Go.ChangeShapes Go.WideShapes Go.ChangeAt Go.RowKit
set_option linter.unusedVariables false

theorem cmpT_bd (s : Tr) : ∀ t, cmpT s t = -1 ∨ cmpT s t = 0 ∨ cmpT s t = 1 := by
  induction s using tr_ind with
  | h s ih =>
  intro t
  have ob : ∀ x y : Int, orderI x y = -1 ∨ orderI x y = 0 ∨ orderI x y = 1 := fun x y => by rcases orderI_cases x y with h | h | h <;> simp [h.2]
  have key : ∀ (ks js : List Tr), (∀ k ∈ ks, size k < size s) → cmpL ks js = -1 ∨ cmpL ks js = 0 ∨ cmpL ks js = 1 := by
    intro ks
    induction ks with
    | nil => intro js _; simp [cmpL]
    | cons k ks ihk => intro js hs; cases js with
      | nil => simp [cmpL]
      | cons j js =>
        rw [cmpL]
        split
        · exact ih k (hs k (by simp)) j
        · exact ihk js (fun x hx => hs x (by simp [hx]))
  rw [cmpT_eq]
  split
  · exact ob _ _
  · split
    · exact ob _ _
    · exact key _ _ (fun k hk => size_kid hk)
theorem cmpT_lt {s t : Tr} (h : s.label < t.label) : cmpT s t = -1 := by
  have e : orderI s.label t.label = -1 := by unfold orderI; rw [if_pos h]
  rw [cmpT_eq, if_pos (by rw [e]; decide), e]
set_option maxRecDepth 100000 in
set_option maxHeartbeats 4000000 in
theorem walkTreeCompare (a0 : Option Addr) (len0 cap0 : Nat) (z0 : List Int) (w : World) (w0 : IsRow .i64 w a0 len0 cap0 z0) :
    Calls Try.prog 12 #[.slice a0 len0 cap0] w fun e w' => e = .returned (.bool true) ∧ Below w.heap.size w w' := by
  obtain ⟨hI, hlen⟩ := w0.ints
  generalize z0.take len0 = zs at hI hlen
  subst hlen
  have HI := Lib.hid hI
  clear hI w0
  by_cases hfew : (zs.length : Int) ≤ 400
  · go_enter Try.func12, Try.ntmps12
    go_wp2_with fail
    refine (awake04_any _).mono ?_
    rintro e w1 ⟨rfl, hg⟩
    have HG := Lib.hid hg
    clear hg
    go_wp2_with fail
    refine (few_any _ _ _ _).mono ?_
    rintro e w2 ⟨rfl, rfl⟩
    rw [decide_eq_true hfew]
    go_wp2_with fail
    refine (new_st (HI.out.same HG.out) HG.out).mono ?_
    rintro e w3 ⟨p, d, rfl, hs⟩
    have HS := Lib.hid hs
    clear hs HG HI
    go_wp2_with fail
    refine (tree_stI 2 4 (by omega) (by omega) (by omega) (by omega) HS.out).mono ?_
    rintro e w4 ⟨aa, ca, a, rfl, hk, hz, hl, hs, hg⟩
    replace HS := Lib.hid hs; have Ta := Lib.hid hk; have Za := Lib.hid hz; have Ba := Lib.hid hl
    clear hk hz hl hs hg
    have Oa : Hid (OkT a) := Lib.hid (ok_lab (by decide) (by have := Za.out; omega) Ba.out)
    go_wp2_with fail
    refine (tree_stI 2 4 (by omega) (by omega) (by omega) (by omega) HS.out).mono ?_
    rintro e w5 ⟨ab, cb, b, rfl, hk, hz, hl, hs, hg⟩
    replace Ta := Lib.hid (Ta.out.deal hg)
    replace HS := Lib.hid hs; have Tb := Lib.hid hk; have Zb := Lib.hid hz; have Bb := Lib.hid hl
    clear hk hz hl hs hg
    have Ob : Hid (OkT b) := Lib.hid (ok_lab (by decide) (by have := Zb.out; omega) Bb.out)
    go_wp2_with fail
    refine (tree_stI 2 6 (by omega) (by omega) (by omega) (by omega) HS.out).mono ?_
    rintro e w6 ⟨ac, cc, c, rfl, hk, hz, hl, hs, hg⟩
    replace Ta := Lib.hid (Ta.out.deal hg)
    replace Tb := Lib.hid (Tb.out.deal hg)
    replace HS := Lib.hid hs; have Tc := Lib.hid hk; have Zc := Lib.hid hz; have Bc := Lib.hid hl
    clear hk hz hl hs hg
    have Oc : Hid (OkT c) := Lib.hid (ok_lab (by decide) (by have := Zc.out; omega) Bc.out)
    have hlt : d < w6.heap.size := HS.out.lt
    have ba : BoxT ((((w6).alloc (.cells #[.int .i64 a.label, .slice aa a.kids.length ca] 45)).alloc (.cells #[.int .i64 b.label, .slice ab b.kids.length cb] 45)).alloc (.cells #[.int .i64 c.label, .slice ac c.kids.length cc] 45)) d (w6.heap.size) (.int .i64 a.label) (.slice aa a.kids.length ca) := BoxT.mk (e := 45) (heap_old _ (heap_old _ (heap_new _ rfl))) (by omega)
    have bb : BoxT ((((w6).alloc (.cells #[.int .i64 a.label, .slice aa a.kids.length ca] 45)).alloc (.cells #[.int .i64 b.label, .slice ab b.kids.length cb] 45)).alloc (.cells #[.int .i64 c.label, .slice ac c.kids.length cc] 45)) d (w6.heap.size + 1) (.int .i64 b.label) (.slice ab b.kids.length cb) := BoxT.mk (e := 45) (heap_old _ (heap_new _ (by show _ = (w6.heap.push _).size; simp))) (by omega)
    have bc : BoxT ((((w6).alloc (.cells #[.int .i64 a.label, .slice aa a.kids.length ca] 45)).alloc (.cells #[.int .i64 b.label, .slice ab b.kids.length cb] 45)).alloc (.cells #[.int .i64 c.label, .slice ac c.kids.length cc] 45)) d (w6.heap.size + 1 + 1) (.int .i64 c.label) (.slice ac c.kids.length cc) := BoxT.mk (e := 45) (heap_new _ (by show _ = ((w6.heap.push _).push _).size; simp)) (by omega)
    have hg : w6.grownBy ((((w6).alloc (.cells #[.int .i64 a.label, .slice aa a.kids.length ca] 45)).alloc (.cells #[.int .i64 b.label, .slice ab b.kids.length cb] 45)).alloc (.cells #[.int .i64 c.label, .slice ac c.kids.length cc] 45)) none := grown_after (grown_after (World.grownBy_alloc _ _ none))
    go_wp2_with fail
    generalize (((w6).alloc (.cells #[.int .i64 a.label, .slice aa a.kids.length ca] 45)).alloc (.cells #[.int .i64 b.label, .slice ab b.kids.length cb] 45)).alloc (.cells #[.int .i64 c.label, .slice ac c.kids.length cc] 45) = w7 at *
    replace Ta := Lib.hid (Ta.out.same hg)
    replace Tb := Lib.hid (Tb.out.same hg)
    replace Tc := Lib.hid (Tc.out.same hg)
    replace HS := Lib.hid (HS.out.step hg)
    have Xa := Lib.hid ba
    have Xb := Lib.hid bb
    have Xc := Lib.hid bc
    clear hg hlt ba bb bc
    skip
    skip
    skip
    have GX : Hid (w7.grownBy w7.drew none) := Lib.hid (grown_drew _ none)
    have Na : Hid (size a ≤ 12) := Lib.hid (by have := Za.out; omega)
    have Nb : Hid (size b ≤ 12) := Lib.hid (by have := Zb.out; omega)
    go_region_held3 (fun w' => w'.cell? ⟨w6.heap.size, 0, none⟩ = some (.int .i64 a.label) ∧ w'.cell? ⟨w6.heap.size, 1, none⟩ = some (.slice aa a.kids.length ca) ∧ w'.cell? ⟨w6.heap.size + 1, 0, none⟩ = some (.int .i64 b.label) ∧ w'.cell? ⟨w6.heap.size + 1, 1, none⟩ = some (.slice ab b.kids.length cb)) (first | exact ⟨(Xa.out.step GX.out).1, (Xa.out.step GX.out).2.1, (Xb.out.step GX.out).1, (Xb.out.step GX.out).2.1⟩) (first
      | (go_at_call 39; (with_reducible refine (Compare_any a b (.slice aa a.kids.length ca) (.slice ab b.kids.length cb) _ (Ta.out.same GX.out) (Tb.out.same GX.out) Na.out Nb.out).mono ?_); rintro e w30 ⟨rfl, hg⟩; have GY := Lib.hid hg; replace GX : Hid (w7.grownBy w30 none) := Lib.hid (grown_trans GX.out GY.out); clear hg)
      | (go_at_call 39; (with_reducible refine (Compare_any b a (.slice ab b.kids.length cb) (.slice aa a.kids.length ca) _ (Tb.out.same GX.out) (Ta.out.same GX.out) Nb.out Na.out).mono ?_); rintro e w30 ⟨rfl, hg⟩; have GY := Lib.hid hg; replace GX : Hid (w7.grownBy w30 none) := Lib.hid (grown_trans GX.out GY.out); clear hg))
    all_goals
      replace Ta := Lib.hid (Ta.out.same GX.out)
      replace Tb := Lib.hid (Tb.out.same GX.out)
      replace Tc := Lib.hid (Tc.out.same GX.out)
      replace Xa := Lib.hid (Xa.out.step GX.out)
      replace Xb := Lib.hid (Xb.out.step GX.out)
      replace Xc := Lib.hid (Xc.out.step GX.out)
      replace HS := Lib.hid (HS.out.step GX.out)
      clear GX GY
      rw [cmpT_anti b a]
      have hbd := cmpT_bd a b
      have HLT : Hid (a.label < b.label → cmpT a b = -1) := Lib.hid cmpT_lt
      have HZ : Hid (cmpT a b = 0 → a = b) := Lib.hid (cmpT_zero a b).1
      have HTR : Hid (cmpT a b ≤ 0 → cmpT b c ≤ 0 → cmpT a c ≤ 0) := Lib.hid (cmpT_trans b a c)
      generalize cmpT a b = c1 at *
      rcases hbd with rfl | rfl | rfl
      · have xc0 := Xc.out.1; have xc1 := Xc.out.2.1
        have xa0 := Xa.out.1; have xa1 := Xa.out.2.1
        have xb0 := Xb.out.1; have xb1 := Xb.out.2.1
        go_wp2_with fail
        clear xc0 xc1 xa0 xa1 xb0 xb1
        (with_reducible refine (Compare_any c c _ _ _ Tc.out Tc.out (by have := Zc.out; omega) (by have := Zc.out; omega)).mono ?_)
        rintro e w8 ⟨rfl, hg⟩
        replace Ta := Lib.hid (Ta.out.same hg)
        replace Tb := Lib.hid (Tb.out.same hg)
        replace Tc := Lib.hid (Tc.out.same hg)
        replace Xa := Lib.hid (Xa.out.step hg)
        replace Xb := Lib.hid (Xb.out.step hg)
        replace Xc := Lib.hid (Xc.out.step hg)
        replace HS := Lib.hid (HS.out.step hg)
        clear hg
        rw [(cmpT_zero c c).2 rfl]
        by_cases hl : a.label < b.label
        · clear HLT HZ
          have xa0 := Xa.out.1; have xa1 := Xa.out.2.1
          have xb0 := Xb.out.1; have xb1 := Xb.out.2.1
          have xc0 := Xc.out.1; have xc1 := Xc.out.2.1
          go_wp2_with fail
          clear xb0 xb1 xc0 xc1
          (with_reducible refine (Compare_any b c _ _ _ Tb.out Tc.out (by have := Zb.out; omega) (by have := Zc.out; omega)).mono ?_)
          rintro e w9 ⟨rfl, hg⟩
          replace Ta := Lib.hid (Ta.out.same hg)
          replace Tb := Lib.hid (Tb.out.same hg)
          replace Tc := Lib.hid (Tc.out.same hg)
          replace Xa := Lib.hid (Xa.out.step hg)
          replace Xb := Lib.hid (Xb.out.step hg)
          replace Xc := Lib.hid (Xc.out.step hg)
          replace HS := Lib.hid (HS.out.step hg)
          clear hg
          clear xa0 xa1
          by_cases h3 : cmpT b c ≤ 0
          · have H3 := Lib.hid (HTR.out (by decide) h3)
            have xa0 := Xa.out.1; have xa1 := Xa.out.2.1
            have xc0 := Xc.out.1; have xc1 := Xc.out.2.1
            go_wp2_with fail
            clear xa0 xa1 xc0 xc1
            (with_reducible refine (Compare_any a c _ _ _ Ta.out Tc.out (by have := Za.out; omega) (by have := Zc.out; omega)).mono ?_)
            rintro e w10 ⟨rfl, hg⟩
            replace Ta := Lib.hid (Ta.out.same hg)
            replace Tb := Lib.hid (Tb.out.same hg)
            replace Tc := Lib.hid (Tc.out.same hg)
            replace Xa := Lib.hid (Xa.out.step hg)
            replace Xb := Lib.hid (Xb.out.step hg)
            replace Xc := Lib.hid (Xc.out.step hg)
            replace HS := Lib.hid (HS.out.step hg)
            clear hg
            have h4 := H3.out
            go_wp2_with fail
            go_ret
            exact ⟨rfl, HS.out.below⟩
          · have h5 : 0 < cmpT b c := by omega
            go_wp2_with fail
            go_ret
            exact ⟨rfl, HS.out.below⟩
        · clear HLT HZ
          have xa0 := Xa.out.1; have xa1 := Xa.out.2.1
          have xb0 := Xb.out.1; have xb1 := Xb.out.2.1
          have xc0 := Xc.out.1; have xc1 := Xc.out.2.1
          go_wp2_with fail
          clear xb0 xb1 xc0 xc1
          (with_reducible refine (Compare_any b c _ _ _ Tb.out Tc.out (by have := Zb.out; omega) (by have := Zc.out; omega)).mono ?_)
          rintro e w9 ⟨rfl, hg⟩
          replace Ta := Lib.hid (Ta.out.same hg)
          replace Tb := Lib.hid (Tb.out.same hg)
          replace Tc := Lib.hid (Tc.out.same hg)
          replace Xa := Lib.hid (Xa.out.step hg)
          replace Xb := Lib.hid (Xb.out.step hg)
          replace Xc := Lib.hid (Xc.out.step hg)
          replace HS := Lib.hid (HS.out.step hg)
          clear hg
          clear xa0 xa1
          by_cases h3 : cmpT b c ≤ 0
          · have H3 := Lib.hid (HTR.out (by decide) h3)
            have xa0 := Xa.out.1; have xa1 := Xa.out.2.1
            have xc0 := Xc.out.1; have xc1 := Xc.out.2.1
            go_wp2_with fail
            clear xa0 xa1 xc0 xc1
            (with_reducible refine (Compare_any a c _ _ _ Ta.out Tc.out (by have := Za.out; omega) (by have := Zc.out; omega)).mono ?_)
            rintro e w10 ⟨rfl, hg⟩
            replace Ta := Lib.hid (Ta.out.same hg)
            replace Tb := Lib.hid (Tb.out.same hg)
            replace Tc := Lib.hid (Tc.out.same hg)
            replace Xa := Lib.hid (Xa.out.step hg)
            replace Xb := Lib.hid (Xb.out.step hg)
            replace Xc := Lib.hid (Xc.out.step hg)
            replace HS := Lib.hid (HS.out.step hg)
            clear hg
            have h4 := H3.out
            go_wp2_with fail
            go_ret
            exact ⟨rfl, HS.out.below⟩
          · have h5 : 0 < cmpT b c := by omega
            go_wp2_with fail
            go_ret
            exact ⟨rfl, HS.out.below⟩
      · have xc0 := Xc.out.1; have xc1 := Xc.out.2.1
        have xa0 := Xa.out.1; have xa1 := Xa.out.2.1
        have xb0 := Xb.out.1; have xb1 := Xb.out.2.1
        go_wp2_with fail
        clear xc0 xc1 xa0 xa1 xb0 xb1
        (with_reducible refine (Compare_any c c _ _ _ Tc.out Tc.out (by have := Zc.out; omega) (by have := Zc.out; omega)).mono ?_)
        rintro e w8 ⟨rfl, hg⟩
        replace Ta := Lib.hid (Ta.out.same hg)
        replace Tb := Lib.hid (Tb.out.same hg)
        replace Tc := Lib.hid (Tc.out.same hg)
        replace Xa := Lib.hid (Xa.out.step hg)
        replace Xb := Lib.hid (Xb.out.step hg)
        replace Xc := Lib.hid (Xc.out.step hg)
        replace HS := Lib.hid (HS.out.step hg)
        clear hg
        rw [(cmpT_zero c c).2 rfl]
        by_cases hl : a.label < b.label
        · exact absurd (HLT.out hl) (by decide)
        · have HEQ := Lib.hid (HZ.out (by simp))
          clear HLT HZ
          have xa0 := Xa.out.1; have xa1 := Xa.out.2.1
          have xb0 := Xb.out.1; have xb1 := Xb.out.2.1
          go_wp2_with fail
          clear xa0 xa1 xb0 xb1
          (with_reducible refine (LeqT_any a b _ _ _ Ta.out Tb.out (by have := Za.out; omega) (by have := Zb.out; omega)).mono ?_)
          rintro e w9 ⟨B1, rfl, hB, hg⟩
          have HB1 := Lib.hid hB
          replace Ta := Lib.hid (Ta.out.same hg)
          replace Tb := Lib.hid (Tb.out.same hg)
          replace Tc := Lib.hid (Tc.out.same hg)
          replace Xa := Lib.hid (Xa.out.step hg)
          replace Xb := Lib.hid (Xb.out.step hg)
          replace Xc := Lib.hid (Xc.out.step hg)
          replace HS := Lib.hid (HS.out.step hg)
          clear hB hg
          obtain rfl : B1 = true := HB1.out.2 ⟨Oa.out, Ob.out, by rw [HEQ.out]; exact emb_refl _⟩
          clear HB1
          have xa0 := Xa.out.1; have xa1 := Xa.out.2.1
          have xb0 := Xb.out.1; have xb1 := Xb.out.2.1
          go_wp2_with fail
          clear xa0 xa1 xb0 xb1
          (with_reducible refine (LeqT_any b a _ _ _ Tb.out Ta.out (by have := Zb.out; omega) (by have := Za.out; omega)).mono ?_)
          rintro e w10 ⟨B2, rfl, hB, hg⟩
          have HB2 := Lib.hid hB
          replace Ta := Lib.hid (Ta.out.same hg)
          replace Tb := Lib.hid (Tb.out.same hg)
          replace Tc := Lib.hid (Tc.out.same hg)
          replace Xa := Lib.hid (Xa.out.step hg)
          replace Xb := Lib.hid (Xb.out.step hg)
          replace Xc := Lib.hid (Xc.out.step hg)
          replace HS := Lib.hid (HS.out.step hg)
          clear hB hg
          obtain rfl : B2 = true := HB2.out.2 ⟨Ob.out, Oa.out, by rw [HEQ.out]; exact emb_refl _⟩
          clear HB2
          have xa0 := Xa.out.1; have xa1 := Xa.out.2.1
          have xb0 := Xb.out.1; have xb1 := Xb.out.2.1
          have xc0 := Xc.out.1; have xc1 := Xc.out.2.1
          go_wp2_with fail
          clear xb0 xb1 xc0 xc1
          (with_reducible refine (Compare_any b c _ _ _ Tb.out Tc.out (by have := Zb.out; omega) (by have := Zc.out; omega)).mono ?_)
          rintro e w11 ⟨rfl, hg⟩
          replace Ta := Lib.hid (Ta.out.same hg)
          replace Tb := Lib.hid (Tb.out.same hg)
          replace Tc := Lib.hid (Tc.out.same hg)
          replace Xa := Lib.hid (Xa.out.step hg)
          replace Xb := Lib.hid (Xb.out.step hg)
          replace Xc := Lib.hid (Xc.out.step hg)
          replace HS := Lib.hid (HS.out.step hg)
          clear hg
          clear xa0 xa1
          by_cases h3 : cmpT b c ≤ 0
          · have H3 := Lib.hid (HTR.out (by decide) h3)
            have xa0 := Xa.out.1; have xa1 := Xa.out.2.1
            have xc0 := Xc.out.1; have xc1 := Xc.out.2.1
            go_wp2_with fail
            clear xa0 xa1 xc0 xc1
            (with_reducible refine (Compare_any a c _ _ _ Ta.out Tc.out (by have := Za.out; omega) (by have := Zc.out; omega)).mono ?_)
            rintro e w12 ⟨rfl, hg⟩
            replace Ta := Lib.hid (Ta.out.same hg)
            replace Tb := Lib.hid (Tb.out.same hg)
            replace Tc := Lib.hid (Tc.out.same hg)
            replace Xa := Lib.hid (Xa.out.step hg)
            replace Xb := Lib.hid (Xb.out.step hg)
            replace Xc := Lib.hid (Xc.out.step hg)
            replace HS := Lib.hid (HS.out.step hg)
            clear hg
            have h4 := H3.out
            go_wp2_with fail
            go_ret
            exact ⟨rfl, HS.out.below⟩
          · have h5 : 0 < cmpT b c := by omega
            go_wp2_with fail
            go_ret
            exact ⟨rfl, HS.out.below⟩
      · have xc0 := Xc.out.1; have xc1 := Xc.out.2.1
        have xa0 := Xa.out.1; have xa1 := Xa.out.2.1
        have xb0 := Xb.out.1; have xb1 := Xb.out.2.1
        go_wp2_with fail
        clear xc0 xc1 xa0 xa1 xb0 xb1
        (with_reducible refine (Compare_any c c _ _ _ Tc.out Tc.out (by have := Zc.out; omega) (by have := Zc.out; omega)).mono ?_)
        rintro e w8 ⟨rfl, hg⟩
        replace Ta := Lib.hid (Ta.out.same hg)
        replace Tb := Lib.hid (Tb.out.same hg)
        replace Tc := Lib.hid (Tc.out.same hg)
        replace Xa := Lib.hid (Xa.out.step hg)
        replace Xb := Lib.hid (Xb.out.step hg)
        replace Xc := Lib.hid (Xc.out.step hg)
        replace HS := Lib.hid (HS.out.step hg)
        clear hg
        rw [(cmpT_zero c c).2 rfl]
        by_cases hl : a.label < b.label
        · exact absurd (HLT.out hl) (by decide)
        · clear HLT HZ
          have xa0 := Xa.out.1; have xa1 := Xa.out.2.1
          have xb0 := Xb.out.1; have xb1 := Xb.out.2.1
          go_wp2_with fail
          go_ret
          exact ⟨rfl, HS.out.below⟩
  · go_enter Try.func12, Try.ntmps12
    go_wp2_with fail
    refine (awake04_any _).mono ?_
    rintro e w1 ⟨rfl, hg⟩
    have HG := Lib.hid hg
    clear hg
    go_wp2_with fail
    refine (few_any _ _ _ _).mono ?_
    rintro e w2 ⟨rfl, rfl⟩
    rw [decide_eq_false (by omega)]
    go_wp2_with fail
    refine (awake04_any _).mono ?_
    rintro e w3 ⟨rfl, hg⟩
    have HG := Lib.hid (grown_trans HG.out hg)
    clear hg
    go_wp2_with fail
    go_ret
    exact ⟨rfl, below_of HG.out⟩

/-! ### TreeCompare: the statement, from its walk -/
set_option maxRecDepth 100000 in
theorem liftedTreeCompare (os : Os) (started : os.Started) (H : Type) (enc : TypeId × Value → H) :
    ReturnsInHanded {} Try.checked os 12 .any (Rows.treeCompareSpec.pre6 enc Try.prog Try.f12 Rows.treeCompareRow.domain false) (Rows.treeCompareSpec.post enc Try.prog Try.f12 false true false false) := by
  refine returnsInHanded_of_change (C := Try.checked) own started (by kernel_rfl) Try.func12
    (ChangeSpec.witness6 (enc := enc) (C := Try.checked) false ⟨#[], #[.slice none 0 0], []⟩ 8 (by kernel_rfl) (by kernel_rfl) (by kernel_rfl) (by kernel_rfl)) ?_
  intro W base args ds gs before hval0 hW hcnd _
  have hval : ∀ (j : Nat) t v, Try.f12.params[j]? = some t → args[j]? = some v → Value.okWide Try.prog W .any base t v := hval0
  have hW' := hW
  obtain ⟨p, q, hA0, hV, rfl, hfz, hnd⟩ := hW
  have hA : DataW.TrodAll enc Try.prog W 0 (fun _ => true) true Try.f12.params.toList args.toList ds p := hA0
  rw [Try.params12] at hA hval
  obtain ⟨v0, vs0, d0, ds0, p0, q0, hargs, rfl, rfl, h0, r0⟩ := trodAll_cons hA
  obtain ⟨rfl, rfl, rfl⟩ := trodAll_nil r0
  obtain rfl : args = #[v0] := by cases args; simp_all
  obtain ⟨rfl, rfl⟩ := trodVars_none hV
  obtain ⟨a0, len0, cap0, rfl⟩ := okWide_slice Try.underlying22 (hval 0 22 v0 rfl rfl)
  have k0 := h0
  have lt0 : ∀ x ∈ p0, x.block < W.heap.size := by obtain ⟨m, hm⟩ := k0; exact DataW.trod_lt m _ _ _ hm
  obtain ⟨z0, w0⟩ : ∃ zs, IsRow .i64 W a0 len0 cap0 zs := by
    obtain ⟨fuel, hf⟩ := h0
    rcases open_ints Try.underlying22 Try.underlying3 (by kernel_rfl) hf with ⟨hcs, _⟩ | ⟨x, l, c, zs, hcs, _, hl, hm, hz, _, hcell, hwz⟩
    · simp [Value.cells] at hcs
      obtain ⟨rfl, rfl, rfl⟩ := hcs
      exact ⟨[], .inl ⟨rfl, rfl, rfl, rfl⟩⟩
    · simp [Value.cells] at hcs
      obtain ⟨rfl, rfl, rfl⟩ := hcs
      exact ⟨zs, .inr ⟨_, rfl, hl, hm, by simpa using hz, hcell, hwz⟩⟩
  clear hA0 hval0
  refine (walkTreeCompare a0 len0 cap0 z0 W w0).mono fun e W' ⟨he, bel⟩ => ?_
  subst he
  exact ⟨_, rfl, _, _, _, [], _, [], hW', trodAll_mk1 (shut_bool Try.underlying4 _), (trodAll_cons_mk (Below.trod laidOut (by kernel_rfl) (of_decide_eq_true (by kernel_rfl)) k0 bel lt0) trodAll_mk0), rfl, bel.frame _, fun h => by cases h⟩

theorem treeCompare_holds : Rows.TreeCompareSaid :=
  OpenClaim.holds_of_wide 12 Try.f12 rfl rfl rfl rfl rfl rfl rfl ⟨rfl, rfl, rfl, rfl, rfl⟩ rfl rfl rfl rfl rfl (by kernel_rfl) Try.func12 (by kernel_rfl)
    (of_decide_eq_true (by kernel_rfl)) (by unfold Func.isWrapper; first | (rw [if_pos (by decide +kernel)]; kernel_rfl) | (rw [if_neg (by decide +kernel)]; exact ⟨rfl, rfl⟩))
    (fun os started H enc _ => liftedTreeCompare os started H enc)
#print axioms treeCompare_holds
end Go.Proofs.Ytnppmemcdcgjhaa
