/- TreeOrder: for every input it answers true. -/
import Derived.Test.YtnppmemcdcgjhaaKn
namespace Go.Proofs.Ytnppmemcdcgjhaa
open Tr Go.ChangeShapes Go.WideShapes Go.ChangeAt Go.RowKit
set_option linter.unusedVariables false

set_option maxRecDepth 100000 in
set_option maxHeartbeats 4000000 in
theorem walkTreeOrder (a0 : Option Addr) (len0 cap0 : Nat) (z0 : List Int) (w : World) (w0 : IsRow .i64 w a0 len0 cap0 z0) :
    Calls Try.prog 9 #[.slice a0 len0 cap0] w fun e w' => e = .returned (.bool true) ∧ Below w.heap.size w w' := by
  obtain ⟨hI, hlen⟩ := w0.ints
  generalize z0.take len0 = zs at hI hlen
  subst hlen
  have HI := Lib.hid hI
  clear hI w0
  by_cases hfew : (zs.length : Int) ≤ 400
  · go_enter Try.func9, Try.ntmps9
    go_wp2_with fail
    refine (awake04_any _).mono ?_
    rintro e w1 ⟨rfl, hg⟩
    have HG := Lib.hid hg
    clear hg
    go_wp2_with fail
    refine (few_any _ _ _ _).mono ?_
    rintro e w2 ⟨rfl, rfl⟩
    rw [decide_eq_true hfew]
    go_wp2_with fail
    refine (new_st (HI.out.same HG.out) HG.out).mono ?_
    rintro e w3 ⟨p, d, rfl, hs⟩
    have HS := Lib.hid hs
    clear hs HG HI
    go_wp2_with fail
    refine (tree_stI 2 3 (by omega) (by omega) (by omega) (by omega) HS.out).mono ?_
    rintro e w4 ⟨aa, ca, a, rfl, hk, hz, hl, hs, hg⟩
    replace HS := Lib.hid hs; have Ta := Lib.hid hk; have Za := Lib.hid hz; have Ba := Lib.hid hl
    clear hk hz hl hs hg
    have Oa : Hid (OkT a) := Lib.hid (ok_lab (by decide) (by have := Za.out; omega) Ba.out)
    go_wp2_with fail
    refine (tree_stI 2 6 (by omega) (by omega) (by omega) (by omega) HS.out).mono ?_
    rintro e w5 ⟨ab, cb, b, rfl, hk, hz, hl, hs, hg⟩
    replace Ta := Lib.hid (Ta.out.deal hg)
    replace HS := Lib.hid hs; have Tb := Lib.hid hk; have Zb := Lib.hid hz; have Bb := Lib.hid hl
    clear hk hz hl hs hg
    have Ob : Hid (OkT b) := Lib.hid (ok_lab (by decide) (by have := Zb.out; omega) Bb.out)
    go_wp2_with fail
    refine (tree_stI 2 10 (by omega) (by omega) (by omega) (by omega) HS.out).mono ?_
    rintro e w6 ⟨ac, cc, c, rfl, hk, hz, hl, hs, hg⟩
    replace Ta := Lib.hid (Ta.out.deal hg)
    replace Tb := Lib.hid (Tb.out.deal hg)
    replace HS := Lib.hid hs; have Tc := Lib.hid hk; have Zc := Lib.hid hz; have Bc := Lib.hid hl
    clear hk hz hl hs hg
    have Oc : Hid (OkT c) := Lib.hid (ok_lab (by decide) (by have := Zc.out; omega) Bc.out)
    have hlt : d < w6.heap.size := HS.out.lt
    have ba : BoxT ((((w6).alloc (.cells #[.int .i64 a.label, .slice aa a.kids.length ca] 45)).alloc (.cells #[.int .i64 b.label, .slice ab b.kids.length cb] 45)).alloc (.cells #[.int .i64 c.label, .slice ac c.kids.length cc] 45)) d (w6.heap.size) (.int .i64 a.label) (.slice aa a.kids.length ca) := BoxT.mk (e := 45) (heap_old _ (heap_old _ (heap_new _ rfl))) (by omega)
    have bb : BoxT ((((w6).alloc (.cells #[.int .i64 a.label, .slice aa a.kids.length ca] 45)).alloc (.cells #[.int .i64 b.label, .slice ab b.kids.length cb] 45)).alloc (.cells #[.int .i64 c.label, .slice ac c.kids.length cc] 45)) d (w6.heap.size + 1) (.int .i64 b.label) (.slice ab b.kids.length cb) := BoxT.mk (e := 45) (heap_old _ (heap_new _ (by show _ = (w6.heap.push _).size; simp))) (by omega)
    have bc : BoxT ((((w6).alloc (.cells #[.int .i64 a.label, .slice aa a.kids.length ca] 45)).alloc (.cells #[.int .i64 b.label, .slice ab b.kids.length cb] 45)).alloc (.cells #[.int .i64 c.label, .slice ac c.kids.length cc] 45)) d (w6.heap.size + 1 + 1) (.int .i64 c.label) (.slice ac c.kids.length cc) := BoxT.mk (e := 45) (heap_new _ (by show _ = ((w6.heap.push _).push _).size; simp)) (by omega)
    have hg : w6.grownBy ((((w6).alloc (.cells #[.int .i64 a.label, .slice aa a.kids.length ca] 45)).alloc (.cells #[.int .i64 b.label, .slice ab b.kids.length cb] 45)).alloc (.cells #[.int .i64 c.label, .slice ac c.kids.length cc] 45)) none := grown_after (grown_after (World.grownBy_alloc _ _ none))
    go_wp2_with fail
    generalize (((w6).alloc (.cells #[.int .i64 a.label, .slice aa a.kids.length ca] 45)).alloc (.cells #[.int .i64 b.label, .slice ab b.kids.length cb] 45)).alloc (.cells #[.int .i64 c.label, .slice ac c.kids.length cc] 45) = w7 at *
    replace Ta := Lib.hid (Ta.out.same hg)
    replace Tb := Lib.hid (Tb.out.same hg)
    replace Tc := Lib.hid (Tc.out.same hg)
    replace HS := Lib.hid (HS.out.step hg)
    have Xa := Lib.hid ba
    have Xb := Lib.hid bb
    have Xc := Lib.hid bc
    clear hg hlt ba bb bc
    skip
    skip
    skip
    have xb0 := Xb.out.1; have xb1 := Xb.out.2.1
    go_wp2_with fail
    clear xb0 xb1
    (with_reducible refine (LeqT_any b b _ _ _ Tb.out Tb.out (by have := Zb.out; omega) (by have := Zb.out; omega)).mono ?_)
    rintro e w8 ⟨B0, rfl, hB, hg⟩
    have HB0 := Lib.hid hB
    replace Ta := Lib.hid (Ta.out.same hg)
    replace Tb := Lib.hid (Tb.out.same hg)
    replace Tc := Lib.hid (Tc.out.same hg)
    replace Xa := Lib.hid (Xa.out.step hg)
    replace Xb := Lib.hid (Xb.out.step hg)
    replace Xc := Lib.hid (Xc.out.step hg)
    replace HS := Lib.hid (HS.out.step hg)
    clear hB hg
    obtain rfl : B0 = true := HB0.out.2 ⟨Ob.out, Ob.out, emb_refl _⟩
    clear HB0
    have xa0 := Xa.out.1; have xa1 := Xa.out.2.1
    have xb0 := Xb.out.1; have xb1 := Xb.out.2.1
    go_wp2_with fail
    clear xa0 xa1 xb0 xb1
    (with_reducible refine (LeqT_any a b _ _ _ Ta.out Tb.out (by have := Za.out; omega) (by have := Zb.out; omega)).mono ?_)
    rintro e w9 ⟨B1, rfl, hB, hg⟩
    have HB1 := Lib.hid hB
    replace Ta := Lib.hid (Ta.out.same hg)
    replace Tb := Lib.hid (Tb.out.same hg)
    replace Tc := Lib.hid (Tc.out.same hg)
    replace Xa := Lib.hid (Xa.out.step hg)
    replace Xb := Lib.hid (Xb.out.step hg)
    replace Xc := Lib.hid (Xc.out.step hg)
    replace HS := Lib.hid (HS.out.step hg)
    clear hB hg
    cases B1 with
    | false =>
      go_wp2_with fail
      refine (tree_stI 2 4 (by omega) (by omega) (by omega) (by omega) HS.out).mono ?_
      rintro e w10 ⟨ax, cx, x, rfl, hk, hz, hl, hs, hg⟩
      replace Ta := Lib.hid (Ta.out.deal hg)
      replace Tb := Lib.hid (Tb.out.deal hg)
      replace Tc := Lib.hid (Tc.out.deal hg)
      replace Xa := Lib.hid (Xa.out.deal hg)
      replace Xb := Lib.hid (Xb.out.deal hg)
      replace Xc := Lib.hid (Xc.out.deal hg)
      replace HS := Lib.hid hs; have Tx := Lib.hid hk; have Zx := Lib.hid hz; have Bx := Lib.hid hl
      clear hk hz hl hs hg
      have Ox : Hid (OkT x) := Lib.hid (ok_lab (by decide) (by have := Zx.out; omega) Bx.out)
      have hlt : d < w10.heap.size := HS.out.lt
      have bx : BoxT ((w10).alloc (.cells #[.int .i64 x.label, .slice ax x.kids.length cx] 45)) d (w10.heap.size) (.int .i64 x.label) (.slice ax x.kids.length cx) := BoxT.mk (e := 45) (heap_new _ rfl) (by omega)
      have hg : w10.grownBy ((w10).alloc (.cells #[.int .i64 x.label, .slice ax x.kids.length cx] 45)) none := World.grownBy_alloc _ _ none
      have xa0 := (Xa.out.step hg).1; have xa1 := (Xa.out.step hg).2.1
      have xb0 := (Xb.out.step hg).1; have xb1 := (Xb.out.step hg).2.1
      have xc0 := (Xc.out.step hg).1; have xc1 := (Xc.out.step hg).2.1
      go_wp2_with fail
      clear xa0 xa1 xb0 xb1 xc0 xc1
      generalize (w10).alloc (.cells #[.int .i64 x.label, .slice ax x.kids.length cx] 45) = w11 at *
      replace Ta := Lib.hid (Ta.out.same hg)
      replace Tb := Lib.hid (Tb.out.same hg)
      replace Tc := Lib.hid (Tc.out.same hg)
      replace Tx := Lib.hid (Tx.out.same hg)
      replace Xa := Lib.hid (Xa.out.step hg)
      replace Xb := Lib.hid (Xb.out.step hg)
      replace Xc := Lib.hid (Xc.out.step hg)
      replace HS := Lib.hid (HS.out.step hg)
      have Xx := Lib.hid bx
      clear hg hlt bx
      skip
      have xa0 := Xa.out.1; have xa1 := Xa.out.2.1
      have xx0 := Xx.out.1; have xx1 := Xx.out.2.1
      go_wp2_with fail
      clear xa0 xa1 xx0 xx1
      (with_reducible refine (LeqT_any a x _ _ _ Ta.out Tx.out (by have := Za.out; omega) (by have := Zx.out; omega)).mono ?_)
      rintro e w12 ⟨B4, rfl, hB, hg⟩
      have HB4 := Lib.hid hB
      replace Ta := Lib.hid (Ta.out.same hg)
      replace Tb := Lib.hid (Tb.out.same hg)
      replace Tc := Lib.hid (Tc.out.same hg)
      replace Tx := Lib.hid (Tx.out.same hg)
      replace Xa := Lib.hid (Xa.out.step hg)
      replace Xb := Lib.hid (Xb.out.step hg)
      replace Xc := Lib.hid (Xc.out.step hg)
      replace Xx := Lib.hid (Xx.out.step hg)
      replace HS := Lib.hid (HS.out.step hg)
      clear hB hg
      cases B4 with
      | false =>
        go_wp2_with fail
        go_ret
        exact ⟨rfl, HS.out.below⟩
      | true =>
        have xx0 := Xx.out.1; have xx1 := Xx.out.2.1
        have xa0 := Xa.out.1; have xa1 := Xa.out.2.1
        go_wp2_with fail
        clear xx0 xx1 xa0 xa1
        (with_reducible refine (LeqT_any x a _ _ _ Tx.out Ta.out (by have := Zx.out; omega) (by have := Za.out; omega)).mono ?_)
        rintro e w13 ⟨B5, rfl, hB, hg⟩
        have HB5 := Lib.hid hB
        replace Ta := Lib.hid (Ta.out.same hg)
        replace Tb := Lib.hid (Tb.out.same hg)
        replace Tc := Lib.hid (Tc.out.same hg)
        replace Tx := Lib.hid (Tx.out.same hg)
        replace Xa := Lib.hid (Xa.out.step hg)
        replace Xb := Lib.hid (Xb.out.step hg)
        replace Xc := Lib.hid (Xc.out.step hg)
        replace Xx := Lib.hid (Xx.out.step hg)
        replace HS := Lib.hid (HS.out.step hg)
        clear hB hg
        cases B5 with
        | false =>
          go_wp2_with fail
          go_ret
          exact ⟨rfl, HS.out.below⟩
        | true =>
          have HEQ : Hid (a = x) := Lib.hid (by
            have h1 := (HB4.out.1 (by simp)).2.2
            have h2 := (HB5.out.1 (by simp)).2.2
            exact emb_anti _ _ h1 (emb_size _ _ h2))
          have xa0 := Xa.out.1; have xa1 := Xa.out.2.1
          have xx0 := Xx.out.1; have xx1 := Xx.out.2.1
          go_wp2_with fail
          clear xa0 xa1 xx0 xx1
          (with_reducible refine (Compare_any a x _ _ _ Ta.out Tx.out (by have := Za.out; omega) (by have := Zx.out; omega)).mono ?_)
          rintro e w14 ⟨rfl, hg⟩
          replace Ta := Lib.hid (Ta.out.same hg)
          replace Tb := Lib.hid (Tb.out.same hg)
          replace Tc := Lib.hid (Tc.out.same hg)
          replace Tx := Lib.hid (Tx.out.same hg)
          replace Xa := Lib.hid (Xa.out.step hg)
          replace Xb := Lib.hid (Xb.out.step hg)
          replace Xc := Lib.hid (Xc.out.step hg)
          replace Xx := Lib.hid (Xx.out.step hg)
          replace HS := Lib.hid (HS.out.step hg)
          clear hg
          rw [(cmpT_zero a x).2 HEQ.out]
          go_wp2_with fail
          go_ret
          exact ⟨rfl, HS.out.below⟩
    | true =>
      have xb0 := Xb.out.1; have xb1 := Xb.out.2.1
      have xc0 := Xc.out.1; have xc1 := Xc.out.2.1
      go_wp2_with fail
      clear xb0 xb1 xc0 xc1
      (with_reducible refine (LeqT_any b c _ _ _ Tb.out Tc.out (by have := Zb.out; omega) (by have := Zc.out; omega)).mono ?_)
      rintro e w10 ⟨B2, rfl, hB, hg⟩
      have HB2 := Lib.hid hB
      replace Ta := Lib.hid (Ta.out.same hg)
      replace Tb := Lib.hid (Tb.out.same hg)
      replace Tc := Lib.hid (Tc.out.same hg)
      replace Xa := Lib.hid (Xa.out.step hg)
      replace Xb := Lib.hid (Xb.out.step hg)
      replace Xc := Lib.hid (Xc.out.step hg)
      replace HS := Lib.hid (HS.out.step hg)
      clear hB hg
      cases B2 with
      | false =>
        go_wp2_with fail
        refine (tree_stI 2 4 (by omega) (by omega) (by omega) (by omega) HS.out).mono ?_
        rintro e w11 ⟨ax, cx, x, rfl, hk, hz, hl, hs, hg⟩
        replace Ta := Lib.hid (Ta.out.deal hg)
        replace Tb := Lib.hid (Tb.out.deal hg)
        replace Tc := Lib.hid (Tc.out.deal hg)
        replace Xa := Lib.hid (Xa.out.deal hg)
        replace Xb := Lib.hid (Xb.out.deal hg)
        replace Xc := Lib.hid (Xc.out.deal hg)
        replace HS := Lib.hid hs; have Tx := Lib.hid hk; have Zx := Lib.hid hz; have Bx := Lib.hid hl
        clear hk hz hl hs hg
        have Ox : Hid (OkT x) := Lib.hid (ok_lab (by decide) (by have := Zx.out; omega) Bx.out)
        have hlt : d < w11.heap.size := HS.out.lt
        have bx : BoxT ((w11).alloc (.cells #[.int .i64 x.label, .slice ax x.kids.length cx] 45)) d (w11.heap.size) (.int .i64 x.label) (.slice ax x.kids.length cx) := BoxT.mk (e := 45) (heap_new _ rfl) (by omega)
        have hg : w11.grownBy ((w11).alloc (.cells #[.int .i64 x.label, .slice ax x.kids.length cx] 45)) none := World.grownBy_alloc _ _ none
        have xa0 := (Xa.out.step hg).1; have xa1 := (Xa.out.step hg).2.1
        have xb0 := (Xb.out.step hg).1; have xb1 := (Xb.out.step hg).2.1
        have xc0 := (Xc.out.step hg).1; have xc1 := (Xc.out.step hg).2.1
        go_wp2_with fail
        clear xa0 xa1 xb0 xb1 xc0 xc1
        generalize (w11).alloc (.cells #[.int .i64 x.label, .slice ax x.kids.length cx] 45) = w12 at *
        replace Ta := Lib.hid (Ta.out.same hg)
        replace Tb := Lib.hid (Tb.out.same hg)
        replace Tc := Lib.hid (Tc.out.same hg)
        replace Tx := Lib.hid (Tx.out.same hg)
        replace Xa := Lib.hid (Xa.out.step hg)
        replace Xb := Lib.hid (Xb.out.step hg)
        replace Xc := Lib.hid (Xc.out.step hg)
        replace HS := Lib.hid (HS.out.step hg)
        have Xx := Lib.hid bx
        clear hg hlt bx
        skip
        have xa0 := Xa.out.1; have xa1 := Xa.out.2.1
        have xx0 := Xx.out.1; have xx1 := Xx.out.2.1
        go_wp2_with fail
        clear xa0 xa1 xx0 xx1
        (with_reducible refine (LeqT_any a x _ _ _ Ta.out Tx.out (by have := Za.out; omega) (by have := Zx.out; omega)).mono ?_)
        rintro e w13 ⟨B4, rfl, hB, hg⟩
        have HB4 := Lib.hid hB
        replace Ta := Lib.hid (Ta.out.same hg)
        replace Tb := Lib.hid (Tb.out.same hg)
        replace Tc := Lib.hid (Tc.out.same hg)
        replace Tx := Lib.hid (Tx.out.same hg)
        replace Xa := Lib.hid (Xa.out.step hg)
        replace Xb := Lib.hid (Xb.out.step hg)
        replace Xc := Lib.hid (Xc.out.step hg)
        replace Xx := Lib.hid (Xx.out.step hg)
        replace HS := Lib.hid (HS.out.step hg)
        clear hB hg
        cases B4 with
        | false =>
          go_wp2_with fail
          go_ret
          exact ⟨rfl, HS.out.below⟩
        | true =>
          have xx0 := Xx.out.1; have xx1 := Xx.out.2.1
          have xa0 := Xa.out.1; have xa1 := Xa.out.2.1
          go_wp2_with fail
          clear xx0 xx1 xa0 xa1
          (with_reducible refine (LeqT_any x a _ _ _ Tx.out Ta.out (by have := Zx.out; omega) (by have := Za.out; omega)).mono ?_)
          rintro e w14 ⟨B5, rfl, hB, hg⟩
          have HB5 := Lib.hid hB
          replace Ta := Lib.hid (Ta.out.same hg)
          replace Tb := Lib.hid (Tb.out.same hg)
          replace Tc := Lib.hid (Tc.out.same hg)
          replace Tx := Lib.hid (Tx.out.same hg)
          replace Xa := Lib.hid (Xa.out.step hg)
          replace Xb := Lib.hid (Xb.out.step hg)
          replace Xc := Lib.hid (Xc.out.step hg)
          replace Xx := Lib.hid (Xx.out.step hg)
          replace HS := Lib.hid (HS.out.step hg)
          clear hB hg
          cases B5 with
          | false =>
            go_wp2_with fail
            go_ret
            exact ⟨rfl, HS.out.below⟩
          | true =>
            have HEQ : Hid (a = x) := Lib.hid (by
              have h1 := (HB4.out.1 (by simp)).2.2
              have h2 := (HB5.out.1 (by simp)).2.2
              exact emb_anti _ _ h1 (emb_size _ _ h2))
            have xa0 := Xa.out.1; have xa1 := Xa.out.2.1
            have xx0 := Xx.out.1; have xx1 := Xx.out.2.1
            go_wp2_with fail
            clear xa0 xa1 xx0 xx1
            (with_reducible refine (Compare_any a x _ _ _ Ta.out Tx.out (by have := Za.out; omega) (by have := Zx.out; omega)).mono ?_)
            rintro e w15 ⟨rfl, hg⟩
            replace Ta := Lib.hid (Ta.out.same hg)
            replace Tb := Lib.hid (Tb.out.same hg)
            replace Tc := Lib.hid (Tc.out.same hg)
            replace Tx := Lib.hid (Tx.out.same hg)
            replace Xa := Lib.hid (Xa.out.step hg)
            replace Xb := Lib.hid (Xb.out.step hg)
            replace Xc := Lib.hid (Xc.out.step hg)
            replace Xx := Lib.hid (Xx.out.step hg)
            replace HS := Lib.hid (HS.out.step hg)
            clear hg
            rw [(cmpT_zero a x).2 HEQ.out]
            go_wp2_with fail
            go_ret
            exact ⟨rfl, HS.out.below⟩
      | true =>
        have xa0 := Xa.out.1; have xa1 := Xa.out.2.1
        have xc0 := Xc.out.1; have xc1 := Xc.out.2.1
        go_wp2_with fail
        clear xa0 xa1 xc0 xc1
        (with_reducible refine (LeqT_any a c _ _ _ Ta.out Tc.out (by have := Za.out; omega) (by have := Zc.out; omega)).mono ?_)
        rintro e w11 ⟨B3, rfl, hB, hg⟩
        have HB3 := Lib.hid hB
        replace Ta := Lib.hid (Ta.out.same hg)
        replace Tb := Lib.hid (Tb.out.same hg)
        replace Tc := Lib.hid (Tc.out.same hg)
        replace Xa := Lib.hid (Xa.out.step hg)
        replace Xb := Lib.hid (Xb.out.step hg)
        replace Xc := Lib.hid (Xc.out.step hg)
        replace HS := Lib.hid (HS.out.step hg)
        clear hB hg
        obtain rfl : B3 = true := HB3.out.2 ⟨Oa.out, Oc.out, emb_trans _ _ _ (HB1.out.1 (by simp)).2.2 (HB2.out.1 (by simp)).2.2⟩
        clear HB3
        go_wp2_with fail
        refine (tree_stI 2 4 (by omega) (by omega) (by omega) (by omega) HS.out).mono ?_
        rintro e w12 ⟨ax, cx, x, rfl, hk, hz, hl, hs, hg⟩
        replace Ta := Lib.hid (Ta.out.deal hg)
        replace Tb := Lib.hid (Tb.out.deal hg)
        replace Tc := Lib.hid (Tc.out.deal hg)
        replace Xa := Lib.hid (Xa.out.deal hg)
        replace Xb := Lib.hid (Xb.out.deal hg)
        replace Xc := Lib.hid (Xc.out.deal hg)
        replace HS := Lib.hid hs; have Tx := Lib.hid hk; have Zx := Lib.hid hz; have Bx := Lib.hid hl
        clear hk hz hl hs hg
        have Ox : Hid (OkT x) := Lib.hid (ok_lab (by decide) (by have := Zx.out; omega) Bx.out)
        have hlt : d < w12.heap.size := HS.out.lt
        have bx : BoxT ((w12).alloc (.cells #[.int .i64 x.label, .slice ax x.kids.length cx] 45)) d (w12.heap.size) (.int .i64 x.label) (.slice ax x.kids.length cx) := BoxT.mk (e := 45) (heap_new _ rfl) (by omega)
        have hg : w12.grownBy ((w12).alloc (.cells #[.int .i64 x.label, .slice ax x.kids.length cx] 45)) none := World.grownBy_alloc _ _ none
        have xa0 := (Xa.out.step hg).1; have xa1 := (Xa.out.step hg).2.1
        have xb0 := (Xb.out.step hg).1; have xb1 := (Xb.out.step hg).2.1
        have xc0 := (Xc.out.step hg).1; have xc1 := (Xc.out.step hg).2.1
        go_wp2_with fail
        clear xa0 xa1 xb0 xb1 xc0 xc1
        generalize (w12).alloc (.cells #[.int .i64 x.label, .slice ax x.kids.length cx] 45) = w13 at *
        replace Ta := Lib.hid (Ta.out.same hg)
        replace Tb := Lib.hid (Tb.out.same hg)
        replace Tc := Lib.hid (Tc.out.same hg)
        replace Tx := Lib.hid (Tx.out.same hg)
        replace Xa := Lib.hid (Xa.out.step hg)
        replace Xb := Lib.hid (Xb.out.step hg)
        replace Xc := Lib.hid (Xc.out.step hg)
        replace HS := Lib.hid (HS.out.step hg)
        have Xx := Lib.hid bx
        clear hg hlt bx
        skip
        have xa0 := Xa.out.1; have xa1 := Xa.out.2.1
        have xx0 := Xx.out.1; have xx1 := Xx.out.2.1
        go_wp2_with fail
        clear xa0 xa1 xx0 xx1
        (with_reducible refine (LeqT_any a x _ _ _ Ta.out Tx.out (by have := Za.out; omega) (by have := Zx.out; omega)).mono ?_)
        rintro e w14 ⟨B4, rfl, hB, hg⟩
        have HB4 := Lib.hid hB
        replace Ta := Lib.hid (Ta.out.same hg)
        replace Tb := Lib.hid (Tb.out.same hg)
        replace Tc := Lib.hid (Tc.out.same hg)
        replace Tx := Lib.hid (Tx.out.same hg)
        replace Xa := Lib.hid (Xa.out.step hg)
        replace Xb := Lib.hid (Xb.out.step hg)
        replace Xc := Lib.hid (Xc.out.step hg)
        replace Xx := Lib.hid (Xx.out.step hg)
        replace HS := Lib.hid (HS.out.step hg)
        clear hB hg
        cases B4 with
        | false =>
          go_wp2_with fail
          go_ret
          exact ⟨rfl, HS.out.below⟩
        | true =>
          have xx0 := Xx.out.1; have xx1 := Xx.out.2.1
          have xa0 := Xa.out.1; have xa1 := Xa.out.2.1
          go_wp2_with fail
          clear xx0 xx1 xa0 xa1
          (with_reducible refine (LeqT_any x a _ _ _ Tx.out Ta.out (by have := Zx.out; omega) (by have := Za.out; omega)).mono ?_)
          rintro e w15 ⟨B5, rfl, hB, hg⟩
          have HB5 := Lib.hid hB
          replace Ta := Lib.hid (Ta.out.same hg)
          replace Tb := Lib.hid (Tb.out.same hg)
          replace Tc := Lib.hid (Tc.out.same hg)
          replace Tx := Lib.hid (Tx.out.same hg)
          replace Xa := Lib.hid (Xa.out.step hg)
          replace Xb := Lib.hid (Xb.out.step hg)
          replace Xc := Lib.hid (Xc.out.step hg)
          replace Xx := Lib.hid (Xx.out.step hg)
          replace HS := Lib.hid (HS.out.step hg)
          clear hB hg
          cases B5 with
          | false =>
            go_wp2_with fail
            go_ret
            exact ⟨rfl, HS.out.below⟩
          | true =>
            have HEQ : Hid (a = x) := Lib.hid (by
              have h1 := (HB4.out.1 (by simp)).2.2
              have h2 := (HB5.out.1 (by simp)).2.2
              exact emb_anti _ _ h1 (emb_size _ _ h2))
            have xa0 := Xa.out.1; have xa1 := Xa.out.2.1
            have xx0 := Xx.out.1; have xx1 := Xx.out.2.1
            go_wp2_with fail
            clear xa0 xa1 xx0 xx1
            (with_reducible refine (Compare_any a x _ _ _ Ta.out Tx.out (by have := Za.out; omega) (by have := Zx.out; omega)).mono ?_)
            rintro e w16 ⟨rfl, hg⟩
            replace Ta := Lib.hid (Ta.out.same hg)
            replace Tb := Lib.hid (Tb.out.same hg)
            replace Tc := Lib.hid (Tc.out.same hg)
            replace Tx := Lib.hid (Tx.out.same hg)
            replace Xa := Lib.hid (Xa.out.step hg)
            replace Xb := Lib.hid (Xb.out.step hg)
            replace Xc := Lib.hid (Xc.out.step hg)
            replace Xx := Lib.hid (Xx.out.step hg)
            replace HS := Lib.hid (HS.out.step hg)
            clear hg
            rw [(cmpT_zero a x).2 HEQ.out]
            go_wp2_with fail
            go_ret
            exact ⟨rfl, HS.out.below⟩
  · go_enter Try.func9, Try.ntmps9
    go_wp2_with fail
    refine (awake04_any _).mono ?_
    rintro e w1 ⟨rfl, hg⟩
    have HG := Lib.hid hg
    clear hg
    go_wp2_with fail
    refine (few_any _ _ _ _).mono ?_
    rintro e w2 ⟨rfl, rfl⟩
    rw [decide_eq_false (by omega)]
    go_wp2_with fail
    refine (awake04_any _).mono ?_
    rintro e w3 ⟨rfl, hg⟩
    have HG := Lib.hid (grown_trans HG.out hg)
    clear hg
    go_wp2_with fail
    go_ret
    exact ⟨rfl, below_of HG.out⟩

/-! ### TreeOrder: the statement, from its walk -/
set_option maxRecDepth 100000 in
theorem liftedTreeOrder (os : Os) (started : os.Started) (H : Type) (enc : TypeId × Value → H) :
    ReturnsInHanded {} Try.checked os 9 .any (Rows.treeOrderSpec.pre6 enc Try.prog Try.f9 Rows.treeOrderRow.domain false) (Rows.treeOrderSpec.post enc Try.prog Try.f9 false true false false) := by
  refine returnsInHanded_of_change (C := Try.checked) own started (by kernel_rfl) Try.func9
    (ChangeSpec.witness6 (enc := enc) (C := Try.checked) false ⟨#[], #[.slice none 0 0], []⟩ 8 (by kernel_rfl) (by kernel_rfl) (by kernel_rfl) (by kernel_rfl)) ?_
  intro W base args ds gs before hval0 hW hcnd _
  have hval : ∀ (j : Nat) t v, Try.f9.params[j]? = some t → args[j]? = some v → Value.okWide Try.prog W .any base t v := hval0
  have hW' := hW
  obtain ⟨p, q, hA0, hV, rfl, hfz, hnd⟩ := hW
  have hA : DataW.TrodAll enc Try.prog W 0 (fun _ => true) true Try.f9.params.toList args.toList ds p := hA0
  rw [Try.params9] at hA hval
  obtain ⟨v0, vs0, d0, ds0, p0, q0, hargs, rfl, rfl, h0, r0⟩ := trodAll_cons hA
  obtain ⟨rfl, rfl, rfl⟩ := trodAll_nil r0
  obtain rfl : args = #[v0] := by cases args; simp_all
  obtain ⟨rfl, rfl⟩ := trodVars_none hV
  obtain ⟨a0, len0, cap0, rfl⟩ := okWide_slice Try.underlying22 (hval 0 22 v0 rfl rfl)
  have k0 := h0
  have lt0 : ∀ x ∈ p0, x.block < W.heap.size := by obtain ⟨m, hm⟩ := k0; exact DataW.trod_lt m _ _ _ hm
  obtain ⟨z0, w0⟩ : ∃ zs, IsRow .i64 W a0 len0 cap0 zs := by
    obtain ⟨fuel, hf⟩ := h0
    rcases open_ints Try.underlying22 Try.underlying3 (by kernel_rfl) hf with ⟨hcs, _⟩ | ⟨x, l, c, zs, hcs, _, hl, hm, hz, _, hcell, hwz⟩
    · simp [Value.cells] at hcs
      obtain ⟨rfl, rfl, rfl⟩ := hcs
      exact ⟨[], .inl ⟨rfl, rfl, rfl, rfl⟩⟩
    · simp [Value.cells] at hcs
      obtain ⟨rfl, rfl, rfl⟩ := hcs
      exact ⟨zs, .inr ⟨_, rfl, hl, hm, by simpa using hz, hcell, hwz⟩⟩
  clear hA0 hval0
  refine (walkTreeOrder a0 len0 cap0 z0 W w0).mono fun e W' ⟨he, bel⟩ => ?_
  subst he
  exact ⟨_, rfl, _, _, _, [], _, [], hW', trodAll_mk1 (shut_bool Try.underlying4 _), (trodAll_cons_mk (Below.trod laidOut (by kernel_rfl) (of_decide_eq_true (by kernel_rfl)) k0 bel lt0) trodAll_mk0), rfl, bel.frame _, fun h => by cases h⟩

theorem treeOrder_holds : Rows.TreeOrderSaid :=
  OpenClaim.holds_of_wide 9 Try.f9 rfl rfl rfl rfl rfl rfl rfl ⟨rfl, rfl, rfl, rfl, rfl⟩ rfl rfl rfl rfl rfl (by kernel_rfl) Try.func9 (by kernel_rfl)
    (of_decide_eq_true (by kernel_rfl)) (by unfold Func.isWrapper; first | (rw [if_pos (by decide +kernel)]; kernel_rfl) | (rw [if_neg (by decide +kernel)]; exact ⟨rfl, rfl⟩))
    (fun os started H enc _ => liftedTreeOrder os started H enc)
#print axioms treeOrder_holds
end Go.Proofs.Ytnppmemcdcgjhaa
