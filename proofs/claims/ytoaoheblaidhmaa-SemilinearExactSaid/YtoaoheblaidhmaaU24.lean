/- Texts Vq in one. -/
import Derived.Test.YtoaoheblaidhmaaU23
import Derived.Deep.RegionHeld3
namespace Go.Proofs.Ytoaoheblaidhmaa
open Go.RowKit
set_option linter.unusedVariables false

theorem box_drew {w : World} {g : Nat} {o : Obj} (h : w.heap[g]? = some o) : w.drew.heap[g]? = some o := h
theorem box_keep {X w : World} {b : Nat} {o : Obj} (g : X.grownBy w none) (h1 : X.heap[b]? = some o) : w.heap[b]? = some o := box_none h1 g
def orE (x y : Int) : Int := if x = 0 then y else x
set_option maxRecDepth 100000 in
set_option maxHeartbeats 1000000 in
theorem or_any (g cap : Nat) (x y : Int) (w : World) (c0 : w.cell? ⟨g, 0, none⟩ = some (.int .i64 x)) (c1 : w.cell? ⟨g, 1, none⟩ = some (.int .i64 y)) :
    Calls Try.prog 51 #[.slice (some ⟨g, 0, none⟩) 2 cap] w fun e w' => e = .returned (.int .i64 (orE x y)) ∧ w' = w := by
  have C0 := Lib.hid c0; have C1 := Lib.hid c1
  clear c0 c1
  go_enter Try.func51, Try.ntmps51
  go_wp2_with fail
  go_loop [8] (fun i => ∃ k : Nat, k ≤ 2 ∧ i = .int .i64 k ∧ Hid ((0 < k → x = 0) ∧ (1 < k → y = 0))) (fun i => 2 - (intOf i).toNat)
  case atStart => exact ⟨0, by omega, rfl, Lib.hid (by omega)⟩
  case round =>
    obtain ⟨k, hk, rfl, hz⟩ := hrel
    match k, hk with
    | 0, _ =>
      have c0 := C0.out
      by_cases hx : x = 0
      · have HX := Lib.hid hx
        have q : (x != 0) = false := by simpa using hx
        clear hx
        go_wp2_with fail
        go_round
        case rel => exact ⟨1, by omega, by go_num, Lib.hid ⟨fun _ => HX.out, fun h => by omega⟩⟩
        case measure => simp [intOf]
      · have HX : Hid (orE x y = x) := Lib.hid (by rw [orE, if_neg hx])
        have q : (x != 0) = true := by simpa using hx
        clear hx
        go_wp2_with fail
        go_ret
        exact ⟨by rw [HX.out]; rfl, rfl⟩
    | 1, _ =>
      have c1 := C1.out
      have HX := Lib.hid (hz.out.1 (by omega))
      by_cases hx : y = 0
      · have HY := Lib.hid hx
        have q : (y != 0) = false := by simpa using hx
        clear hx
        go_wp2_with fail
        go_round
        case rel => exact ⟨2, by omega, by go_num, Lib.hid ⟨fun _ => HX.out, fun _ => HY.out⟩⟩
        case measure => simp [intOf]
      · have HY : Hid (orE x y = y) := Lib.hid (by rw [orE, if_pos HX.out])
        have q : (y != 0) = true := by simpa using hx
        clear hx
        go_wp2_with fail
        go_ret
        exact ⟨by rw [HY.out]; rfl, rfl⟩
    | 2, _ =>
      have HE : Hid (orE x y = 0) := Lib.hid (by rw [orE, if_pos (hz.out.1 (by omega)), hz.out.2 (by omega)])
      go_wp2_with fail
      go_ret
      exact ⟨by rw [HE.out]; rfl, rfl⟩
/-- What Sum answers. -/
inductive SumR (n : Int) (b : List Int) (qs : List Row) (c : List Int) (rs : List Row) : List Int → List (List Int) → Int → Prop
  | bad1 (err : Int) (h : CheckF n (U1 b qs) err) (he : err ≠ 0) : SumR n b qs c rs [] [] err
  | bad2 (err : Int) (h : CheckF n (U1 b qs) 0) (h2 : CheckF n (U1 c rs) err) (he : err ≠ 0) : SumR n b qs c rs [] [] err
  | lim (h : CheckF n (U1 b qs) 0) (h2 : CheckF n (U1 c rs) 0) (hl : ¬ (withB 16 (sumL b c) = true ∧ (ascL (qs.map Prod.snd ++ rs.map Prod.snd)).length ≤ 3)) : SumR n b qs c rs [] [] 1
  | ok (h : CheckF n (U1 b qs) 0) (h2 : CheckF n (U1 c rs) 0) (hl : withB 16 (sumL b c) = true ∧ (ascL (qs.map Prod.snd ++ rs.map Prod.snd)).length ≤ 3) : SumR n b qs c rs (sumL b c) (ascL (qs.map Prod.snd ++ rs.map Prod.snd)) 0
theorem SumR.one {n : Int} {b c : List Int} {qs rs : List Row} {x x' : List Int} {y y' : List (List Int)} {z z' : Int} (h : SumR n b qs c rs x y z) (k : SumR n b qs c rs x' y' z') : x' = x ∧ y' = y ∧ z' = z := by
  cases h with
  | bad1 err h he => cases k with
    | bad1 err' h' he' => exact ⟨rfl, rfl, h'.one h⟩
    | bad2 err' h' _ _ => exact absurd (h.one h') he
    | lim h' _ _ => exact absurd (h.one h') he
    | ok h' _ _ => exact absurd (h.one h') he
  | bad2 err h h2 he => cases k with
    | bad1 err' h' he' => exact absurd (h'.one h) he'
    | bad2 err' h' h2' _ => exact ⟨rfl, rfl, h2'.one h2⟩
    | lim h' h2' _ => exact absurd (h2.one h2') he
    | ok h' h2' _ => exact absurd (h2.one h2') he
  | lim h h2 hl => cases k with
    | bad1 err' h' he' => exact absurd (h'.one h) he'
    | bad2 err' h' h2' he' => exact absurd (h2'.one h2) he'
    | lim h' h2' _ => exact ⟨rfl, rfl, rfl⟩
    | ok h' h2' hl' => exact absurd hl' hl
  | ok h h2 hl => cases k with
    | bad1 err' h' he' => exact absurd (h'.one h) he'
    | bad2 err' h' h2' he' => exact absurd (h2'.one h2) he'
    | lim h' h2' hl' => exact absurd hl hl'
    | ok h' h2' hl' => exact ⟨rfl, rfl, rfl⟩
def SumTo (n : Int) (b : List Int) (qs : List Row) (c : List Int) (rs : List Row) (w : World) (e : Ending) (w' : World) : Prop := ∃ x y z, SumR n b qs c rs x y z ∧ MoveU x y z w e w'
theorem sumR_bad {n err1 err2 : Int} {b c : List Int} {qs rs : List Row} (h1 : CheckF n (U1 b qs) err1) (h2 : CheckF n (U1 c rs) err2) (he : orE err1 err2 ≠ 0) : SumR n b qs c rs [] [] (orE err1 err2) := by
  by_cases h : err1 = 0
  · rw [orE, if_pos h] at he ⊢
    subst h
    exact .bad2 _ h1 h2 he
  · rw [orE, if_neg h] at he ⊢
    exact .bad1 _ h1 h
set_option maxRecDepth 100000 in
set_option maxHeartbeats 3000000 in
theorem Sum_bad {n : Int} {sv1 sv2 : Value} {b c : List Int} {qs rs : List Row} {w : World} (h1 : LinX w sv1 b qs) (hq1 : qs.length ≤ 20) (h2 : LinX w sv2 c rs) (hq2 : rs.length ≤ 20) (hb : ¬ (CheckF n (U1 b qs) 0 ∧ CheckF n (U1 c rs) 0)) :
    Calls Try.prog 27 #[.int .i64 n, sv1, sv2] w (SumTo n b qs c rs w) := by
  have H1 := Lib.hid h1; have H2 := Lib.hid h2; have HBD := Lib.hid hb
  obtain ⟨vb, vp, rfl, hrb, ⟨ap, cp, rfl, -⟩, -⟩ := h1
  obtain ⟨vb', vp', rfl, hrb', ⟨aq, cq, rfl, -⟩, -⟩ := h2
  obtain ⟨⟨ab, cb, hvb, -, -, -⟩, -, -⟩ := hrb
  obtain ⟨⟨ac, cc, hvc, -, -, -⟩, -, -⟩ := hrb'
  dsimp only at hvb hvc
  subst hvb hvc
  clear hb
  go_enter Try.func27, Try.ntmps27
  go_wp2_with fail
  obtain ⟨k1, k2, k3⟩ := three_any w (.slice ab b.length cb) (.slice ap qs.length cp) (.slice ac c.length cc) (.slice aq rs.length cq) (.slice none 0 0) (.slice none 0 0) 26
  have hg3 : w.grownBy (((w.alloc (.cells #[.slice ab b.length cb, .slice ap qs.length cp] 26)).alloc (.cells #[.slice ac c.length cc, .slice aq rs.length cq] 26)).alloc (.cells #[.slice none 0 0, .slice none 0 0] 26)) none := grown_after (grown_after (grown_after (grown_refl _ _)))
  generalize (((w.alloc (.cells #[.slice ab b.length cb, .slice ap qs.length cp] 26)).alloc (.cells #[.slice ac c.length cc, .slice aq rs.length cq] 26)).alloc (.cells #[.slice none 0 0, .slice none 0 0] 26)) = W3 at *
  have G3 := Lib.hid hg3; have K0 := Lib.hid (cells_of k1); have K1 := Lib.hid (cells_of k2); have K2 := Lib.hid k3
  have hb3 : w.heap.size + 1 + 1 < W3.heap.size := (Array.getElem?_eq_some_iff.1 k3).1
  clear k1 k2 k3 hg3
  have hnn : ∀ g : Nat, some g ≠ (none : Option Nat) := by intro g; simp
  have GX : Hid (W3.grownBy W3.drew none) := Lib.hid (grown_drew _ none)
  go_region_held3 (fun w' => w'.cell? ⟨w.heap.size, 0, none⟩ = some (.slice ab b.length cb) ∧ w'.cell? ⟨w.heap.size, 1, none⟩ = some (.slice ap qs.length cp) ∧ w'.cell? ⟨w.heap.size + 1, 0, none⟩ = some (.slice ac c.length cc) ∧ w'.cell? ⟨w.heap.size + 1, 1, none⟩ = some (.slice aq rs.length cq)) (first | exact ⟨GX.out.cell K0.out.1 (hnn _), GX.out.cell K0.out.2 (hnn _), GX.out.cell K1.out.1 (hnn _), GX.out.cell K1.out.2 (hnn _)⟩ | exact ⟨(grown_after GX.out).cell K0.out.1 (hnn _), (grown_after GX.out).cell K0.out.2 (hnn _), (grown_after GX.out).cell K1.out.1 (hnn _), (grown_after GX.out).cell K1.out.2 (hnn _)⟩ | exact ⟨(grown_after (grown_after GX.out)).cell K0.out.1 (hnn _), (grown_after (grown_after GX.out)).cell K0.out.2 (hnn _), (grown_after (grown_after GX.out)).cell K1.out.1 (hnn _), (grown_after (grown_after GX.out)).cell K1.out.2 (hnn _)⟩ | exact ⟨GY.out.cell K0.out.1 (hnn _), GY.out.cell K0.out.2 (hnn _), GY.out.cell K1.out.1 (hnn _), GY.out.cell K1.out.2 (hnn _)⟩ | exact ⟨(grown_after GY.out).cell K0.out.1 (hnn _), (grown_after GY.out).cell K0.out.2 (hnn _), (grown_after GY.out).cell K1.out.1 (hnn _), (grown_after GY.out).cell K1.out.2 (hnn _)⟩) (first
    | (go_at_call 14; (with_reducible change Calls _ _ #[_, .slice (some ⟨W3.heap.size, 0, none⟩) 1 1] ((W3.alloc (.cells #[.slice ab b.length cb, .slice ap qs.length cp] 26)).drew) _); refine (check_is n _ [((.slice ab b.length cb, .slice ap qs.length cp), (b, qs))] _ (setsX_one (box_drew (heap_new _ rfl)) (H1.out.same (grown_trans G3.out (grown_trans (grown_after (grown_refl W3 none)) (grown_drew _ none)))) hq1)).mono ?_; rintro e w13 ⟨err1, rfl, hf, hg⟩; have HF1 := Lib.hid (checkF_val (x' := .slice none 0 0) (y' := .slice none 0 0) hf); clear hf; have HG13 := Lib.hid hg; replace GX : Hid (W3.grownBy w13 none) := Lib.hid (grown_trans (grown_trans (grown_after (grown_refl W3 none)) (grown_drew _ none)) hg); clear hg)
    | (go_at_call 14; (with_reducible change Calls _ _ #[_, .slice (some ⟨W3.heap.size, 0, none⟩) 1 1] (((W3.alloc (.cells #[.slice ab b.length cb, .slice ap qs.length cp] 26)).alloc (.cells #[.slice ac c.length cc, .slice aq rs.length cq] 26)).drew) _); refine (check_is n _ [((.slice ab b.length cb, .slice ap qs.length cp), (b, qs))] _ (setsX_one (box_drew (heap_old _ (heap_new _ rfl))) (H1.out.same (grown_trans G3.out (grown_trans (grown_after (grown_after (grown_refl W3 none))) (grown_drew _ none)))) hq1)).mono ?_; rintro e w13 ⟨err1, rfl, hf, hg⟩; have HF1 := Lib.hid (checkF_val (x' := .slice none 0 0) (y' := .slice none 0 0) hf); clear hf; have HG13 := Lib.hid hg; replace GX : Hid (W3.grownBy w13 none) := Lib.hid (grown_trans (grown_trans (grown_after (grown_after (grown_refl W3 none))) (grown_drew _ none)) hg); clear hg)
    | (go_at_call 14; (with_reducible change Calls _ _ #[_, .slice (some ⟨W3.heap.size + 1, 0, none⟩) 1 1] (((W3.alloc (.cells #[.slice ac c.length cc, .slice aq rs.length cq] 26)).alloc (.cells #[.slice ab b.length cb, .slice ap qs.length cp] 26)).drew) _); refine (check_is n _ [((.slice ab b.length cb, .slice ap qs.length cp), (b, qs))] _ (setsX_one (box_drew (heap_new _ (by show _ = (W3.heap.push _).size; simp))) (H1.out.same (grown_trans G3.out (grown_trans (grown_after (grown_after (grown_refl W3 none))) (grown_drew _ none)))) hq1)).mono ?_; rintro e w13 ⟨err1, rfl, hf, hg⟩; have HF1 := Lib.hid (checkF_val (x' := .slice none 0 0) (y' := .slice none 0 0) hf); clear hf; have HG13 := Lib.hid hg; replace GX : Hid (W3.grownBy w13 none) := Lib.hid (grown_trans (grown_trans (grown_after (grown_after (grown_refl W3 none))) (grown_drew _ none)) hg); clear hg)
    | (go_at_call 14; (with_reducible change Calls _ _ #[_, .slice (some ⟨w13.heap.size, 0, none⟩) 1 1] (w13.alloc (.cells #[.slice ac c.length cc, .slice aq rs.length cq] 26)) _); refine (check_is n _ [((.slice ac c.length cc, .slice aq rs.length cq), (c, rs))] _ (setsX_one (heap_new _ rfl) (H2.out.same (grown_trans G3.out (grown_after GX.out))) hq2)).mono ?_; rintro e w17 ⟨err2, rfl, hf, hg⟩; have HF2 := Lib.hid (checkF_val (x' := .slice none 0 0) (y' := .slice none 0 0) hf); clear hf; have GY : Hid (W3.grownBy w17 none) := Lib.hid (grown_trans (grown_after GX.out) hg); clear hg)
    | (go_at_call 14; (with_reducible change Calls _ _ #[_, .slice (some ⟨W3.heap.size + 1, 0, none⟩) 1 1] (w13) _); refine (check_is n _ [((.slice ac c.length cc, .slice aq rs.length cq), (c, rs))] _ (setsX_one (box_keep HG13.out (box_drew (heap_new _ (by show _ = (W3.heap.push _).size; simp)))) (H2.out.same (grown_trans G3.out (GX.out))) hq2)).mono ?_; rintro e w17 ⟨err2, rfl, hf, hg⟩; have HF2 := Lib.hid (checkF_val (x' := .slice none 0 0) (y' := .slice none 0 0) hf); clear hf; have GY : Hid (W3.grownBy w17 none) := Lib.hid (grown_trans (GX.out) hg); clear hg)
    | (go_at_call 14; (with_reducible change Calls _ _ #[_, .slice (some ⟨W3.heap.size, 0, none⟩) 1 1] (w13) _); refine (check_is n _ [((.slice ac c.length cc, .slice aq rs.length cq), (c, rs))] _ (setsX_one (box_keep HG13.out (box_drew (heap_old _ (heap_new _ rfl)))) (H2.out.same (grown_trans G3.out (GX.out))) hq2)).mono ?_; rintro e w17 ⟨err2, rfl, hf, hg⟩; have HF2 := Lib.hid (checkF_val (x' := .slice none 0 0) (y' := .slice none 0 0) hf); clear hf; have GY : Hid (W3.grownBy w17 none) := Lib.hid (grown_trans (GX.out) hg); clear hg)
    | (go_at_call 51; refine (or_any _ _ err1 err2 _ (by simp) (by simp)).mono ?_; rintro e w19 ⟨rfl, hw19⟩; subst hw19))
  all_goals
    clear HG13 GX
    have HE : Hid (orE err1 err2 ≠ 0) := Lib.hid (fun h => by
      by_cases h0 : err1 = 0
      · rw [orE, if_pos h0] at h
        subst h0 h
        exact HBD.out ⟨HF1.out, HF2.out⟩
      · rw [orE, if_neg h0] at h
        exact h0 h)
    have HR := Lib.hid (sumR_bad HF1.out HF2.out HE.out)
    have q : (orE err1 err2 != 0) = true := by simpa using HE.out
    generalize orE err1 err2 = err at *
    have HK : Hid ((w17.alloc (.cells #[.int .i64 err1, .int .i64 err2] 34)).heap[w.heap.size + 1 + 1]? = some (.cells #[.slice none 0 0, .slice none 0 0] 26 (0, 0))) := Lib.hid (heap_old _ (box_none K2.out GY.out))
    have GG : Hid (w.grownBy (w17.alloc (.cells #[.int .i64 err1, .int .i64 err2] 34)) none) := Lib.hid (grown_after (grown_trans G3.out GY.out))
    obtain ⟨p1, p2, p3, p4, p5⟩ := put_set (x := .slice none 0 0) (y := .slice none 0 0) HK.out
    have P1 := Lib.hid p1
    clear p1
    go_wp2_with fail
    refine bodyPost_ret (results_set2 rfl _ _ (w.heap.size + 1 + 1) _ _ _ _ rfl P1.out Try.underlying26 (by kernel_rfl)) rfl ?_
    exact ⟨_, _, _, HR.out, moveU_nil (grown_then GG.out (set_two1 (w.heap.size + 1 + 1) _ _ _) (by rintro j ⟨⟩; exact .inl (by omega)))⟩
theorem GotX.u {w w' : World} {e : Ending} (h : GotX w e w') : MoveU [] [] 1 w e w' := by
  obtain ⟨rfl, g⟩ := h
  exact moveU_nil g
theorem Sum_is {n : Int} {sv1 sv2 : Value} {b c : List Int} {qs rs : List Row} {w : World} (h1 : LinX w sv1 b qs) (hq1 : qs.length ≤ 20) (h2 : LinX w sv2 c rs) (hq2 : rs.length ≤ 20) :
    Calls Try.prog 27 #[.int .i64 n, sv1, sv2] w (SumTo n b qs c rs w) := by
  by_cases hb : CheckF n (U1 b qs) 0 ∧ CheckF n (U1 c rs) 0
  · obtain ⟨hf, hf2⟩ := hb
    obtain ⟨N, rfl, hn1, hn4, hval⟩ := checkF_zero hf
    obtain ⟨M, e, -, -, hval2⟩ := checkF_zero hf2
    obtain rfl : N = M := by omega
    have hlin := h1.lin (by rw [hval.2.2.1]; exact hn1) (fun p hp => by rw [(hval.2.2.2.2.1 _ (List.mem_map_of_mem hp)).1.1]; exact hn1)
    have hlin2 := h2.lin (by rw [hval2.2.2.1]; exact hn1) (fun p hp => by rw [(hval2.2.2.2.2.1 _ (List.mem_map_of_mem hp)).1.1]; exact hn1)
    obtain ⟨vb, vp, rfl, -⟩ := h1
    obtain ⟨vb', vp', rfl, -⟩ := h2
    cases hs : withB 16 (sumL b c) with
    | true =>
      refine (Sum_any N ((vb, vp), (b, qs.map Prod.snd)) ((vb', vp'), (c, rs.map Prod.snd)) w ⟨hlin, hval⟩ ⟨hlin2, hval2⟩ (fun x hx => (withB_iff.1 hs x hx).2)).mono ?_
      rintro e w' (⟨hl, hg⟩ | ⟨hl, hg⟩)
      · exact ⟨_, _, _, .ok hf hf2 ⟨hs, hl⟩, hg.u⟩
      · exact ⟨_, _, _, .lim hf hf2 (fun h => by have h3 := h.2; dsimp only at hl; omega), hg.u⟩
    | false =>
      refine (Sum_big N ((vb, vp), (b, qs.map Prod.snd)) ((vb', vp'), (c, rs.map Prod.snd)) w ⟨hlin, hval⟩ ⟨hlin2, hval2⟩ (big_sum hval.2.2.2.1 hval2.2.2.2.1 hs)).mono ?_
      intro e w' hg
      exact ⟨_, _, _, .lim hf hf2 (fun h => by rw [hs] at h; cases h.1), hg.u⟩
  · exact Sum_bad h1 hq1 h2 hq2 hb

end Go.Proofs.Ytoaoheblaidhmaa
