/- Texts Nh in one. -/
import Derived.Test.YtpnghgihepnepaaDoorU6
namespace Go.Proofs.YtpnghgihepnepaaDoor
open Go.RowKit
set_option linter.unusedVariables false

/-- A struct of three cells is put into an older block. -/
theorem put_set3 {w : World} {g : Nat} {a b c x y z : Value} {e : TypeId} (h : w.heap[g]? = some (.cells #[a, b, c] e (0, 0))) :
    (((w.setCell ⟨g, 0, none⟩ x).setCell ⟨g, 1, none⟩ y).setCell ⟨g, 2, none⟩ z).heap[g]? = some (.cells #[x, y, z] e (0, 0)) ∧ w.cell? ⟨g, 0, none⟩ = some a ∧ w.frozen? ⟨g, 0, none⟩ = false ∧
      (w.setCell ⟨g, 0, none⟩ x).cell? ⟨g, 1, none⟩ = some b ∧ (w.setCell ⟨g, 0, none⟩ x).frozen? ⟨g, 1, none⟩ = false ∧
      ((w.setCell ⟨g, 0, none⟩ x).setCell ⟨g, 1, none⟩ y).cell? ⟨g, 2, none⟩ = some c ∧ ((w.setCell ⟨g, 0, none⟩ x).setCell ⟨g, 1, none⟩ y).frozen? ⟨g, 2, none⟩ = false := by
  have h1 := heap_set (o := 0) h x
  have h2 := heap_set (o := 1) h1 y
  refine ⟨heap_set (o := 2) h2 z, ?_, ?_, ?_, ?_, ?_, ?_⟩
  · unfold World.cell?; dsimp only; rw [h]; rfl
  · unfold World.frozen?; dsimp only; rw [h]; rfl
  · unfold World.cell?; dsimp only; rw [h1]; rfl
  · unfold World.frozen?; dsimp only; rw [h1]; rfl
  · unfold World.cell?; dsimp only; rw [h2]; rfl
  · unfold World.frozen?; dsimp only; rw [h2]; rfl
theorem grown_put3 (w : World) (g : Nat) (x y z : Value) : w.grownBy (((w.setCell ⟨g, 0, none⟩ x).setCell ⟨g, 1, none⟩ y).setCell ⟨g, 2, none⟩ z) (some g) :=
  grown_trans (grown_trans (grown_set w ⟨g, 0, none⟩ x) (grown_set _ ⟨g, 1, none⟩ y)) (grown_set _ ⟨g, 2, none⟩ z)

theorem MatO.second {w : World} {base g cap : Nat} {ps : List Row} (h : MatO w base (.slice (some ⟨g, 0, none⟩) ps.length cap) ps) {k i : Nat} (hk : k < ps.length) (hi : i < ps.length) :
    ∃ z, (w.setCell ⟨g, k, none⟩ ps[i].1).cell? ⟨g, i, none⟩ = some z ∧ (w.setCell ⟨g, k, none⟩ ps[i].1).frozen? ⟨g, i, none⟩ = false := by
  have h1 := (World.ownsRow.stored h.own.1 k ps[i].1).1
  refine ⟨(((ps.map Prod.fst).set k ps[i].1)[i]'(by simpa using hi)), ?_, World.ownsRow.frozenAt h1 i⟩
  rw [World.ownsRow.cellAt h1 i (by omega)]
  rw [List.getElem?_eq_getElem]
theorem redStep_hit {rs : List Row} {pv : List Int} {f : Int} {c t : Nat} (hk : pv.length < rs.length) (ht : t < rs.length) (h : findHit rs c (rs.length - pv.length) pv.length = some t) :
    redStep c (rs, pv, f) = (elimP (rs[t].2[c]?.getD 0) f c pv.length rs[t].2 (swapP rs pv.length t hk ht), pv ++ [(c : Int)], rs[t].2[c]?.getD 0) := by
  unfold redStep
  dsimp only
  rw [h]
  dsimp only
  rw [top_is (k := 0) hk ht, swapT_eq hk ht]
theorem FitS.hit {rs : List Row} {pv : List Int} {f : Int} {c t : Nat} (h : FitS c (rs, pv, f)) (hk : pv.length < rs.length) (ht : t < rs.length) (hf : findHit rs c (rs.length - pv.length) pv.length = some t) :
    ∀ i (hi : i < (swapP rs pv.length t hk ht).length), i ≠ pv.length → FitE (rs[t].2[c]?.getD 0) f c rs[t].2 (swapP rs pv.length t hk ht)[i].2 := by
  intro i hi hik
  have h2 := h t hf
  dsimp only at h2
  rw [top_is (k := 0) hk ht] at h2
  have e := swapT_eq hk ht
  have h3 := h2 i (by rw [e]; exact hi) hik
  simp only [e] at h3
  exact h3
theorem swapP_top {rs : List Row} {k t : Nat} (hk : k < rs.length) (ht : t < rs.length) : ((swapP rs k t hk ht)[k]'(by rw [swapP_len]; exact hk)).2 = rs[t].2 := by
  rw [swapP_at]
  by_cases e : k = t
  · subst e; simp
  · rw [if_neg e, if_pos rfl]
def RedTo (w : World) (ps : List Row) (m : Nat) (e : Ending) (w' : World) : Prop := ∃ R v vp f qs pv qs0, e = .returned (.agg #[v, vp, .int .i64 f]) ∧ RedS w w' R v vp f qs pv ∧ List.map Prod.snd qs0 = List.map Prod.snd ps ∧ (qs, pv, f) = redN (qs0, [], 1) m
theorem RedS.other {W0 w w' : World} {R k : Nat} {v vp : Value} {f : Int} {ps : List Row} {pv : List Int} (h : RedS W0 w R v vp f ps pv) (g : w.grownBy w' (some k)) (hk : k < R) (W1 : World) (hW : W1.heap.size ≤ R) (hG : W1.grownBy w' none) : RedS W1 w' R v vp f ps pv :=
  ⟨(g.block R (Array.getElem?_eq_some_iff.1 h.blk).1 (by simp; omega)).trans h.blk, hW, hG, h.mat.kept g (by rintro j ⟨⟩; omega), h.piv.kept g (by rintro j ⟨⟩; omega)⟩
theorem RedS.lt {W0 w : World} {R : Nat} {v vp : Value} {f : Int} {ps : List Row} {pv : List Int} (h : RedS W0 w R v vp f ps pv) : R + 1 ≤ w.heap.size := (Array.getElem?_eq_some_iff.1 h.blk).1
theorem own_fst {w : World} {base : Nat} {v : Value} {ps : List Row} (h : OwnP w base v ps) : w.ownsRow base 22 1 v (ps.map Prod.fst).length (ps.map Prod.fst) := by rw [List.length_map]; exact h.1
theorem RedS.start (w : World) {R : Nat} (hR : w.heap.size = R) : RedS w (w.alloc (.cells #[.slice none 0 0, .slice none 0 0, .int .i64 1] 66)) R (.slice none 0 0) (.slice none 0 0) 1 [] [] := by
  subst hR
  exact ⟨heap_new _ rfl, Nat.le_refl _, World.grownBy_alloc _ _ _, MatO.nil _ _, RowBy.nil _ _ _ _⟩

set_option maxRecDepth 100000 in
set_option maxHeartbeats 2000000 in
theorem reduce_any {w : World} {v : Value} {ps : List Row} {m : Nat} (h : RowsP w v ps) (hn1 : 1 ≤ ps.length) (hn : ps.length ≤ 12) (hm : ∀ q ∈ ps, q.2.length = m) (hm1 : 1 ≤ m) (hm12 : m ≤ 12)
    (hft : ∀ qs : List Row, qs.map Prod.snd = ps.map Prod.snd → ∀ k, k < m → FitS k (redN (qs, [], 1) k)) :
    Calls Tryd.prog 54 #[v] w (RedTo w ps m) := by
  obtain ⟨a, cap, rfl, -⟩ : ∃ a cap, v = .slice a ps.length cap ∧ True := by obtain ⟨a, cap, h, -⟩ := h; exact ⟨a, cap, h, trivial⟩
  obtain ⟨b, off, a2, c2, rfl, hc0, -, -⟩ := h.row (show 0 < ps.length by omega)
  rw [hm _ (List.getElem_mem _), Nat.add_zero] at hc0
  have HC0 := Lib.hid hc0
  have H := Lib.hid h; have HM := Lib.hid hm; have HFT := Lib.hid hft
  have e0 : (0 : Int) < (ps.length : Int) := by omega
  clear h hm hft hc0
  go_enter Tryd.func54, Tryd.ntmps54
  go_wp2_with fail
  have HS := Lib.hid (RedS.start (w.alloc (.cells #[.slice none 0 0, .slice none 0 0, .int .i64 0] 66)) (R := w.heap.size + 1) (by show (w.heap.push _).size = _; simp))
  have HB := Lib.hid (grown_refl (w.alloc (.cells #[.slice none 0 0, .slice none 0 0, .int .i64 0] 66)) none)
  go_loopw [12] (fun i wr => ∃ (k : Nat) (vr : Value) (qs : List Row), i = .int .i64 k ∧ k ≤ ps.length ∧ Hid (qs.map Prod.snd = (ps.map Prod.snd).take k) ∧ Hid (qs.length = k) ∧ Hid (RedS (w.alloc (.cells #[.slice none 0 0, .slice none 0 0, .int .i64 0] 66)) wr (w.heap.size + 1) vr (.slice none 0 0) 1 qs [])) (fun i _ => ps.length - (intOf i).toNat)
  case atStart => exact ⟨0, .slice none 0 0, [], rfl, Nat.zero_le _, Lib.hid rfl, Lib.hid rfl, HS⟩
  case round =>
    clear HS
    obtain ⟨k, vr, qs, rfl, hk, hqs, hql, hS⟩ := hrel
    rename World => wk
    by_cases hkb : k < ps.length
    · have h3 : (k : Int) < (ps.length : Int) := by omega
      have i1 : IntKind.i64.wrap ((k : Int) + 1) = (k : Int) + 1 := IntWalk.i64_in _ (by omega)
      obtain ⟨b', off', ar, cr, hbe, hcr, -, hri⟩ := (H.out.same (grown_trans (World.grownBy_alloc _ _ none) hS.out.grow)).row hkb
      simp only [Option.some.injEq, Addr.mk.injEq, and_true] at hbe
      obtain ⟨rfl, rfl⟩ := hbe
      obtain ⟨av, cv, rfl⟩ := hS.out.mat.slice
      have b0 := (cells3 hS.out.blk).1; have d0 := free3 (o := 0) hS.out.blk
      have hxm := HM.out _ (List.getElem_mem hkb)
      have hqn : qs.map Prod.snd ++ [ps[k].2] = (ps.map Prod.snd).take (k + 1) := by rw [hqs.out, List.take_add_one, List.getElem?_map, List.getElem?_eq_getElem hkb]; rfl
      generalize ps[k].2 = xs at *
      rw [hxm] at hcr hri
      have HXM := Lib.hid hxm; have HQN := Lib.hid hqn; have HRI := Lib.hid hri
      have HXB : Hid (∀ x ∈ xs, -9223372036854775808 ≤ x ∧ x ≤ 9223372036854775807) := Lib.hid (by obtain ⟨_, _, _, _, hb, _⟩ := hri; exact hb)
      clear hri hxm hqn
      go_wp2_with fail
      have b0d : wk.drew.cell? ⟨w.heap.size + 1, 0, none⟩ = some (.slice av qs.length cv) := b0
      have GX := Lib.hid (grown_drew wk none)
      go_region_law (first
        | (refine step_app_ints rfl (.const (.slice none 0 0)) (.tmp 18) rfl wk.heap.size (.slice none 0 0) [] rfl (OwnI.nil _ _) (.slice ar m cr) xs (by kernel_rfl) (HRI.out.same GX.out) (by rw [HXM.out]; show 0 + m ≤ 1000000000000; omega) GX.out.size ?_; intro a19 n19 c19 w19 hn19 ho hg; have hn2 : m = n19 := hn19.symm ▸ (HXM.out.symm : m = ([] ++ xs).length); clear hn19; subst hn2; have HO := Lib.hid ho; replace GX : Hid (wk.grownBy w19 none) := Lib.hid (grown_trans GX.out hg); have b19 := GX.out.cell b0 (by simp); have b20 : (w19.alloc (.cells #[.slice a19 m c19] 22)).cell? ⟨w.heap.size + 1, 0, none⟩ = some (.slice av qs.length cv) := (grown_aft GX.out).cell b0 (by simp); clear ho hg)
        | (refine step_app_one rfl (.tmp 17) (.tmp 20) 23 22 (.slice none 0 0) 24 Tryd.underlying23 info_row rfl (by decide) rfl (w.heap.size + 1 + 1) (.slice av qs.length cv) (qs.map Prod.fst) (by kernel_rfl) (own_fst (hS.out.same (grown_aft GX.out)).mat.own) w19.heap.size (.slice a19 m c19) rfl (by kernel_rfl) (cell_new rfl) (by have := hql.out; simp; omega) (Nat.le_trans hS.out.lt (grown_aft GX.out).size) ?_; intro v9 w9 ho9 hg9 hb9; obtain ⟨hr9, hk9⟩ := RedS.row (q := (.slice a19 m c19, xs)) (hS.out.same (grown_aft GX.out)) ((HO.out.mono hS.out.lt).kept (World.grownBy_alloc _ _ none) (fun k hk => nomatch hk)) HXB.out (fun g hg => own_lt_of hS.out.mat (HO.out.fresh g hg).1) (by simpa using ho9) hg9 hb9 (by simp); obtain ⟨a9, c9, h9⟩ := hr9.mat.slice; rw [List.length_append, List.length_singleton] at h9; subst h9; have HR9 := Lib.hid hr9; have b9 := (cells3 hk9).1; have d9 := free3 (o := 0) hk9; clear ho9 hg9 hb9 hr9 hk9))
      all_goals
        have HL9 : Hid ((qs ++ [(Value.slice a19 m c19, xs)]).length = k + 1) := Lib.hid (by rw [List.length_append, List.length_singleton, hql.out])
        have HE9 : Hid ((qs ++ [(Value.slice a19 m c19, xs)]).map Prod.snd = (ps.map Prod.snd).take (k + 1)) := Lib.hid (by rw [List.map_append]; exact HQN.out)
        go_wp2_with fail
        go_roundw
        case rel => exact ⟨k + 1, _, _, by go_num, by omega, HE9, HL9, HR9⟩
        case measure => simp [intOf]; omega
    · obtain rfl : k = ps.length := by omega
      have h3 : ¬ (ps.length : Int) < (ps.length : Int) := by omega
      have hq0 : qs.map Prod.snd = ps.map Prod.snd := by have := hqs.out; rw [List.take_of_length_le (by simp)] at this; exact this
      have HQ0 := Lib.hid hq0
      have HM0 := Lib.hid (⟨hql.out, fun q hq => by
        have : q.2 ∈ ps.map Prod.snd := by rw [← hq0]; exact List.mem_map_of_mem hq
        obtain ⟨p, hp, e⟩ := List.mem_map.1 this
        rw [← e]; exact HM.out p hp, Nat.zero_le _, (Int.one_ne_zero)⟩ : RInv ps.length m (qs, [], 1))
      have HFX := Lib.hid (HFT.out qs hq0)
      have HBX : Hid ((w.alloc (.cells #[.slice none 0 0, .slice none 0 0, .int .i64 0] 66)).heap[w.heap.size]? = some (.cells #[.slice none 0 0, .slice none 0 0, .int .i64 0] 66 (0, 0))) := Lib.hid (heap_new _ rfl)
      have HW0 := Lib.hid (World.grownBy_alloc w (.cells #[.slice none 0 0, .slice none 0 0, .int .i64 0] 66) none)
      have hcw : wk.cell? ⟨b, off, none⟩ = some (.slice a2 m c2) := (grown_trans HW0.out hS.out.grow).cell HC0.out (by simp)
      clear hq0 hqs hql HB HFT HM H HC0
      generalize w.alloc (.cells #[.slice none 0 0, .slice none 0 0, .int .i64 0] 66) = w0 at *
      go_wp2_with fail
      clear hcw
      go_loopw [28] (fun i wr => ∃ (c : Nat) (vr vp : Value) (f : Int) (rs : List Row) (pv : List Int), i = .int .i64 c ∧ c ≤ m ∧ Hid ((rs, pv, f) = redN (qs, [], 1) c) ∧ Hid (RInv ps.length m (rs, pv, f)) ∧ Hid (RedS w0 wr (w.heap.size + 1) vr vp f rs pv)) (fun i _ => m - (intOf i).toNat)
      case atStart => exact ⟨0, _, _, _, _, _, rfl, Nat.zero_le _, Lib.hid rfl, HM0, hS⟩
      case round =>
        clear hS
        obtain ⟨c, vr, vp, f, rs, pv, rfl, hc, hN, hI, hS⟩ := hrel
        rename World => wc
        by_cases hcb : c < m
        · have h4 : (c : Int) < (m : Int) := by omega
          have i2 : IntKind.i64.wrap ((c : Int) + 1) = (c : Int) + 1 := IntWalk.i64_in _ (by omega)
          obtain ⟨ag, cg, rfl, hag⟩ : ∃ g cv, vr = .slice (some ⟨g, 0, none⟩) ps.length cv ∧ True := by
            obtain ⟨g, cv, e, -⟩ := hS.out.mat.head (by have := hI.out.rows; dsimp only at this; omega)
            exact ⟨g, cv, by rw [e]; congr 1; exact hI.out.rows, trivial⟩
          obtain ⟨ap, cp, rfl⟩ := ownI_sl' hS.out.piv.1
          have b0 := (cells3 hS.out.blk).1; have b1 := (cells3 hS.out.blk).2.1
          have hpn := hI.out.piv
          dsimp only at hpn
          go_wp2_with fail
          go_loopw [8] (fun i wr => wr = wc ∧ ∃ t : Nat, i = .int .i64 t ∧ pv.length ≤ t ∧ t ≤ ps.length ∧ Hid (findHit rs c (ps.length - pv.length) pv.length = findHit rs c (ps.length - t) t)) (fun i _ => ps.length - (intOf i).toNat)
          case atStart => exact ⟨(by first | rfl | trivial), pv.length, rfl, Nat.le_refl _, hpn, Lib.hid rfl⟩
          case round =>
            obtain ⟨rfl, t, rfl, ht1, ht2, hF⟩ := hrel
            by_cases htb : t < ps.length
            · have h5 : (t : Int) < (ps.length : Int) := by omega
              have i3 : IntKind.i64.wrap ((t : Int) + 1) = (t : Int) + 1 := IntWalk.i64_in _ (by omega)
              have hrl : rs.length = ps.length := hI.out.rows
              have htr : t < rs.length := by omega
              have hwt : rs[t].2.length = m := hI.out.wide _ (List.getElem_mem htr)
              obtain ⟨tb, tc, hrt, -⟩ := hS.out.mat.row htr (by omega)
              rw [hwt] at hrt
              have hct := (hS.out.mat.own.cell t htr).1
              have hft := (hS.out.mat.own.cell t htr).2
              rw [hrt] at hct
              have hcl := (hS.out.mat.cell htr hrt (k := c) (by omega)).1
              have hhit : hit rs c t = (rs[t].2[c]?.getD 0 != 0) := by unfold hit; rw [List.getElem?_eq_getElem htr]; rfl
              have hfn : findHit rs c (ps.length - t) t = if hit rs c t then some t else findHit rs c (ps.length - (t + 1)) (t + 1) := by
                rw [show ps.length - t = (ps.length - (t + 1)) + 1 by omega]; rfl
              rw [hhit] at hfn
              by_cases hz : rs[t].2[c]?.getD 0 = 0
              · rw [hz] at hcl hfn
                have HFN : Hid (findHit rs c (ps.length - pv.length) pv.length = findHit rs c (ps.length - (t + 1)) (t + 1)) := Lib.hid (by rw [hF.out, hfn]; rfl)
                clear hwt hrt hhit hfn hrl hft hz
                go_wp2_with fail
                go_roundw
                case rel => exact ⟨(by first | rfl | trivial), t + 1, by go_num, by omega, by omega, HFN⟩
                case measure => simp [intOf]; omega
              · have hz1 : (rs[t].2[c]?.getD 0 != 0) = true := by simpa using hz
                rw [hz1] at hfn
                have HFN : Hid (findHit rs c (ps.length - pv.length) pv.length = some t) := Lib.hid (by rw [hF.out, hfn]; rfl)
                have hkr : pv.length < rs.length := by omega
                obtain ⟨kb, kc, hrk, -⟩ := hS.out.mat.row hkr (by rw [hI.out.wide _ (List.getElem_mem hkr)]; omega)
                rw [hI.out.wide _ (List.getElem_mem hkr)] at hrk
                have hck := (hS.out.mat.own.cell pv.length hkr).1
                have hfk := (hS.out.mat.own.cell pv.length hkr).2
                rw [hrk] at hck
                have h6 : (pv.length : Int) < (ps.length : Int) := by omega
                have hl0 : rs.length = ps.length := hI.out.rows
                obtain ⟨z2, hz2, hf2⟩ := MatO.second (g := ag) (cap := cg) (by rw [hl0]; exact hS.out.mat) hkr htr
                clear hl0
                have hF2 : findHit rs c (rs.length - pv.length) pv.length = some t := by rw [show rs.length = ps.length from hI.out.rows]; exact HFN.out
                have HN : Hid ((elimP (rs[t].2[c]?.getD 0) f c pv.length rs[t].2 (swapP rs pv.length t hkr htr), pv ++ [(c : Int)], rs[t].2[c]?.getD 0) = redN (qs, [], 1) (c + 1)) := Lib.hid (by
                  show _ = redStep c (redN (qs, [], 1) c)
                  rw [← hN.out]
                  exact (redStep_hit hkr htr hF2).symm)
                have HI := Lib.hid (RInv.step (c := c) hI.out)
                rw [redStep_hit hkr htr hF2] at HI
                have HFE := Lib.hid (FitS.hit (by have := HFX.out c hcb; rw [← hN.out] at this; exact this) hkr htr hF2)
                have HWD : Hid (∀ q ∈ swapP rs pv.length t hkr htr, q.2.length = m) := Lib.hid (fun q hq => hI.out.wide q (swapP_mem hq))
                have HLS : Hid ((swapP rs pv.length t hkr htr).length = ps.length) := Lib.hid (by rw [swapP_len]; exact hI.out.rows)
                have HTP := Lib.hid (swapP_top hkr htr)
                have HFC : Hid (f ≠ 0) := Lib.hid hI.out.fac
                have HSW : Hid (RedS w0 ((wr.setCell ⟨ag, pv.length, none⟩ (.slice (some ⟨tb, 0, none⟩) m tc)).setCell ⟨ag, t, none⟩ (.slice (some ⟨kb, 0, none⟩) m kc)).drew (w.heap.size + 1) (.slice (some ⟨ag, 0, none⟩) ps.length cg) (.slice ap pv.length cp) f (swapP rs pv.length t hkr htr) pv) := Lib.hid (by
                  have e := hS.out
                  have hl : ps.length = rs.length := hI.out.rows.symm
                  rw [hl] at e ⊢
                  have e2 := e.swap hkr htr
                  rw [hrt, hrk] at e2
                  exact e2.same (grown_drew _ none))
                rw [hrt] at hz2 hf2
                have b0d : wr.drew.cell? ⟨w.heap.size + 1, 0, none⟩ = some (.slice (some ⟨ag, 0, none⟩) ps.length cg) := b0
                have hctd : wr.drew.cell? ⟨ag, t, none⟩ = some (.slice (some ⟨tb, 0, none⟩) m tc) := hct
                have hckd : wr.drew.cell? ⟨ag, pv.length, none⟩ = some (.slice (some ⟨kb, 0, none⟩) m kc) := hck
                have hftd : wr.drew.frozen? ⟨ag, t, none⟩ = false := hft
                have hfkd : wr.drew.frozen? ⟨ag, pv.length, none⟩ = false := hfk
                clear hwt hrt hhit hfn hrl hz hS hrk hF2 hF HFN
                go_wp2_with fail
                go_region
                clear b0d hctd hckd hftd hfkd hz2 hf2 hct hck hft hfk b0 b1 hcl
                generalize ((wr.setCell ⟨ag, pv.length, none⟩ (.slice (some ⟨tb, 0, none⟩) m tc)).setCell ⟨ag, t, none⟩ (.slice (some ⟨kb, 0, none⟩) m kc)).drew = ws at *
                go_wp2_with fail
                refine (eliminate_any (m := m) (c := c) HSW.out (by rw [HLS.out]; omega) (by rw [HLS.out]; exact hn) HWD.out hm12 hcb HFC.out HTP.out rfl HFE.out).mono ?_
                rintro e w9 ⟨rfl, vp9, hr9⟩
                have HR9 := Lib.hid hr9
                clear hr9
                go_wp2_with fail
                go_roundw
                case rel => exact ⟨c + 1, _, _, _, _, _, by go_num, by omega, HN, HI, HR9⟩
                case measure => simp [intOf]; omega
            · obtain rfl : t = ps.length := by omega
              have h5 : ¬ (ps.length : Int) < (ps.length : Int) := by omega
              have HN : Hid ((rs, pv, f) = redN (qs, [], 1) (c + 1)) := Lib.hid (by
                show _ = redStep c (redN (qs, [], 1) c)
                rw [← hN.out]
                unfold redStep
                have e := hF.out
                rw [Nat.sub_self] at e
                dsimp only
                rw [show rs.length = ps.length from hI.out.rows, e]
                rfl)
              go_wp2_with fail
              go_roundw
              case rel => exact ⟨c + 1, _, _, _, _, _, by go_num, by omega, HN, hI, hS⟩
              case measure => simp [intOf]; omega
        · obtain rfl : c = m := by omega
          have h4 : ¬ (c : Int) < (c : Int) := by omega
          obtain ⟨av, cv, rfl⟩ := hS.out.mat.slice
          obtain ⟨ap, cp, rfl⟩ := ownI_sl' hS.out.piv.1
          have b0 := (cells3 hS.out.blk).1; have b1 := (cells3 hS.out.blk).2.1; have b2 := (cells3 hS.out.blk).2.2
          have hlt0 : w.heap.size < w0.heap.size := (Array.getElem?_eq_some_iff.1 HBX.out).1
          have hbx := (hS.out.grow.block w.heap.size hlt0 (by simp)).trans HBX.out
          obtain ⟨p1, p2, p3, p4, p5, p6, p7⟩ := put_set3 (x := .slice av rs.length cv) (y := .slice ap pv.length cp) (z := .int .i64 f) hbx
          have P1 := Lib.hid p1
          have GW := Lib.hid (grown_put3 wc w.heap.size (.slice av rs.length cv) (.slice ap pv.length cp) (.int .i64 f))
          clear p1 hbx
          go_wp2_with fail
          refine bodyPost_ret (results_cell_row rfl _ _ w.heap.size _ _ _ _ rfl P1.out Tryd.underlying66 rfl (by kernel_rfl)) rfl ?_
          exact ⟨_, _, _, f, rs, pv, qs, rfl, hS.out.other GW.out (Nat.lt_succ_self _) w (Nat.le_succ _) (grown_then (grown_trans HW0.out hS.out.grow) GW.out (by rintro j ⟨⟩; exact .inl (Nat.le_refl _))), HQ0.out, hN.out⟩

end Go.Proofs.YtpnghgihepnepaaDoor
