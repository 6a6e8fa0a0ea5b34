/- Texts Ne, Nf, Cn in one. -/
import Derived.Test.YtpnghgihepnepaaDoorU4
import Derived.StillTailTactics
import Derived.Test.YtpnghgihepnepaaDoorU1
namespace Go.Proofs.YtpnghgihepnepaaDoor
open Go.RowKit
set_option linter.unusedVariables false

def ElimTo (W0 : World) (R : Nat) (v : Value) (f' : Int) (ps : List Row) (pv : List Int) (e : Ending) (w' : World) : Prop := e = .returned (.tuple #[]) ∧ ∃ vp, RedS W0 w' R v vp f' ps pv
set_option maxRecDepth 100000 in
set_option maxHeartbeats 2000000 in
theorem eliminate_any {W0 w : World} {R : Nat} {v vp : Value} {f : Int} {ps : List Row} {pv : List Int} (h : RedS W0 w R v vp f ps pv) {m c : Nat} (hk : pv.length < ps.length) (hn : ps.length ≤ 12) (hm : ∀ q ∈ ps, q.2.length = m) (hm12 : m ≤ 12) (hc : c < m) (hf : f ≠ 0)
    {top : List Int} (htop : ps[pv.length].2 = top) {lead : Int} (hlead : top[c]?.getD 0 = lead) (hft : ∀ i (hi : i < ps.length), i ≠ pv.length → FitE lead f c top ps[i].2) :
    Calls Tryd.prog 73 #[.pointer (some ⟨R, 0, none⟩), .int .i64 (c : Int)] w (ElimTo W0 R v lead (elimP lead f c pv.length top ps) (pv ++ [(c : Int)])) := by
  have hlt : top.length = m := by rw [← htop]; exact hm _ (List.getElem_mem hk)
  obtain ⟨g, cv, rfl, -⟩ := h.mat.head (by omega)
  obtain ⟨tb, tc, hrt, -⟩ := h.mat.row hk (by rw [htop, hlt]; omega)
  obtain ⟨ap, cp, rfl⟩ := ownI_sl' h.piv.1
  rw [htop, hlt] at hrt
  have b0 := (cells3 h.blk).1; have b1 := (cells3 h.blk).2.1; have b2 := (cells3 h.blk).2.2
  have hct := (h.mat.own.cell pv.length hk).1
  rw [hrt] at hct
  have hcl := (h.mat.cell hk hrt (k := c) (by rw [htop, hlt]; exact hc)).1
  rw [htop, hlead] at hcl
  have H := Lib.hid h; have HT := Lib.hid htop; have HL := Lib.hid hlead; have HFT := Lib.hid hft; have HM := Lib.hid hm; have HRT := Lib.hid hrt; have HLT := Lib.hid hlt; have HF0 := Lib.hid hf
  have e1 : (pv.length : Int) < (ps.length : Int) := by omega
  have e2 : (c : Int) < (m : Int) := by omega
  clear h htop hlead hft hm hrt hlt
  go_enter Tryd.func73, Tryd.ntmps73
  go_wp2_with fail
  go_big_quiet (fail)
  replace H := Lib.hid (H.out.same (grown_drewN w nq none))
  have b0d : (w.drewN nq).cell? ⟨R, 0, none⟩ = some (.slice (some ⟨g, 0, none⟩) ps.length cv) := b0
  have hcld : (w.drewN nq).cell? ⟨tb, c, none⟩ = some (.int .i64 lead) := hcl
  clear b0 b1 b2 hct hcl
  generalize w.drewN nq = w1 at *
  obtain ⟨E, hE⟩ : ∃ E : List Int → List Int, E = fun row => elimRow lead (row[c]?.getD 0) f row top := ⟨_, rfl⟩
  have HE := Lib.hid hE
  have HEL : Hid (∀ i (hi : i < ps.length), (E ps[i].2).length = ps[i].2.length) := Lib.hid (fun i hi => by rw [hE]; exact elimRow_len (by rw [HM.out _ (List.getElem_mem hi), HLT.out]))
  have HEA : Hid (∀ i (hi : i < ps.length) j, j < m → (E ps[i].2)[j]?.getD 0 = (ps[i].2[j]?.getD 0 * lead - ps[i].2[c]?.getD 0 * top[j]?.getD 0).tdiv f) := Lib.hid (fun i hi j hj => by rw [hE]; exact elimRow_at (by rw [HM.out _ (List.getElem_mem hi)]; exact hj) (by rw [HLT.out]; exact hj))
  have HFIN : Hid (elimP lead f c pv.length top ps = rowsE E pv.length ps.length 0 ps) := Lib.hid (by rw [hE]; rfl)
  clear hE
  go_wp2_with fail
  clear b0d hcld
  go_loopw [30] (fun i wr => ∃ k : Nat, i = .int .i64 k ∧ k ≤ ps.length ∧ Hid (RedS W0 wr R (.slice (some ⟨g, 0, none⟩) ps.length cv) (.slice ap pv.length cp) f (rowsE E pv.length k 0 ps) pv)) (fun i _ => ps.length - (intOf i).toNat)
  case atStart => exact ⟨0, rfl, Nat.zero_le _, Lib.hid (by rw [rowsE_start]; exact H.out)⟩
  case round =>
    clear H
    obtain ⟨k, rfl, hkk, H⟩ := hrel
    rename World => wk
    by_cases hkb : k < ps.length
    · have h3 : (k : Int) < (ps.length : Int) := by omega
      have i1 : IntKind.i64.wrap ((k : Int) + 1) = (k : Int) + 1 := IntWalk.i64_in _ (by omega)
      have hkr : k < (rowsE E pv.length k 0 ps).length := by rw [rowsE_len]; exact hkb
      have hmk := HM.out _ (List.getElem_mem hkb)
      have hrv : ∃ b cb, ps[k].1 = .slice (some ⟨b, 0, none⟩) m cb := by
        rcases (H.out.mat.rows _ (List.getElem_mem hkr)).2 with ⟨_, h0⟩ | ⟨b, cb, cur, hv, -⟩
        · rw [rowsE_at] at h0
          dsimp only at h0
          rw [half_zero] at h0
          simp only [ite_self] at h0
          split at h0
          · omega
          · rw [if_neg (Nat.lt_irrefl k)] at h0; omega
        · rw [rowsE_at] at hv
          dsimp only at hv
          rw [half_zero] at hv
          refine ⟨b, cb, ?_⟩
          rw [hv]
          congr 1
          split
          · exact hmk
          · rw [if_neg (Nat.lt_irrefl k), ite_self]; exact hmk
      obtain ⟨b, cb, hrb⟩ := hrv
      have hcr := (H.out.mat.own.cell k hkr).1
      rw [rowsE_at] at hcr
      dsimp only at hcr
      rw [hrb] at hcr
      have b0 := (cells3 H.out.blk).1; have b1 := (cells3 H.out.blk).2.1; have b2 := (cells3 H.out.blk).2.2
      by_cases hkp : k = pv.length
      · subst hkp
        have k1 : ((pv.length : Int) == (pv.length : Int)) = true := by simp
        have HN : Hid (RedS W0 wk R (.slice (some ⟨g, 0, none⟩) ps.length cv) (.slice ap pv.length cp) f (rowsE E pv.length (pv.length + 1) 0 ps) pv) := Lib.hid (by rw [rowsE_skip]; exact H.out)
        clear hrb
        go_wp2_with fail
        go_roundw
        case rel => exact ⟨pv.length + 1, by go_num, by omega, HN⟩
        case measure => simp [intOf]; omega
      · have k1 : ((k : Int) == (pv.length : Int)) = false := by simp; omega
        have HRB := Lib.hid hrb; have HKP := Lib.hid hkp
        have hcx := (H.out.mat.cell hkr (b := b) (c := cb) (n := m) (by rw [rowsE_at]; exact hrb) (k := c) (by rw [rowsE_at]; dsimp only; rw [if_neg hkp, if_neg (Nat.lt_irrefl k), if_pos rfl, half_zero, hmk]; exact hc)).1
        rw [rowsE_at] at hcx
        dsimp only at hcx
        rw [if_neg hkp, if_neg (Nat.lt_irrefl k), if_pos rfl, half_zero] at hcx
        have HFK := Lib.hid (HFT.out k hkb hkp); have HMK := Lib.hid hmk
        have HEAK := Lib.hid (HEA.out k hkb); have HELK := Lib.hid (HEL.out k hkb)
        clear hrb hkp hmk
        have HX : Hid (ps[k].2[c]?.getD 0 = ps[k].2[c]?.getD 0) := Lib.hid rfl
        obtain ⟨x0, hx0⟩ : ∃ x0, ps[k].2[c]?.getD 0 = x0 := ⟨_, rfl⟩
        rw [hx0] at hcx HEAK
        have HX0 := Lib.hid hx0
        clear hx0 HX
        go_wp2_with fail
        clear hcx hcr b0 b1 b2
        go_loopw [48] (fun i wr => ∃ j : Nat, i = .int .i64 j ∧ j ≤ m ∧ Hid (RedS W0 wr R (.slice (some ⟨g, 0, none⟩) ps.length cv) (.slice ap pv.length cp) f (rowsE E pv.length k j ps) pv)) (fun i _ => m - (intOf i).toNat)
        case atStart => exact ⟨0, rfl, Nat.zero_le _, H⟩
        case round =>
          clear H
          obtain ⟨j, rfl, hj, H⟩ := hrel
          rename World => wj
          by_cases hjb : j < m
          · have h4 : (j : Int) < (m : Int) := by omega
            have i2 : IntKind.i64.wrap ((j : Int) + 1) = (j : Int) + 1 := IntWalk.i64_in _ (by omega)
            have HD := Lib.hid (H.out.same (grown_drew wj none))
            have hkr2 : k < (rowsE E pv.length k j ps).length := by rw [rowsE_len]; exact hkb
            have hpr2 : pv.length < (rowsE E pv.length k j ps).length := by rw [rowsE_len]; exact hk
            have hjl : j < (half (E ps[k].2) ps[k].2 j).length := by rw [half_len HELK.out (by rw [HMK.out]; exact hj), HMK.out]; exact hjb
            have hca := HD.out.mat.cell hkr2 (b := b) (c := cb) (n := m) (by rw [rowsE_at]; exact HRB.out) (k := j) (by rw [rowsE_at]; dsimp only; rw [if_neg HKP.out, if_neg (Nat.lt_irrefl k), if_pos rfl]; exact hjl)
            have hct := (HD.out.mat.cell hpr2 (b := tb) (c := tc) (n := m) (by rw [rowsE_at]; exact HRT.out) (k := j) (by rw [rowsE_at]; dsimp only; rw [if_pos rfl, HT.out, HLT.out]; exact hjb)).1
            rw [rowsE_at] at hca hct
            dsimp only at hca hct
            rw [if_neg HKP.out, if_neg (Nat.lt_irrefl k), if_pos rfl, half_at HELK.out (by rw [HMK.out]; exact hjb)] at hca
            rw [if_pos rfl, HT.out] at hct
            have hca1 := hca.1; have hca2 := hca.2
            have b2 := (cells3 HD.out.blk).2.2
            have hfit := HFK.out j (by rw [HMK.out]; exact hjb)
            rw [HX0.out] at hfit
            have hea := HEAK.out j hjb
            have hset := HD.out.set hkr2 (b := b) (c := cb) (n := m) (by rw [rowsE_at]; exact HRB.out) j
            have hcell := rowsE_cell (k := pv.length) hkb HKP.out HELK.out (show j < ps[k].2.length by rw [HMK.out]; exact hjb)
            have HCE := Lib.hid hcell
            generalize ha : ps[k].2[j]?.getD 0 = a at *
            generalize htj : top[j]?.getD 0 = tj at *
            obtain ⟨q1, q2, pd, m1, m2, m3, hpd, hpb⟩ : ∃ q1 q2 pd : Int, IntKind.i64.wrap (a * lead) = q1 ∧ IntKind.i64.wrap (x0 * tj) = q2 ∧ IntKind.i64.wrap (q1 - q2) = pd ∧ a * lead - x0 * tj = pd ∧ (-8000000000000000000 ≤ pd ∧ pd ≤ 8000000000000000000) := by
              rcases hfit with hjc | hfit
              · subst hjc
                have ea : a = x0 := ha.symm.trans HX0.out
                have et : tj = lead := htj.symm.trans HL.out
                subst ea; subst et
                exact ⟨_, _, 0, rfl, rfl, by rw [Int.sub_self]; exact IntWalk.i64_in _ (by omega), by omega, by omega, by omega⟩
              · obtain ⟨p1, hp1⟩ : ∃ p, a * lead = p := ⟨_, rfl⟩
                obtain ⟨p2, hp2⟩ : ∃ p, x0 * tj = p := ⟨_, rfl⟩
                rw [hp1, hp2] at hfit
                exact ⟨p1, p2, p1 - p2, by rw [hp1]; exact IntWalk.i64_in _ (by omega), by rw [hp2]; exact IntWalk.i64_in _ (by omega), IntWalk.i64_in _ (by omega), by rw [hp1, hp2], by omega, by omega⟩
            rw [hpd] at hea
            have hqb : (pd.tdiv f).natAbs ≤ pd.natAbs := by rw [Int.natAbs_tdiv]; exact Nat.div_le_self _ _
            have m4 : IntKind.i64.wrap (pd.tdiv f) = pd.tdiv f := IntWalk.i64_in _ (by omega)
            have hz := hset (pd.tdiv f) (by omega)
            have HN : Hid (RedS W0 (wj.drew.setCell ⟨b, j, none⟩ (.int .i64 (pd.tdiv f))) R (.slice (some ⟨g, 0, none⟩) ps.length cv) (.slice ap pv.length cp) f (rowsE E pv.length k (j + 1) ps) pv) := Lib.hid (by
              rw [← HCE.out, hea]
              rw [rowsE_at] at hz
              dsimp only at hz
              rw [if_neg HKP.out, if_neg (Nat.lt_irrefl k), if_pos rfl] at hz
              exact hz)
            have f0 : (f == 0) = false := by simpa using HF0.out
            have b0 := (cells3 H.out.blk).1
            clear hca hset hcell hfit hea hz hqb hpd ha htj hjl hkr2 hpr2
            go_wp2_with fail
            go_still_tail 21, (by kernel_rfl)
            change wpList _ _ _ _ _ wj.drew
            generalize wj.drew = wd at *
            go_wp2_with fail
            clear hca1 hca2 hct b2 m1 m2 m3 m4
            go_roundw
            case rel => exact ⟨j + 1, by go_num, by omega, HN⟩
            case measure => simp [intOf]; omega
          · obtain rfl : j = m := by omega
            have h4 : ¬ (j : Int) < (j : Int) := by omega
            have HN : Hid (RedS W0 wj R (.slice (some ⟨g, 0, none⟩) ps.length cv) (.slice ap pv.length cp) f (rowsE E pv.length (k + 1) 0 ps) pv) := Lib.hid (by rw [rowsE_row hkb HELK.out, HMK.out]; exact H.out)
            go_wp2_with fail
            go_roundw
            case rel => exact ⟨k + 1, by go_num, by omega, HN⟩
            case measure => simp [intOf]; omega
    · obtain rfl : k = ps.length := by omega
      have h3 : ¬ (ps.length : Int) < (ps.length : Int) := by omega
      have b0 := (cells3 H.out.blk).1; have b1 := (cells3 H.out.blk).2.1; have b2 := (cells3 H.out.blk).2.2
      go_wp2_with (at_builtin; refine app_one rfl _ _ 22 3 (.int .i64 0) 8 Tryd.underlying22 info_int rfl (by decide) rfl (R + 1) (.slice ap pv.length cp) (pv.map (Value.int .i64)) rfl (rowby_own (H.out.same (World.grownBy_alloc _ _ none)).piv) wk.heap.size (.int .i64 (c : Int)) rfl rfl (cell_new rfl) (by simp; omega) (by have := (Array.getElem?_eq_some_iff.1 H.out.blk).1; simp; omega) ?_)
      intro v9 w9 ho9 hg9 hb9
      obtain ⟨hR9, hbk9⟩ := RedS.pivot (H.out.same (World.grownBy_alloc _ _ none)) ho9 hg9 hb9 (by simp)
      obtain ⟨a9, c9, rfl⟩ := ownI_sl' hR9.piv.1
      have hln : (pv ++ [(c : Int)]).length = pv.length + 1 := by simp
      rw [hln] at hR9 ⊢
      have HF9 := Lib.hid (hR9.fac lead)
      have d1 := (cells3 hbk9).2.1; have d2 := free3 (o := 1) hbk9
      have d3 := (cells3 hR9.blk).2.2; have d4 := free3 (o := 2) hR9.blk
      clear ho9 hg9 hb9 hR9 hbk9 b0 b1 b2 hln
      go_wp2_with fail
      go_end0
      exact ⟨rfl, _, by rw [HFIN.out]; exact HF9.out⟩

end Go.Proofs.YtpnghgihepnepaaDoor

namespace Go.Proofs.YtpnghgihepnepaaDoor
open Go.RowKit
set_option linter.unusedVariables false

/-- One row more, ahead of any pivots. -/
theorem RedS.row {W0 w w1 : World} {R : Nat} {v v1 : Value} {f : Int} {ps : List Row} {q : Row} (h : RedS W0 w R v (.slice none 0 0) f ps []) (hq : OwnI w (R + 1) q.1 q.2) (hqb : ∀ x ∈ q.2, -9223372036854775808 ≤ x ∧ x ≤ 9223372036854775807)
    (hd : ∀ g, q.1.ownBlock = some g → v.ownBlock ≠ some g ∧ ∀ p ∈ ps, p.1.ownBlock ≠ some g)
    (ho : w1.ownsRow (R + 1) 22 1 v1 (ps.length + 1) (ps.map Prod.fst ++ [q.1])) (hg : w.grownBy w1 v.ownBlock) {H : Nat} (hb : ∀ g, v1.ownBlock = some g → v.ownBlock = some g ∨ H ≤ g) (hH : w.heap.size = H) :
    RedS W0 (w1.setCell ⟨R, 0, none⟩ v1) R v1 (.slice none 0 0) f (ps ++ [q]) [] ∧ w1.heap[R]? = some (.cells #[v, .slice none 0 0, .int .i64 f] 66 (0, 0)) := by
  subst hH
  have hR := (Array.getElem?_eq_some_iff.1 h.blk).1
  have hvb : ∀ j, v.ownBlock = some j → R + 1 ≤ j := fun j hj => (h.mat.own.fresh j hj).1
  have hb1 : w1.heap[R]? = some (.cells #[v, .slice none 0 0, .int .i64 f] 66 (0, 0)) := (hg.block R hR (fun e => by have := hvb R e.symm; omega)).trans h.blk
  have hop : OwnP w1 (R + 1) v1 (ps ++ [q]) := by
    refine ⟨by simpa using ho, fun p hp => ?_⟩
    have hp2 : RowOk w p ∧ (∀ g, p.1.ownBlock = some g → v.ownBlock ≠ some g) ∧ ∀ g, p.1.ownBlock = some g → g < w.heap.size := by
      rcases List.mem_append.1 hp with hp | hp
      · exact ⟨(h.mat.own.2 p hp).1, (h.mat.own.2 p hp).2, fun g e => ((h.mat.rows p hp).fresh g e).2⟩
      · rw [List.mem_singleton.1 hp]; exact ⟨hq.row hqb, fun g e => (hd g e).1, fun g e => (hq.fresh g e).2⟩
    refine ⟨hp2.1.kept hg (fun k hk e => hp2.2.1 k e hk), fun g e e2 => ?_⟩
    rcases hb g e2 with h3 | h3
    · exact hp2.2.1 g e h3
    · have := hp2.2.2 g e; omega
  have hm := MatO.push h.mat hq hd hop hg
  have hgr : w1.grownBy (w1.setCell ⟨R, 0, none⟩ v1) (some R) := grown_set w1 _ _
  exact ⟨⟨heap_set (o := 0) hb1 _, h.base, grown_then (grown_then h.grow hg (fun j hj => .inl (by have := hvb j hj; have := h.base; omega))) hgr (by rintro j ⟨⟩; exact .inl h.base), hm.kept hgr (by rintro j ⟨⟩; omega), RowBy.nil _ _ _ _⟩, hb1⟩
def swapP {α : Type} (ps : List α) (k i : Nat) (hk : k < ps.length) (hi : i < ps.length) : List α := (ps.set k ps[i]).set i ps[k]
theorem swapP_len {α : Type} (ps : List α) (k i : Nat) (hk : k < ps.length) (hi : i < ps.length) : (swapP ps k i hk hi).length = ps.length := by unfold swapP; simp
theorem swapP_at {α : Type} (ps : List α) (k i : Nat) (hk : k < ps.length) (hi : i < ps.length) (t : Nat) (ht : t < (swapP ps k i hk hi).length) : (swapP ps k i hk hi)[t] = if t = i then ps[k] else if t = k then ps[i] else ps[t]'(by rw [swapP_len] at ht; exact ht) := by
  have ht2 : t < ((ps.set k ps[i]).set i ps[k]).length := ht
  show ((ps.set k ps[i]).set i ps[k])[t]'ht2 = _
  rw [List.getElem_set]
  by_cases h1 : i = t
  · rw [if_pos h1, if_pos h1.symm]
  · rw [if_neg h1, if_neg (fun h : t = i => h1 h.symm), List.getElem_set]
    by_cases h2 : k = t
    · rw [if_pos h2, if_pos h2.symm]
    · rw [if_neg h2, if_neg (fun h : t = k => h2 h.symm)]
theorem swapP_mem {α : Type} {ps : List α} {k i : Nat} {hk : k < ps.length} {hi : i < ps.length} {p : α} (h : p ∈ swapP ps k i hk hi) : p ∈ ps := by
  obtain ⟨t, ht, rfl⟩ := List.getElem_of_mem h
  rw [swapP_at]
  split
  · exact List.getElem_mem _
  · split
    · exact List.getElem_mem _
    · exact List.getElem_mem _
theorem MatO.swap {w : World} {base g cap : Nat} {ps : List Row} (h : MatO w base (.slice (some ⟨g, 0, none⟩) ps.length cap) ps) {k i : Nat} (hk : k < ps.length) (hi : i < ps.length) :
    MatO ((w.setCell ⟨g, k, none⟩ ps[i].1).setCell ⟨g, i, none⟩ ps[k].1) base (.slice (some ⟨g, 0, none⟩) ps.length cap) (swapP ps k i hk hi) := by
  have hgr : w.grownBy ((w.setCell ⟨g, k, none⟩ ps[i].1).setCell ⟨g, i, none⟩ ps[k].1) (some g) := grown_trans (grown_set w ⟨g, k, none⟩ ps[i].1) (grown_set _ ⟨g, i, none⟩ ps[k].1)
  have h1 := (World.ownsRow.stored (World.ownsRow.stored h.own.1 k ps[i].1).1 i ps[k].1).1
  have far : ∀ p ∈ ps, ∀ j, some g = some j → p.1.ownBlock ≠ some j := fun p hp j e e2 => (h.own.2 p hp).2 j e2 (by rw [← e]; rfl)
  refine ⟨⟨?_, fun p hp => ?_⟩, fun p hp => ?_, fun a b ha hb hab j e => ?_⟩
  · rw [swapP_len]
    have e2 : (swapP ps k i hk hi).map Prod.fst = ((ps.map Prod.fst).set k ps[i].1).set i ps[k].1 := by unfold swapP; rw [List.map_set, List.map_set]
    rw [e2]
    exact h1
  · have := h.own.2 p (swapP_mem hp)
    exact ⟨this.1.kept hgr (far p (swapP_mem hp)), this.2⟩
  · exact (h.rows p (swapP_mem hp)).keptB hgr (fun j e => far p (swapP_mem hp) j e)
  · have hla : a < ps.length := by rw [swapP_len] at ha; exact ha
    have hlb : b < ps.length := by rw [swapP_len] at hb; exact hb
    rw [swapP_at] at e ⊢
    have key : ∀ x y (hx : x < ps.length) (hy : y < ps.length), x ≠ y → ps[x].1.ownBlock = some j → ps[y].1.ownBlock ≠ some j := fun x y hx hy hxy => h.apart x y hx hy hxy j
    by_cases a1 : a = i
    · rw [if_pos a1] at e
      by_cases b1 : b = i
      · omega
      · rw [if_neg b1]
        by_cases b2 : b = k
        · rw [if_pos b2]; exact key k i hk hi (by omega) e
        · rw [if_neg b2]; exact key k b hk hlb (by omega) e
    · rw [if_neg a1] at e
      by_cases a2 : a = k
      · rw [if_pos a2] at e
        by_cases b1 : b = i
        · rw [if_pos b1]; exact key i k hi hk (by omega) e
        · rw [if_neg b1]
          by_cases b2 : b = k
          · omega
          · rw [if_neg b2]; exact key i b hi hlb (by omega) e
      · rw [if_neg a2] at e
        by_cases b1 : b = i
        · rw [if_pos b1]; exact key a k hla hk (by omega) e
        · rw [if_neg b1]
          by_cases b2 : b = k
          · rw [if_pos b2]; exact key a i hla hi (by omega) e
          · rw [if_neg b2]; exact key a b hla hlb hab e
theorem RedS.swap {W0 w : World} {R g cap : Nat} {vp : Value} {f : Int} {ps : List Row} {pv : List Int} (h : RedS W0 w R (.slice (some ⟨g, 0, none⟩) ps.length cap) vp f ps pv) {k i : Nat} (hk : k < ps.length) (hi : i < ps.length) :
    RedS W0 ((w.setCell ⟨g, k, none⟩ ps[i].1).setCell ⟨g, i, none⟩ ps[k].1) R (.slice (some ⟨g, 0, none⟩) ps.length cap) vp f (swapP ps k i hk hi) pv := by
  have hgr : w.grownBy ((w.setCell ⟨g, k, none⟩ ps[i].1).setCell ⟨g, i, none⟩ ps[k].1) (some g) := grown_trans (grown_set w ⟨g, k, none⟩ ps[i].1) (grown_set _ ⟨g, i, none⟩ ps[k].1)
  have hgb : R + 1 ≤ g := (h.mat.own.fresh g rfl).1
  have hR := (Array.getElem?_eq_some_iff.1 h.blk).1
  refine ⟨(hgr.block R hR (fun e => by cases e; omega)).trans h.blk, h.base, grown_then h.grow hgr (by rintro j ⟨⟩; exact .inl (by have := h.base; omega)), h.mat.swap hk hi, ?_⟩
  exact ⟨h.piv.1.keptB hgr (fun j e e2 => (h.piv.2 j e2).1 (by rw [← e]; rfl)), fun j hj => ⟨(h.piv.2 j hj).1, fun p hp => (h.piv.2 j hj).2 p (swapP_mem hp)⟩⟩

end Go.Proofs.YtpnghgihepnepaaDoor

namespace Go.Proofs.YtpnghgihepnepaaDoor
open Go.RowKit
set_option linter.unusedVariables false

/-- slices.Concat. -/
theorem flat_take (ps : List Row) (k : Nat) (h : k < ps.length) : (ps.take (k + 1)).flatMap Prod.snd = (ps.take k).flatMap Prod.snd ++ (ps[k]).2 := by
  rw [List.take_succ_eq_append_getElem h, List.flatMap_append]
  simp
theorem flat_le (ps : List Row) (k : Nat) : ((ps.take k).flatMap Prod.snd).length ≤ (ps.flatMap Prod.snd).length := by
  have h : ps.flatMap Prod.snd = (ps.take k).flatMap Prod.snd ++ (ps.drop k).flatMap Prod.snd := by
    rw [← List.flatMap_append, List.take_append_drop]
  rw [h, List.length_append]
  omega
end Go.Proofs.YtpnghgihepnepaaDoor
