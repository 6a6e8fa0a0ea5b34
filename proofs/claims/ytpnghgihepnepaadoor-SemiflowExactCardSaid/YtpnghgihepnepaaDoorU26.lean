/- Texts Bq, Bs, Bx in one. -/
import Derived.Test.YtpnghgihepnepaaDoorU23
import Derived.BigRegion
import Derived.Test.YtpnghgihepnepaaDoorU25
namespace Go.Proofs.YtpnghgihepnepaaDoor
open Go.RowKit
set_option linter.unusedVariables false

theorem dot20_bd {row xs : List Int} {c j : Nat} (hr : row.length = c) (hrb : ∀ x ∈ row, -16 ≤ x ∧ x ≤ 16) (hc : c ≤ 12) (hx : ∀ x ∈ xs, -1048576 ≤ x ∧ x ≤ 1048576) :
    -201326592 ≤ dotL (row.take j) (xs.take j) ∧ dotL (row.take j) (xs.take j) ≤ 201326592 := by
  have h1 := dot_bd (A := 16) (B := 1048576) (row.take j) (xs.take j) (fun z hz => hrb z (List.mem_of_mem_take hz)) (fun z hz => hx z (List.mem_of_mem_take hz)) (by decide)
  have h2 : (row.take j).length ≤ 12 := by rw [List.length_take]; omega
  have h3 : ((row.take j).length : Int) * (16 * 1048576) ≤ 201326592 := by omega
  omega
end Go.Proofs.YtpnghgihepnepaaDoor

namespace Go.Proofs.YtpnghgihepnepaaDoor
open Go.RowKit
set_option linter.unusedVariables false

theorem step_app_int_blk {ops : Array Oper} {o : Oper} {a : Act} {w : World} {K : Act → World → Prop} {Q : Exit → Act → World → Prop} {E : Prop} (hgd : o.guard = none) (s x : Operand)
    (ho : o.op = .call { callee := .builtin .append, args := #[s, x], argTypes := #[22, 22] }) (base : Nat) (v : Value) (xs : List Int) (hs : a.eval s = v)
    (hown : OwnI w base v xs) (b : Nat) (y : Int) (hx : a.eval x = .slice (some ⟨b, 0, none⟩) 1 1) (hnew : w.cell? ⟨b, 0, none⟩ = some (.int .i64 y))
    (hlen : xs.length ≤ 1000000000000) (hbase : base ≤ w.heap.size)
    (h : ∀ v' w', OwnI w' base v' (xs ++ [y]) → w.grownBy w' v.ownBlock → (∀ g, v'.ownBlock = some g → v.ownBlock = some g ∨ w.heap.size ≤ g) → K (a.put o.dst v') w') : if Region.wanted o (yielded ops a.tmps) = true then Oper.wp Tryd.prog o a w K Q else E := by
  have hw : Region.wanted o (yielded ops a.tmps) = true := by simp [Region.wanted, hgd]
  rw [if_pos hw]
  obtain ⟨i, hi, hz0, hz1, hz2⟩ := info_parts info_int
  refine wp_append_lies w s x 22 ho base 3 i (.int .i64 0) 1 8 Tryd.underlying22 hi hz0 hz1 hz2 rfl (by decide) v xs.length (xs.map (Value.int .i64)) hs hown ⟨b, 0, none⟩ 1 1 [.int .i64 y] hx rfl ?_ ?_ (by decide) ?_ ?_ hbase w.heap.size rfl ?_
  · intro j u hu
    cases j with
    | zero => simp at hu; subst hu; simpa [Addr.add] using hnew
    | succ j => simp at hu
  · intro u hu; simp at hu; subst hu; rfl
  · unfold maxLen; omega
  · omega
  · intro g cap w' h1 h2 h3 _
    refine h _ w' (by unfold OwnI; simpa using h1) h2 (fun g' hg' => by
      simp only [Value.ownBlock, Option.some.injEq] at hg'
      subst hg'
      rcases h3 with h3 | h3
      · exact .inl h3
      · exact .inr (by omega))
/-- A row of a matrix has grown. -/
theorem MatO.app {w w9 : World} {base T n cap : Nat} {ps : List Row} (h : MatO w base (.slice (some ⟨T, 0, none⟩) n cap) ps) {k : Nat} (hk : k < ps.length) {v' : Value} {xs' : List Int} (ho : OwnI w9 base v' xs') (hb : ∀ x ∈ xs', -9223372036854775808 ≤ x ∧ x ≤ 9223372036854775807)
    (g : w.grownBy w9 ps[k].1.ownBlock) (hblk : ∀ b, v'.ownBlock = some b → ps[k].1.ownBlock = some b ∨ w.heap.size ≤ b) : MatO (w9.setCell ⟨T, k, none⟩ v') base (.slice (some ⟨T, 0, none⟩) n cap) (ps.set k (v', xs')) := by
  have hgr : w9.grownBy (w9.setCell ⟨T, k, none⟩ v') (some T) := grown_set w9 _ _
  have hn : ps.length = n := by
    rcases h.own.1.2 with ⟨h', _⟩ | ⟨g', cap', cur, h', _⟩
    · simp at h'
    · simp only [Value.slice.injEq] at h'
      exact h'.2.1.symm
  subst hn
  have hTlt : T < w.heap.size := (h.own.fresh T rfl).2
  have hkT : ps[k].1.ownBlock ≠ some T := fun e => (h.own.2 _ (List.getElem_mem hk)).2 _ e rfl
  have hvT : v'.ownBlock ≠ some T := fun e => by
    rcases hblk T e with h1 | h1
    · exact hkT h1
    · omega
  have hnew : OwnI (w9.setCell ⟨T, k, none⟩ v') base v' xs' := ho.keptB hgr (by rintro j ⟨⟩ e; exact hvT e)
  have hold : ∀ i (hi : i < ps.length), i ≠ k → OwnI (w9.setCell ⟨T, k, none⟩ v') base ps[i].1 ps[i].2 ∧ RowOk (w9.setCell ⟨T, k, none⟩ v') ps[i] := fun i hi hik => by
    have h1 := h.rows _ (List.getElem_mem hi)
    have h2 := h.own.2 _ (List.getElem_mem hi)
    have h3 : ∀ j, ps[k].1.ownBlock = some j → ps[i].1.ownBlock ≠ some j := fun j hj e => h.apart i k hi hk hik j e hj
    exact ⟨(h1.keptB g (fun j hj e => h3 j hj e)).keptB hgr (by rintro j ⟨⟩ e; exact h2.2 _ e rfl), (h2.1.kept g (fun j hj e => h3 j hj e)).kept hgr (by rintro j ⟨⟩ e; exact h2.2 _ e rfl)⟩
  have hmem : ∀ q ∈ ps.set k (v', xs'), (q = (v', xs')) ∨ ∃ i, ∃ hi : i < ps.length, i ≠ k ∧ q = ps[i] := fun q hq => by
    obtain ⟨i, hi, rfl⟩ := List.getElem_of_mem hq
    rw [List.getElem_set]
    by_cases e : k = i
    · rw [if_pos e]; exact .inl rfl
    · rw [if_neg e]; exact .inr ⟨i, by simpa using hi, fun e2 => e e2.symm, rfl⟩
  refine ⟨⟨?_, fun q hq => ?_⟩, fun q hq => ?_, fun i j hi hj hij b e => ?_⟩
  · have h1 : w9.ownsRow base 22 1 (.slice (some ⟨T, 0, none⟩) ps.length cap) ps.length (ps.map Prod.fst) := World.ownsRow.kept h.own.1 g (.inr (fun e => hkT e.symm))
    have h2 := (World.ownsRow.stored h1 k v').1
    rw [List.length_set, List.map_set]
    exact h2
  · rcases hmem q hq with rfl | ⟨i, hi, hik, rfl⟩
    · exact ⟨hnew.row hb, fun b hb e => by cases e; exact hvT hb⟩
    · exact ⟨(hold i hi hik).2, (h.own.2 _ (List.getElem_mem hi)).2⟩
  · rcases hmem q hq with rfl | ⟨i, hi, hik, rfl⟩
    · exact hnew
    · exact (hold i hi hik).1
  · have hi2 : i < ps.length := by simpa using hi
    have hj2 : j < ps.length := by simpa using hj
    have far : ∀ t (ht : t < ps.length), t ≠ k → ∀ b, v'.ownBlock = some b → ps[t].1.ownBlock ≠ some b := fun t ht htk b hb' e' => by
      rcases hblk b hb' with h1 | h1
      · exact h.apart t k ht hk htk b e' h1
      · have := ((h.rows _ (List.getElem_mem ht)).fresh b e').2; omega
    rw [List.getElem_set] at e ⊢
    split at e
    · rename_i e1
      rw [if_neg (fun e2 => hij (e1.symm.trans e2))]
      exact far j hj2 (fun e2 => hij (e1.symm.trans e2.symm)) b e
    · rename_i e1
      split
      · rename_i e2
        intro e3
        exact far i hi2 (fun e4 => e1 e4.symm) b e3 e
      · exact h.apart i j hi2 hj2 hij b e
theorem MatO.free {w w9 : World} {base T n cap : Nat} {ps : List Row} (h : MatO w base (.slice (some ⟨T, 0, none⟩) n cap) ps) {k : Nat} (hk : k < ps.length) (g : w.grownBy w9 ps[k].1.ownBlock) : ∃ z, w9.cell? ⟨T, k, none⟩ = some z ∧ w9.frozen? ⟨T, k, none⟩ = false := by
  have h1 := h.own.cell k hk
  have hkT : ps[k].1.ownBlock ≠ some T := fun e => (h.own.2 _ (List.getElem_mem hk)).2 _ e rfl
  have hn : ps.length = n := by
    rcases h.own.1.2 with ⟨h', _⟩ | ⟨g', cap', cur, h', _⟩
    · simp at h'
    · simp only [Value.slice.injEq] at h'
      exact h'.2.1.symm
  subst hn
  have h2 : w9.ownsRow base 22 1 (.slice (some ⟨T, 0, none⟩) ps.length cap) ps.length (ps.map Prod.fst) := World.ownsRow.kept h.own.1 g (.inr (fun e => hkT e.symm))
  exact ⟨_, g.cell h1.1 hkT.symm, World.ownsRow.frozenAt h2 k⟩
/-- The columns so far: those before k with one element more. -/
def TrR (ps : List Row) (c i k : Nat) (ts : List Row) : Prop := ts.length = c ∧ ∀ t (ht : t < ts.length), ts[t].2 = (colL ps t).take (if t < k then i + 1 else i)
theorem TrR.put {ps ts : List Row} {c i k : Nat} (h : TrR ps c i k ts) (hk : k < ts.length) (hi : i < ps.length) (v' : Value) : TrR ps c i (k + 1) (ts.set k (v', ts[k].2 ++ [ps[i].2[k]?.getD 0])) := by
  refine ⟨by rw [List.length_set]; exact h.1, fun t ht => ?_⟩
  rw [List.getElem_set]
  by_cases e : k = t
  · subst e
    rw [if_pos rfl]
    have h1 := h.2 k hk
    rw [if_neg (by omega)] at h1
    dsimp only
    rw [h1, if_pos (by omega), List.take_add_one, List.getElem?_eq_getElem (show i < (colL ps k).length by rw [colL_len]; exact hi)]
    have := colL_at k hi
    rw [List.getElem?_eq_getElem (show i < (colL ps k).length by rw [colL_len]; exact hi)] at this
    simp only [Option.getD_some] at this
    rw [← this]; rfl
  · rw [if_neg e, h.2 t (by simpa using ht)]
    by_cases e2 : t < k
    · rw [if_pos e2, if_pos (by omega)]
    · rw [if_neg e2, if_neg (by omega)]
theorem TrR.next {ps ts : List Row} {c i : Nat} (h : TrR ps c i c ts) : TrR ps c (i + 1) 0 ts := ⟨h.1, fun t ht => by rw [h.2 t ht, if_pos (by rw [← h.1]; exact ht), if_neg (by omega)]⟩
theorem TrR.start (ps : List Row) (c : Nat) : TrR ps c 0 0 (List.replicate c (.slice none 0 0, [])) := ⟨by simp, fun t ht => by rw [List.getElem_replicate, if_neg (by omega), List.take_zero]⟩
theorem TrR.full {ps ts : List Row} {c : Nat} (h : TrR ps c ps.length 0 ts) : ts.map Prod.snd = turnL ps c := by
  apply List.ext_getElem
  · unfold turnL; simp [h.1]
  · intro t h1 h2
    have ht : t < ts.length := by simpa using h1
    rw [List.getElem_map, h.2 t ht, if_neg (by omega), List.take_of_length_le (by rw [colL_len]; exact Nat.le_refl _)]
    simp [turnL]
set_option maxRecDepth 100000 in
set_option maxHeartbeats 2500000 in
theorem rTranspose_any {w : World} {v : Value} {ps : List Row} {r c : Nat} (h : RowsP w v ps) (hm : MatOkP r c ps) :
    Calls Tryd.prog 51 #[v] w (GotR (turnL ps c) w) := by
  have HM := Lib.hid hm
  obtain ⟨hl, hr1, hr12, hc1, hc12, hrc, hq⟩ := hm
  obtain ⟨a, cap, rfl, -⟩ : ∃ a cap, v = .slice a ps.length cap ∧ True := by obtain ⟨a, cap, h, -⟩ := h; exact ⟨a, cap, h, trivial⟩
  have H := Lib.hid h; have HQ := Lib.hid hq
  have h0 : 0 < ps.length := by omega
  obtain ⟨b, off, a2, c2, rfl, hc0, -, -⟩ := h.row h0
  rw [(hq _ (List.getElem_mem h0)).1, Nat.add_zero] at hc0
  have hp12 : ps.length ≤ 12 := by omega
  have p1 : 0 < (ps.length : Int) := by omega
  have HC0 := Lib.hid hc0
  clear h hq hl hr1 hr12 hrc hc0
  go_enter Tryd.func51, Tryd.ntmps51
  go_wp2_with fail
  refine (rcheck10_ok H.out HM.out).mono ?_
  rintro e w1 ⟨rfl, hg⟩
  have HG1 := Lib.hid hg
  have hc0 := HG1.out.cell HC0.out (by simp)
  clear hg
  go_wp2_with (at_make; refine make_rows rfl _ _ rfl c rfl rfl (by omega) ?_)
  intro w2 ho hg
  have HT : Hid (∃ ts, MatO w2 w1.heap.size (.slice (some ⟨w1.heap.size, 0, none⟩) c c) ts ∧ TrR ps c 0 0 ts) := Lib.hid ⟨_, rep_mat ho, TrR.start ps c⟩
  have HG := Lib.hid (grown_trans HG1.out hg)
  have HWT : Hid (w.heap.size ≤ w1.heap.size) := Lib.hid HG1.out.size
  obtain ⟨T, hTT⟩ : ∃ T, w1.heap.size = T := ⟨_, rfl⟩
  rw [hTT] at HT HWT
  rw [hTT]
  clear ho hg hc0 hTT HG1
  go_wp2_with fail
  go_loopw [6] (fun i wr => ∃ k : Nat, i = .int .i64 k ∧ k ≤ ps.length ∧ Hid (∃ ts, MatO wr T (.slice (some ⟨T, 0, none⟩) c c) ts ∧ TrR ps c k 0 ts) ∧ Hid (w.grownBy wr none)) (fun i _ => ps.length - (intOf i).toNat)
  case atStart => exact ⟨0, rfl, Nat.zero_le _, HT, HG⟩
  case round =>
    clear HT HG
    obtain ⟨i, rfl, hi, HT, HG⟩ := hrel
    rename World => wk
    by_cases hib : i < ps.length
    · have h3 : (i : Int) < (ps.length : Int) := by omega
      have i1 : IntKind.i64.wrap ((i : Int) + 1) = (i : Int) + 1 := IntWalk.i64_in _ (by omega)
      obtain ⟨b', off', ar, cr, hbe, hcr, -, hri⟩ := H.out.row hib
      simp only [Option.some.injEq, Addr.mk.injEq, and_true] at hbe
      obtain ⟨rfl, rfl⟩ := hbe
      have hql := HQ.out _ (List.getElem_mem hib)
      rw [hql.1] at hcr
      have HRI := Lib.hid hri; have HCR := Lib.hid hcr; have HQL := Lib.hid hql
      clear hri hcr hql
      go_wp2_with fail
      go_loopw [7] (fun k' wr => ∃ k : Nat, k' = .int .i64 k ∧ k ≤ c ∧ Hid (∃ ts, MatO wr T (.slice (some ⟨T, 0, none⟩) c c) ts ∧ TrR ps c i k ts) ∧ Hid (w.grownBy wr none)) (fun k' _ => c - (intOf k').toNat)
      case atStart => exact ⟨0, rfl, Nat.zero_le _, HT, HG⟩
      case round =>
        clear HT HG
        obtain ⟨k, rfl, hk, HT, HG⟩ := hrel
        rename World => wt
        have hcr1 := HG.out.cell HCR.out (by simp)
        by_cases hkb : k < c
        · have h4 : (k : Int) < (c : Int) := by omega
          have i2 : IntKind.i64.wrap ((k : Int) + 1) = (k : Int) + 1 := IntWalk.i64_in _ (by omega)
          obtain ⟨ts, hM, hR⟩ := HT.out
          have hkl : k < ts.length := by rw [hR.1]; exact hkb
          have HMM := Lib.hid hM; have HRR := Lib.hid hR
          have hrow := hM.rows _ (List.getElem_mem hkl)
          obtain ⟨av, cv, hav⟩ := ownI_sl' hrow
          have hlen12 : ts[k].2.length ≤ 12 := by rw [hR.2 k hkl, List.length_take, colL_len]; omega
          have HBND : Hid (∀ x ∈ ts[k].2, -9223372036854775808 ≤ x ∧ x ≤ 9223372036854775807) := Lib.hid (by obtain ⟨_, _, _, _, hb, _⟩ := (hM.own.2 _ (List.getElem_mem hkl)).1.1; exact hb)
          have HOB : Hid (ts[k].1.ownBlock = (Value.slice av ts[k].2.length cv).ownBlock) := Lib.hid (by rw [hav])
          have GD := Lib.hid (grown_trans HG.out (grown_drew wt none))
          have hcz := ((hM.same (grown_drew wt none)).own.cell k hkl).1
          rw [hav] at hcz
          have HAV := Lib.hid hav
          have hcr2 := GD.out.cell HCR.out (by simp)
          obtain ⟨_, _, hxv, -, -, hxc⟩ := HRI.out
          simp only [Value.slice.injEq] at hxv
          obtain ⟨rfl, -, rfl⟩ := hxv
          obtain ⟨bx, ox, rfl, hcx⟩ := Ints.at hxc (show k < ps[i].2.length by rw [HQL.out.1]; exact hkb)
          have hcx2 := GD.out.cell hcx (by simp)
          have hxb := mem_at (P := fun y => -16 ≤ y ∧ y ≤ 16) HQL.out.2 (show k < ps[i].2.length by rw [HQL.out.1]; exact hkb)
          have HPUT : Hid (∀ v' : Value, TrR ps c i (k + 1) (ts.set k (v', ts[k].2 ++ [ps[i].2[k]?.getD 0]))) := Lib.hid (fun v' => hR.put hkl hib v')
          generalize ps[i].2[k]?.getD 0 = x at *
          have HXB := Lib.hid hxb
          have HTB : Hid (T < wt.heap.size) := Lib.hid (hM.own.fresh T rfl).2
          have HOW : Hid (OwnI wt T (.slice av ts[k].2.length cv) ts[k].2) := Lib.hid (by rw [← hav]; exact hrow)
          have hcz3 : (wt.alloc (.cells #[.int .i64 x] 3)).cell? ⟨T, k, none⟩ = some (.slice av ts[k].2.length cv) := by
            have := ((hM.same (World.grownBy_alloc wt (.cells #[.int .i64 x] 3) none)).own.cell k hkl).1
            rwa [hav] at this
          have hcz4 : wt.cell? ⟨T, k, none⟩ = some (.slice av ts[k].2.length cv) := by
            have := (hM.own.cell k hkl).1
            rwa [hav] at this
          obtain ⟨xs, hxs⟩ : ∃ xs, ts[k].2 = xs := ⟨_, rfl⟩
          have HXS := Lib.hid hxs
          rw [hxs] at hcz hcz3 hcz4 HOW hlen12 HBND HPUT HOB
          have HBX : Hid (∀ l : List Int, l = xs ++ [x] → ∀ y ∈ l, -9223372036854775808 ≤ y ∧ y ≤ 9223372036854775807) := Lib.hid (fun l e y hy => by
            rw [e] at hy
            rcases List.mem_append.1 hy with hy | hy
            · exact HBND.out y hy
            · rw [List.mem_singleton.1 hy]; have := HXB.out; omega)
          have HKX : Hid (xs.length ≤ 1000000000000) := Lib.hid (by omega)
          have HKL := Lib.hid hkl
          clear hM hR hrow hav HAV hxc hcx hxb hxs HT hlen12
          go_wp2_with fail
          go_region_law (refine step_app_int_blk rfl _ _ rfl T (.slice av xs.length cv) xs rfl (HOW.out.kept (grown_trans (World.grownBy_alloc _ _ none) (grown_drew _ none)) (by simp)) wt.heap.size x rfl (cell_new_drew rfl) HKX.out (by have := HTB.out; simp; omega) ?_; intro v' w9 ho2 hg2 hb2; obtain ⟨xs', hxs'⟩ : ∃ xs', xs' = xs ++ [x] := ⟨_, rfl⟩; rw [← hxs'] at ho2; have HXS' := Lib.hid hxs'; obtain ⟨a9, c9, rfl⟩ := ownI_sl' ho2; have hg3 := hg2; rw [← HOB.out] at hg3; have hb3 := hb2; rw [← HOB.out] at hb3; have HC9 := Lib.hid ((HMM.out.same (grown_trans (World.grownBy_alloc _ _ none) (grown_drew _ none))).app HKL.out ho2 (HBX.out xs' HXS'.out) hg3 hb3); obtain ⟨z, hc9, hf9⟩ := (HMM.out.same (grown_trans (World.grownBy_alloc _ _ none) (grown_drew _ none))).free HKL.out hg3; have HG9 := Lib.hid (grown_then (grown_then (grown_trans HG.out (grown_trans (World.grownBy_alloc _ _ none) (grown_drew _ none))) hg2 (fun j hj => .inl (Nat.le_trans HWT.out (HOW.out.fresh j hj).1))) (grown_set w9 ⟨T, k, none⟩ (.slice a9 xs'.length c9)) (by rintro j ⟨⟩; exact .inl HWT.out)); clear ho2 hg2 hb2 hg3 hb3 hxs')
          all_goals
            have HNN : Hid (∃ ts, MatO (w9.setCell ⟨T, k, none⟩ (.slice a9 xs'.length c9)) T (.slice (some ⟨T, 0, none⟩) c c) ts ∧ TrR ps c i (k + 1) ts) := Lib.hid ⟨_, HC9.out, by rw [HXS'.out]; exact HPUT.out _⟩
            go_wp2_with fail
            go_roundw
            case rel => exact ⟨k + 1, by go_num, by omega, HNN, HG9⟩
            case measure => (simp [intOf]; try omega)
        · obtain rfl : k = c := by omega
          have h4 : ¬ (k : Int) < (k : Int) := by omega
          have HNN : Hid (∃ ts, MatO wt T (.slice (some ⟨T, 0, none⟩) k k) ts ∧ TrR ps k (i + 1) 0 ts) := Lib.hid (by obtain ⟨ts, h1, h2⟩ := HT.out; exact ⟨ts, h1, h2.next⟩)
          go_wp2_with fail
          go_roundw
          case rel => exact ⟨i + 1, by go_num, by omega, HNN, HG⟩
          case measure => (simp [intOf]; try omega)
    · obtain rfl : i = ps.length := by omega
      have h3 : ¬ (ps.length : Int) < (ps.length : Int) := by omega
      go_wp2_with fail
      go_ret2
      obtain ⟨ts, h1, h2⟩ := HT.out
      exact ⟨_, ts, rfl, h1.rowsP, h2.full, HG.out⟩
end Go.Proofs.YtpnghgihepnepaaDoor

namespace Go.Proofs.YtpnghgihepnepaaDoor
open Go.RowKit
set_option linter.unusedVariables false

theorem app_int_blk {ops : Array Oper} {rest : List Oper} {o : Oper} {a : Act} {w : World} {Q : Exit → Act → World → Prop} (hgd : o.guard = none) (s x : Operand)
    (ho : o.op = .call { callee := .builtin .append, args := #[s, x], argTypes := #[22, 22] }) (base : Nat) (v : Value) (xs : List Int) (hs : a.eval s = v)
    (hown : OwnI w base v xs) (b : Nat) (y : Int) (hx : a.eval x = .slice (some ⟨b, 0, none⟩) 1 1) (hnew : w.cell? ⟨b, 0, none⟩ = some (.int .i64 y))
    (hlen : xs.length ≤ 1000000000000) (hbase : base ≤ w.heap.size)
    (h : ∀ v' w', OwnI w' base v' (xs ++ [y]) → w.grownBy w' v.ownBlock → (∀ g, v'.ownBlock = some g → v.ownBlock = some g ∨ w.heap.size ≤ g) → wpList Tryd.prog ops Q rest (a.put o.dst v') w') : wpList Tryd.prog ops Q (o :: rest) a w := by
  obtain ⟨i, hi, hz0, hz1, hz2⟩ := info_parts info_int
  refine wpList_plain hgd fun K hK => wp_append_lies w s x 22 ho base 3 i (.int .i64 0) 1 8 Tryd.underlying22 hi hz0 hz1 hz2 rfl (by decide) v xs.length (xs.map (Value.int .i64)) hs hown ⟨b, 0, none⟩ 1 1 [.int .i64 y] hx rfl ?_ ?_ (by decide) ?_ ?_ hbase w.heap.size rfl ?_
  · intro j u hu
    cases j with
    | zero => simp at hu; subst hu; simpa [Addr.add] using hnew
    | succ j => simp at hu
  · intro u hu; simp at hu; subst hu; rfl
  · unfold maxLen; omega
  · omega
  · intro g cap w' h1 h2 h3 _
    refine hK _ _ (h _ w' (by unfold OwnI; simpa using h1) h2 (fun g' hg' => by
      simp only [Value.ownBlock, Option.some.injEq] at hg'
      subst hg'
      rcases h3 with h3 | h3
      · exact .inl h3
      · exact .inr (by omega)))
structure RedR (w0 w : World) (v vp : Value) (qs : List Row) (pv : List Int) : Prop where
  mat : MatO w w0.heap.size v qs
  piv : RowBy w w0.heap.size vp pv v qs
  grow : w0.grownBy w none
theorem RedR.start (w : World) : RedR w w (.slice none 0 0) (.slice none 0 0) [] [] := ⟨MatO.nil _ _, RowBy.nil _ _ _ _, grown_refl _ _⟩
theorem RedR.same {w0 w w' : World} {v vp : Value} {qs : List Row} {pv : List Int} (h : RedR w0 w v vp qs pv) (g : w.grownBy w' none) : RedR w0 w' v vp qs pv :=
  ⟨h.mat.same g, h.piv.kept g (by simp), grown_trans h.grow g⟩
theorem RedR.fresh {w0 w : World} {v vp : Value} {qs : List Row} {pv : List Int} (h : RedR w0 w v vp qs pv) {j : Nat} (hj : w.heap.size ≤ j) : v.ownBlock ≠ some j ∧ (∀ p ∈ qs, p.1.ownBlock ≠ some j) ∧ vp.ownBlock ≠ some j :=
  ⟨(own_lt_of h.mat hj).1, (own_lt_of h.mat hj).2, fun e => by have := (h.piv.1.fresh j e).2; omega⟩
theorem RedR.push {w0 w w1 : World} {v v' : Value} {qs : List Row} {q : Row} (h : RedR w0 w v (.slice none 0 0) qs []) (hq : OwnI w w0.heap.size q.1 q.2)
    (hd : ∀ g, q.1.ownBlock = some g → v.ownBlock ≠ some g ∧ ∀ p ∈ qs, p.1.ownBlock ≠ some g) (ho : OwnP w1 w0.heap.size v' (qs ++ [q])) (hg : w.grownBy w1 v.ownBlock) : RedR w0 w1 v' (.slice none 0 0) (qs ++ [q]) [] :=
  ⟨h.mat.push hq hd ho hg, RowBy.nil _ _ _ _, grown_then h.grow hg (fun j hj => .inl (h.mat.own.fresh j hj).1)⟩
theorem RedR.piv1 {w0 w w1 : World} {v vp v1 : Value} {qs : List Row} {pv : List Int} {y : Int} (h : RedR w0 w v vp qs pv) (ho : OwnI w1 w0.heap.size v1 (pv ++ [y])) (hg : w.grownBy w1 vp.ownBlock)
    {H : Nat} (hb : ∀ g, v1.ownBlock = some g → vp.ownBlock = some g ∨ H ≤ g) (hH : w.heap.size = H) : RedR w0 w1 v v1 qs (pv ++ [y]) := by
  have h1 := RowBy.push h.mat h.piv (y := y) (by unfold OwnI at ho; simpa using ho) hg hb hH
  exact ⟨h1.2, h1.1, grown_then h.grow hg (fun j hj => .inl (h.piv.1.fresh j hj).1)⟩
theorem OwnP.caple {w : World} {base : Nat} {a : Option Addr} {n c : Nat} {ps : List Row} (h : OwnP w base (.slice a n c) ps) : n ≤ c := by
  rcases h.1.2 with ⟨h', _⟩ | ⟨g, cap, cur, h', _, _, hn, _⟩
  · simp only [Value.slice.injEq] at h'; omega
  · simp only [Value.slice.injEq] at h'; omega
/-- A fresh row in the place of row k. -/
theorem RedR.fill {w0 w1 w : World} {g n cap : Nat} {vp : Value} {qs : List Row} {pv : List Int} (h : RedR w0 w1 (.slice (some ⟨g, 0, none⟩) n cap) vp qs pv) (hg : w1.grownBy w none) {k : Nat} (hk : k < qs.length) (q : Row) (hq : OwnI w w1.heap.size q.1 q.2)
    (hb : ∀ x ∈ q.2, -9223372036854775808 ≤ x ∧ x ≤ 9223372036854775807) : RedR w0 (w.setCell ⟨g, k, none⟩ q.1) (.slice (some ⟨g, 0, none⟩) n cap) vp (qs.set k q) pv := by
  have hs := h.same hg
  have hgw := (h.mat.own.fresh g rfl).2
  have hbase : w0.heap.size ≤ g := (h.mat.own.fresh g rfl).1
  have hgr : w.grownBy (w.setCell ⟨g, k, none⟩ q.1) (some g) := grown_set w _ _
  have hw0 : w0.heap.size ≤ w1.heap.size := h.grow.size
  refine ⟨hs.mat.fill hk q (hq.mono hw0) hb (fun j hj => ?_), ⟨hs.piv.1.keptB hgr (fun j hj e => ?_), fun j hj => ?_⟩, grown_then hs.grow hgr (by rintro j ⟨⟩; exact .inl hbase)⟩
  · have h1 := (hq.fresh j hj).1
    refine ⟨by omega, fun i hi _ => (h.fresh h1).2.1 _ (List.getElem_mem hi)⟩
  · cases hj
    exact (hs.piv.2 g e).1 rfl
  · refine ⟨(hs.piv.2 j hj).1, fun p hp => ?_⟩
    rcases List.mem_or_eq_of_mem_set hp with hp | hp
    · exact (hs.piv.2 j hj).2 p hp
    · rw [hp]
      intro e
      have h1 := (hq.fresh j e).1
      have h2 := (h.piv.1.fresh j hj).2
      omega
theorem RedR.swap {w0 w : World} {g cap : Nat} {vp : Value} {qs : List Row} {pv : List Int} (h : RedR w0 w (.slice (some ⟨g, 0, none⟩) qs.length cap) vp qs pv) {k i : Nat} (hk : k < qs.length) (hi : i < qs.length) :
    RedR w0 ((w.setCell ⟨g, k, none⟩ qs[i].1).setCell ⟨g, i, none⟩ qs[k].1) (.slice (some ⟨g, 0, none⟩) qs.length cap) vp (swapP qs k i hk hi) pv := by
  have hgr : w.grownBy ((w.setCell ⟨g, k, none⟩ qs[i].1).setCell ⟨g, i, none⟩ qs[k].1) (some g) := grown_trans (grown_set w ⟨g, k, none⟩ qs[i].1) (grown_set _ ⟨g, i, none⟩ qs[k].1)
  have hbase : w0.heap.size ≤ g := (h.mat.own.fresh g rfl).1
  refine ⟨h.mat.swap hk hi, ⟨h.piv.1.keptB hgr (fun j hj e => ?_), fun j hj => ⟨(h.piv.2 j hj).1, fun p hp => (h.piv.2 j hj).2 p (swapP_mem hp)⟩⟩, grown_then h.grow hgr (by rintro j ⟨⟩; exact .inl hbase)⟩
  cases hj
  exact (h.piv.2 g e).1 rfl
theorem swap_snd {qs : List Row} {k i : Nat} (hk : k < qs.length) (hi : i < qs.length) : (swapP qs k i hk hi).map Prod.snd = swapO (qs.map Prod.snd) k i := by
  unfold swapP swapO
  rw [List.map_set, List.map_set, List.getElem?_map, List.getElem?_map, List.getElem?_eq_getElem hk, List.getElem?_eq_getElem hi]; rfl
theorem snd_at {qs : List Row} {t : Nat} (ht : t < qs.length) : (qs.map Prod.snd)[t]?.getD [] = qs[t].2 := by
  rw [List.getElem?_map, List.getElem?_eq_getElem ht]; rfl
/-- What the reference's reduction answers. -/
def RRed (w : World) (ps : List Row) (m : Nat) (e : Ending) (w' : World) : Prop := ∃ v vp qs pv R, e = .returned (.tuple #[v, vp]) ∧ RowsP w' v qs ∧ Ints w' vp pv ∧ (R, pv) = lredN (ps.map (fun q => primL q.2), []) m ∧ pv.length ≤ R.length ∧ qs.map Prod.snd = R.take pv.length ∧ w.grownBy w' none
theorem lred_stay {s : LSt} {k : Nat} (h : (lredN s k).2.length = (lredN s k).1.length) : ∀ n, lredN s (k + n) = lredN s k
  | 0 => rfl
  | n + 1 => by
    have ih := lred_stay h n
    show lstep (k + n) (lredN s (k + n)) = _
    rw [ih]
    unfold lstep
    rw [h, Nat.sub_self]
    rfl
theorem lred_piv (R : List (List Int)) : ∀ (k : Nat), ∀ x ∈ (lredN (R, []) k).2, 0 ≤ x ∧ x < (k : Int)
  | 0, x, hx => by simp [lredN] at hx
  | k + 1, x, hx => by
    have ih := lred_piv R k
    have e : (lredN (R, []) (k + 1)).2 = (lstep k (lredN (R, []) k)).2 := rfl
    rw [e] at hx
    generalize lredN (R, []) k = s at *
    unfold lstep at hx
    cases hf : lfind s.1 k (s.1.length - s.2.length) s.2.length with
    | none => rw [hf] at hx; have := ih x hx; omega
    | some i =>
      rw [hf] at hx
      rcases List.mem_append.1 hx with h | h
      · have := ih x h; omega
      · rw [List.mem_singleton] at h; omega
theorem RedR.rows {w0 w : World} {g cap n : Nat} {vp : Value} {qs : List Row} {pv : List Int} (h : RedR w0 w (.slice (some ⟨g, 0, none⟩) n cap) vp qs pv) {k : Nat} (hk : k ≤ qs.length) : RowsP w (.slice (some ⟨g, 0, none⟩) k cap) (qs.take k) := by
  obtain ⟨a, cap', hv, hl, hc, hp⟩ := h.mat.rowsP
  simp only [Value.slice.injEq] at hv
  obtain ⟨rfl, rfl, rfl⟩ := hv
  refine ⟨_, _, by rw [List.length_take, Nat.min_eq_left hk], by rw [List.length_take]; omega, ?_, fun p hp' => ?_⟩
  · rcases hc with rfl | ⟨b, off, e, hc⟩
    · left; simp
    · right
      refine ⟨b, off, e, fun i hi => ?_⟩
      rw [List.length_take] at hi
      rw [hc i (by omega), List.getElem?_take_of_lt (by omega)]
  · have := hp p (List.mem_of_mem_take hp')
    exact this
end Go.Proofs.YtpnghgihepnepaaDoor
