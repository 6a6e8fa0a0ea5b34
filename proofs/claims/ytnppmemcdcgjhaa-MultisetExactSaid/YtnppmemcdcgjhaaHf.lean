/- table: the copy of a table. -/
import Derived.Test.YtnppmemcdcgjhaaHe
import Derived.Laws.CopyOwn
namespace Go.Proofs.Ytnppmemcdcgjhaa
open Go.RowKit
set_option linter.unusedVariables false

theorem copiedB {w : World} {base g n cap : Nat} {zs xs : List Bool} (h : OwnB w base (.slice (some ⟨g, 0, none⟩) n cap) zs) (hl : xs.length = n) :
    ∃ cur, w.heap[g]? = some (.cells cur 4 (0, 0)) ∧ n ≤ cur.size ∧ ∀ (W : World), W = w.setRow g (xs.map Value.bool ++ cur.toList.drop xs.length).toArray →
      OwnB W base (.slice (some ⟨g, 0, none⟩) n cap) xs ∧ w.grownBy W (some g) := by
  rcases h.2 with ⟨h', _⟩ | ⟨g', cap', cur, h', hb, hh, hn, hm, hs, ht⟩
  · simp at h'
  · simp only [Value.slice.injEq, Option.some.injEq, Addr.mk.injEq] at h'
    obtain ⟨⟨rfl, -⟩, h2, rfl⟩ := h'
    have hzl : zs.length = n := h2.symm
    rw [Nat.mul_one] at hs
    refine ⟨cur, hh, by omega, ?_⟩
    rintro W rfl
    refine ⟨⟨by simp, .inr ⟨g, cap, _, by rw [hl], hb, setRow_heap _ _ _ _ _ _ hh, by omega, hm, ?_, ?_⟩⟩, ?_⟩
    · simp <;> omega
    · simp [hl]
    · exact ⟨rfl, rfl, rfl, by simp [World.setRow], fun k _ hk => setRow_other w g k _ (by intro e; exact hk (by rw [e]))⟩
theorem bsrc_cells {w : World} {b off : Nat} {xs : List Bool} (hc : ∀ i, i < xs.length → w.cell? ⟨b, off + i, none⟩ = some (.bool (xs[i]?.getD false))) :
    ∀ j u, (xs.map Value.bool)[j]? = some u → w.cell? ((⟨b, off, none⟩ : Addr).add j) = some u := by
  intro j u hj
  have hj' : j < xs.length := by
    have := (List.getElem?_eq_some_iff.1 hj).1
    simpa using this
  have e : (⟨b, off, none⟩ : Addr).add j = ⟨b, off + j, none⟩ := by unfold Addr.add; split <;> simp_all
  rw [e, hc j hj']
  simp [hj'] at hj
  simp [hj', hj]

/-- A table of the call's own, whose rows can be written one by one. -/
def OwnT (w : World) (base : Nat) (v : Value) (qs : List BRow) : Prop :=
  OwnBP w base v qs ∧ (∀ q ∈ qs, OwnB w base q.1 q.2) ∧ qs.Pairwise (fun p q => ∀ g, p.1.ownBlock = some g → q.1.ownBlock ≠ some g)
theorem OwnBP.swap {w W : World} {base b : Nat} {v : Value} {ps qs : List BRow} (h : OwnBP w base v ps) (g : w.grownBy W (some b)) (hv : v.ownBlock ≠ some b) (he : qs.map Prod.fst = ps.map Prod.fst) (hok : ∀ q ∈ qs, BOk W q) : OwnBP W base v qs := by
  have hl : qs.length = ps.length := by have := congrArg List.length he; simpa using this
  refine ⟨?_, fun q hq => ⟨hok q hq, fun k hk => ?_⟩⟩
  · rw [he, hl]; exact World.ownsRow.kept h.1 g (.inr hv)
  · have : q.1 ∈ ps.map Prod.fst := he ▸ List.mem_map_of_mem hq
    obtain ⟨p, hp, e⟩ := List.mem_map.1 this
    exact (h.2 p hp).2 k (by rw [e]; exact hk)
theorem set_rep (os : List BRow) (m : Nat) (z r : BRow) : (os ++ List.replicate (m + 1) z).set os.length r = (os ++ [r]) ++ List.replicate m z := by
  rw [List.set_append_right (h := Nat.le_refl _), Nat.sub_self, List.replicate_succ, List.set_cons_zero, List.append_assoc]
  rfl
def nilB : BRow := (.slice none 0 0, [])
theorem nilB_ok (w : World) : BOk w nilB := ⟨⟨none, 0, rfl, Nat.zero_le _, .inl rfl⟩, Good.nil, by intro g hg; simp [nilB, Value.ownBlock] at hg⟩
def TabTo (ps : List BRow) (w : World) (e : Ending) (w' : World) : Prop := ∃ g qs, e = .returned (.slice (some ⟨g, 0, none⟩) qs.length qs.length) ∧ OwnT w' w.heap.size (.slice (some ⟨g, 0, none⟩) qs.length qs.length) qs ∧ qs.map Prod.snd = ps.map Prod.snd ∧ w.grownBy w' none

set_option maxRecDepth 100000 in
set_option maxHeartbeats 1000000 in
theorem table_any (vt : Value) (ps : List BRow) (w : World) (ht : BRowsP w vt ps) (hl : ps.length ≤ 1000) (h1 : ∀ p ∈ ps, 1 ≤ p.2.length ∧ p.2.length ≤ 1000) :
    Calls Try.prog 49 #[vt] w (TabTo ps w) := by
  have HT := Lib.hid ht; have H1 := Lib.hid h1
  obtain ⟨a, cap, rfl, -, hct, hrs⟩ := ht
  have HCT := Lib.hid hct; have HRS := Lib.hid hrs
  clear hct hrs h1
  go_enter Try.func49, Try.ntmps49
  go_wp2_with (at_make; refine make_brows rfl _ _ rfl ps.length rfl rfl (by omega) ?_)
  intro w1 ho hg
  have HO := Lib.hid ho; have HG := Lib.hid hg
  clear ho hg
  go_wp2_with fail
  go_loopw [11] (fun i wr => ∃ (k : Nat) (os : List BRow), i = .int .i64 k ∧ os.length = k ∧ k ≤ ps.length ∧ Hid (OwnBP wr w.heap.size (.slice (some ⟨w.heap.size, 0, none⟩) ps.length ps.length) (os ++ List.replicate (ps.length - k) nilB)) ∧ Hid (os.map Prod.snd = (ps.take k).map Prod.snd) ∧ Hid (∀ q ∈ os, OwnB wr w.heap.size q.1 q.2) ∧ Hid (os.Pairwise (fun p q => ∀ g, p.1.ownBlock = some g → q.1.ownBlock ≠ some g)) ∧ Hid (w.grownBy wr none)) (fun i _ => ps.length - (intOf i).toNat)
  case atStart => exact ⟨0, [], rfl, rfl, Nat.zero_le _, HO, Lib.hid rfl, Lib.hid (by simp), Lib.hid List.Pairwise.nil, HG⟩
  case round =>
    obtain ⟨k, os, rfl, hk, hkl, hO, hsn, hown, hpw, hG⟩ := hrel
    have HK := Lib.hid hk
    clear hk
    by_cases hkb : k < ps.length
    · have h2 : (k : Int) < (ps.length : Int) := by omega
      have i1 : IntKind.i64.wrap ((k : Int) + 1) = (k : Int) + 1 := IntWalk.i64_in _ (by omega)
      obtain ⟨b, off, rfl, hc0⟩ := BRowsP.at HCT.out hkb
      have HR := Lib.hid (HRS.out _ (List.getElem_mem hkb)); have HR1 := Lib.hid (H1.out _ (List.getElem_mem hkb))
      have HTK : Hid ((ps.take (k + 1)).map Prod.snd = (ps.take k).map Prod.snd ++ [(ps[k]).2]) := Lib.hid (by rw [List.take_add_one, List.getElem?_eq_getElem hkb, List.map_append]; rfl)
      generalize ps[k] = R at *
      obtain ⟨rv, R⟩ := R
      obtain ⟨⟨ra, rc, hrv, -, hrc⟩, -⟩ := HR.out
      dsimp only at hrv hc0 HR1 HTK
      subst hrv
      have hR1 : 1 ≤ R.length := HR1.out.1
      have hR2 : R.length ≤ 1000 := HR1.out.2
      rcases hrc with hrc | ⟨rb, ro, rfl, hrc⟩
      · dsimp only at hrc; subst hrc; simp at hR1
      dsimp only at hrc
      have HRC := Lib.hid hrc
      have hc1 := hG.out.cell hc0 (by simp)
      clear hrc hc0
      go_wp2_with (at_make; refine make_bool rfl _ _ rfl R.length rfl rfl (by omega) ?_)
      intro w2 ho2 hg2
      have O2 := Lib.hid ho2; have G2 := Lib.hid hg2
      have OE := Lib.hid (hO.out.same hg2)
      clear ho2 hg2
      have HLEN : Hid ((os ++ List.replicate (ps.length - k) nilB).length = ps.length) := Lib.hid (by rw [List.length_append, List.length_replicate, HK.out]; omega)
      have hc := (OE.out.cell k (by rw [HLEN.out]; exact hkb)).1
      have hfz := (OE.out.cell k (by rw [HLEN.out]; exact hkb)).2
      have hEg : w.heap.size ≠ wr.heap.size := by have := (hO.out.fresh w.heap.size rfl).2; omega
      have HOB : Hid (∀ q ∈ os, ∀ g, q.1.ownBlock = some g → g < wr.heap.size) := Lib.hid (fun q hq g hg => ((hown.out q hq).fresh g hg).2)
      have HEl : Hid (w.heap.size ≤ wr.heap.size) := Lib.hid hG.out.size
      have HEG := Lib.hid hEg
      have HRR : Hid (∀ i, i < R.length → w.cell? ⟨rb, ro + i, none⟩ = some (.bool (R[i]?.getD false))) := HRC
      obtain ⟨g, hgg⟩ : ∃ g, wr.heap.size = g := ⟨_, rfl⟩
      obtain ⟨E, hEE⟩ : ∃ E, w.heap.size = E := ⟨_, rfl⟩
      have HE := Lib.hid hEE; have HGG := Lib.hid hgg
      rw [hgg] at O2 HEG HOB HEl
      rw [hEE] at OE hc hfz HEG HEl hO hown
      rw [hgg]
      rw [hEE]
      clear hEg hEE hgg
      have WS : Hid (w2.grownBy (w2.setCell ⟨E, k, none⟩ (.slice (some ⟨g, 0, none⟩) R.length R.length)) (some E)) := Lib.hid (grown_set _ _ _)
      have OR : Hid (OwnB (w2.setCell ⟨E, k, none⟩ (.slice (some ⟨g, 0, none⟩) R.length R.length)) g (.slice (some ⟨g, 0, none⟩) R.length R.length) (List.replicate R.length false)) := Lib.hid (by
        refine World.ownsRow.kept O2.out WS.out (.inr ?_)
        simp only [Value.ownBlock, ne_eq, Option.some.injEq]
        exact Ne.symm HEG.out)
      have OS := Lib.hid (OE.out.stored k (.slice (some ⟨g, 0, none⟩) R.length R.length, List.replicate R.length false) O2.out.row (by intro j hj; simp only [Value.ownBlock, Option.some.injEq] at hj; rw [← hj]; exact Ne.symm HEG.out))
      have hce : (w2.setCell ⟨E, k, none⟩ (.slice (some ⟨g, 0, none⟩) R.length R.length)).cell? ⟨E, k, none⟩ = some (.slice (some ⟨g, 0, none⟩) R.length R.length) := by
        have := OS.out.cell k (by rw [List.length_set, HLEN.out]; exact hkb)
        rw [this.1]; simp
      have GW : Hid (w.grownBy (w2.setCell ⟨E, k, none⟩ (.slice (some ⟨g, 0, none⟩) R.length R.length)) none) := Lib.hid (grown_then (grown_trans hG.out G2.out) WS.out (fun k hk => by cases hk; exact .inl (Nat.le_of_eq HE.out)))
      have HOW : Hid (∀ q ∈ os, OwnB (w2.setCell ⟨E, k, none⟩ (.slice (some ⟨g, 0, none⟩) R.length R.length)) E q.1 q.2) := Lib.hid (fun q hq => by
        refine World.ownsRow.kept (World.ownsRow.kept (hown.out q hq) G2.out ?_) WS.out ?_
        · cases q.1.ownBlock
          · exact .inl rfl
          · exact .inr (by simp)
        · refine .inr (fun e => ?_)
          exact (OE.out.2 q (by simp [hq])).2 _ e rfl)
      obtain ⟨W, hWd⟩ : ∃ W, w2.setCell ⟨E, k, none⟩ (.slice (some ⟨g, 0, none⟩) R.length R.length) = W := ⟨_, rfl⟩
      rw [hWd] at OR OS GW HOW WS
      have HWD := Lib.hid hWd
      obtain ⟨cur, hh, hsz, hW⟩ := copiedB (xs := R) OR.out rfl
      have HW := Lib.hid hW; have HH := Lib.hid hh
      have hsrc := Lib.hid (bsrc_cells (w := W) (fun i hi => GW.out.cell (HRC.out i hi) (by simp)))
      clear hW hWd hh
      go_wp2_with (refine wpList_copy_own rfl _ _ 26 26 rfl 4 Try.underlying26 (by kernel_rfl) g 0 R.length R.length ⟨rb, ro, none⟩ R.length rc rfl rfl cur 4 (HWD.out ▸ HH.out) (R.map Value.bool) (by simp) (HWD.out ▸ hsrc.out) (by simp <;> omega) (by intro u hu; obtain ⟨x, -, rfl⟩ := List.mem_map.1 hu; rfl) ?_)
      rw [HWD.out]
      clear hc hfz hce
      generalize hWW : World.setRow _ _ _ = W2
      obtain ⟨hO3, hG3⟩ := HW.out W2 hWW.symm
      have HO3 := Lib.hid (hO3.mono HEl.out); have G3 := Lib.hid hG3
      clear hO3 hG3 hWW HH hsz HW hsrc
      have HSW : Hid (OwnBP W2 E (.slice (some ⟨E, 0, none⟩) ps.length ps.length) ((os ++ [(.slice (some ⟨g, 0, none⟩) R.length R.length, R)]) ++ List.replicate (ps.length - (k + 1)) nilB)) := Lib.hid (by
        refine OS.out.swap G3.out (by intro e; cases e; exact HEG.out rfl) ?_ ?_
        · rw [show ps.length - k = (ps.length - (k + 1)) + 1 by omega, ← HK.out, set_rep]
          simp
        · intro q hq
          rcases List.mem_append.1 hq with hq | hq
          · rcases List.mem_append.1 hq with hq | hq
            · exact (HOW.out q hq).row.kept G3.out (by rintro j ⟨⟩ e; have := HOB.out q hq _ e; omega)
            · rw [List.mem_singleton.1 hq]; exact HO3.out.row
          · rw [List.eq_of_mem_replicate hq]; exact nilB_ok _)
      have HOW2 : Hid (∀ q ∈ os ++ [((.slice (some ⟨g, 0, none⟩) R.length R.length, R) : BRow)], OwnB W2 E q.1 q.2) := Lib.hid (fun q hq => by
        rcases List.mem_append.1 hq with hq | hq
        · refine World.ownsRow.kept (HOW.out q hq) G3.out (.inr (fun e => ?_))
          have := HOB.out q hq _ e; omega
        · rw [List.mem_singleton.1 hq]; exact HO3.out)
      have HPW2 : Hid ((os ++ [((.slice (some ⟨g, 0, none⟩) R.length R.length, R) : BRow)]).Pairwise (fun p q => ∀ g, p.1.ownBlock = some g → q.1.ownBlock ≠ some g)) := Lib.hid (List.pairwise_append.2 ⟨hpw.out, by simp, fun p hp q hq j hj e => by
        rw [List.mem_singleton.1 hq] at e
        simp only [Value.ownBlock, Option.some.injEq] at e
        have := HOB.out p hp j hj; omega⟩)
      have HG3 := Lib.hid (grown_then GW.out G3.out (by rintro j ⟨⟩; have := HEl.out; have := HE.out; exact .inl (by omega)))
      have hE9 := HE.out
      subst hE9
      go_wp2_with fail
      go_roundw
      case rel => exact ⟨k + 1, _, by go_num, by rw [List.length_append, HK.out]; rfl, by omega, HSW, Lib.hid (by rw [List.map_append, hsn.out, HTK.out]; rfl), HOW2, HPW2, HG3⟩
      case measure => simp [intOf]; omega
    · obtain rfl : k = ps.length := by omega
      have h2 : ¬ (ps.length : Int) < (ps.length : Int) := by omega
      go_wp2_with fail
      go_ret
      have e0 : os ++ List.replicate (ps.length - ps.length) nilB = os := by simp
      have hO2 := hO.out
      rw [e0] at hO2
      rw [← HK.out] at hO2 ⊢
      exact ⟨w.heap.size, os, rfl, ⟨hO2, hown.out, hpw.out⟩, by rw [hsn.out, List.take_length], hG.out⟩

end Go.Proofs.Ytnppmemcdcgjhaa
