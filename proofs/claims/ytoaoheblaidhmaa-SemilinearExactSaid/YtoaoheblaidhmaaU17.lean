/- Texts Vl, Vm in one. -/
import Derived.Test.YtoaoheblaidhmaaU15
import Derived.Test.YtoaoheblaidhmaaU16
import Derived.Test.YtoaoheblaidhmaaU6
import Derived.BigRegion
import Derived.Test.YtoaoheblaidhmaaU10
namespace Go.Proofs.Ytoaoheblaidhmaa
open Go.RowKit
set_option linter.unusedVariables false

/-- A set of the call's own: its base is its own, and its rows lie in blocks that are not older, nor the base's. -/
def OwnS (w : World) (base : Nat) (vb vp : Value) (b : List Int) (ps : List Row) : Prop := OwnI w base vb b ∧ OwnP w base vp ps ∧ (∀ q ∈ ps, ∀ g, q.1.ownBlock = some g → base ≤ g) ∧ (∀ g, vb.ownBlock = some g → vp.ownBlock ≠ some g ∧ ∀ q ∈ ps, q.1.ownBlock ≠ some g)
theorem OwnS.same {w w' : World} {base : Nat} {vb vp : Value} {b : List Int} {ps : List Row} (h : OwnS w base vb vp b ps) (g : w.grownBy w' none) : OwnS w' base vb vp b ps := ⟨h.1.kept g (by simp), h.2.1.same g, h.2.2.1, h.2.2.2⟩
def CopyTo (b : List Int) (rs : List (List Int)) (w : World) (e : Ending) (w' : World) : Prop := ∃ vb vp ps, e = .returned (.agg #[vb, vp]) ∧ OwnS w' w.heap.size vb vp b ps ∧ ps.map Prod.snd = rs ∧ w.grownBy w' none
theorem two_apartV {w : World} {base base2 : Nat} {v7 v8 : Value} {T : List Row} {R : List Int} (h7 : OwnP w base v7 T) (h8 : OwnI w base2 v8 R) : ∀ g, v8.ownBlock = some g → v7.ownBlock ≠ some g := by
  intro g h2 h1
  rcases h7.1.2 with ⟨e, _⟩ | ⟨g1, cap1, cur1, e, _, b1, _⟩
  · rw [e] at h1; cases h1
  · rcases h8.2 with ⟨e2, _⟩ | ⟨g2, cap2, cur2, e2, _, b2, _⟩
    · rw [e2] at h2; cases h2
    · rw [e] at h1; rw [e2] at h2
      simp only [Value.ownBlock, Option.some.injEq] at h1 h2
      subst h1 h2
      rw [b1] at b2
      simp only [Option.some.injEq, Obj.cells.injEq] at b2
      exact absurd b2.2.1 (by decide)
theorem OwnI.keptB1 {w w' : World} {base : Nat} {v : Value} {xs : List Int} {row : Option Nat} (h : OwnI w base v xs) (g : w.grownBy w' row) (hr : ∀ k, row = some k → v.ownBlock ≠ some k) : OwnI w' base v xs :=
  World.ownsRow.kept h g (by
    cases hv : v.ownBlock with
    | none => exact .inl rfl
    | some k => refine .inr (fun e => ?_); exact hr k e.symm hv)
theorem OwnP.keptB1 {w w' : World} {base : Nat} {v : Value} {ps : List Row} {row : Option Nat} (h : OwnP w base v ps) (g : w.grownBy w' row) (hr : ∀ k, row = some k → v.ownBlock ≠ some k) (hq : ∀ q ∈ ps, ∀ k, row = some k → q.1.ownBlock ≠ some k) : OwnP w' base v ps :=
  ⟨World.ownsRow.kept h.1 g (by
    cases hv : v.ownBlock with
    | none => exact .inl rfl
    | some k => refine .inr (fun e => ?_); exact hr k e.symm hv), fun q hq' => ⟨(h.2 q hq').1.kept g (hq q hq'), (h.2 q hq').2⟩⟩
theorem OwnP.mono1 {w : World} {base base' : Nat} {v : Value} {ps : List Row} (h : OwnP w base v ps) (hb : base' ≤ base) : OwnP w base' v ps := by
  refine ⟨⟨h.1.1, ?_⟩, h.2⟩
  rcases h.1.2 with h1 | ⟨g, cap, cur, h1, h2, h3⟩
  · exact .inl h1
  · exact .inr ⟨g, cap, cur, h1, Nat.le_trans hb h2, h3⟩
theorem cells_free1 {w : World} {g : Nat} {x y : Value} {e : TypeId} (h : w.heap[g]? = some (.cells #[x, y] e (0, 0))) : w.frozen? ⟨g, 1, none⟩ = false := by
  unfold World.frozen?; dsimp only; rw [h]; rfl
set_option maxRecDepth 100000 in
set_option maxHeartbeats 3000000 in
theorem rCopyS_any {sv : Value} {b : List Int} {rs : List (List Int)} {w : World} (h : LinV w sv b rs) (hb : b.length ≤ 1000) (hr : ∀ r ∈ rs, r.length ≤ 1000) (hl : rs.length ≤ 1000) :
    Calls Try.prog 67 #[sv] w (CopyTo b rs w) := by
  obtain ⟨vb, vp, qs, rfl, hb0, hp0, hgd, rfl⟩ := h
  have HB := Lib.hid hb0; have HP := Lib.hid hp0
  have HRL : Hid (∀ q ∈ qs, q.2.length ≤ 1000) := Lib.hid (fun q hq => hr _ (List.mem_map_of_mem hq))
  rw [List.length_map] at hl
  obtain ⟨⟨ab, cb, hvb, -⟩, -, -⟩ := hb0
  dsimp only at hvb
  subst hvb
  obtain ⟨ap, cp, rfl, -⟩ := hp0
  clear hgd hr
  go_enter Try.func67, Try.ntmps67
  go_wp2_with fail
  have K1 : ((w.alloc (.cells #[.slice ab b.length cb, .slice ap qs.length cp] 26)).alloc (.cells #[.slice none 0 0, .slice none 0 0] 26)).heap[w.heap.size]? = some (.cells #[.slice ab b.length cb, .slice ap qs.length cp] 26 (0, 0)) := heap_old _ (heap_new _ rfl)
  have K2 : ((w.alloc (.cells #[.slice ab b.length cb, .slice ap qs.length cp] 26)).alloc (.cells #[.slice none 0 0, .slice none 0 0] 26)).heap[w.heap.size + 1]? = some (.cells #[.slice none 0 0, .slice none 0 0] 26 (0, 0)) := heap_new _ (by show _ = (w.heap.push _).size; simp)
  have hg1 : w.grownBy ((w.alloc (.cells #[.slice ab b.length cb, .slice ap qs.length cp] 26)).alloc (.cells #[.slice none 0 0, .slice none 0 0] 26)) none := grown_after (grown_after (grown_refl _ _))
  generalize ((w.alloc (.cells #[.slice ab b.length cb, .slice ap qs.length cp] 26)).alloc (.cells #[.slice none 0 0, .slice none 0 0] 26)) = W at *
  refine (rcopy_any _ _ _ (HB.out.same hg1) (by omega)).mono ?_
  rintro e w2 ⟨v2, rfl, ho, hg⟩
  have O2 := Lib.hid ho
  have k1 := (hg.block _ (Array.getElem?_eq_some_iff.1 K1).1 (by simp)).trans K1
  have k2 := (hg.block _ (Array.getElem?_eq_some_iff.1 K2).1 (by simp)).trans K2
  have HS0 := Lib.hid hg1.size
  have HWS : Hid (w.heap.size + 1 < W.heap.size) := Lib.hid (Array.getElem?_eq_some_iff.1 K2).1
  have G2 := Lib.hid (grown_trans hg1 hg)
  obtain ⟨a2, c2, rfl⟩ := ownI_open ho
  clear ho hg hg1 K1 K2
  have k3 : (w2.alloc (.cells #[.slice a2 b.length c2, .slice none 0 0] 26)).heap[w2.heap.size]? = some (.cells #[.slice a2 b.length c2, .slice none 0 0] 26 (0, 0)) := heap_new _ rfl
  have HW2 : Hid (w.heap.size + 1 < w2.heap.size) := Lib.hid (Array.getElem?_eq_some_iff.1 k2).1
  have k1' : (w2.alloc (.cells #[.slice a2 b.length c2, .slice none 0 0] 26)).heap[w.heap.size]? = some _ := heap_old _ k1
  have k2' : (w2.alloc (.cells #[.slice a2 b.length c2, .slice none 0 0] 26)).heap[w.heap.size + 1]? = some _ := heap_old _ k2
  have HK1 := Lib.hid k1'; have HK2 := Lib.hid k2'; have HK3 := Lib.hid k3
  have O3 := Lib.hid (O2.out.kept (World.grownBy_alloc w2 (.cells #[.slice a2 b.length c2, .slice none 0 0] 26) none) (by simp))
  have G3 := Lib.hid (grown_trans G2.out (World.grownBy_alloc w2 (.cells #[.slice a2 b.length c2, .slice none 0 0] 26) none))
  have HBF : Hid (∀ g, (Value.slice a2 b.length c2).ownBlock = some g → W.heap.size ≤ g ∧ g < w2.heap.size) := Lib.hid (fun g hg => ⟨(O2.out.fresh g hg).1, (O2.out.fresh g hg).2⟩)
  clear k1 k2 k1' k2' k3
  go_wp2_with fail
  generalize hwb : w2.alloc (.cells #[.slice a2 b.length c2, .slice none 0 0] 26) = w3 at *
  clear hwb
  obtain ⟨B3, hB3⟩ : ∃ B3, w2.heap.size = B3 := ⟨_, rfl⟩
  rw [hB3] at HK3 HBF HW2 ⊢
  have HSB : Hid (B3 < w3.heap.size) := Lib.hid (Array.getElem?_eq_some_iff.1 HK3.out).1
  clear hB3
  go_loopw [4] (fun i wr => ∃ (k : Nat) (vo : Value) (os : List Row), i = .int .i64 k ∧ k ≤ qs.length ∧ Hid (wr.heap[B3]? = some (.cells #[.slice a2 b.length c2, vo] 26 (0, 0))) ∧ Hid (wr.heap[w.heap.size]? = some (.cells #[.slice ab b.length cb, .slice ap qs.length cp] 26 (0, 0))) ∧ Hid (wr.heap[w.heap.size + 1]? = some (.cells #[.slice none 0 0, .slice none 0 0] 26 (0, 0))) ∧ Hid (OwnP wr w3.heap.size vo os) ∧ Hid ((∀ q ∈ os, ∀ g, q.1.ownBlock = some g → w3.heap.size ≤ g) ∧ os.map Prod.snd = (qs.take k).map Prod.snd) ∧ Hid (OwnI wr W.heap.size (.slice a2 b.length c2) b) ∧ Hid (w.grownBy wr none) ∧ Hid (w3.heap.size ≤ wr.heap.size)) (fun i _ => qs.length - (intOf i).toNat)
  case atStart => exact ⟨0, _, [], rfl, Nat.zero_le _, HK3, HK1, HK2, Lib.hid (OwnP.nil _ _), Lib.hid ⟨by simp, by simp⟩, O3, G3, Lib.hid (Nat.le_refl _)⟩
  case round =>
    clear HK3 HK1 HK2 O3 G3
    obtain ⟨k, vo, os, rfl, hk, HK3, HK1, HK2, HO, HOS, OB, HG, HZ⟩ := hrel
    rename World => wk
    obtain ⟨ao, co, rfl⟩ := HO.out.slice
    have c11 := (cells_of HK1.out).2
    have c31 := (cells_of HK3.out).2
    by_cases hlt : k < qs.length
    · have h1 : (k : Int) < (qs.length : Int) := by omega
      have i1 : IntKind.i64.wrap ((k : Int) + 1) = (k : Int) + 1 := IntWalk.i64_in _ (by omega)
      obtain ⟨_, _, hv, _, hc, hrow⟩ := HP.out.same HG.out
      simp only [Value.slice.injEq] at hv
      obtain ⟨rfl, -, -⟩ := hv
      obtain ⟨b9, o9, rfl, hx⟩ := RowsP.at hc hlt
      have HRK := Lib.hid (hrow _ (List.getElem_mem hlt))
      have HRL1 := Lib.hid (HRL.out _ (List.getElem_mem hlt))
      have HTK : Hid ((qs.take (k + 1)).map Prod.snd = (qs.take k).map Prod.snd ++ [qs[k].2]) := Lib.hid (snd_take qs k hlt)
      have HOL : Hid (os.length ≤ 1000000000000) := Lib.hid (by have := congrArg List.length HOS.out.2; simp at this; omega)
      clear hc hrow
      generalize qs[k] = q at *
      obtain ⟨qv, p⟩ := q
      obtain ⟨⟨ak, ck, hvk, -, -, -⟩, -, -⟩ := HRK.out
      dsimp only at hx hvk HRL1 HTK
      subst hvk
      have HCC := Lib.hid (rcopy_any _ _ wk.drew (HRK.out.same (grown_drew _ none)) (by have := HRL1.out; omega))
      have c11d : wk.drew.cell? ⟨w.heap.size, 1, none⟩ = some (.slice (some ⟨b9, o9, none⟩) qs.length cp) := c11
      have c31d : wk.drew.cell? ⟨B3, 1, none⟩ = some (.slice ao os.length co) := c31
      have hxd : wk.drew.cell? ⟨b9, o9 + k, none⟩ = some (.slice ak p.length ck) := hx
      have hB3k : B3 < wk.heap.size := by have := HSB.out; have := HZ.out; omega
      go_wp2_with fail
      go_region_law (first
        | (refine step_call 23 57 _ _ _ _ _ Try.f57 _ Try.func57 (by kernel_rfl) rfl [.slice ak p.length ck] (by kernel_rfl) _ HCC.out ?_; rintro e w23 ⟨v23, rfl, ho, hg⟩; obtain ⟨a23, c23, rfl⟩ := ownI_open ho; have O23 := Lib.hid ho; have hg' := grown_trans (grown_drew wk none) hg; have G23 := Lib.hid hg'; have c31e := hg'.cell c31 (by simp); have c31f := (World.grownBy_alloc w23 (.cells #[.slice a23 p.length c23] 22) none).cell c31e (by simp); have c11e := hg'.cell c11 (by simp); have c11f := (World.grownBy_alloc w23 (.cells #[.slice a23 p.length c23] 22) none).cell c11e (by simp); clear ho hg hg'; refine ⟨_, rfl, ?_⟩)
        | (have HRO := Lib.hid ((O23.out.row HRK.out.bdd).same (World.grownBy_alloc w23 (.cells #[.slice a23 p.length c23] 22) none)); have HGA := Lib.hid (grown_trans G23.out (World.grownBy_alloc w23 (.cells #[.slice a23 p.length c23] 22) none)); have HOA := Lib.hid (HO.out.same HGA.out); have HFAR : Hid (∀ g, (Value.slice a23 p.length c23).ownBlock = some g → (Value.slice ao os.length co).ownBlock ≠ some g) := Lib.hid (fun g h1 h2 => (by have h3 := (O23.out.fresh g h1).1; have h4 := (HO.out.fresh g h2).2; have h5 : wk.drew.heap.size = wk.heap.size := rfl; omega)); have HBS : Hid (w3.heap.size ≤ (w23.alloc (.cells #[.slice a23 p.length c23] 22)).heap.size) := Lib.hid (Nat.le_trans HZ.out HGA.out.size); refine step_app_row rfl (.tmp 17) (.tmp 24) rfl w3.heap.size (.slice ao os.length co) os (by kernel_rfl) HOA.out w23.heap.size (.slice a23 p.length c23, p) (by kernel_rfl) (cell_new rfl) HRO.out HFAR.out HOL.out HBS.out ?_; intro v25 w25 ho hg; obtain ⟨os2, hos2⟩ : ∃ os2, os2 = os ++ [((.slice a23 p.length c23, p) : Row)] := ⟨_, rfl⟩; rw [← hos2] at ho; have HOS2 := Lib.hid hos2; have O25 := Lib.hid ho; obtain ⟨a25, c25, rfl⟩ := ho.slice; clear hos2; have G25 := Lib.hid hg; have hne : ∀ g, (Value.slice ao os.length co).ownBlock = some g → g ≠ B3 := (fun g h1 e => by have h2 := (HO.out.fresh g h1).1; have h3 := HSB.out; omega); have k25 := (hg.block B3 (Nat.lt_of_lt_of_le hB3k HGA.out.size) (by intro e; exact hne B3 e.symm rfl)).trans ((HGA.out.block B3 hB3k (by simp)).trans HK3.out); have HK25 := Lib.hid k25; have s1 := (cells_of k25).2; have s2 := cells_free1 k25; clear ho hg k25))
      all_goals
        clear c11 c31 hx c11d c31d hxd c31e c31f c11e c11f
        have GSET : Hid (w25.grownBy (w25.setCell ⟨B3, 1, none⟩ (.slice a25 os2.length c25)) (some B3)) := Lib.hid (grown_set w25 ⟨B3, 1, none⟩ (.slice a25 os2.length c25))
        have HKN : Hid ((w25.setCell ⟨B3, 1, none⟩ (.slice a25 os2.length c25)).heap[B3]? = some (.cells #[.slice a2 b.length c2, (.slice a25 os2.length c25)] 26 (0, 0))) := Lib.hid (heap_set (o := 1) HK25.out (.slice a25 os2.length c25))
        have hne0 : ∀ g, (Value.slice ao os.length co).ownBlock = some g → w3.heap.size ≤ g := fun g h1 => (HO.out.fresh g h1).1
        have HSW : Hid (w.heap.size + 1 < B3) := HW2
        have hB3w := HSB.out
        have HK1N : Hid ((w25.setCell ⟨B3, 1, none⟩ (.slice a25 os2.length c25)).heap[w.heap.size]? = some (.cells #[.slice ab b.length cb, .slice (some ⟨b9, o9, none⟩) qs.length cp] 26 (0, 0))) := Lib.hid (by
          have hz := HSW.out
          have l1 : w.heap.size < wk.heap.size := by omega
          refine (GSET.out.block _ (Nat.lt_of_lt_of_le l1 (Nat.le_trans HGA.out.size G25.out.size)) (by simp; omega)).trans ((G25.out.block _ (Nat.lt_of_lt_of_le l1 HGA.out.size) (by intro e; have := hne0 _ e.symm; omega)).trans ((HGA.out.block _ l1 (by simp)).trans HK1.out)))
        have HK2N : Hid ((w25.setCell ⟨B3, 1, none⟩ (.slice a25 os2.length c25)).heap[w.heap.size + 1]? = some (.cells #[.slice none 0 0, .slice none 0 0] 26 (0, 0))) := Lib.hid (by
          have hz := HSW.out
          have l1 : w.heap.size + 1 < wk.heap.size := by omega
          refine (GSET.out.block _ (Nat.lt_of_lt_of_le l1 (Nat.le_trans HGA.out.size G25.out.size)) (by simp; omega)).trans ((G25.out.block _ (Nat.lt_of_lt_of_le l1 HGA.out.size) (by intro e; have := hne0 _ e.symm; omega)).trans ((HGA.out.block _ l1 (by simp)).trans HK2.out)))
        have HON : Hid (OwnP (w25.setCell ⟨B3, 1, none⟩ (.slice a25 os2.length c25)) w3.heap.size (.slice a25 os2.length c25) os2) := Lib.hid (by
          refine ⟨World.ownsRow.kept O25.out.1 GSET.out ?_, fun q hq => ⟨(O25.out.2 q hq).1.kept GSET.out (fun g hg e => ?_), (O25.out.2 q hq).2⟩⟩
          · cases hv : (Value.slice a25 os2.length c25).ownBlock with
            | none => exact .inl rfl
            | some g => exact .inr (fun e => by cases e; have := (O25.out.fresh _ hv).1; omega)
          · cases hg
            rw [HOS2.out] at hq
            rcases List.mem_append.1 hq with hq | hq
            · have := HOS.out.1 q hq _ e; omega
            · rw [List.mem_singleton.1 hq] at e
              have h3 := (O23.out.fresh _ e).1
              have h5 : wk.drew.heap.size = wk.heap.size := rfl
              have h6 := HZ.out
              omega)
        have HOSN : Hid ((∀ q ∈ os2, ∀ g, q.1.ownBlock = some g → w3.heap.size ≤ g) ∧ os2.map Prod.snd = (qs.take (k + 1)).map Prod.snd) := Lib.hid ⟨fun q hq g e => by
          rw [HOS2.out] at hq
          rcases List.mem_append.1 hq with hq | hq
          · exact HOS.out.1 q hq g e
          · rw [List.mem_singleton.1 hq] at e
            have h3 := (O23.out.fresh _ e).1
            have h5 : wk.drew.heap.size = wk.heap.size := rfl
            have h6 := HZ.out
            omega, by rw [HOS2.out, List.map_append, HOS.out.2, HTK.out]; rfl⟩
        have hbf := HBF.out
        have OBN : Hid (OwnI (w25.setCell ⟨B3, 1, none⟩ (.slice a25 os2.length c25)) W.heap.size (.slice a2 b.length c2) b) := Lib.hid (((OB.out.kept HGA.out (by simp)).keptB1 G25.out (fun g hg e => by have h1 := hne0 g hg; have h2 := (hbf g e).2; omega)).keptB1 GSET.out (fun g hg e => by cases hg; have h2 := (hbf _ e).2; omega))
        have HGN : Hid (w.grownBy (w25.setCell ⟨B3, 1, none⟩ (.slice a25 os2.length c25)) none) := Lib.hid (grown_then (grown_then (grown_trans HG.out HGA.out) G25.out (fun g hg => .inl (by have := hne0 g hg; have := HSW.out; omega))) GSET.out (fun g hg => by cases hg; exact .inl (by have := HSW.out; omega)))
        have HZN : Hid (w3.heap.size ≤ (w25.setCell ⟨B3, 1, none⟩ (.slice a25 os2.length c25)).heap.size) := Lib.hid (Nat.le_trans HZ.out (Nat.le_trans HGA.out.size (Nat.le_trans G25.out.size GSET.out.size)))
        clear s1 s2 hne hne0 hbf hB3w
        go_wp2_with fail
        go_roundw
        case rel => exact ⟨k + 1, (.slice a25 os2.length c25), _, by go_num, by omega, HKN, HK1N, HK2N, HON, HOSN, OBN, HGN, HZN⟩
        case measure => (simp [intOf]; try omega)
    · obtain rfl : k = qs.length := by omega
      have h1 : ¬ (qs.length : Int) < (qs.length : Int) := by omega
      have c30 := (cells_of HK3.out).1
      obtain ⟨p1, p2, p3, p4, p5⟩ := put_set (x := .slice a2 b.length c2) (y := .slice ao os.length co) HK2.out
      have P1 := Lib.hid p1
      clear p1
      go_wp2_with fail
      clear p2 p3 p4 p5 c11 c31 c30
      have GW := Lib.hid (set_two w.heap.size wk (.slice a2 b.length c2) (.slice ao os.length co))
      generalize ((wk.setCell ⟨w.heap.size + 1, 0, none⟩ (.slice a2 b.length c2)).setCell ⟨w.heap.size + 1, 1, none⟩ (.slice ao os.length co)) = WZ at *
      refine bodyPost_ret (results_cell_row rfl _ _ (w.heap.size + 1) _ _ _ _ rfl P1.out Try.underlying26 rfl (by kernel_rfl)) rfl ?_
      have hbf := HBF.out; have hws := HWS.out; have hw2 := HW2.out; have hsb := HSB.out
      refine ⟨_, _, os, rfl, ⟨(OB.out.mono (by omega)).keptB1 GW.out (fun g hg e => by cases hg; have := (hbf _ e).1; omega), (HO.out.mono1 (by omega)).keptB1 GW.out (fun g hg e => by cases hg; have := (HO.out.fresh _ e).1; omega) (fun q hq g hg e => by cases hg; have := HOS.out.1 q hq _ e; omega), fun q hq g e => by have := HOS.out.1 q hq g e; omega, fun g hg => ⟨fun e => by have h1 := (hbf g hg).2; have h2 := (HO.out.fresh g e).1; omega, fun q hq e => by have h1 := (hbf g hg).2; have h2 := HOS.out.1 q hq g e; omega⟩⟩, by rw [HOS.out.2, List.take_length], grown_then HG.out GW.out (fun g hg => by cases hg; exact .inl (by omega))⟩
end Go.Proofs.Ytoaoheblaidhmaa

namespace Go.Proofs.Ytoaoheblaidhmaa
open Go.RowKit
set_option linter.unusedVariables false

def MovedTo (b v : List Int) (rs : List (List Int)) (w : World) (e : Ending) (w' : World) : Prop := w.grownBy w' none ∧ ((withB 16 (sumL b v) = true ∧ ∃ vb vp ps, e = .returned (.tuple #[.agg #[vb, vp], .int .i64 0]) ∧ OwnS w' w.heap.size vb vp (sumL b v) ps ∧ ps.map Prod.snd = rs) ∨ (withB 16 (sumL b v) = false ∧ e = .returned (.tuple #[.agg #[.slice none 0 0, .slice none 0 0], .int .i64 1])))
theorem sum_stepV {b v zs : List Int} {k : Nat} (hv : v.length = b.length) (hz : zs.length = b.length) (hk : k < b.length) (h1 : zs.take k = (sumL b v).take k) (h2 : zs.drop k = b.drop k) :
    zs[k]?.getD 0 = b[k]?.getD 0 ∧ (zs.set k (b[k]?.getD 0 + v[k]?.getD 0)).take (k + 1) = (sumL b v).take (k + 1) ∧ (zs.set k (b[k]?.getD 0 + v[k]?.getD 0)).drop (k + 1) = b.drop (k + 1) := by
  have hs : (sumL b v)[k]?.getD 0 = b[k]?.getD 0 + v[k]?.getD 0 := zip_at _ b v k hk (by omega)
  refine ⟨?_, ?_, ?_⟩
  · have h3 : (zs.drop k)[0]? = (b.drop k)[0]? := by rw [h2]
    simp only [List.getElem?_drop, Nat.add_zero] at h3
    rw [h3]
  · rw [← hs]
    exact set_take zs _ k (by rw [hz, sumL_len rfl hv]) (by rw [sumL_len rfl hv]; exact hk) h1
  · rw [List.drop_set_of_lt (by omega)]
    have h3 : (zs.drop k).drop 1 = (b.drop k).drop 1 := by rw [h2]
    simpa [List.drop_drop] using h3
set_option maxRecDepth 100000 in
set_option maxHeartbeats 3000000 in
theorem rmoved_any {sv vv : Value} {b v : List Int} {rs : List (List Int)} {w : World} (h : LinV w sv b rs) (hv : RowOk w (vv, v)) (hl : v.length = b.length) (h1 : 1 ≤ b.length) (hb : b.length ≤ 1000) (hr : ∀ r ∈ rs, r.length ≤ 1000) (hrl : rs.length ≤ 1000) (h16 : ∀ x ∈ b, 0 ≤ x ∧ x ≤ 16) (v16 : ∀ x ∈ v, 0 ≤ x ∧ x ≤ 16) :
    Calls Try.prog 49 #[sv, vv] w (MovedTo b v rs w) := by
  have H := Lib.hid h; have HVV := Lib.hid hv; have HL := Lib.hid hl; have HR := Lib.hid hr; have B16 := Lib.hid h16; have V16 := Lib.hid v16
  obtain ⟨vb, vp, qs, rfl, hb0, hp0, -, hqs⟩ := h
  obtain ⟨⟨ab, cb, hvb, -⟩, -, -⟩ := hb0
  obtain ⟨⟨av, cv, hvv, -⟩, -, -⟩ := hv
  dsimp only at hvb hvv
  subst hvb hvv
  obtain ⟨ap, cp, rfl, -⟩ := hp0
  have HQS := Lib.hid hqs
  clear hl hr h16 v16 hqs
  go_enter Try.func49, Try.ntmps49
  go_wp2_with fail
  have k2 : ((w.alloc (.cells #[.slice ab b.length cb, .slice ap qs.length cp] 26)).alloc (.cells #[.slice none 0 0, .slice none 0 0] 26)).heap[w.heap.size + 1]? = some (.cells #[.slice none 0 0, .slice none 0 0] 26 (0, 0)) := heap_new _ (by show _ = (w.heap.push _).size; simp)
  have hg1 : w.grownBy ((w.alloc (.cells #[.slice ab b.length cb, .slice ap qs.length cp] 26)).alloc (.cells #[.slice none 0 0, .slice none 0 0] 26)) none := grown_after (grown_after (grown_refl _ _))
  generalize ((w.alloc (.cells #[.slice ab b.length cb, .slice ap qs.length cp] 26)).alloc (.cells #[.slice none 0 0, .slice none 0 0] 26)) = W at *
  refine (rCopyS_any (H.out.same hg1) hb HR.out hrl).mono ?_
  rintro e w2 ⟨vb2, vp2, ps, rfl, hos, hps, hg⟩
  obtain ⟨g, c2, rfl, hbg, -⟩ := ownI_own hos.1 h1
  have HWS : Hid (w.heap.size + 1 < W.heap.size) := Lib.hid (Array.getElem?_eq_some_iff.1 k2).1
  have HG1 := Lib.hid hg1
  have G2 := Lib.hid (grown_trans hg1 hg)
  have K2 := Lib.hid ((hg.block _ HWS.out (by simp)).trans k2)
  have BG := Lib.hid hbg
  have BG2 : Hid (g < w2.heap.size) := Lib.hid (hos.1.fresh g rfl).2
  have OB := Lib.hid hos.1; have OP := Lib.hid hos.2.1; have OF := Lib.hid hos.2.2.1; have OD : Hid (vp2.ownBlock ≠ some g ∧ ∀ q ∈ ps, q.1.ownBlock ≠ some g) := Lib.hid (hos.2.2.2 g rfl)
  have HPS := Lib.hid hps
  clear hos hps hg hg1 k2 hbg
  obtain ⟨ap2, cp2, rfl⟩ := OP.out.slice
  have K3 : Hid ((w2.alloc (.cells #[.slice (some ⟨g, 0, none⟩) b.length c2, .slice ap2 ps.length cp2] 26)).heap[w2.heap.size]? = some (.cells #[.slice (some ⟨g, 0, none⟩) b.length c2, .slice ap2 ps.length cp2] 26 (0, 0))) := Lib.hid (heap_new _ rfl)
  have K2' := Lib.hid (heap_old (o := .cells #[.slice (some ⟨g, 0, none⟩) b.length c2, .slice ap2 ps.length cp2] 26) K2.out)
  have GA := World.grownBy_alloc w2 (.cells #[.slice (some ⟨g, 0, none⟩) b.length c2, .slice ap2 ps.length cp2] 26) none
  have OB3 := Lib.hid (OB.out.kept GA (by simp))
  have OP3 := Lib.hid (OP.out.same GA)
  have G3 := Lib.hid (grown_trans G2.out GA)
  clear GA
  go_wp2_with fail
  generalize hwb : w2.alloc (.cells #[.slice (some ⟨g, 0, none⟩) b.length c2, .slice ap2 ps.length cp2] 26) = w3 at *
  clear hwb
  obtain ⟨B3, hB3⟩ : ∃ B3, w2.heap.size = B3 := ⟨_, rfl⟩
  have HW2 : Hid (W.heap.size ≤ B3) := Lib.hid (by rw [← hB3]; have := BG.out; have := BG2.out; omega)
  rw [hB3] at K3 BG2 ⊢
  clear hB3 K2 OB OP G2
  have hvl : v.length ≤ 1000 := by rw [HL.out]; exact hb
  go_loopw [7] (fun i wr => ∃ (k : Nat) (zs : List Int), i = .int .i64 k ∧ k ≤ v.length ∧ Hid (zs.length = b.length ∧ zs.take k = (sumL b v).take k ∧ zs.drop k = b.drop k) ∧ Hid (wr.heap[B3]? = some (.cells #[.slice (some ⟨g, 0, none⟩) b.length c2, .slice ap2 ps.length cp2] 26 (0, 0))) ∧ Hid (wr.heap[w.heap.size + 1]? = some (.cells #[.slice none 0 0, .slice none 0 0] 26 (0, 0))) ∧ Hid (OwnI wr W.heap.size (.slice (some ⟨g, 0, none⟩) b.length c2) zs) ∧ Hid (OwnP wr W.heap.size (.slice ap2 ps.length cp2) ps) ∧ Hid (w.grownBy wr none)) (fun i _ => v.length - (intOf i).toNat)
  case atStart => exact ⟨0, b, rfl, Nat.zero_le _, Lib.hid ⟨rfl, by simp, rfl⟩, K3, K2', OB3, OP3, G3⟩
  case round =>
    clear K3 K2' OB3 OP3 G3
    obtain ⟨k, zs, rfl, hk, hz, K3, K2, hoz, hop, hg⟩ := hrel
    rename World => wk
    by_cases hlt : k < v.length
    · have hltb : k < b.length := by rw [← HL.out]; exact hlt
      have ST := Lib.hid (sum_stepV HL.out hz.out.1 hltb hz.out.2.1 hz.out.2.2)
      obtain ⟨⟨_, _, hv, _, _, hc⟩, -, -⟩ := HVV.out.same hg.out
      simp only [Value.slice.injEq] at hv
      obtain ⟨rfl, -, -⟩ := hv
      obtain ⟨b', off', rfl, hx'⟩ := Ints.at hc hlt
      obtain ⟨hcell, hfr⟩ := hoz.out.cell k (by have := hz.out.1; omega)
      have c3 := (cells_of K3.out).1
      have hxx := mem_at B16.out hltb
      have hyy := mem_at V16.out hlt
      rw [ST.out.1] at hcell
      have g1 : (k : Int) < (v.length : Int) := by omega
      have g2 : (k : Int) < (b.length : Int) := by omega
      have i2 : IntKind.i64.wrap ((k : Int) + 1) = (k : Int) + 1 := IntWalk.i64_in _ (by omega)
      clear hc hlt hltb
      generalize b[k]?.getD 0 = x at *
      generalize v[k]?.getD 0 = y at *
      have m1 : IntKind.i64.wrap (x + y) = x + y := IntWalk.i64_in _ (by omega)
      have HST := Lib.hid (hoz.out.stored k (x + y))
      clear hyy hxx
      have hcd : wk.drew.cell? ⟨g, k, none⟩ = some (.int .i64 x) := hcell
      have hfd : wk.drew.frozen? ⟨g, k, none⟩ = false := hfr
      have hxd : wk.drew.cell? ⟨b', off' + k, none⟩ = some (.int .i64 y) := hx'
      have c3d : wk.drew.cell? ⟨B3, 0, none⟩ = some (.slice (some ⟨g, 0, none⟩) b.length c2) := c3
      go_wp2_with fail
      go_region
      all_goals
        clear hcell hfr hx' c3 hcd hfd hxd c3d m1
        have GS0 := Lib.hid (grown_set wk ⟨g, k, none⟩ (.int .i64 (x + y)))
        have GS := Lib.hid (grown_trans GS0.out (grown_drew _ (some g)))
        replace HST := Lib.hid (HST.out.kept (grown_drew _ none) (by simp))
        have hgn := Lib.hid (grown_then hg.out GS.out (fun i hi => by cases hi; exact .inl (show w.heap.size ≤ g by have := BG.out; have := HWS.out; omega)))
        have hopn := Lib.hid (hop.out.keptB1 GS.out (fun i hi => by cases hi; exact OD.out.1) (fun q hq i hi => by cases hi; exact OD.out.2 q hq))
        have K3n := Lib.hid ((GS.out.block _ (Array.getElem?_eq_some_iff.1 K3.out).1 (by have := BG2.out; simp; omega)).trans K3.out)
        have K2n := Lib.hid ((GS.out.block _ (Array.getElem?_eq_some_iff.1 K2.out).1 (by have := BG.out; have := HWS.out; simp; omega)).trans K2.out)
        clear K3 K2 hop hoz hg
        go_wp2_with fail
        go_roundw
        case rel => exact ⟨k + 1, zs.set k (x + y), by go_num, by omega, Lib.hid ⟨by rw [List.length_set]; exact hz.out.1, ST.out.2.1, ST.out.2.2⟩, K3n, K2n, HST, hopn, hgn⟩
        case measure => (simp [intOf]; try omega)
    · have hq : zs = sumL b v := by
        have h2 := hz.out.1
        have h3 := HL.out
        have h4 := hz.out.2.1
        rwa [List.take_of_length_le (by omega), List.take_of_length_le (by rw [sumL_len rfl HL.out]; omega)] at h4
      subst hq
      have g1 : ¬ (k : Int) < (v.length : Int) := by omega
      have c30 := (cells_of K3.out).1; have c31 := (cells_of K3.out).2
      have HII : Hid (RowOk wk (.slice (some ⟨g, 0, none⟩) b.length c2, sumL b v)) := Lib.hid (by
        have h3 := hoz.out.row (fun x hx => by have h5 := sumL_lo (fun x hx => (B16.out x hx).1) (fun x hx => (V16.out x hx).1) x hx; have h6 : x ≤ 32 := (by
            obtain ⟨y, hy, z, hz, rfl⟩ := mem_zipWith _ b v x hx
            have := B16.out y hy; have := V16.out z hz; omega); omega)
        exact h3)
      go_wp2_with fail
      refine (rnumbers_is _ _ _ _ HII.out.1).mono ?_
      rintro e w9 ⟨rfl, hw9⟩
      subst hw9
      have GWS := Lib.hid (fun x y => set_two w.heap.size w9 x y)
      obtain ⟨B, hB⟩ : ∃ B, withB 16 (sumL b v) = B := ⟨_, rfl⟩
      rw [hB]
      cases B with
      | true =>
        obtain ⟨p1, p2, p3, p4, p5⟩ := put_set (x := .slice (some ⟨g, 0, none⟩) b.length c2) (y := .slice ap2 ps.length cp2) K2.out
        have P1 := Lib.hid p1; have HB' := Lib.hid hB
        clear p1 hB
        go_wp2_with fail
        clear p2 p3 p4 p5
        refine bodyPost_ret (results_set2 rfl _ _ (w.heap.size + 1) _ _ _ _ rfl P1.out Try.underlying26 (by kernel_rfl)) rfl ?_
        have hsz := HWS.out
        have hbb := BG.out
        have hg1s := HG1.out.size
        exact ⟨grown_then hg.out (GWS.out _ _) (by rintro j ⟨⟩; exact .inl (by omega)), .inl ⟨HB'.out, _, _, ps, rfl, ⟨OwnI.mono (hoz.out.keptB1 (GWS.out _ _) (fun i hi e => by have h7 : w.heap.size + 1 = i := Option.some.inj hi; have h8 : g = i := Option.some.inj e; omega)) (by omega), (hop.out.keptB1 (GWS.out _ _) (fun i hi e => by have h7 : w.heap.size + 1 = i := Option.some.inj hi; have := (hop.out.fresh _ e).1; omega) (fun q hq i hi e => by have h7 : w.heap.size + 1 = i := Option.some.inj hi; have := OF.out q hq _ e; omega)).mono1 (by omega), fun q hq i e => by have := OF.out q hq i e; omega, fun i e => by cases e; exact OD.out⟩, HPS.out.trans rfl⟩⟩
      | false =>
        obtain ⟨p1, p2, p3, p4, p5⟩ := put_set (x := .slice none 0 0) (y := .slice none 0 0) K2.out
        have P1 := Lib.hid p1; have HB' := Lib.hid hB
        clear p1 hB
        go_wp2_with fail
        clear p2 p3 p4 p5
        refine bodyPost_ret (results_set2 rfl _ _ (w.heap.size + 1) _ _ _ _ rfl P1.out Try.underlying26 (by kernel_rfl)) rfl ?_
        exact ⟨grown_then hg.out (GWS.out _ _) (by rintro j ⟨⟩; exact .inl (by omega)), .inr ⟨HB'.out, rfl⟩⟩

end Go.Proofs.Ytoaoheblaidhmaa
