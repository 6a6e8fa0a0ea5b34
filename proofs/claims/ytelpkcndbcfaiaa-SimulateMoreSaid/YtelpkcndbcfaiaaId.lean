/- simulate.matches. -/
import Derived.Test.YtelpkcndbcfaiaaIc
namespace Go.Proofs.Ytelpkcndbcfaiaa
open Go.RowKit
set_option linter.unusedVariables false
/-- v reads as a list of Bools. -/
def BoolsR (w : World) (v : Value) (xs : List Bool) : Prop := ∃ a cap, v = .slice a xs.length cap ∧ xs.length ≤ maxLen ∧
  (xs = [] ∨ ∃ b off, a = some ⟨b, off, none⟩ ∧ ∀ i, i < xs.length → w.cell? ⟨b, off + i, none⟩ = (xs[i]?.map Value.bool))
theorem BoolsR.kept {w w' : World} {v : Value} {xs : List Bool} {row : Option Nat} (h : BoolsR w v xs) (g : w.grownBy w' row) (hr : ∀ k, row = some k → v.ownBlock ≠ some k) : BoolsR w' v xs := by
  obtain ⟨a, cap, rfl, hl, hc⟩ := h
  refine ⟨a, cap, rfl, hl, ?_⟩
  rcases hc with hc | ⟨b, off, rfl, hc⟩
  · exact .inl hc
  · refine .inr ⟨b, off, rfl, fun i hi => ?_⟩
    have h1 := hc i hi
    rw [List.getElem?_eq_getElem hi] at h1 ⊢
    exact g.cell h1 (fun e => hr b e.symm rfl)
theorem BoolsR.same {w w' : World} {v : Value} {xs : List Bool} (h : BoolsR w v xs) (g : w.grownBy w' none) : BoolsR w' v xs := h.kept g (by simp)
abbrev BolP := Value × List Bool
/-- v reads as a table of Bools. -/
def RelR (w : World) (v : Value) (rs : List BolP) : Prop := ∃ a cap, v = .slice a rs.length cap ∧ rs.length ≤ maxLen ∧
  (rs = [] ∨ ∃ b off, a = some ⟨b, off, none⟩ ∧ ∀ i, i < rs.length → w.cell? ⟨b, off + i, none⟩ = (rs[i]?.map (fun q => q.1))) ∧ ∀ q ∈ rs, BoolsR w q.1 q.2
theorem RelR.same {w w' : World} {v : Value} {rs : List BolP} (h : RelR w v rs) (g : w.grownBy w' none) : RelR w' v rs := by
  obtain ⟨a, cap, rfl, hl, hc, hr⟩ := h
  refine ⟨a, cap, rfl, hl, ?_, fun q hq => (hr q hq).same g⟩
  rcases hc with hc | ⟨b, off, rfl, hc⟩
  · exact .inl hc
  · refine .inr ⟨b, off, rfl, fun i hi => ?_⟩
    have h1 := hc i hi
    rw [List.getElem?_eq_getElem hi] at h1 ⊢
    exact g.cell h1 (by simp)
/-- A value of the table, with the cells on the way to it. -/
theorem RelR.at {w : World} {v : Value} {rs : List BolP} (h : RelR w v rs) {k j : Nat} (hk : k < rs.length) (hj : j < rs[k].2.length) :
    ∃ b off cap b2 off2 cap2, v = .slice (some ⟨b, off, none⟩) rs.length cap ∧ w.cell? ⟨b, off + k, none⟩ = some (.slice (some ⟨b2, off2, none⟩) rs[k].2.length cap2) ∧ w.cell? ⟨b2, off2 + j, none⟩ = some (.bool (atB (rs.map Prod.snd) k j)) := by
  obtain ⟨a, cap, rfl, -, hc, hr⟩ := h
  rcases hc with rfl | ⟨b, off, rfl, hc⟩
  · simp at hk
  · have h1 := hc k hk
    rw [List.getElem?_eq_getElem hk] at h1
    obtain ⟨a2, cap2, e, -, h2⟩ := hr _ (List.getElem_mem hk)
    rcases h2 with h2 | ⟨b2, off2, rfl, h2⟩
    · rw [h2] at hj; simp at hj
    · have h3 := h2 j hj
      rw [Option.map_some, e] at h1
      refine ⟨b, off, cap, b2, off2, cap2, rfl, h1, ?_⟩
      rw [h3]
      unfold atB
      rw [List.getElem?_map, List.getElem?_eq_getElem hk]
      simp [hj]
/-- A cell with an arc, and one with the table. -/
structure HeldM (w : World) (c d : Nat) (p : Int × Nat) (rv : Value) (rs : List BolP) : Prop where
  c0 : w.cell? ⟨c, 0, none⟩ = some (.int .i64 p.1)
  c1 : w.cell? ⟨c, 1, none⟩ = some (.int .i64 (p.2 : Int))
  d0 : w.cell? ⟨d, 0, none⟩ = some rv
  r : RelR w rv rs
theorem HeldM.same {w w' : World} {c d : Nat} {p : Int × Nat} {rv : Value} {rs : List BolP} (h : HeldM w c d p rv rs) (g : w.grownBy w' none) : HeldM w' c d p rv rs :=
  ⟨g.cell h.c0 (by simp), g.cell h.c1 (by simp), g.cell h.d0 (by simp), h.r.same g⟩
def answers (p : Int × Nat) (rs : List BolP) (q : Ar) : Bool := q.1 == p.1 && atB (rs.map Prod.snd) p.2 q.2.toNat
set_option maxRecDepth 100000 in
set_option maxHeartbeats 2000000 in
theorem pred_match (ol : Int) (on : Nat) (p : Int × Nat) (c d : Nat) (rv : Value) (rs : List BolP) (w : World) (h : HeldM w c d p rv rs) (ht : p.2 < rs.length) (ho : ∀ q ∈ rs, on < q.2.length) (hm : ∀ q ∈ rs, q.2.length ≤ 128) (hm2 : rs.length ≤ 128) :
    Calls Try.prog 62 #[.agg #[.int .i64 ol, .int .i64 (on : Int)], .pointer (some ⟨c, 0, none⟩), .pointer (some ⟨d, 0, none⟩)] w fun e w' => e = .returned (.bool (answers p rs (ol, (on : Int)))) ∧ w.grownBy w' none := by
  have HX := Lib.hid (h.same (World.grownBy_alloc w (.cells #[.int .i64 ol, .int .i64 (on : Int)] 61) none))
  have GX := Lib.hid (World.grownBy_alloc w (.cells #[.int .i64 ol, .int .i64 (on : Int)] 61) none)
  obtain ⟨pl, pn⟩ := p
  have c0 := HX.out.c0; have c1 := HX.out.c1; have d0 := HX.out.d0
  dsimp only at c0 c1 ht
  have hj := ho _ (List.getElem_mem ht)
  have hmj := hm _ (List.getElem_mem ht)
  obtain ⟨b, off, cap, b2, off2, cap2, hv, x1, x2⟩ := HX.out.r.at ht hj
  subst hv
  generalize hrl : (rs[pn]).2.length = m at *
  have hAN : answers (pl, pn) rs (ol, (on : Int)) = (ol == pl && atB (rs.map Prod.snd) pn on) := by unfold answers; simp
  rw [hAN]
  generalize atB (rs.map Prod.snd) pn on = bv at *
  clear h ho hm hAN hrl
  have i1 : (pn : Int) < (rs.length : Int) := by omega
  have i2 : (on : Int) < (m : Int) := by omega
  go_enter Try.func62, Try.ntmps62
  by_cases he : ol = pl
  · have e1 : (ol == pl) = true := by simpa using he
    rw [e1]
    clear he
    go_wp2_with fail
    go_quiet (fail)
    go_wp2_with fail
    go_ret
    exact ⟨rfl, grown_trans GX.out (grown_drewN _ _ _)⟩
  · have e1 : (ol == pl) = false := by simpa using he
    rw [e1]
    clear he
    go_wp2_with fail
    go_quiet (fail)
    go_wp2_with fail
    go_ret
    exact ⟨rfl, grown_trans GX.out (grown_drewN _ _ _)⟩
/-- What the closure of matches asks. -/
def MatchOk (w : World) (c d : Nat) (p : Int × Nat) (rv : Value) (rs : List BolP) (l : List Ar) : Prop :=
  HeldM w c d p rv rs ∧ p.2 < rs.length ∧ rs.length ≤ 128 ∧ (∀ q ∈ rs, q.2.length ≤ 128) ∧ ∀ a ∈ l, 0 ≤ a.2 ∧ ∀ q ∈ rs, a.2 < (q.2.length : Int)
set_option maxRecDepth 100000 in
set_option maxHeartbeats 2000000 in
theorem index_match (v : Value) (l : List Ar) (p : Int × Nat) (c d : Nat) (rv : Value) (rs : List BolP) (w : World) (h : ArcsR w v l) (hp : MatchOk w c d p rv rs l) :
    Calls Try.prog 59 #[v, .func (.func 62) #[] #[.pointer (some ⟨c, 0, none⟩), .pointer (some ⟨d, 0, none⟩)]] w (IdxA (l.any (answers p rs)) w) := by
  have H := Lib.hid h
  have HP := Lib.hid hp
  clear hp
  obtain ⟨a, cap, rfl, hl, -⟩ := h
  unfold maxLen at hl
  go_enter Try.func59, Try.ntmps59
  go_wp2_with fail
  go_loopw [8] (fun i wr => ∃ k : Nat, k ≤ l.length ∧ i = .int .i64 k ∧ Hid ((l.take k).any (answers p rs) = false) ∧ Hid (w.grownBy wr none)) (fun i _ => l.length - (intOf i).toNat)
  case atStart => exact ⟨0, Nat.zero_le _, rfl, Lib.hid (by simp), Lib.hid (grown_refl _ _)⟩
  case round =>
    obtain ⟨k, hk, rfl, hn, hg⟩ := hrel
    by_cases hlt : k < l.length
    · obtain ⟨b, off, cap', hv, c1, c2⟩ := (H.out.same hg.out).at hlt
      simp only [Value.slice.injEq] at hv
      obtain ⟨rfl, -, rfl⟩ := hv
      have HM := Lib.hid (List.getElem_mem hlt)
      have HS := Lib.hid (anyA_snoc (answers p rs) l k hlt)
      have HT := Lib.hid (anyA_hit (answers p rs) l k hlt)
      have HC := Lib.hid (HP.out.1.same hg.out)
      have h1 : (k : Int) < (l.length : Int) := by omega
      generalize (l[k]) = q at *
      obtain ⟨ql, qt⟩ := q
      dsimp only at c1 c2
      obtain ⟨on, rfl⟩ : ∃ on : Nat, qt = (on : Int) := ⟨qt.toNat, by have := (HP.out.2.2.2.2 _ HM.out).1; dsimp only at this; omega⟩
      have HON : Hid (∀ q ∈ rs, on < q.2.length) := Lib.hid (fun q hq => by have := (HP.out.2.2.2.2 _ HM.out).2 q hq; dsimp only at this; omega)
      go_wp2_with fail
      refine (pred_match ql on p c d rv rs _ HC.out HP.out.2.1 HON.out HP.out.2.2.2.1 HP.out.2.2.1).mono ?_
      rintro e w1 ⟨rfl, hg1⟩
      have HG := Lib.hid (grown_trans hg.out hg1)
      clear hg1
      cases hb : ((answers p rs) (ql, (on : Int)))
      · rw [hb] at HS
        go_wp2_with fail
        go_roundw
        case rel => exact ⟨k + 1, by omega, by go_num, Lib.hid (by rw [HS.out, hn.out]; rfl), HG⟩
        case measure => simp [intOf]; omega
      · go_wp2_with fail
        go_ret
        exact ⟨k, rfl, by rw [HT.out hb]; simp, HG.out⟩
    · have hne : (l.any (answers p rs)) = false := by have := hn.out; rwa [List.take_of_length_le (by omega)] at this
      have HN := Lib.hid hne
      clear hne
      go_wp2_with fail
      go_ret
      exact ⟨-1, rfl, by rw [HN.out]; rfl, hg.out⟩
set_option maxRecDepth 100000 in
theorem has_match (v : Value) (l : List Ar) (p : Int × Nat) (c d : Nat) (rv : Value) (rs : List BolP) (w : World) (h : ArcsR w v l) (hp : MatchOk w c d p rv rs l) :
    Calls Try.prog 38 #[v, .func (.func 62) #[] #[.pointer (some ⟨c, 0, none⟩), .pointer (some ⟨d, 0, none⟩)]] w fun e w' => e = .returned (.bool (l.any (answers p rs))) ∧ w.grownBy w' none := by
  have H := Lib.hid h
  have HP := Lib.hid hp
  clear hp
  obtain ⟨a, cap, rfl, hl, -⟩ := h
  go_enter Try.func38, Try.ntmps38
  go_wp2_with fail
  refine (index_match (l := l) (w := w) (h := H.out) (hp := HP.out)).mono ?_
  rintro e w' ⟨k, rfl, hk, hg⟩
  have HK := Lib.hid hk; have HG := Lib.hid hg
  clear hk hg
  go_wp2_with fail
  go_ret
  exact ⟨ret_bool HK.out, HG.out⟩
/-- The states and the table that matches looks at. -/
structure MatD (w : World) (va vb rv : Value) (sa sb : List ArcP) (rs : List BolP) : Prop where
  a : SysW w va sa
  b : SysW w vb sb
  r : RelR w rv rs
  ra : rs.length = sa.length
  rb : ∀ q ∈ rs, q.2.length = sb.length
  va : VS (sa.map Prod.snd)
  vb : VS (sb.map Prod.snd)
  la : sa.length ≤ 128
  lb : sb.length ≤ 128
theorem MatD.same {w w' : World} {va vb rv : Value} {sa sb : List ArcP} {rs : List BolP} (h : MatD w va vb rv sa sb rs) (g : w.grownBy w' none) : MatD w' va vb rv sa sb rs :=
  ⟨h.a.same g, h.b.same g, h.r.same g, h.ra, h.rb, h.va, h.vb, h.la, h.lb⟩
theorem arcs_map {sa : List ArcP} {x : Nat} (h : x < sa.length) : arcsOf (sa.map Prod.snd) x = sa[x].2 := by
  unfold arcsOf
  simp [h]
theorem all_stop {P : Ar → Bool} {l : List Ar} {k : Nat} (hk : k < l.length) (h : P l[k] = false) : l.all P = false := by
  rw [← Bool.not_eq_true, List.all_eq_true]
  intro h3
  rw [h3 _ (List.getElem_mem hk)] at h
  cases h
theorem all_more {P : Ar → Bool} {l : List Ar} {k : Nat} (hk : k < l.length) (h0 : (l.take k).all P = true) (h : P l[k] = true) : (l.take (k + 1)).all P = true := by
  rw [List.take_succ_eq_append_getElem hk, List.all_append, h0]
  simp [h]
set_option maxRecDepth 100000 in
set_option maxHeartbeats 4000000 in
theorem matches_any (va vb rv : Value) (sa sb : List ArcP) (rs : List BolP) (x y : Nat) (w : World) (h : MatD w va vb rv sa sb rs) (hx : x < sa.length) (hy : y < sb.length) :
    Calls Try.prog 45 #[va, vb, rv, .int .i64 x, .int .i64 y] w fun e w' => e = .returned (.bool (matchB (arcsOf (sa.map Prod.snd) x) (arcsOf (sb.map Prod.snd) y) (rs.map Prod.snd))) ∧ w.grownBy w' none := by
  have H := Lib.hid h
  obtain ⟨ax, ea, ha⟩ := h.a
  obtain ⟨bx, eb, hb⟩ := h.b
  obtain ⟨ra, rcap, er, -, -⟩ := h.r
  have hla := h.la; have hlb := h.lb
  have HVA := Lib.hid (fun p hp => h.va.at (x := x) (p := p) hp)
  have HVB := Lib.hid h.vb
  clear h
  subst ea eb er
  have HAX := Lib.hid ha; have HBX := Lib.hid hb
  obtain ⟨ba, aoff, acap, ev, xa, har⟩ := ha.at hx
  obtain ⟨bb, boff, bcap, ev2, xb, hbr⟩ := hb.at hy
  subst ev ev2
  rw [arcs_map hx, arcs_map hy]
  rw [arcs_map hx] at HVA
  have HVB2 : Hid (∀ a ∈ sb[y].2, 0 ≤ a.2 ∧ a.2 < (sb.length : Int)) := Lib.hid (fun a ha => by
    have := HVB.out _ (List.mem_map.2 ⟨_, List.getElem_mem hy, rfl⟩) a ha
    rwa [List.length_map] at this)
  have HVA2 : Hid (∀ a ∈ sa[x].2, 0 ≤ a.2 ∧ a.2.toNat < sa.length) := Lib.hid (fun a ha => by
    have h1 := H.out.va _ (List.mem_map.2 ⟨_, List.getElem_mem hx, rfl⟩) a ha
    rw [List.length_map] at h1
    exact ⟨h1.1, by omega⟩)
  clear HVA HVB ha hb
  generalize sa[x] = pa at *
  generalize sb[y] = pb at *
  obtain ⟨av, la⟩ := pa
  obtain ⟨bv, lb⟩ := pb
  dsimp only at xa xb har hbr HVA2 HVB2
  have HAR := Lib.hid har; have HBR := Lib.hid hbr
  obtain ⟨aa, ac, rfl, hal, -⟩ := har
  obtain ⟨bbb, bc, rfl, -, -⟩ := hbr
  unfold maxLen at hal
  have xi : (x : Int) < (sa.length : Int) := by omega
  have yi : (y : Int) < (sb.length : Int) := by omega
  obtain ⟨w3, hw3⟩ : ∃ w3, w3 = (((w.alloc (.cells #[.slice (some ⟨ba, aoff, none⟩) sa.length acap] 25)).alloc (.cells #[.slice (some ⟨bb, boff, none⟩) sb.length bcap] 25)).alloc (.cells #[.slice ra rs.length rcap] 29)) := ⟨_, rfl⟩
  have hg3 : w.grownBy w3 none := by rw [hw3]; exact grown_aft2 (grown_aft2 (World.grownBy_alloc _ _ _))
  have hc1 : w3.cell? ⟨w.heap.size + 1, 0, none⟩ = some (.slice (some ⟨bb, boff, none⟩) sb.length bcap) := by
    rw [hw3]
    refine (World.grownBy_alloc _ _ none).cell ?_ (by simp)
    rw [World.cell?, heap_new _ (by show _ = (w.heap.push _).size; simp)]
    rfl
  have hc2 : w3.cell? ⟨w.heap.size + 2, 0, none⟩ = some (.slice ra rs.length rcap) := by
    rw [hw3, World.cell?, heap_new _ (by show _ = ((w.heap.push _).push _).size; simp)]
    rfl
  have xa3 := hg3.cell xa (by simp)
  have HG3 := Lib.hid hg3; have HC1 := Lib.hid hc1; have HC2 := Lib.hid hc2; have XB := Lib.hid xb
  rw [hw3] at xa3
  go_enter Try.func45, Try.ntmps45
  clear hg3 hc1 hc2 xb xa
  have HW3 := Lib.hid hw3
  clear hw3
  go_wp2_with fail
  rw [← HW3.out]
  clear xa3
  go_loopw [20] (fun i wr => ∃ k : Nat, i = .int .i64 k ∧ k ≤ la.length ∧ Hid ((la.take k).all (fun p => lb.any (fun q => q.1 == p.1 && atB (rs.map Prod.snd) p.2.toNat q.2.toNat)) = true) ∧ Hid (w3.grownBy wr none)) (fun i _ => la.length - (intOf i).toNat)
  case atStart => exact ⟨0, rfl, Nat.zero_le _, Lib.hid (by simp), Lib.hid (grown_refl _ _)⟩
  case round =>
    obtain ⟨k, rfl, hk, hz, hg⟩ := hrel
    by_cases hlt : k < la.length
    · have hki : (k : Int) < (la.length : Int) := by omega
      obtain ⟨b, off, cap', hv, c1, c2⟩ := (HAR.out.same (grown_trans HG3.out hg.out)).at hlt
      simp only [Value.slice.injEq] at hv
      obtain ⟨rfl, -, rfl⟩ := hv
      have hpa := HVA2.out _ (List.getElem_mem hlt)
      have HY : Hid (lb.any (fun q => q.1 == (la[k]).1 && atB (rs.map Prod.snd) (la[k]).2.toNat q.2.toNat) = true → (la.take (k + 1)).all (fun p => lb.any (fun q => q.1 == p.1 && atB (rs.map Prod.snd) p.2.toNat q.2.toNat)) = true) := Lib.hid (fun h => all_more (P := fun p : Ar => lb.any (fun q => q.1 == p.1 && atB (rs.map Prod.snd) p.2.toNat q.2.toNat)) hlt hz.out h)
      have HN : Hid (lb.any (fun q => q.1 == (la[k]).1 && atB (rs.map Prod.snd) (la[k]).2.toNat q.2.toNat) = false → la.all (fun p => lb.any (fun q => q.1 == p.1 && atB (rs.map Prod.snd) p.2.toNat q.2.toNat)) = false) := Lib.hid (fun h => all_stop (P := fun p : Ar => lb.any (fun q => q.1 == p.1 && atB (rs.map Prod.snd) p.2.toNat q.2.toNat)) hlt h)
      generalize la[k] = p at *
      obtain ⟨pl, pt⟩ := p
      dsimp only at c1 c2 hpa HY HN
      obtain ⟨tn, rfl⟩ : ∃ tn : Nat, pt = (tn : Int) := ⟨pt.toNat, by omega⟩
      have htn : tn < rs.length := by rw [H.out.ra]; have := hpa.2; omega
      obtain ⟨wc, hwc⟩ : ∃ wc, wc = wr.alloc (.cells #[.int .i64 pl, .int .i64 (tn : Int)] 61) := ⟨_, rfl⟩
      have hgc : wr.grownBy wc none := by rw [hwc]; exact World.grownBy_alloc _ _ _
      have hgw := grown_trans HG3.out (grown_trans hg.out hgc)
      have cb := (grown_trans hg.out hgc).cell HC1.out (by simp)
      have xb := hgw.cell XB.out (by simp)
      have HMO : Hid (MatchOk wc wr.heap.size (w.heap.size + 2) (pl, tn) (.slice ra rs.length rcap) rs lb) := Lib.hid ⟨⟨by rw [hwc, World.cell?, heap_new _ rfl]; rfl, by rw [hwc, World.cell?, heap_new _ rfl]; rfl, (grown_trans hg.out hgc).cell HC2.out (by simp), H.out.r.same hgw⟩, htn, by have := H.out.ra; omega, fun q hq => by have := H.out.rb q hq; omega, fun a ha => ⟨(HVB2.out a ha).1, fun q hq => by rw [H.out.rb q hq]; exact (HVB2.out a ha).2⟩⟩
      have HBW := Lib.hid (HBR.out.same hgw)
      have HGC := Lib.hid (grown_trans hg.out hgc)
      have HWC := Lib.hid hwc
      rw [hwc] at cb xb
      clear hwc hgc hgw hpa htn
      go_wp2_with fail
      rw [← HWC.out]
      clear cb xb
      refine (has_match (l := lb) (w := wc) (h := HBW.out) (hp := HMO.out)).mono ?_
      rintro e w5 ⟨rfl, hg5⟩
      have HG5 := Lib.hid (grown_trans HGC.out hg5)
      clear hg5
      have HANS : Hid (lb.any (answers (pl, tn) rs) = lb.any (fun q => q.1 == pl && atB (rs.map Prod.snd) ((tn : Int)).toNat q.2.toNat)) := Lib.hid rfl
      cases hh : lb.any (answers (pl, tn) rs) with
      | true =>
        have HY2 := Lib.hid (HY.out (HANS.out.symm.trans hh))
        go_wp2_with fail
        go_roundw
        case rel => exact ⟨k + 1, by go_num, by omega, HY2, HG5⟩
        case measure => simp [intOf]; omega
      | false =>
        have HN2 := Lib.hid (HN.out (HANS.out.symm.trans hh))
        go_wp2_with fail
        go_ret
        exact ⟨ret_bool (by unfold matchB; exact HN2.out.symm), grown_trans HG3.out HG5.out⟩
    · have hki : ¬ (k : Int) < (la.length : Int) := by omega
      have HY2 := Lib.hid (show la.all (fun p => lb.any (fun q => q.1 == p.1 && atB (rs.map Prod.snd) p.2.toNat q.2.toNat)) = true by have := hz.out; rwa [List.take_of_length_le (by omega)] at this)
      go_wp2_with fail
      go_ret
      exact ⟨ret_bool (by unfold matchB; exact HY2.out.symm), grown_trans HG3.out hg.out⟩
end Go.Proofs.Ytelpkcndbcfaiaa
