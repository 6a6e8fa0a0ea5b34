/- Deck.Linear. -/
import Derived.Test.YtgdnlibklopdiaaTi
import Derived.Test.YtgdnlibklopdiaaGt
namespace Go.Proofs.Ytgdnlibklopdiaa
open Go.RowKit
set_option linter.unusedVariables false

def RVec (w : World) (d : Nat) (v : Value) (xs : List Int) : Prop := RowOk w (v, xs) ∧ ∀ g, v.ownBlock = some g → d < g
theorem RVec.step {w w' : World} {d : Nat} {v : Value} {xs : List Int} (h : RVec w d v xs) (g : w.grownBy w' none) : RVec w' d v xs := ⟨h.1.same g, h.2⟩
theorem RVec.deal {w w' : World} {d : Nat} {v : Value} {xs : List Int} (h : RVec w d v xs) (g : w.grownBy w' (some d)) : RVec w' d v xs :=
  ⟨h.1.kept g (by rintro k ⟨⟩ e; exact Nat.lt_irrefl _ (h.2 _ e)), h.2⟩
theorem OwnI.rvec {w : World} {base d : Nat} {v : Value} {xs : List Int} (h : OwnI w base v xs) (hb : ∀ x ∈ xs, -9223372036854775808 ≤ x ∧ x ≤ 9223372036854775807) (hd : d < base) : RVec w d v xs :=
  ⟨h.row hb, fun g hg => Nat.lt_of_lt_of_le hd (h.fresh g hg).1⟩
theorem grown_deal {w w1 w2 : World} {d : Nat} (h : w.grownBy w1 (some d)) (h' : w1.grownBy w2 (some d)) : w.grownBy w2 (some d) := grown_then h h' (fun g e => .inr e)
theorem RowsP.far {w w' : World} {d k : Nat} {v : Value} {ps : List Row} (h : RowsP w v ps) (hf : FarR d v ps) (hk : k ≤ d) (g : w.grownBy w' (some k)) : RowsP w' v ps :=
  h.keptR g (fun j hj e => by cases hj; have := hf.1 _ e; omega) (fun p hp j hj e => by cases hj; have := hf.2 p hp _ e; omega)
theorem FarR.mono {d k : Nat} {v : Value} {ps : List Row} (hf : FarR d v ps) (hk : k ≤ d) : FarR k v ps := ⟨fun g h => Nat.lt_of_le_of_lt hk (hf.1 g h), fun p hp g h => Nat.lt_of_le_of_lt hk (hf.2 p hp g h)⟩
theorem St.set {w0 w w' : World} {p : Value} {d k : Nat} (h : St w0 w p d) (g : w.grownBy w' (some k)) (hk : d < k) : St w0 w' p d :=
  ⟨h.1.kept g (by rintro j ⟨⟩; exact hk), grown_then h.2.1 g (by rintro j ⟨⟩; exact .inl (Nat.le_trans h.2.2 (Nat.le_of_lt hk))), h.2.2⟩

/-- A set that the deck dealt. -/
def LinD (w : World) (d n : Nat) (v : Value) (b : List Int) (ps : List (List Int)) : Prop :=
  ∃ vb vp qs, v = .agg #[vb, vp] ∧ RVec w d vb b ∧ RowsP w vp qs ∧ Good vp ∧ FarR d vp qs ∧ qs.map Prod.snd = ps ∧ ValidS n b ps ∧ (∀ x ∈ b, x ≤ 4) ∧ ∀ p ∈ ps, ∀ x ∈ p, x ≤ 4
def LinDeal (n : Nat) (w0 w : World) (p : Value) (d : Nat) (e : Ending) (w' : World) : Prop := ∃ v b ps, e = .returned v ∧ LinD w' d n v b ps ∧ St w0 w' p d ∧ w.grownBy w' (some d)
/-- The periods so far. -/
def PersOk (n : Nat) (ps : List (List Int)) : Prop := Asc ps ∧ ∀ p ∈ ps, PerOk n p ∧ ∀ x ∈ p, x ≤ 4
theorem PersOk.put {n : Nat} {ps : List (List Int)} {r : List Int} (h : PersOk n ps) (hr : PerOk n r ∧ ∀ x ∈ r, x ≤ 4) : PersOk n (putL ps r) :=
  ⟨putL_asc r ps h.1, fun p hp => by
    rcases (putL_mem r ps p).1 hp with hp | rfl
    · exact h.2 p hp
    · exact hr⟩
theorem putL_len (r : List Int) : ∀ l : List (List Int), (putL l r).length ≤ l.length + 1
  | [] => by simp [putL]
  | x :: l => by
    have := putL_len r l
    unfold putL
    split
    · simp; omega
    · split <;> simp
/-- A number of a small period is one more. -/
theorem per_set {n m : Nat} {xs : List Int} (hl : xs.length = n) (hp : ∀ x ∈ xs, 0 ≤ x ∧ x ≤ 3) (hm : m < n) : PerOk n (xs.set m (xs[m]?.getD 0 + 1)) ∧ ∀ x ∈ xs.set m (xs[m]?.getD 0 + 1), x ≤ 4 := by
  have hx := mem_at hp (show m < xs.length by omega)
  have hall : ∀ x ∈ xs.set m (xs[m]?.getD 0 + 1), 0 ≤ x ∧ x ≤ 4 := by
    intro x h
    rcases List.mem_or_eq_of_mem_set h with h | rfl
    · have := hp x h; omega
    · omega
  refine ⟨⟨⟨by rw [List.length_set]; exact hl, fun x h => (hall x h).1⟩, ⟨_, List.mem_set (by omega) _, by omega⟩, fun x h => by have := (hall x h).2; omega⟩, fun x h => (hall x h).2⟩
theorem cells_free {w : World} {g : Nat} {x y : Value} {e : TypeId} (h : w.heap[g]? = some (.cells #[x, y] e (0, 0))) : w.frozen? ⟨g, 1, none⟩ = false := by
  unfold World.frozen?; dsimp only; rw [h]; rfl

set_option maxRecDepth 100000 in
set_option maxHeartbeats 1500000 in
theorem linear_st {w0 w : World} {p : Value} {d : Nat} (h : St w0 w p d) (n : Nat) (hn1 : 1 ≤ n) (hn4 : n ≤ 4) :
    Calls Try.prog 37 #[p, .int .i64 (n : Int)] w (LinDeal n w0 w p d) := by
  have HS := Lib.hid h
  clear h
  go_enter Try.func37, Try.ntmps37
  go_wp2_with fail
  have hsz1 : (w.alloc (.cells #[.slice none 0 0, .slice none 0 0] 49)).heap.size = w.heap.size + 1 := by show (w.heap.push _).size = _; simp
  have HS1 := Lib.hid (HS.out.step (World.grownBy_alloc w (.cells #[.slice none 0 0, .slice none 0 0] 49) none))
  have hh1 : (w.alloc (.cells #[.slice none 0 0, .slice none 0 0] 49)).heap[w.heap.size]? = some (.cells #[.slice none 0 0, .slice none 0 0] 49 (0, 0)) := heap_new _ rfl
  have hg1 := World.grownBy_alloc w (.cells #[.slice none 0 0, .slice none 0 0] 49) (some d)
  have hdw := HS.out.lt
  generalize (w.alloc (.cells #[.slice none 0 0, .slice none 0 0] 49)) = w1 at *
  refine (small_any p d n 4 _ HS1.out.1 (by omega) (by omega) (by omega)).mono ?_
  rintro e w2 ⟨vb, b, rfl, hl, hp, ho, hd, hg2⟩
  have hs4 : w.heap.size < w1.heap.size := by omega
  have HB := Lib.hid (ho.rvec (d := w.heap.size) (fun x hx => by have := hp x hx; omega) hs4)
  have HBF := Lib.hid ho.fresh
  have HBL : Hid (b.length = n) := Lib.hid (by rw [hl]; omega)
  have HBP := Lib.hid hp
  obtain ⟨ab, cb, rfl⟩ := ho.slice
  have HS2 := Lib.hid (HS1.out.deal hd hg2)
  have hh2 := (hg2.block _ hs4 (by simp; omega)).trans hh1
  have G2 := Lib.hid (grown_deal hg1 hg2)
  have B2 := hg2.size
  clear ho hl hp hd hg1 hg2 hh1 HS1
  go_wp2_with fail
  have hs25 : w.heap.size < w2.heap.size := by omega
  have HS3 := Lib.hid (HS2.out.step (World.grownBy_alloc w2 (.cells #[.slice ab b.length cb, .slice none 0 0] 49) none))
  have hh3 : (w2.alloc (.cells #[.slice ab b.length cb, .slice none 0 0] 49)).heap[w2.heap.size]? = some (.cells #[.slice ab b.length cb, .slice none 0 0] 49 (0, 0)) := heap_new _ rfl
  have hh3' : (w2.alloc (.cells #[.slice ab b.length cb, .slice none 0 0] 49)).heap[w.heap.size]? = some (.cells #[.slice none 0 0, .slice none 0 0] 49 (0, 0)) := heap_old _ hh2
  have hsz3 : w2.heap.size < (w2.alloc (.cells #[.slice ab b.length cb, .slice none 0 0] 49)).heap.size := by show _ < (w2.heap.push _).size; simp
  have hg3 := World.grownBy_alloc w2 (.cells #[.slice ab b.length cb, .slice none 0 0] 49) (some d)
  generalize (w2.alloc (.cells #[.slice ab b.length cb, .slice none 0 0] 49)) = w3 at *
  refine (next_st HS3.out 4 (by omega) (by omega)).mono ?_
  rintro e w4 ⟨k0, rfl, hk0, hk4, hs, hg4⟩
  have HS4 := Lib.hid hs
  have H4 := Lib.hid ((hg4.block _ (Nat.lt_trans hs25 hsz3) (by simp; omega)).trans hh3')
  have H5 := Lib.hid ((hg4.block _ hsz3 (by simp; omega)).trans hh3)
  have G4 := Lib.hid (grown_deal (grown_deal G2.out hg3) hg4)
  have HB4 := Lib.hid (HB.out.1.kept (grown_deal hg3 hg4) (by rintro k ⟨⟩ e; have := HB.out.2 _ e; omega))
  have HBG : Hid (∀ g, (Value.slice ab b.length cb).ownBlock = some g → w.heap.size < g ∧ g < w2.heap.size) := Lib.hid (fun g h => ⟨HB.out.2 g h, (HBF.out g h).2⟩)
  have hds : d < w2.heap.size := by omega
  have HW2 : Hid (w.heap.size < w2.heap.size) := Lib.hid hs25
  clear hs hg3 hg4 hh3 hh3' hh2 HS3 HB HBF G2 HS2 hsz3 hsz1 hs4 B2
  generalize hsv : w2.heap.size = s at *
  clear hsv
  go_wp2_with fail
  go_loopw [6] (fun i wr => ∃ (k : Int) (vp : Value) (qs : List Row), i = .int .i64 k ∧ 0 ≤ k ∧ (qs.length : Int) + k ≤ 3 ∧ Hid (wr.heap[s]? = some (.cells #[.slice ab b.length cb, vp] 49 (0, 0))) ∧ Hid (wr.heap[w.heap.size]? = some (.cells #[.slice none 0 0, .slice none 0 0] 49 (0, 0))) ∧ Hid (RowsP wr vp qs ∧ Good vp ∧ FarR s vp qs ∧ PersOk n (qs.map Prod.snd)) ∧ Hid (RowOk wr (.slice ab b.length cb, b)) ∧ Hid (St w0 wr p d) ∧ Hid (w.grownBy wr (some d))) (fun i _ => (intOf i).toNat)
  case atStart => exact ⟨k0, _, [], rfl, hk0, by simp; omega, H5, H4, Lib.hid ⟨⟨none, 0, rfl, Nat.zero_le _, .inl rfl, by simp⟩, Good.nil, ⟨by intro g h; simp [Value.ownBlock] at h, by simp⟩, by simp [PersOk, Asc]⟩, HB4, HS4, G4⟩
  case round =>
    clear H5 H4 HB4 HS4 G4
    obtain ⟨k, vp, qs, rfl, hk0, hk3, h5, h4, hq, hb, hs, hg⟩ := hrel
    rename World => wk
    by_cases hlt : 0 < k
    · go_wp2_with fail
      refine (small_any p d n 3 _ hs.out.1 (by omega) (by omega) (by omega)).mono ?_
      rintro e w5 ⟨v5, xs, rfl, hl5, hp5, ho5, hd5, hg5⟩
      obtain ⟨g, c, rfl, hbg, hgc⟩ := ownI_own ho5 (by omega)
      have L5 : Hid (xs.length = n) := Lib.hid (by rw [hl5]; omega)
      have P5 := Lib.hid hp5; have O5 := Lib.hid ho5; have BG5 := Lib.hid hbg
      have S5 := Lib.hid (hs.out.deal hd5 hg5)
      have lk := hs.out.lt
      have ls : s < wk.heap.size := (Array.getElem?_eq_some_iff.1 h5.out).1
      have gs : s < g := by omega
      have gd : d ≠ g := by omega
      have GK5 := Lib.hid hg5
      clear ho5 hp5 hd5 hg5 hl5 hbg hgc
      go_wp2_with fail
      refine (next_st S5.out n (by omega) (by omega)).mono ?_
      rintro e w6 ⟨y, rfl, hy0, hyn, hs6, hg6⟩
      obtain ⟨m, rfl⟩ : ∃ m : Nat, y = m := ⟨y.toNat, by omega⟩
      have hml : m < xs.length := by rw [L5.out]; omega
      have O6 := Lib.hid (O5.out.kept hg6 (by rintro j ⟨⟩; exact lk))
      have S6 := Lib.hid hs6
      have G6 := Lib.hid (grown_deal GK5.out hg6)
      have hxb := mem_at P5.out hml
      obtain ⟨hcell, hfr⟩ := O6.out.cell m hml
      have PS := Lib.hid (per_set L5.out P5.out (by have := L5.out; omega : m < n))
      have hyl : (m : Int) < (xs.length : Int) := by omega
      clear hs6 hg6 O5 S5 GK5
      generalize hX : xs[m]?.getD 0 = x at *
      have HX := Lib.hid hX
      clear hX
      have GS : w6.grownBy (w6.setCell ⟨g, m, none⟩ (.int .i64 (x + 1))) (some g) := grown_set w6 ⟨g, m, none⟩ (.int .i64 (x + 1))
      have G7 := Lib.hid (grown_then G6.out GS (fun j hj => .inl (by cases hj; exact BG5.out)))
      have H57 := Lib.hid ((G7.out.block _ ls (by simp; omega)).trans h5.out)
      have H47 := Lib.hid ((G7.out.block _ (by have := HW2.out; omega) (by simp; omega)).trans h4.out)
      have c57 := (cells_of H57.out).2
      have S7 := Lib.hid (S6.out.set GS (by show d < g; omega))
      have O7 := Lib.hid (O6.out.stored m (x + 1))
      have hsz7 : s < (w6.setCell ⟨g, m, none⟩ (.int .i64 (x + 1))).heap.size := (Array.getElem?_eq_some_iff.1 H57.out).1
      have gs7 : g < w6.heap.size := (O6.out.fresh g rfl).2
      clear GS O6 S6 G6 h5 h4
      go_wp2_with fail
      generalize hw7 : (w6.setCell ⟨g, m, none⟩ (.int .i64 (x + 1))) = w7 at *
      clear c57 hcell hfr hw7
      have R7 := Lib.hid (O7.out.row (fun z hz => by have := PS.out.1.1.2 z hz; have := PS.out.2 z hz; omega))
      have Q7 := Lib.hid (hq.out.1.far hq.out.2.2.1 (by omega) G7.out)
      have XL : Hid ((xs.set m (x + 1)).length = n) := Lib.hid (by rw [List.length_set]; exact L5.out)
      have hpl := put_far s vp _ qs (xs.set m (x + 1)) w7 Q7.out hq.out.2.1 R7.out (by omega) (by rw [XL.out]; omega) hsz7 hq.out.2.2.1
      refine hpl.mono ?_
      rintro e w8 ⟨v8, q8, rfl, hr8, hgd8, hq8, hgw8, hfar8⟩
      have H58 := Lib.hid ((hgw8.block _ hsz7 (by simp)).trans H57.out)
      have H48 := Lib.hid ((hgw8.block _ (by have := HW2.out; omega) (by simp)).trans H47.out)
      have S8 := Lib.hid (S7.out.step hgw8)
      have B8 := Lib.hid ((hb.out.kept G7.out (by rintro j ⟨⟩ e; have := HBG.out _ e; omega)).same hgw8)
      have G8 := Lib.hid (grown_deal hg.out (grown_then G7.out hgw8 (by simp)))
      have QL : Hid (q8.length ≤ qs.length + 1) := Lib.hid (by
        have h1 := congrArg List.length hq8
        have h2 := putL_len (xs.set m (x + 1)) (qs.map Prod.snd)
        rw [List.length_map] at h1 h2
        omega)
      have PQ : Hid (PersOk n (q8.map Prod.snd)) := Lib.hid (by rw [hq8]; exact hq.out.2.2.2.put PS.out)
      have R8 := Lib.hid hr8; have GD8 := Lib.hid hgd8; have F8 := Lib.hid hfar8
      obtain ⟨a8, c8, rfl, -, -, -⟩ := hr8
      have c58 := (cells_of H58.out).2
      have f58 := cells_free H58.out
      clear hpl hgd8 hq8 hgw8 hfar8 hb hq S7 H57 H47 R7 Q7 O7 hg G7
      go_wp2_with fail
      have GS : w8.grownBy (w8.setCell ⟨s, 1, none⟩ (.slice a8 q8.length c8)) (some s) := grown_set w8 ⟨s, 1, none⟩ (.slice a8 q8.length c8)
      have H59 := Lib.hid (heap_set (o := 1) H58.out (.slice a8 q8.length c8))
      have hql := QL.out
      go_roundw
      case rel => exact ⟨k - 1, _, q8, by go_num, by omega, by omega, H59, Lib.hid ((GS.block _ (by have := (Array.getElem?_eq_some_iff.1 H48.out).1; omega) (by have := HW2.out; simp; omega)).trans H48.out), Lib.hid ⟨R8.out.far F8.out (Nat.le_refl _) GS, GD8.out, F8.out, PQ.out⟩, Lib.hid (B8.out.kept GS (by rintro j ⟨⟩ e; have := HBG.out _ e; omega)), Lib.hid (S8.out.set GS hds), Lib.hid (grown_then G8.out GS (fun j hj => .inl (by cases hj; have := HW2.out; omega)))⟩
      case measure => simp [intOf]; omega
    · have hq3 : qs.length ≤ 3 := by omega
      obtain ⟨p1, p2, p3, p4, p5⟩ := put_set (x := .slice ab b.length cb) (y := vp) h4.out
      have VS : Hid (ValidS n b (qs.map Prod.snd)) := Lib.hid ⟨hn1, hn4, HBL.out, fun x hx => by have := HBP.out x hx; omega, fun p hp => (hq.out.2.2.2.2 p hp).1, by rw [List.length_map]; exact hq3, hq.out.2.2.2.1⟩
      have Q := Lib.hid hq.out
      obtain ⟨⟨ap, cp, rfl, -, -, -⟩, -⟩ := hq.out
      have c0 := (cells_of h5.out).1; have c1 := (cells_of h5.out).2
      have P1 := Lib.hid p1
      clear p1 hq
      go_wp2_with fail
      clear p2 p3 p4 p5 c0 c1
      have GW : Hid (wk.grownBy ((wk.setCell ⟨w.heap.size, 0, none⟩ (.slice ab b.length cb)).setCell ⟨w.heap.size, 1, none⟩ (.slice ap qs.length cp)) (some w.heap.size)) := Lib.hid (grown_trans (grown_set _ _ _) (grown_set _ _ _))
      generalize ((wk.setCell ⟨w.heap.size, 0, none⟩ (.slice ab b.length cb)).setCell ⟨w.heap.size, 1, none⟩ (.slice ap qs.length cp)) = W at *
      refine bodyPost_ret (results_cell_row rfl _ _ w.heap.size _ _ _ _ rfl P1.out Try.underlying49 rfl (by kernel_rfl)) rfl ?_
      exact ⟨_, b, qs.map Prod.snd, rfl, ⟨_, _, qs, rfl, ⟨hb.out.kept GW.out (by rintro j ⟨⟩ e; have := HBG.out _ e; omega), fun g h => by have := HBG.out g h; omega⟩, Q.out.1.far Q.out.2.2.1 (Nat.le_of_lt HW2.out) GW.out, Q.out.2.1, Q.out.2.2.1.mono (Nat.le_of_lt hds), rfl, VS.out, fun x hx => (HBP.out x hx).2, fun p hp => (Q.out.2.2.2.2 p hp).2⟩, hs.out.set GW.out hdw, grown_then hg.out GW.out (fun j hj => .inl (by cases hj; exact Nat.le_refl _))⟩

end Go.Proofs.Ytgdnlibklopdiaa
