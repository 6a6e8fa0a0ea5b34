/- Times at a valid set. -/
import Derived.Test.YtgdnlibklopdiaaTa
namespace Go.Proofs.Ytgdnlibklopdiaa
open Go.RowKit
set_option linter.unusedVariables false

theorem cells_one {w : World} {g : Nat} {x y : Value} {e : TypeId} {f : Nat × Nat} (h : w.heap[g]? = some (.cells #[x, y] e f)) : CellsS w g 0 [(x, y)] := by
  intro i hi
  have : i = 0 := by simpa using hi
  subst this
  exact ⟨by unfold World.cell?; dsimp only; rw [h]; rfl, by unfold World.cell?; dsimp only; rw [h]; rfl⟩
theorem lessL_bd {n : Nat} {v b : List Int} (hv : v.length = n) (hb : b.length = n) (h : withB 64 v = true) (h' : ∀ x ∈ b, 0 ≤ x ∧ x ≤ 16) : ∀ x ∈ lessL v b, -1000 ≤ x ∧ x ≤ 64 := by
  intro z hz
  obtain ⟨x, hx, y, hy, rfl⟩ := mem_zipWith _ v b z hz
  have h1 := withB_iff.1 h x hx
  have h2 := h' y hy
  omega

/-- The world behind a box of a set and a list of it. -/
def Boxed (w : World) (x y : Value) : World := (w.alloc (.cells #[x, y] 49)).alloc (.cells #[x, y] 49)
theorem Boxed.grown (w : World) (x y : Value) : w.grownBy (Boxed w x y) none := grown_after (grown_after (grown_refl _ _))
theorem check_boxed (n : Nat) (b : List Int) (ps : List (List Int)) (x y : Value) (w : World) (h : LinV w (.agg #[x, y]) b ps) (hs : ValidS n b ps) :
    Calls Try.prog 38 #[.int .i64 (n : Int), .slice (some ⟨w.heap.size + 1, 0, none⟩) 1 1] (Boxed w x y) fun e w' => e = .returned (.int .i64 0) ∧ w.grownBy w' none ∧ w'.cell? ⟨w.heap.size, 0, none⟩ = some x ∧ w'.cell? ⟨w.heap.size, 1, none⟩ = some y := by
  have hh : (Boxed w x y).heap[w.heap.size + 1]? = some (.cells #[x, y] 49 (0, 0)) := heap_new _ (by show _ = (w.heap.push _).size; simp)
  have h0 : (Boxed w x y).heap[w.heap.size]? = some (.cells #[x, y] 49 (0, 0)) := heap_old _ (heap_new _ rfl)
  have hb : (Boxed w x y).cell? ⟨w.heap.size, 0, none⟩ = some x ∧ (Boxed w x y).cell? ⟨w.heap.size, 1, none⟩ = some y := ⟨by unfold World.cell?; dsimp only; rw [h0]; rfl, by unfold World.cell?; dsimp only; rw [h0]; rfl⟩
  refine (check_any n hs.1 hs.2.1 [(x, y)] (w.heap.size + 1) 0 1 _ (cells_one hh) (by intro u hu; rw [List.mem_singleton.1 hu]; exact ⟨b, ps, h.same (Boxed.grown _ _ _), hs⟩) (by simp)).mono ?_
  rintro e w' ⟨rfl, hg⟩
  exact ⟨rfl, grown_trans (Boxed.grown _ _ _) hg, hg.cell hb.1 (by simp), hg.cell hb.2 (by simp)⟩

set_option maxRecDepth 100000 in
set_option maxHeartbeats 1500000 in
theorem Times_any (n : Nat) (sv vv : Value) (b v : List Int) (ps : List (List Int)) (w : World) (h : LinV w sv b ps) (hs : ValidS n b ps) (hr : RowOk w (vv, v)) (hvl : v.length = n) (hv64 : withB 64 v = true) :
    Calls Try.prog 40 #[sv, vv] w (GivesT ps (lessL v b) w) := by
  obtain ⟨vb, vp, qs, rfl, hb, hq, hg, rfl⟩ := h
  have hbl := hs.2.2.1
  subst hbl
  have hn1 := hs.1
  have hn4 := hs.2.1
  have HS := Lib.hid hs; have HB := Lib.hid hb; have HQ := Lib.hid hq; have HGd := Lib.hid hg; have HR := Lib.hid hr; have HL := Lib.hid hvl; have H64 := Lib.hid hv64
  obtain ⟨⟨ab, cb, hvb, -, -, -⟩, -, -⟩ := hb
  obtain ⟨⟨av, cv, hvv, -, -, -⟩, -, -⟩ := hr
  dsimp only at hvb hvv
  subst hvb hvv
  obtain ⟨ap, cp, rfl, -, -, -⟩ := hq
  have hd : ((v.length : Int) != (b.length : Int)) = false := by rw [hvl]; simp
  have hd' : (v.length == b.length) = true := by rw [hvl]; simp
  clear hs hg hvl hv64
  go_enter Try.func40, Try.ntmps40
  go_wp2_with fail
  refine (check_boxed _ b (qs.map Prod.snd) _ _ w ⟨_, _, qs, rfl, HB.out, HQ.out, HGd.out, rfl⟩ HS.out).mono ?_
  rintro e w3 ⟨rfl, hg3, c0, c1⟩
  have G3 := Lib.hid hg3; have C0 := Lib.hid c0; have C1 := Lib.hid c1
  clear hg3 c0 c1
  go_wp2_with fail
  refine (within_any _ v _ _ (HR.out.same G3.out).1).mono ?_
  rintro e w9 ⟨rfl, hw9⟩
  subst hw9
  rw [H64.out]
  rename World => w3
  have hlt3 : w.heap.size < w3.heap.size := World.block_lt_of_cell? _ _ C0.out
  go_wp2_with (at_make; refine make_int rfl _ _ rfl b.length rfl rfl (by omega) ?_)
  intro w4 ho4 hg4
  have O4 := Lib.hid ho4; have G4 := Lib.hid (grown_trans G3.out hg4)
  have B4 := G3.out.size
  replace C0 := Lib.hid (hg4.cell C0.out (by simp)); replace C1 := Lib.hid (hg4.cell C1.out (by simp))
  clear ho4 hg4
  have hvb4 : v.length ≤ 4 := by rw [HL.out]; exact hn4
  go_wp2_with fail
  go_loopw [33] (fun i wr => ∃ (k : Nat) (zs : List Int), i = .int .i64 k ∧ k ≤ v.length ∧ Hid (zs.length = b.length ∧ zs.take k = (lessL v b).take k) ∧ Hid (OwnI wr w3.heap.size (.slice (some ⟨w3.heap.size, 0, none⟩) b.length b.length) zs) ∧ Hid (w4.grownBy wr (some w3.heap.size))) (fun i _ => v.length - (intOf i).toNat)
  case atStart => exact ⟨0, _, rfl, Nat.zero_le _, Lib.hid ⟨by simp, by simp⟩, O4, Lib.hid (grown_refl _ _)⟩
  case round =>
    obtain ⟨k, zs, rfl, hk, hz, ho, hg⟩ := hrel
    rename World => wk
    have c0 := hg.out.cell C0.out (by simp; omega)
    have c1 := hg.out.cell C1.out (by simp; omega)
    have GK : Hid (w.grownBy wk none) := Lib.hid (grown_then G4.out hg.out (by rintro j ⟨⟩; exact .inl B4))
    by_cases hlt : k < v.length
    · have hlt' : k < b.length := by rw [HL.out] at hlt; exact hlt
      obtain ⟨⟨_, _, hv, _, _, hc⟩, -, -⟩ := HR.out.same GK.out
      simp only [Value.slice.injEq] at hv
      obtain ⟨rfl, -, -⟩ := hv
      obtain ⟨⟨_, _, hv, _, _, hc'⟩, -, -⟩ := HB.out.same GK.out
      simp only [Value.slice.injEq] at hv
      obtain ⟨rfl, -, -⟩ := hv
      obtain ⟨b1, o1, rfl, hx⟩ := Ints.at hc hlt
      obtain ⟨b2, o2, rfl, hx'⟩ := Ints.at hc' hlt'
      have hbx := mem_at (withB_iff.1 H64.out) hlt
      have hby := mem_at HS.out.2.2.2.1 hlt'
      have HZ : Hid ((lessL v b)[k]?.getD 0 = v[k]?.getD 0 - b[k]?.getD 0) := Lib.hid (zip_at _ v b k hlt hlt')
      obtain ⟨hcell, hfr⟩ := ho.out.cell k (by have := hz.out.1; omega)
      have h1 : (k : Int) < (v.length : Int) := by omega
      have h2 : (k : Int) < (b.length : Int) := by omega
      clear hc hc'
      generalize v[k]?.getD 0 = x at *
      generalize b[k]?.getD 0 = y at *
      go_wp2_with fail
      go_roundw
      case rel => exact ⟨k + 1, zs.set k (x - y), by go_num, by omega, Lib.hid ⟨by rw [List.length_set]; exact hz.out.1, by rw [← HZ.out]; exact set_take zs _ k (by rw [hz.out.1, lessL_len rfl HL.out]) (by rw [lessL_len rfl HL.out]; exact hlt') hz.out.2⟩, Lib.hid (ho.out.stored k _), Lib.hid (grown_trans hg.out (grown_set _ _ _))⟩
      case measure => simp [intOf]; omega
    · have hq : zs = lessL v b := by
        have h3 := hz.out.1
        have h4 := hz.out.2
        have h5 := HL.out
        rwa [List.take_of_length_le (by omega), List.take_of_length_le (by rw [lessL_len rfl HL.out]; omega)] at h4
      subst hq
      have h1 : ¬ (k : Int) < (v.length : Int) := by omega
      have BD := Lib.hid (lessL_bd HL.out rfl H64.out HS.out.2.2.2.1)
      go_wp2_with fail
      refine (times_any b.length hn1 (by omega) qs _ _ (lessL v b) _ (HQ.out.same GK.out) HGd.out (ho.out.row (fun x hx => by have := BD.out x hx; omega)) (lessL_len rfl HL.out) (fun q hq => HS.out.2.2.2.2.1 _ (List.mem_map_of_mem hq)) BD.out (by have := HS.out.2.2.2.2.2.1; rw [List.length_map] at this; omega)).mono ?_
      rintro e w5 ⟨r, hlr, v5, rfl, ho5, hg5⟩
      have LR := Lib.hid hlr; have O5 := Lib.hid ho5; have G5 := Lib.hid (grown_trans GK.out hg5)
      have B5 := GK.out.size
      clear hlr ho5 hg5
      go_wp2_with fail
      go_ret2
      exact ⟨r, LR.out, _, rfl, O5.out.mono B5, G5.out⟩

end Go.Proofs.Ytgdnlibklopdiaa
