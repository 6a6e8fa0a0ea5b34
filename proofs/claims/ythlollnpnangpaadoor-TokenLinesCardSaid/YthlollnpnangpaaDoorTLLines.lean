/- TokenLines: for every input it answers true. -/
import Derived.Test.YthlollnpnangpaaDoorYl
import Derived.Test.YthlollnpnangpaaDoorYo
import Derived.Test.YthlollnpnangpaaDoorYp
import Derived.Test.YthlollnpnangpaaDoorYm
import Derived.Test.YthlollnpnangpaaDoorCards
import Derived.Test.YthlollnpnangpaaDoorTie
import Derived.StillTailTactics
import Derived.Outline
import Derived.Lib.ConvBytes
import Derived.Laws.IdiomStrings
import Derived.BigRegion
import Derived.BigQuiet
import Derived.Deep.RegionHeld3
namespace Go.Proofs.YthlollnpnangpaaDoor
open Go.ChangeShapes Go.WideShapes Go.ChangeAt Go.RowKit
set_option linter.unusedVariables false

def BytesAt (w : World) (b : Nat) (l : Bs) : Prop := ∀ j (h : j < l.length), w.cell? ⟨b, j, none⟩ = some (.int .u8 (l[j].toNat : Int))
theorem wf_u8 {n : Int} (h : (Lit.int .u8 n).wf = true) : 0 ≤ n ∧ n ≤ 255 := by
  simpa [Lit.wf, IntKind.min, IntKind.max, IntKind.signed, IntKind.bits] using h
theorem wf_i64 {n : Int} (h : (Lit.int .i64 n).wf = true) : -9223372036854775808 ≤ n ∧ n ≤ 9223372036854775807 := by
  simpa [Lit.wf, IntKind.min, IntKind.max, IntKind.signed, IntKind.bits] using h
theorem bytes_grown (w : World) (e : TypeId) (s : ByteArray) : w.grownBy (Lib.bytesWorld w e s) none :=
  ⟨by unfold Lib.bytesWorld World.freeze; first | rfl | (split <;> rfl), by unfold Lib.bytesWorld World.freeze; first | rfl | (split <;> rfl), by unfold Lib.bytesWorld World.freeze; first | rfl | (split <;> rfl), by rw [Lib.bytesWorld_size]; omega, fun i hi _ => Lib.bytesWorld_at_old w e s i hi⟩
theorem bytes_at (w : World) (e : TypeId) (l : Bs) : BytesAt (Lib.bytesWorld w e ⟨l.toArray⟩) w.heap.size l ∧ ∀ j, j < l.length → (Lib.bytesWorld w e ⟨l.toArray⟩).frozen? ⟨w.heap.size, j, none⟩ = false := by
  refine ⟨fun j hj => ?_, fun j hj => ?_⟩
  · rw [Lib.bytesWorld_cell w e ⟨l.toArray⟩ j hj]
    simp [List.getD, hj]
  · unfold World.frozen?
    dsimp only
    rw [Lib.bytesWorld_at_new]
    have h2 : l.length ≤ (Lib.bytesCells w e ⟨l.toArray⟩).size := by
      simp [Lib.bytesCells]
    simp
    omega
theorem cell_set_ne (w : World) (b j i : Nat) (v : Value) (e : j ≠ i) : (w.setCell ⟨b, j, none⟩ v).cell? ⟨b, i, none⟩ = w.cell? ⟨b, i, none⟩ := by
  unfold World.cell?
  dsimp only
  cases hb : w.heap[b]? with
  | none => simp [World.setCell, Array.getElem?_modify, hb]
  | some o =>
    cases o with
    | cells cs t f =>
      rw [heap_set hb]
      simp [e]
    | _ => simp [World.setCell, Array.getElem?_modify, hb]
theorem bytes_set {w : World} {b : Nat} {l : Bs} (h : BytesAt w b l) {j : Nat} (hj : j < l.length) (c : UInt8) : BytesAt (w.setCell ⟨b, j, none⟩ (.int .u8 (c.toNat : Int))) b (l.set j c) := by
  intro i hi
  rw [List.length_set] at hi
  have h1 := h i hi
  by_cases e : j = i
  · subst e
    rw [List.getElem_set_self]
    unfold World.cell? at h1 ⊢
    dsimp only at h1 ⊢
    cases hb : w.heap[b]? with
    | none => rw [hb] at h1; cases h1
    | some o =>
      cases o with
      | cells cs t f =>
        rw [heap_set hb]
        rw [hb] at h1
        dsimp only at h1 ⊢
        simp only [Option.isSome_none, Bool.false_eq_true, if_false] at h1 ⊢
        rw [Array.getElem?_setIfInBounds_self_of_lt (Array.getElem?_eq_some_iff.1 h1).1]
      | _ => rw [hb] at h1; simp at h1
  · rw [List.getElem_set_ne e]
    rw [← h1]
    exact cell_set_ne w b j i _ e
set_option maxRecDepth 100000 in
set_option maxHeartbeats 4000000 in
theorem walkTokenLines (a0 : Option Addr) (len0 cap0 : Nat) (z0 : List Int) (at_ by_ : Int) (w : World) (w0 : IsRow .i64 w a0 len0 cap0 z0) (hat : (Lit.int .i64 at_).wf = true) (hby : (Lit.int .u8 by_).wf = true) (hT : TabP w) :
    Calls Tryd.prog 6 #[.slice a0 len0 cap0, .int .i64 at_, .int .u8 by_] w fun e w' => e = .returned (.bool true) ∧ Below w.heap.size w w' := by
  have hat2 := wf_i64 hat
  have hby2 := wf_u8 hby
  obtain ⟨cb, hcb⟩ : ∃ c : UInt8, by_ = (c.toNat : Int) := ⟨UInt8.ofNat by_.toNat, by rw [UInt8.toNat_ofNat']; omega⟩
  subst hcb
  clear hat hby hby2
  obtain ⟨hI, hlen⟩ := w0.ints
  generalize z0.take len0 = zs at hI hlen
  subst hlen
  have HI := Lib.hid hI; have HT := Lib.hid hT
  clear hI w0 hT
  by_cases hfew : (zs.length : Int) ≤ 400
  · go_enter Tryd.func6, Tryd.ntmps6
    go_wp2_with fail
    refine (awake14_any _ HT.out).mono ?_
    rintro e w1 ⟨rfl, hg⟩
    have HG := Lib.hid hg
    clear hg
    go_wp2_with fail
    refine (few_any _ _ _ _).mono ?_
    rintro e w2 ⟨rfl, rfl⟩
    rw [decide_eq_true hfew]
    go_wp2_with fail
    refine (new_st (HI.out.same HG.out) HG.out).mono ?_
    rintro e w3 ⟨p, d, rfl, hs⟩
    have HS := Lib.hid hs
    clear hs HG HI
    go_wp2_with fail
    refine (text_st HS.out).mono ?_
    rintro e w4 ⟨tx, rfl, hl, hs, hg⟩
    replace HS := Lib.hid hs
    have HL := Lib.hid hl
    clear hs hg hl
    have HG4 := Lib.hid HS.out.2.1
    clear HS
    go_wp2_with fail
    rw [Lib.run_convert_string_bytes w4 9 31 5 ⟨tx.toArray⟩ Tryd.underlying9 Tryd.underlying31 Tryd.underlying5]
    simp only [Result.andThen]
    rw [Oper.upon_value]
    have hsz : (⟨tx.toArray⟩ : ByteArray).size = tx.length := rfl
    obtain ⟨hb1, hb2⟩ := bytes_at w4 5 tx
    have HG5 := Lib.hid (grown_trans HG4.out (bytes_grown w4 5 ⟨tx.toArray⟩))
    have HB1 := Lib.hid hb1; have HB2 := Lib.hid hb2
    have hszw : w.heap.size ≤ w4.heap.size := HG4.out.size
    have HSW := Lib.hid hszw
    generalize Lib.bytesWorld w4 5 ⟨tx.toArray⟩ = w5 at *
    generalize grownCap w4 _ 0 5 = cp5 at *
    clear hb1 hb2 hszw
    by_cases hne : tx = []
    · have hpos : ¬ (0 : Int) < (tx.length : Int) := by rw [hne]; simp
      clear hne
      go_wp2_with fail
      obtain ⟨bb, hbl, hbb, hgB⟩ : ∃ bb : Bs, bb.length = tx.length ∧ BytesAt w5 w4.heap.size bb ∧ w.grownBy w5 none := ⟨tx, rfl, HB1.out, HG5.out⟩
      generalize w5 = wB at *
      have HBB := Lib.hid hbb; have HGB := Lib.hid hgB
      have HBL : Hid (bb.length ≤ 195) := Lib.hid (by rw [hbl]; exact HL.out)
      rw [← hbl]
      clear hbb hgB hbl
      go_loop [42, 9] (fun i j => ∃ q : Nat, i = .int .i64 q ∧ j = .int .i64 ((1 + (bb.take q).count 10 : Nat) : Int) ∧ q ≤ bb.length) (fun i _ => bb.length - (intOf i).toNat)
      case atStart => exact ⟨0, rfl, by simp, Nat.zero_le _⟩
      case round =>
        obtain ⟨q, rfl, rfl, hq⟩ := hrel
        by_cases hlt : q < bb.length
        · have h1 : (q : Int) < (bb.length : Int) := by omega
          have hq195 := HBL.out
          have hc0 := HBB.out q hlt
          have HN : Hid ((bb.take (q + 1)).count 10 = (bb.take q).count 10 + if bb[q] = 10 then 1 else 0) := Lib.hid (by
            rw [List.take_succ_eq_append_getElem hlt, List.count_append]
            by_cases e : bb[q] = 10
            · rw [if_pos e, e]; simp
            · rw [if_neg e, List.count_singleton, if_neg (by simpa using e)])
          have hcl : (bb.take q).count 10 ≤ 195 := by have := HBL.out; have := List.count_le_length (a := (10 : UInt8)) (l := bb.take q); rw [List.length_take] at this; omega
          generalize hc : bb[q] = c at *
          generalize (bb.take q).count 10 = z at *
          by_cases hten : c = 10
          · have hb1 : (((c.toNat : Int)) == 10) = true := by rw [hten]; rfl
            rw [if_pos hten] at HN
            have ww : IntKind.i64.wrap (((1 + z : Nat) : Int) + 1) = ((1 + (z + 1) : Nat) : Int) := by rw [IntWalk.i64_in _ (by omega)]; omega
            clear hten hc
            go_wp2_with fail
            go_round
            case rel => exact ⟨q + 1, by go_num, by rw [HN.out] <;> first | rfl | omega, by omega⟩
            case measure => simp [intOf]; omega
          · have hb1 : (((c.toNat : Int)) == 10) = false := by
              simp only [beq_eq_false_iff_ne, ne_eq]
              intro h
              exact hten (UInt8.toNat_inj.1 (by simpa using (by omega : c.toNat = 10)))
            rw [if_neg hten] at HN
            clear hten hc
            go_wp2_with fail
            go_round
            case rel => exact ⟨q + 1, by go_num, by rw [HN.out] <;> first | rfl | omega, by omega⟩
            case measure => simp [intOf]; omega
        · have h1 : ¬ (q : Int) < (bb.length : Int) := by omega
          rw [List.take_of_length_le (by omega)]
          have HLN := Lib.hid (lines_count _ bb (Nat.le_refl _))
          have hcl : bb.count 10 ≤ 195 := by have := HBL.out; have := List.count_le_length (a := (10 : UInt8)) (l := bb); omega
          generalize hcn : bb.count 10 = cn at *
          clear hcn
          go_wp2_with fail
          rw [run_convert_bytes_back wB 31 9 5 ⟨w4.heap.size, 0, none⟩ cp5 bb Tryd.underlying31 Tryd.underlying5 Tryd.underlying9 (fun j hj => by have := HBB.out j hj; rw [show (⟨w4.heap.size, 0, none⟩ : Addr).add j = ⟨w4.heap.size, j, none⟩ by simp [Addr.add]; omega]; exact this)]
          simp only [Result.andThen]
          rw [Oper.upon_value]
          go_wp2_with fail
          refine (Scan_any bb (by have := HBL.out; omega) _).mono ?_
          rintro e w7 ⟨hg7, hr⟩
          have HG7 := Lib.hid (grown_trans HGB.out hg7)
          clear hg7
          cases hsc : scanL 0 (linesL bb) with
          | error n =>
            rw [hsc] at hr
            have he := scan_err 0 _ _ hsc
            have hln := HLN.out
            dsimp only at hr
            subst hr
            have n1 : 1 ≤ n := by omega
            have n2 : n ≤ 1 + (cn : Int) := by omega
            clear hsc he hln
            go_wp2_with fail
            go_ret
            exact ⟨rfl, below_of HG7.out⟩
          | ok ts =>
            rw [hsc] at hr
            obtain ⟨sl, hsl, hsch, hlast⟩ : True ∧ (∀ t ∈ ts, 1 ≤ t.2.2 ∧ t.2.2 ≤ 1 + (cn : Int)) ∧ chainB ts ∧ ∀ t ∈ ts.getLast?, t.1 = 4 := by
              obtain ⟨g1, g2, g3⟩ := scan_lines 0 _ _ hsc
              have hln := HLN.out
              exact ⟨trivial, fun t ht => by have := g1 t ht; omega, g2, g3⟩
            have HSL := Lib.hid hsl; have HCH := Lib.hid hsch; have HLAST := Lib.hid hlast
            have HFEW := Lib.hid (scan_few (b := []) (List.append_nil _).symm hsc)
            obtain ⟨v, rfl, ho⟩ := hr
            have HTK := Lib.hid ho.toks
            obtain ⟨a7, cap7, rfl⟩ := ho.slice
            clear ho hsl hsch hlast hsc sl
            go_wp2_with fail
            go_loopw [74] (fun i wr => ∃ k : Nat, i = .int .i64 k ∧ k ≤ ts.length ∧ Hid (w7.grownBy wr none)) (fun i _ => ts.length - (intOf i).toNat)
            case atStart => exact ⟨0, rfl, Nat.zero_le _, Lib.hid (grown_refl _ _)⟩
            case round =>
              obtain ⟨k, rfl, hk, hgr⟩ := hrel
              have hfw : ts.length ≤ 196 := by have := HFEW.out; have := HBL.out; omega
              by_cases hlt : k < ts.length
              · have h1 : (k : Int) < (ts.length : Int) := by omega
                obtain ⟨tb, off, cp, hv, x1, x2, x3⟩ := (HTK.out.same hgr.out).at hlt
                simp only [Value.slice.injEq] at hv
                obtain ⟨rfl, -, rfl⟩ := hv
                have hln := HSL.out _ (List.getElem_mem hlt)
                cases k with
                | zero =>
                  rw [Nat.zero_mul, Nat.add_zero] at x1 x2 x3
                  generalize ts[0].1 = kd at *
                  generalize ts[0].2.1 = tt at *
                  generalize ts[0].2.2 = ln at *
                  have d1 : decide (ln < 1) = false := by simp; omega
                  have d2 : decide (1 + (cn : Int) < ln) = false := by simp; omega
                  have G8 := Lib.hid (grown_trans hgr.out (World.grownBy_alloc wr (.cells #[.int .i64 kd, strV tt, .int .i64 ln] 27) none))
                  go_wp2_with fail
                  go_quiet (fail)
                  go_wp2_with fail
                  go_roundw
                  case rel => exact ⟨0 + 1, rfl, by omega, Lib.hid (grown_trans G8.out (grown_drewN _ _ _))⟩
                  case measure => simp [intOf]; omega
                | succ k =>
                  obtain ⟨tb2, off2, cp2, hv, z1, z2, z3⟩ := (HTK.out.same hgr.out).at (k := k) (by omega)
                  simp only [Value.slice.injEq, Option.some.injEq, Addr.mk.injEq] at hv
                  obtain ⟨⟨rfl, rfl, -⟩, -, rfl⟩ := hv
                  have hst := chain_at HCH.out k hlt
                  have hpl := HSL.out _ (List.getElem_mem (show k < ts.length by omega))
                  unfold stepB at hst
                  generalize ts[k + 1].1 = kd at *
                  generalize ts[k + 1].2.1 = tt at *
                  generalize ts[k + 1].2.2 = ln at *
                  generalize ts[k].1 = pk at *
                  generalize ts[k].2.1 = pt at *
                  generalize ts[k].2.2 = pl at *
                  have d1 : decide (ln < 1) = false := by simp; omega
                  have d2 : decide (1 + (cn : Int) < ln) = false := by simp; omega
                  have d3 : decide ((0 : Int) < ((k + 1 : Nat) : Int)) = true := by apply decide_eq_true; omega
                  have d3' : decide ((0 : Int) < (k : Int) + 1) = true := by apply decide_eq_true; omega
                  have i1 : (1 : Int) ≤ ((k + 1 : Nat) : Int) := by omega
                  have i2 : ((k + 1 : Nat) : Int) - 1 < (ts.length : Int) := by omega
                  have i3 : (((k + 1 : Nat) : Int) - 1).toNat = k := by omega
                  have i4 : ((k + 1 : Nat) : Int) - 1 = (k : Int) := by omega
                  have i6 : (k : Int) < (ts.length : Int) := by omega
                  have i7 : (k : Int) + 1 - 1 = (k : Int) := by omega
                  have i8 : IntKind.i64.wrap ((k : Int) + 1 - 1) = (k : Int) := by rw [i7]; exact IntWalk.i64_in _ (by omega)
                  have i9 : IntKind.i64.wrap (((k + 1 : Nat) : Int) - 1) = (k : Int) := by rw [i4]; exact IntWalk.i64_in _ (by omega)
                  have i5 : IntKind.i64.wrap ((k : Int)) = (k : Int) := IntWalk.i64_in _ (by omega)
                  have d4 : decide (ln < pl) = false := by simp; omega
                  have G8 := Lib.hid (grown_trans hgr.out (World.grownBy_alloc wr (.cells #[.int .i64 kd, strV tt, .int .i64 ln] 27) none))
                  have z3' := (World.grownBy_alloc wr (.cells #[.int .i64 kd, strV tt, .int .i64 ln] 27) none).cell z3 (by simp)
                  have z1' := (World.grownBy_alloc wr (.cells #[.int .i64 kd, strV tt, .int .i64 ln] 27) none).cell z1 (by simp)
                  by_cases h5 : pl < ln
                  · have d5 : decide (pl < ln) = true := by simpa using h5
                    have d6 : (pk != 4) = false := by simp; exact hst.2 h5
                    clear hst h5
                    go_wp2_with fail
                    go_quiet (fail)
                    go_wp2_with fail
                    go_roundw
                    case rel => exact ⟨k + 1 + 1, by go_num, by omega, Lib.hid (grown_trans G8.out (grown_drewN _ _ _))⟩
                    case measure => simp [intOf]; omega
                  · have d5 : decide (pl < ln) = false := by simpa using h5
                    clear hst h5
                    go_wp2_with fail
                    go_quiet (fail)
                    go_wp2_with fail
                    go_roundw
                    case rel => exact ⟨k + 1 + 1, by go_num, by omega, Lib.hid (grown_trans G8.out (grown_drewN _ _ _))⟩
                    case measure => simp [intOf]; omega
              · have h1 : ¬ (k : Int) < (ts.length : Int) := by omega
                have HGE := Lib.hid (grown_trans HG7.out hgr.out)
                by_cases hts : ts = []
                · have hz : ts.length = 0 := by rw [hts]; rfl
                  clear hts
                  rw [hz]
                  go_wp2_with fail
                  go_ret
                  exact ⟨rfl, below_of HGE.out⟩
                · obtain ⟨m, hm⟩ : ∃ m, ts.length = m + 1 := ⟨ts.length - 1, by have := List.length_pos_iff.2 hts; omega⟩
                  obtain ⟨tb2, off2, cp2, hv, z1, z2, z3⟩ := (HTK.out.same hgr.out).at (k := m) (by omega)
                  simp only [Value.slice.injEq] at hv
                  obtain ⟨rfl, -, rfl⟩ := hv
                  have hl4 : ts[m].1 = 4 := HLAST.out _ (by rw [List.getLast?_eq_getElem?, show ts.length - 1 = m by omega, List.getElem?_eq_getElem (show m < ts.length by omega)]; rfl)
                  rw [hl4] at z1
                  rw [hm] at h1 hfw ⊢
                  have e1 : (((m : Int) + 1 == 0) = false) := by simp only [beq_eq_false_iff_ne, ne_eq]; omega
                  clear hts hl4
                  go_wp2_with fail
                  go_ret
                  exact ⟨rfl, below_of HGE.out⟩
    · have hp1 : 1 ≤ tx.length := by have := List.length_pos_iff.2 hne; omega
      have hpos : (0 : Int) < (tx.length : Int) := by omega
      clear hne
      go_wp2_with fail
      refine (mod14_any at_ tx.length hp1 (by have := HL.out; omega) hat2 _).mono ?_
      rintro e w6 ⟨⟨y, rfl, hy⟩, rfl⟩
      have hcell := HB1.out y hy
      have hfroz := HB2.out y hy
      have hyi : (y : Int) < (tx.length : Int) := by omega
      go_wp2_with fail
      obtain ⟨bb, hbl, hbb, hgB⟩ : ∃ bb : Bs, bb.length = tx.length ∧ BytesAt (w6.setCell ⟨w4.heap.size, y, none⟩ (.int .u8 (cb.toNat : Int))) w4.heap.size bb ∧ w.grownBy (w6.setCell ⟨w4.heap.size, y, none⟩ (.int .u8 (cb.toNat : Int))) none := ⟨tx.set y cb, List.length_set, bytes_set HB1.out hy cb, grown_then HG5.out (grown_set _ _ _) (by rintro j ⟨⟩; exact .inl HSW.out)⟩
      generalize World.setCell w6 _ _ = wB at *
      have HBB := Lib.hid hbb; have HGB := Lib.hid hgB
      have HBL : Hid (bb.length ≤ 195) := Lib.hid (by rw [hbl]; exact HL.out)
      rw [← hbl]
      clear hbb hgB hbl
      go_loop [42, 9] (fun i j => ∃ q : Nat, i = .int .i64 q ∧ j = .int .i64 ((1 + (bb.take q).count 10 : Nat) : Int) ∧ q ≤ bb.length) (fun i _ => bb.length - (intOf i).toNat)
      case atStart => exact ⟨0, rfl, by simp, Nat.zero_le _⟩
      case round =>
        obtain ⟨q, rfl, rfl, hq⟩ := hrel
        by_cases hlt : q < bb.length
        · have h1 : (q : Int) < (bb.length : Int) := by omega
          have hq195 := HBL.out
          have hc0 := HBB.out q hlt
          have HN : Hid ((bb.take (q + 1)).count 10 = (bb.take q).count 10 + if bb[q] = 10 then 1 else 0) := Lib.hid (by
            rw [List.take_succ_eq_append_getElem hlt, List.count_append]
            by_cases e : bb[q] = 10
            · rw [if_pos e, e]; simp
            · rw [if_neg e, List.count_singleton, if_neg (by simpa using e)])
          have hcl : (bb.take q).count 10 ≤ 195 := by have := HBL.out; have := List.count_le_length (a := (10 : UInt8)) (l := bb.take q); rw [List.length_take] at this; omega
          generalize hc : bb[q] = c at *
          generalize (bb.take q).count 10 = z at *
          by_cases hten : c = 10
          · have hb1 : (((c.toNat : Int)) == 10) = true := by rw [hten]; rfl
            rw [if_pos hten] at HN
            have ww : IntKind.i64.wrap (((1 + z : Nat) : Int) + 1) = ((1 + (z + 1) : Nat) : Int) := by rw [IntWalk.i64_in _ (by omega)]; omega
            clear hten hc
            go_wp2_with fail
            go_round
            case rel => exact ⟨q + 1, by go_num, by rw [HN.out] <;> first | rfl | omega, by omega⟩
            case measure => simp [intOf]; omega
          · have hb1 : (((c.toNat : Int)) == 10) = false := by
              simp only [beq_eq_false_iff_ne, ne_eq]
              intro h
              exact hten (UInt8.toNat_inj.1 (by simpa using (by omega : c.toNat = 10)))
            rw [if_neg hten] at HN
            clear hten hc
            go_wp2_with fail
            go_round
            case rel => exact ⟨q + 1, by go_num, by rw [HN.out] <;> first | rfl | omega, by omega⟩
            case measure => simp [intOf]; omega
        · have h1 : ¬ (q : Int) < (bb.length : Int) := by omega
          rw [List.take_of_length_le (by omega)]
          have HLN := Lib.hid (lines_count _ bb (Nat.le_refl _))
          have hcl : bb.count 10 ≤ 195 := by have := HBL.out; have := List.count_le_length (a := (10 : UInt8)) (l := bb); omega
          generalize hcn : bb.count 10 = cn at *
          clear hcn
          go_wp2_with fail
          rw [run_convert_bytes_back wB 31 9 5 ⟨w4.heap.size, 0, none⟩ cp5 bb Tryd.underlying31 Tryd.underlying5 Tryd.underlying9 (fun j hj => by have := HBB.out j hj; rw [show (⟨w4.heap.size, 0, none⟩ : Addr).add j = ⟨w4.heap.size, j, none⟩ by simp [Addr.add]; omega]; exact this)]
          simp only [Result.andThen]
          rw [Oper.upon_value]
          go_wp2_with fail
          refine (Scan_any bb (by have := HBL.out; omega) _).mono ?_
          rintro e w7 ⟨hg7, hr⟩
          have HG7 := Lib.hid (grown_trans HGB.out hg7)
          clear hg7
          cases hsc : scanL 0 (linesL bb) with
          | error n =>
            rw [hsc] at hr
            have he := scan_err 0 _ _ hsc
            have hln := HLN.out
            dsimp only at hr
            subst hr
            have n1 : 1 ≤ n := by omega
            have n2 : n ≤ 1 + (cn : Int) := by omega
            clear hsc he hln
            go_wp2_with fail
            go_ret
            exact ⟨rfl, below_of HG7.out⟩
          | ok ts =>
            rw [hsc] at hr
            obtain ⟨sl, hsl, hsch, hlast⟩ : True ∧ (∀ t ∈ ts, 1 ≤ t.2.2 ∧ t.2.2 ≤ 1 + (cn : Int)) ∧ chainB ts ∧ ∀ t ∈ ts.getLast?, t.1 = 4 := by
              obtain ⟨g1, g2, g3⟩ := scan_lines 0 _ _ hsc
              have hln := HLN.out
              exact ⟨trivial, fun t ht => by have := g1 t ht; omega, g2, g3⟩
            have HSL := Lib.hid hsl; have HCH := Lib.hid hsch; have HLAST := Lib.hid hlast
            have HFEW := Lib.hid (scan_few (b := []) (List.append_nil _).symm hsc)
            obtain ⟨v, rfl, ho⟩ := hr
            have HTK := Lib.hid ho.toks
            obtain ⟨a7, cap7, rfl⟩ := ho.slice
            clear ho hsl hsch hlast hsc sl
            go_wp2_with fail
            go_loopw [74] (fun i wr => ∃ k : Nat, i = .int .i64 k ∧ k ≤ ts.length ∧ Hid (w7.grownBy wr none)) (fun i _ => ts.length - (intOf i).toNat)
            case atStart => exact ⟨0, rfl, Nat.zero_le _, Lib.hid (grown_refl _ _)⟩
            case round =>
              obtain ⟨k, rfl, hk, hgr⟩ := hrel
              have hfw : ts.length ≤ 196 := by have := HFEW.out; have := HBL.out; omega
              by_cases hlt : k < ts.length
              · have h1 : (k : Int) < (ts.length : Int) := by omega
                obtain ⟨tb, off, cp, hv, x1, x2, x3⟩ := (HTK.out.same hgr.out).at hlt
                simp only [Value.slice.injEq] at hv
                obtain ⟨rfl, -, rfl⟩ := hv
                have hln := HSL.out _ (List.getElem_mem hlt)
                cases k with
                | zero =>
                  rw [Nat.zero_mul, Nat.add_zero] at x1 x2 x3
                  generalize ts[0].1 = kd at *
                  generalize ts[0].2.1 = tt at *
                  generalize ts[0].2.2 = ln at *
                  have d1 : decide (ln < 1) = false := by simp; omega
                  have d2 : decide (1 + (cn : Int) < ln) = false := by simp; omega
                  have G8 := Lib.hid (grown_trans hgr.out (World.grownBy_alloc wr (.cells #[.int .i64 kd, strV tt, .int .i64 ln] 27) none))
                  go_wp2_with fail
                  go_quiet (fail)
                  go_wp2_with fail
                  go_roundw
                  case rel => exact ⟨0 + 1, rfl, by omega, Lib.hid (grown_trans G8.out (grown_drewN _ _ _))⟩
                  case measure => simp [intOf]; omega
                | succ k =>
                  obtain ⟨tb2, off2, cp2, hv, z1, z2, z3⟩ := (HTK.out.same hgr.out).at (k := k) (by omega)
                  simp only [Value.slice.injEq, Option.some.injEq, Addr.mk.injEq] at hv
                  obtain ⟨⟨rfl, rfl, -⟩, -, rfl⟩ := hv
                  have hst := chain_at HCH.out k hlt
                  have hpl := HSL.out _ (List.getElem_mem (show k < ts.length by omega))
                  unfold stepB at hst
                  generalize ts[k + 1].1 = kd at *
                  generalize ts[k + 1].2.1 = tt at *
                  generalize ts[k + 1].2.2 = ln at *
                  generalize ts[k].1 = pk at *
                  generalize ts[k].2.1 = pt at *
                  generalize ts[k].2.2 = pl at *
                  have d1 : decide (ln < 1) = false := by simp; omega
                  have d2 : decide (1 + (cn : Int) < ln) = false := by simp; omega
                  have d3 : decide ((0 : Int) < ((k + 1 : Nat) : Int)) = true := by apply decide_eq_true; omega
                  have d3' : decide ((0 : Int) < (k : Int) + 1) = true := by apply decide_eq_true; omega
                  have i1 : (1 : Int) ≤ ((k + 1 : Nat) : Int) := by omega
                  have i2 : ((k + 1 : Nat) : Int) - 1 < (ts.length : Int) := by omega
                  have i3 : (((k + 1 : Nat) : Int) - 1).toNat = k := by omega
                  have i4 : ((k + 1 : Nat) : Int) - 1 = (k : Int) := by omega
                  have i6 : (k : Int) < (ts.length : Int) := by omega
                  have i7 : (k : Int) + 1 - 1 = (k : Int) := by omega
                  have i8 : IntKind.i64.wrap ((k : Int) + 1 - 1) = (k : Int) := by rw [i7]; exact IntWalk.i64_in _ (by omega)
                  have i9 : IntKind.i64.wrap (((k + 1 : Nat) : Int) - 1) = (k : Int) := by rw [i4]; exact IntWalk.i64_in _ (by omega)
                  have i5 : IntKind.i64.wrap ((k : Int)) = (k : Int) := IntWalk.i64_in _ (by omega)
                  have d4 : decide (ln < pl) = false := by simp; omega
                  have G8 := Lib.hid (grown_trans hgr.out (World.grownBy_alloc wr (.cells #[.int .i64 kd, strV tt, .int .i64 ln] 27) none))
                  have z3' := (World.grownBy_alloc wr (.cells #[.int .i64 kd, strV tt, .int .i64 ln] 27) none).cell z3 (by simp)
                  have z1' := (World.grownBy_alloc wr (.cells #[.int .i64 kd, strV tt, .int .i64 ln] 27) none).cell z1 (by simp)
                  by_cases h5 : pl < ln
                  · have d5 : decide (pl < ln) = true := by simpa using h5
                    have d6 : (pk != 4) = false := by simp; exact hst.2 h5
                    clear hst h5
                    go_wp2_with fail
                    go_quiet (fail)
                    go_wp2_with fail
                    go_roundw
                    case rel => exact ⟨k + 1 + 1, by go_num, by omega, Lib.hid (grown_trans G8.out (grown_drewN _ _ _))⟩
                    case measure => simp [intOf]; omega
                  · have d5 : decide (pl < ln) = false := by simpa using h5
                    clear hst h5
                    go_wp2_with fail
                    go_quiet (fail)
                    go_wp2_with fail
                    go_roundw
                    case rel => exact ⟨k + 1 + 1, by go_num, by omega, Lib.hid (grown_trans G8.out (grown_drewN _ _ _))⟩
                    case measure => simp [intOf]; omega
              · have h1 : ¬ (k : Int) < (ts.length : Int) := by omega
                have HGE := Lib.hid (grown_trans HG7.out hgr.out)
                by_cases hts : ts = []
                · have hz : ts.length = 0 := by rw [hts]; rfl
                  clear hts
                  rw [hz]
                  go_wp2_with fail
                  go_ret
                  exact ⟨rfl, below_of HGE.out⟩
                · obtain ⟨m, hm⟩ : ∃ m, ts.length = m + 1 := ⟨ts.length - 1, by have := List.length_pos_iff.2 hts; omega⟩
                  obtain ⟨tb2, off2, cp2, hv, z1, z2, z3⟩ := (HTK.out.same hgr.out).at (k := m) (by omega)
                  simp only [Value.slice.injEq] at hv
                  obtain ⟨rfl, -, rfl⟩ := hv
                  have hl4 : ts[m].1 = 4 := HLAST.out _ (by rw [List.getLast?_eq_getElem?, show ts.length - 1 = m by omega, List.getElem?_eq_getElem (show m < ts.length by omega)]; rfl)
                  rw [hl4] at z1
                  rw [hm] at h1 hfw ⊢
                  have e1 : (((m : Int) + 1 == 0) = false) := by simp only [beq_eq_false_iff_ne, ne_eq]; omega
                  clear hts hl4
                  go_wp2_with fail
                  go_ret
                  exact ⟨rfl, below_of HGE.out⟩
  · go_enter Tryd.func6, Tryd.ntmps6
    go_wp2_with fail
    refine (awake14_any _ HT.out).mono ?_
    rintro e w1 ⟨rfl, hg⟩
    have HG := Lib.hid hg
    clear hg
    go_wp2_with fail
    refine (few_any _ _ _ _).mono ?_
    rintro e w2 ⟨rfl, rfl⟩
    rw [decide_eq_false (show ¬ ((zs.length : Int) ≤ 400) by omega)]
    go_wp2_with fail
    refine (awake14_any _ (HT.out.same HG.out)).mono ?_
    rintro e w3 ⟨rfl, hg⟩
    replace HG := Lib.hid (grown_trans HG.out hg)
    clear hg
    go_wp2_with fail
    go_ret
    exact ⟨rfl, below_of HG.out⟩


/-! ### TokenLines: the statement and its card, from the walk -/
set_option maxRecDepth 100000 in
theorem contractTokenLines (H : Type) (enc : TypeId × Value → H) (W : World) (base : Nat) (args : Array Value) (ds gs : List (DataW H)) (before : List MemPlace)
    (hval0 : ∀ (j : Nat) t v, Tryd.f6.params[j]? = some t → args[j]? = some v → Value.okWide Tryd.prog W .any base t v)
    (hW : DataW.Whole enc Tryd.prog Tryd.f6.params.toList Rows.tokenLinesSpec.vars false W args.toList ds gs before) (hL : laidMetH Tryd.prog Rows.tokenLinesRow.laid W) :
    Calls Tryd.prog 6 args W fun e W' => ∃ v, e = .returned v ∧ Rows.tokenLinesSpec.post enc Tryd.prog Tryd.f6 false true false false W args v W' := by
  have hval : ∀ (j : Nat) t v, Tryd.f6.params[j]? = some t → args[j]? = some v → Value.okWide Tryd.prog W .any base t v := hval0
  have hW' := hW
  obtain ⟨p, q, hA0, hV, rfl, hfz, hnd⟩ := hW
  have hA : DataW.TrodAll enc Tryd.prog W 0 (fun _ => true) true Tryd.f6.params.toList args.toList ds p := hA0
  rw [Tryd.params6] at hA hval
  obtain ⟨v0, vs0, d0, ds0, p0, q0, hargs, rfl, rfl, h0, r0⟩ := trodAll_cons hA
  obtain ⟨v1, vs1, d1, ds1, p1, q1, e1, rfl, rfl, h1, r1⟩ := trodAll_cons r0
  obtain ⟨v2, vs2, d2, ds2, p2, q2, e2, rfl, rfl, h2, r2⟩ := trodAll_cons r1
  obtain ⟨rfl, rfl, rfl⟩ := trodAll_nil r2
  subst e2
  subst e1
  obtain rfl : args = #[v0, v1, v2] := by cases args; simp_all
  obtain ⟨rfl, rfl⟩ := trodVars_none hV
  obtain ⟨a0, len0, cap0, rfl⟩ := okWide_slice Tryd.underlying22 (hval 0 22 v0 rfl rfl)
  have k0 := h0
  have lt0 : ∀ x ∈ p0, x.block < W.heap.size := by obtain ⟨m, hm⟩ := k0; exact DataW.trod_lt m _ _ _ hm
  obtain ⟨z0, w0⟩ : ∃ zs, IsRow .i64 W a0 len0 cap0 zs := by
    obtain ⟨fuel, hf⟩ := h0
    rcases open_ints Tryd.underlying22 Tryd.underlying3 (by kernel_rfl) hf with ⟨hcs, _⟩ | ⟨x, l, c, zs, hcs, _, hl, hm, hz, _, hcell, hwz⟩
    · simp [Value.cells] at hcs
      obtain ⟨rfl, rfl, rfl⟩ := hcs
      exact ⟨[], .inl ⟨rfl, rfl, rfl, rfl⟩⟩
    · simp [Value.cells] at hcs
      obtain ⟨rfl, rfl, rfl⟩ := hcs
      exact ⟨zs, .inr ⟨_, rfl, hl, hm, by simpa using hz, hcell, hwz⟩⟩
  obtain ⟨a1, rfl, rfl, rfl, w1⟩ := open_int Tryd.underlying3 (hval 1 3 v1 rfl rfl) h1
  obtain ⟨a2, rfl, rfl, rfl, w2⟩ := open_int Tryd.underlying5 (hval 2 5 v2 rfl rfl) h2
  clear hA0 hval0
  refine (walkTokenLines a0 len0 cap0 z0 a1 a2 W w0 w1 w2 (tabP hL)).mono fun e W' ⟨he, bel⟩ => ?_
  subst he
  exact ⟨_, rfl, _, _, _, [], _, [], hW', trodAll_mk1 (shut_bool Tryd.underlying4 _), (trodAll_cons_mk (Below.trod laidOut (by kernel_rfl) (of_decide_eq_true (by kernel_rfl)) k0 bel lt0) (trodAll_cons_mk (shut_int Tryd.underlying3 w1) (trodAll_cons_mk (shut_int Tryd.underlying5 w2) trodAll_mk0))), rfl, bel.frame _, fun h => by cases h⟩
set_option maxRecDepth 100000 in
theorem metTokenLines (os : Os) : laidMet Tryd.prog tabs ((laidWorld os).forCall (fun _ _ => 0) ⟨#[], #[.slice none 0 0, .int .i64 0, .int .u8 0], []⟩).memory :=
  laidMet_of_run' 300 (by kernel_rfl) (by kernel_rfl)
set_option maxRecDepth 100000 in
theorem readsTokenLines (os : Os) {H : Type} (enc : TypeId × Value → H) : ∃ places, DataW.whole enc Tryd.prog ((laidWorld os).forCall (fun _ _ => 0) ⟨#[], #[.slice none 0 0, .int .i64 0, .int .u8 0], []⟩).memory Tryd.f6.params.toList Rows.tokenLinesSpec.vars false #[Value.slice none 0 0, Value.int .i64 0, Value.int .u8 0].toList 8 = some ([.nil, .lit (.int .i64 0), .lit (.int .u8 0)], [], places) :=
  ⟨[], by kernel_rfl⟩
set_option maxRecDepth 100000 in
theorem liftedTokenLines (os : Os) (started : os.Started) (H : Type) (enc : TypeId × Value → H) (F : Stop.Interp) :
    ReturnsInHanded {} Tryd.checked os 6 .any ((OpenSpec.ofChange Rows.tokenLinesSpec).preRow enc Tryd.prog Tryd.f6 Rows.tokenLinesRow.domain false Rows.tokenLinesRow.laid) (((OpenSpec.ofChange Rows.tokenLinesSpec).at F).post enc Tryd.prog Tryd.f6 false true false false) := by
  obtain ⟨places, hx⟩ := readsTokenLines os enc
  refine returnsInHanded_of_row (C := Tryd.checked) (s := OpenSpec.ofChange Rows.tokenLinesSpec) ownK started (by kernel_rfl) Tryd.func6
    (witness_row_at (enc := enc) (C := Tryd.checked) false (laidWorld os) #[.slice none 0 0, .int .i64 0, .int .u8 0] rfl (by kernel_rfl) (by kernel_rfl) (by kernel_rfl)
      (OpenSpec.preRow_of_cond 8 hx (by kernel_rfl) (fun k hk => by cases hk) (by kernel_rfl) (metTokenLines os))) ?_
  intro W base args ds gs before hval hW _ _ _ hL _ _
  exact contractTokenLines H enc W base args ds gs before hval hW hL
theorem tokenLines_said : Rows.TokenLinesSaid :=
  OpenClaim.holds_of_cond 6 Tryd.f6 rfl rfl rfl rfl rfl rfl rfl ⟨rfl, rfl, rfl, rfl, rfl⟩ rfl rfl rfl rfl rfl (by kernel_rfl) Tryd.func6 (by kernel_rfl)
    (of_decide_eq_true (by kernel_rfl)) (by unfold Func.isWrapper; first | (rw [if_pos (by decide +kernel)]; kernel_rfl) | (rw [if_neg (by decide +kernel)]; exact ⟨rfl, rfl⟩))
    (fun os started H enc _ F => by rw [OpenClaim.pre_eq_preRow]; exact liftedTokenLines os started H enc F)
theorem plainTokenLines (f : FuncId) (fn : Func) (hf : Tryd.pinned.checked.prog.funcNamed "coverability/coverabilitylaw14.TokenLines" = some f) (hfn : Tryd.pinned.checked.prog.funcs[f]? = some fn) :
    false = Tryd.pinned.checked.prog.looks [] ∧ ∀ (j : Nat) t, fn.params[j]? = some t → Tryd.pinned.checked.prog.wantsStandIn t = false := by
  obtain rfl : f = 6 := Option.some.inj ((show Tryd.prog.funcNamed "coverability/coverabilitylaw14.TokenLines" = some 6 by kernel_rfl).symm.trans hf) |>.symm
  obtain rfl : fn = Tryd.f6 := (Option.some.inj (Tryd.func6.symm.trans hfn)).symm
  refine ⟨by kernel_rfl, fun j t ht => ?_⟩
  rw [Tryd.params6] at ht
  have hm := Array.mem_of_getElem? ht
  simp only [List.mem_toArray, List.mem_cons, List.mem_nil_iff, or_false] at hm
  rcases hm with rfl | rfl | rfl
  · exact (show Tryd.prog.wantsStandIn 22 = false by kernel_rfl)
  · exact (show Tryd.prog.wantsStandIn 3 = false by kernel_rfl)
  · exact (show Tryd.prog.wantsStandIn 5 = false by kernel_rfl)
theorem tokenLines_card : Rows.TokenLinesCardSaid :=
  Claim7.holds_tied_plain_at .later [] _ _ _ _ tokenLines_said (fun _ h => by cases h) (by kernel_rfl) (fun _ h => by cases h) tokenLines_row_tie rfl ⟨rfl, rfl⟩ (by kernel_rfl) rfl plainTokenLines (by kernel_rfl)
#print axioms tokenLines_card
end Go.Proofs.YthlollnpnangpaaDoor
