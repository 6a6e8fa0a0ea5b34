/- TokenExact: for every input it answers true. -/
import Derived.Test.YthlollnpnangpaaDoorYw
import Derived.Test.YthlollnpnangpaaDoorYx
import Derived.Test.YthlollnpnangpaaDoorYy
import Derived.Test.YthlollnpnangpaaDoorYl
import Derived.Test.YthlollnpnangpaaDoorYo
import Derived.Test.YthlollnpnangpaaDoorYp
import Derived.Test.YthlollnpnangpaaDoorYr
import Derived.Test.YthlollnpnangpaaDoorYs
import Derived.Test.YthlollnpnangpaaDoorYm
import Derived.Test.YthlollnpnangpaaDoorCards
import Derived.Test.YthlollnpnangpaaDoorTie
import Derived.StillTailTactics
import Derived.Outline
import Derived.Lib.ConvBytes
import Derived.Laws.IdiomStrings
import Derived.BigRegion
import Derived.BigQuiet
import Derived.Deep.RegionHeld3
namespace Go.Proofs.YthlollnpnangpaaDoor
open Go.ChangeShapes Go.WideShapes Go.ChangeAt Go.RowKit
set_option linter.unusedVariables false

theorem str_eqB (a : Bs) : (ByteArray.toList ⟨a.toArray⟩ == ByteArray.toList ⟨a.toArray⟩) = true := by
  rw [Lib.toList_data]
  simp
theorem str_neB (a : Bs) : (ByteArray.toList ⟨a.toArray⟩ != ByteArray.toList ⟨a.toArray⟩) = false := by
  rw [Lib.toList_data]
  simp
def six (raw tx bb : Bs) : List Bs := [raw, tx, bb, tx ++ raw, 48 :: tx, [45]]
def five (n y : Int) : List Int := [n, y, 9999999, 10000000, -1]
/-- What Scan answers. -/
def scanT (s : Bs) : List Tk × Int × Int := match scanL 0 (linesL s) with
  | .ok ts => (ts, 0, 0)
  | .error n => ([], n, 12)
theorem scan_out {w w' : World} {s : Bs} {e : Ending} (h : ScanR w s e w') : w.grownBy w' none ∧ ∃ v, e = .returned (.tuple #[v, .int .i64 (scanT s).2.1, .int .i64 (scanT s).2.2]) ∧ Toks w' v (scanT s).1 := by
  obtain ⟨g, h⟩ := h
  refine ⟨g, ?_⟩
  unfold scanT
  cases hs : scanL 0 (linesL s) with
  | error n =>
    rw [hs] at h
    exact ⟨_, h, none, 0, rfl, Nat.zero_le _, .inl rfl⟩
  | ok ts =>
    rw [hs] at h
    obtain ⟨v, h1, h2⟩ := h
    exact ⟨v, h1, h2.toks⟩
theorem toks_slice {w : World} {v : Value} {ts : List Tk} (h : Toks w v ts) : ∃ a c, v = .slice a ts.length c ∧ ts.length ≤ maxLen := by
  obtain ⟨a, c, h1, h2, -⟩ := h
  exact ⟨a, c, h1, h2⟩
theorem scan_ask {s : Bs} (hs : s.length ≤ 1000) : (joinL (scanT s).1).length ≤ 1000000 ∧ ∀ t ∈ (scanT s).1, -9223372036854775808 ≤ t.1 ∧ t.1 ≤ 9223372036854775807 := by
  unfold scanT
  cases h : scanL 0 (linesL s) with
  | error n => exact ⟨by simp [joinL, joinF], by simp⟩
  | ok ts =>
    have h1 := join_wt ts true
    have h2 := scan_wt 0 _ ts h
    have h3 := lines_bulk _ s (Nat.le_refl _)
    have h4 := scan_kinds 0 _ 1001 ts (fun l hl => by have := line_le hl; omega) h
    refine ⟨show (joinF true ts).length ≤ 1000000 by omega, fun t ht => ?_⟩
    have := h4 t ht
    omega
def BytesAt (w : World) (b : Nat) (l : Bs) : Prop := ∀ j (h : j < l.length), w.cell? ⟨b, j, none⟩ = some (.int .u8 (l[j].toNat : Int))
theorem wf_u8 {n : Int} (h : (Lit.int .u8 n).wf = true) : 0 ≤ n ∧ n ≤ 255 := by
  simpa [Lit.wf, IntKind.min, IntKind.max, IntKind.signed, IntKind.bits] using h
theorem wf_i64 {n : Int} (h : (Lit.int .i64 n).wf = true) : -9223372036854775808 ≤ n ∧ n ≤ 9223372036854775807 := by
  simpa [Lit.wf, IntKind.min, IntKind.max, IntKind.signed, IntKind.bits] using h
theorem bytes_grown (w : World) (e : TypeId) (s : ByteArray) : w.grownBy (Lib.bytesWorld w e s) none :=
  ⟨by unfold Lib.bytesWorld World.freeze; first | rfl | (split <;> rfl), by unfold Lib.bytesWorld World.freeze; first | rfl | (split <;> rfl), by unfold Lib.bytesWorld World.freeze; first | rfl | (split <;> rfl), by rw [Lib.bytesWorld_size]; omega, fun i hi _ => Lib.bytesWorld_at_old w e s i hi⟩
theorem bytes_at (w : World) (e : TypeId) (l : Bs) : BytesAt (Lib.bytesWorld w e ⟨l.toArray⟩) w.heap.size l ∧ ∀ j, j < l.length → (Lib.bytesWorld w e ⟨l.toArray⟩).frozen? ⟨w.heap.size, j, none⟩ = false := by
  refine ⟨fun j hj => ?_, fun j hj => ?_⟩
  · rw [Lib.bytesWorld_cell w e ⟨l.toArray⟩ j hj]
    simp [List.getD, hj]
  · unfold World.frozen?
    dsimp only
    rw [Lib.bytesWorld_at_new]
    have h2 : l.length ≤ (Lib.bytesCells w e ⟨l.toArray⟩).size := by
      simp [Lib.bytesCells]
    simp
    omega
theorem cell_set_ne (w : World) (b j i : Nat) (v : Value) (e : j ≠ i) : (w.setCell ⟨b, j, none⟩ v).cell? ⟨b, i, none⟩ = w.cell? ⟨b, i, none⟩ := by
  unfold World.cell?
  dsimp only
  cases hb : w.heap[b]? with
  | none => simp [World.setCell, Array.getElem?_modify, hb]
  | some o =>
    cases o with
    | cells cs t f =>
      rw [heap_set hb]
      simp [e]
    | _ => simp [World.setCell, Array.getElem?_modify, hb]
theorem bytes_set {w : World} {b : Nat} {l : Bs} (h : BytesAt w b l) {j : Nat} (hj : j < l.length) (c : UInt8) : BytesAt (w.setCell ⟨b, j, none⟩ (.int .u8 (c.toNat : Int))) b (l.set j c) := by
  intro i hi
  rw [List.length_set] at hi
  have h1 := h i hi
  by_cases e : j = i
  · subst e
    rw [List.getElem_set_self]
    unfold World.cell? at h1 ⊢
    dsimp only at h1 ⊢
    cases hb : w.heap[b]? with
    | none => rw [hb] at h1; cases h1
    | some o =>
      cases o with
      | cells cs t f =>
        rw [heap_set hb]
        rw [hb] at h1
        dsimp only at h1 ⊢
        simp only [Option.isSome_none, Bool.false_eq_true, if_false] at h1 ⊢
        rw [Array.getElem?_setIfInBounds_self_of_lt (Array.getElem?_eq_some_iff.1 h1).1]
      | _ => rw [hb] at h1; simp at h1
  · rw [List.getElem_set_ne e]
    rw [← h1]
    exact cell_set_ne w b j i _ e
set_option maxRecDepth 100000 in
set_option maxHeartbeats 8000000 in
theorem walkTokenExact (a0 : Option Addr) (len0 cap0 : Nat) (z0 : List Int) (raw : Bs) (at_ by_ n : Int) (a5 : Option Addr) (cap5 : Nat) (ts : List Tk) (w : World) (w0 : IsRow .i64 w a0 len0 cap0 z0) (hraw : raw.length ≤ 9223372036854775807) (hat : (Lit.int .i64 at_).wf = true) (hby : (Lit.int .u8 by_).wf = true) (hn : (Lit.int .i64 n).wf = true)
    (htk : Toks w (.slice a5 ts.length cap5) ts) (hkb : ∀ t ∈ ts, -9223372036854775808 ≤ t.1 ∧ t.1 ≤ 9223372036854775807) (hT : TabP w) :
    Calls Tryd.prog 3 #[.slice a0 len0 cap0, strV raw, .int .i64 at_, .int .u8 by_, .int .i64 n, .slice a5 ts.length cap5] w fun e w' => e = .returned (.bool true) ∧ Below w.heap.size w w' := by
  have hat2 := wf_i64 hat
  have hby2 := wf_u8 hby
  obtain ⟨cb, hcb⟩ : ∃ c : UInt8, by_ = (c.toNat : Int) := ⟨UInt8.ofNat by_.toNat, by rw [UInt8.toNat_ofNat']; omega⟩
  subst hcb
  have HTK0 := Lib.hid htk; have HKB := Lib.hid hkb
  have hml5 : ts.length ≤ 9223372036854775807 := by obtain ⟨_, _, _, h, _⟩ := htk; unfold maxLen at h; omega
  clear hat hby hby2 htk hkb
  obtain ⟨hI, hlen⟩ := w0.ints
  generalize z0.take len0 = zs at hI hlen
  subst hlen
  have HI := Lib.hid hI; have HT := Lib.hid hT
  clear hI w0 hT
  by_cases hfew : (zs.length : Int) ≤ 400
  · go_enter Tryd.func3, Tryd.ntmps3
    go_wp2_with fail
    refine (awake14_any _ HT.out).mono ?_
    rintro e w1 ⟨rfl, hg⟩
    have HG := Lib.hid hg
    clear hg
    go_wp2_with fail
    refine (few_any _ _ _ _).mono ?_
    rintro e w2 ⟨rfl, rfl⟩
    rw [decide_eq_true hfew]
    by_cases h4 : (400 : Int) < (raw.length : Int)
    · go_wp2_with fail
      refine (awake14_any _ (HT.out.same HG.out)).mono ?_
      rintro e w3 ⟨rfl, hg⟩
      replace HG := Lib.hid (grown_trans HG.out hg)
      clear hg
      go_wp2_with fail
      go_ret
      exact ⟨rfl, below_of HG.out⟩
    by_cases h5 : (40 : Int) < (ts.length : Int)
    · go_wp2_with fail
      refine (awake14_any _ (HT.out.same HG.out)).mono ?_
      rintro e w3 ⟨rfl, hg⟩
      replace HG := Lib.hid (grown_trans HG.out hg)
      clear hg
      go_wp2_with fail
      go_ret
      exact ⟨rfl, below_of HG.out⟩
    have hrl : raw.length ≤ 400 := by omega
    have htl : ts.length ≤ 40 := by omega
    go_wp2_with fail
    clear h4 h5
    go_loop [47] (fun i => ∃ k : Nat, i = .int .i64 k ∧ k ≤ ts.length ∧ Hid (∀ t ∈ ts.take k, t.2.1.length ≤ 100)) (fun i => ts.length - (intOf i).toNat)
    case atStart => exact ⟨0, rfl, Nat.zero_le _, Lib.hid (by simp)⟩
    case round =>
    obtain ⟨k, rfl, hk, hall⟩ := hrel
    by_cases hlt : k < ts.length
    · have h1 : (k : Int) < (ts.length : Int) := by omega
      obtain ⟨tb, off, cp, hv, x1, x2, x3⟩ := (HTK0.out.same HG.out).at hlt
      simp only [Value.slice.injEq] at hv
      obtain ⟨rfl, -, rfl⟩ := hv
      by_cases h100 : ts[k].2.1.length ≤ 100
      · have HN : Hid (∀ t ∈ ts.take (k + 1), t.2.1.length ≤ 100) := Lib.hid (fun t ht => by
          rw [List.take_succ_eq_append_getElem hlt] at ht
          rcases List.mem_append.1 ht with ht | ht
          · exact hall.out t ht
          · rw [List.mem_singleton.1 ht]; exact h100)
        have d1 : ¬ (100 : Int) < (ts[k].2.1.length : Int) := by omega
        generalize ts[k].1 = kd at *
        generalize ts[k].2.1 = tt at *
        generalize ts[k].2.2 = ln at *
        go_wp2_with fail
        go_round
        case rel => exact ⟨k + 1, by go_num, by omega, HN⟩
        case measure => simp [intOf]; omega
      · have d1 : (100 : Int) < (ts[k].2.1.length : Int) := by omega
        clear h100
        generalize ts[k].1 = kd at *
        generalize ts[k].2.1 = tt at *
        generalize ts[k].2.2 = ln at *
        go_wp2_with fail
        go_ret
        exact ⟨rfl, below_of HG.out⟩
    have h1 : ¬ (k : Int) < (ts.length : Int) := by omega
    have HJT : Hid ((joinL ts).length ≤ 1000000) := Lib.hid (by
      have h2 := hall.out
      rw [List.take_of_length_le (by omega)] at h2
      have h3 := join_le ts 100 true h2
      have h4 : ts.length * 101 ≤ 40 * 101 := Nat.mul_le_mul_right _ htl
      unfold joinL
      omega)
    clear hall
    go_wp2_with fail
    refine (new_st (HI.out.same HG.out) HG.out).mono ?_
    rintro e w3 ⟨p, d, rfl, hs⟩
    have HS := Lib.hid hs
    clear hs HG HI
    go_wp2_with fail
    refine (text_st HS.out).mono ?_
    rintro e w4 ⟨tx, rfl, hl, hs, hg⟩
    replace HS := Lib.hid hs
    have HL := Lib.hid hl
    clear hs hg hl
    have HS4 := Lib.hid HS.out
    clear HS
    go_wp2_with fail
    rw [Lib.run_convert_string_bytes w4 9 31 5 ⟨tx.toArray⟩ Tryd.underlying9 Tryd.underlying31 Tryd.underlying5]
    simp only [Result.andThen]
    rw [Oper.upon_value]
    have hsz : (⟨tx.toArray⟩ : ByteArray).size = tx.length := rfl
    obtain ⟨hb1, hb2⟩ := bytes_at w4 5 tx
    have HG5 := Lib.hid (bytes_grown w4 5 ⟨tx.toArray⟩)
    have HB1 := Lib.hid hb1; have HB2 := Lib.hid hb2
    generalize Lib.bytesWorld w4 5 ⟨tx.toArray⟩ = w5 at *
    generalize grownCap w4 _ 0 5 = cp5 at *
    clear hb1 hb2
    by_cases hne : tx = []
    · have hpos : ¬ (0 : Int) < (tx.length : Int) := by rw [hne]; simp
      clear hne
      go_wp2_with fail
      obtain ⟨bb, hbl, hbb, hgB⟩ : ∃ bb : Bs, bb.length = tx.length ∧ BytesAt w5 w4.heap.size bb ∧ w4.grownBy w5 none := ⟨tx, rfl, HB1.out, HG5.out⟩
      generalize w5 = wB at *
      have HBB := Lib.hid hbb
      have HSB : Hid (St w wB p d) := Lib.hid (HS4.out.step hgB)
      have HBL : Hid (bb.length ≤ 195) := Lib.hid (by rw [hbl]; exact HL.out)
      rw [← hbl]
      have e1 : tx.length + raw.length ≤ 9223372036854775807 := by have := HL.out; omega
      have e2 : 1 + tx.length ≤ 9223372036854775807 := by have := HL.out; omega
      clear hbb hgB hbl
      go_wp2_with fail
      rw [run_convert_bytes_back wB 31 9 5 ⟨w4.heap.size, 0, none⟩ cp5 bb Tryd.underlying31 Tryd.underlying5 Tryd.underlying9 (fun j hj => by have := HBB.out j hj; rw [show (⟨w4.heap.size, 0, none⟩ : Addr).add j = ⟨w4.heap.size, j, none⟩ by simp [Addr.add]; omega]; exact this)]
      simp only [Result.andThen]
      rw [Oper.upon_value]
      go_wp2_with fail
      rw [str_app tx raw, show ({ data := #[48] } ++ { data := tx.toArray } : ByteArray) = ⟨(48 :: tx).toArray⟩ from str_app [48] tx]
      clear e1 e2
      have HC6 : Hid (∀ (k : Nat) (h : k < 6), (wB.alloc (.cells #[strV raw, strV tx, strV bb, strV (tx ++ raw), strV (48 :: tx), strV [45]] 9)).cell? ⟨wB.heap.size, k, none⟩ = some (strV ((six raw tx bb)[k]'h))) := Lib.hid (fun k h => by
        rw [World.cell?, heap_new _ rfl]
        match k, h with
        | 0, _ => rfl
        | 1, _ => rfl
        | 2, _ => rfl
        | 3, _ => rfl
        | 4, _ => rfl
        | 5, _ => rfl)
      have HL6 : Hid (∀ s ∈ six raw tx bb, s.length ≤ 1000) := Lib.hid (fun s hs => by
        have h1 := HL.out; have h2 := HBL.out
        unfold six at hs
        simp only [List.mem_cons, List.not_mem_nil, or_false] at hs
        rcases hs with rfl | rfl | rfl | rfl | rfl | rfl <;> simp <;> omega)
      have HSL := Lib.hid (HSB.out.step (World.grownBy_alloc wB (.cells #[strV raw, strV tx, strV bb, strV (tx ++ raw), strV (48 :: tx), strV [45]] 9) none))
      generalize hB6 : wB.heap.size = B6 at *
      generalize World.alloc wB _ = wL at *
      clear hB6 HSB HBB
      go_loopw [85] (fun i wr => ∃ k : Nat, i = .int .i64 k ∧ k ≤ 6 ∧ Hid (wL.grownBy wr none)) (fun i _ => 6 - (intOf i).toNat)
      case atStart => exact ⟨0, rfl, Nat.zero_le _, Lib.hid (grown_refl _ _)⟩
      case round =>
        obtain ⟨k, rfl, hk, hgr⟩ := hrel
        by_cases hlt : k < 6
        · have h1 : (k : Int) < 6 := by omega
          have c0 := hgr.out.cell (HC6.out k hlt) (by simp)
          have hSl := HL6.out _ (List.getElem_mem (l := six raw tx bb) hlt)
          generalize (six raw tx bb)[k]'hlt = S at *
          have HSl := Lib.hid hSl
          go_wp2_with fail
          refine (Scan_any S HSl.out _).mono ?_
          intro e w5 hr
          obtain ⟨hg5, v5, rfl, hv5⟩ := scan_out hr
          obtain ⟨ax, cx, rfl, hml⟩ := toks_slice hv5
          have HV5 := Lib.hid hv5
          have HG5 := Lib.hid (grown_trans hgr.out hg5)
          clear hr hg5 hv5 c0 hSl
          go_wp2_with fail
          refine (rScan_any S HSl.out _).mono ?_
          intro e w6 hr
          obtain ⟨hg6, v6, rfl, hv6⟩ := scan_out hr
          obtain ⟨ay, cy, rfl, -⟩ := toks_slice hv6
          have HV6 := Lib.hid hv6
          replace HV5 := Lib.hid (HV5.out.same hg6)
          replace HG5 := Lib.hid (grown_trans HG5.out hg6)
          clear hr hg6 hv6
          have HJ := Lib.hid (scan_ask HSl.out)
          generalize (scanT S).1 = ts1 at *
          generalize (scanT S).2.1 = n1 at *
          generalize (scanT S).2.2 = er at *
          have d1 : (er != er) = false := by simp
          have d2 : (n1 != n1) = false := by simp
          go_wp2_with fail
          refine (rSame_any ts1 _ _ _ HV5.out HV6.out).mono ?_
          rintro e w7 ⟨rfl, hg7⟩
          replace HV6 := Lib.hid (HV6.out.same hg7)
          replace HG5 := Lib.hid (grown_trans HG5.out hg7)
          clear hg7 HV5 d1 d2
          go_wp2_with fail
          refine (Word_any S (by have := HSl.out; omega) _).mono ?_
          rintro e w8 ⟨rfl, rfl⟩
          go_wp2_with fail
          refine (rWord_any S (by have := HSl.out; omega) _).mono ?_
          rintro e w9 ⟨rfl, rfl⟩
          generalize isWord S = iw at *
          have d3 : (iw != iw) = false := by simp
          go_wp2_with fail
          refine (Join_any ts1 _ _ HV6.out HJ.out.1 HJ.out.2).mono ?_
          rintro e w10 ⟨rfl, hg10⟩
          replace HV6 := Lib.hid (HV6.out.same hg10)
          replace HG5 := Lib.hid (grown_trans HG5.out hg10)
          clear hg10 d3
          go_wp2_with fail
          refine (rJoin_any ts1 _ _ HV6.out HJ.out.1).mono ?_
          rintro e w11 ⟨rfl, rfl⟩
          generalize joinL ts1 = J at *
          have d4 := str_neB J
          go_wp2_with fail
          go_roundw
          case rel => exact ⟨k + 1, by go_num, by omega, HG5⟩
          case measure => simp [intOf]; omega
        · have h1 : ¬ (k : Int) < 6 := by omega
          have HS5 := Lib.hid (HSL.out.step hgr.out)
          clear HC6 HL6 hgr HSL
          go_wp2_with fail
          refine (next_st HS5.out 1000 (by omega) (by omega)).mono ?_
          rintro e w5 ⟨y, rfl, y0, y1, hs, hg⟩
          have HG6 := Lib.hid hs.2.1
          clear hs hg HS5
          go_wp2_with fail
          have HC5 : Hid (∀ (k : Nat) (h : k < 5), (w5.alloc (.cells #[.int .i64 n, .int .i64 y, .int .i64 9999999, .int .i64 10000000, .int .i64 (-1)] 3)).cell? ⟨w5.heap.size, k, none⟩ = some (.int .i64 ((five n y)[k]'h))) := Lib.hid (fun k h => by
            rw [World.cell?, heap_new _ rfl]
            match k, h with
            | 0, _ => rfl
            | 1, _ => rfl
            | 2, _ => rfl
            | 3, _ => rfl
            | 4, _ => rfl)
          have HG7 := Lib.hid (grown_trans HG6.out (World.grownBy_alloc w5 (.cells #[.int .i64 n, .int .i64 y, .int .i64 9999999, .int .i64 10000000, .int .i64 (-1)] 3) none))
          generalize hB5 : w5.heap.size = B5 at *
          generalize World.alloc w5 _ = wM at *
          clear hB5 HG6
          go_loopw [135] (fun i wr => ∃ k : Nat, i = .int .i64 k ∧ k ≤ 5 ∧ Hid (wM.grownBy wr none)) (fun i _ => 5 - (intOf i).toNat)
          case atStart => exact ⟨0, rfl, Nat.zero_le _, Lib.hid (grown_refl _ _)⟩
          case round =>
            obtain ⟨k5, rfl, hk5, hgr5⟩ := hrel
            by_cases hlt5 : k5 < 5
            · have h15 : (k5 : Int) < 5 := by omega
              have c0 := hgr5.out.cell (HC5.out k5 hlt5) (by simp)
              generalize (five n y)[k5]'hlt5 = N at *
              go_wp2_with fail
              refine (Number_all N _ (HT.out.same (grown_trans HG7.out hgr5.out))).mono ?_
              rintro e w6 ⟨rfl, hg6⟩
              have HG8 := Lib.hid (grown_trans hgr5.out hg6)
              clear hg6 c0
              go_wp2_with fail
              refine (rNumber_all N _).mono ?_
              rintro e w7 ⟨rfl, hg7⟩
              replace HG8 := Lib.hid (grown_trans HG8.out hg7)
              clear hg7
              generalize numL N = J at *
              have d4 := str_neB J
              go_wp2_with fail
              go_roundw
              case rel => exact ⟨k5 + 1, by go_num, by omega, HG8⟩
              case measure => simp [intOf]; omega
            · have h15 : ¬ (k5 : Int) < 5 := by omega
              have HG8 := Lib.hid (grown_trans HG7.out hgr5.out)
              have HTK := Lib.hid (HTK0.out.same HG8.out)
              clear HC5 hgr5 HG7
              go_wp2_with fail
              refine (Join_any ts _ _ HTK.out HJT.out HKB.out).mono ?_
              rintro e w6 ⟨rfl, hg6⟩
              replace HTK := Lib.hid (HTK.out.same hg6)
              replace HG8 := Lib.hid (grown_trans HG8.out hg6)
              clear hg6
              go_wp2_with fail
              refine (rJoin_any ts _ _ HTK.out HJT.out).mono ?_
              rintro e w7 ⟨rfl, rfl⟩
              generalize joinL ts = J at *
              have d5 := str_eqB J
              go_wp2_with fail
              go_ret
              exact ⟨by first | rfl | (rw [d5]), below_of HG8.out⟩
    · have hp1 : 1 ≤ tx.length := by have := List.length_pos_iff.2 hne; omega
      have hpos : (0 : Int) < (tx.length : Int) := by omega
      clear hne
      go_wp2_with fail
      refine (mod14_any at_ tx.length hp1 (by have := HL.out; omega) hat2 _).mono ?_
      rintro e w6 ⟨⟨y, rfl, hy⟩, rfl⟩
      have hcell := HB1.out y hy
      have hfroz := HB2.out y hy
      have hyi : (y : Int) < (tx.length : Int) := by omega
      go_wp2_with fail
      obtain ⟨bb, hbl, hbb, hgB⟩ : ∃ bb : Bs, bb.length = tx.length ∧ BytesAt (w6.setCell ⟨w4.heap.size, y, none⟩ (.int .u8 (cb.toNat : Int))) w4.heap.size bb ∧ w4.grownBy (w6.setCell ⟨w4.heap.size, y, none⟩ (.int .u8 (cb.toNat : Int))) none := ⟨tx.set y cb, List.length_set, bytes_set HB1.out hy cb, grown_then HG5.out (grown_set _ _ _) (by rintro j ⟨⟩; exact .inl (Nat.le_refl _))⟩
      generalize World.setCell w6 _ _ = wB at *
      clear hcell hfroz hyi hy
      have HBB := Lib.hid hbb
      have HSB : Hid (St w wB p d) := Lib.hid (HS4.out.step hgB)
      have HBL : Hid (bb.length ≤ 195) := Lib.hid (by rw [hbl]; exact HL.out)
      rw [← hbl]
      have e1 : tx.length + raw.length ≤ 9223372036854775807 := by have := HL.out; omega
      have e2 : 1 + tx.length ≤ 9223372036854775807 := by have := HL.out; omega
      clear hbb hgB hbl
      go_wp2_with fail
      rw [run_convert_bytes_back wB 31 9 5 ⟨w4.heap.size, 0, none⟩ cp5 bb Tryd.underlying31 Tryd.underlying5 Tryd.underlying9 (fun j hj => by have := HBB.out j hj; rw [show (⟨w4.heap.size, 0, none⟩ : Addr).add j = ⟨w4.heap.size, j, none⟩ by simp [Addr.add]; omega]; exact this)]
      simp only [Result.andThen]
      rw [Oper.upon_value]
      go_wp2_with fail
      rw [str_app tx raw, show ({ data := #[48] } ++ { data := tx.toArray } : ByteArray) = ⟨(48 :: tx).toArray⟩ from str_app [48] tx]
      clear e1 e2
      have HC6 : Hid (∀ (k : Nat) (h : k < 6), (wB.alloc (.cells #[strV raw, strV tx, strV bb, strV (tx ++ raw), strV (48 :: tx), strV [45]] 9)).cell? ⟨wB.heap.size, k, none⟩ = some (strV ((six raw tx bb)[k]'h))) := Lib.hid (fun k h => by
        rw [World.cell?, heap_new _ rfl]
        match k, h with
        | 0, _ => rfl
        | 1, _ => rfl
        | 2, _ => rfl
        | 3, _ => rfl
        | 4, _ => rfl
        | 5, _ => rfl)
      have HL6 : Hid (∀ s ∈ six raw tx bb, s.length ≤ 1000) := Lib.hid (fun s hs => by
        have h1 := HL.out; have h2 := HBL.out
        unfold six at hs
        simp only [List.mem_cons, List.not_mem_nil, or_false] at hs
        rcases hs with rfl | rfl | rfl | rfl | rfl | rfl <;> simp <;> omega)
      have HSL := Lib.hid (HSB.out.step (World.grownBy_alloc wB (.cells #[strV raw, strV tx, strV bb, strV (tx ++ raw), strV (48 :: tx), strV [45]] 9) none))
      generalize hB6 : wB.heap.size = B6 at *
      generalize World.alloc wB _ = wL at *
      clear hB6 HSB HBB
      go_loopw [85] (fun i wr => ∃ k : Nat, i = .int .i64 k ∧ k ≤ 6 ∧ Hid (wL.grownBy wr none)) (fun i _ => 6 - (intOf i).toNat)
      case atStart => exact ⟨0, rfl, Nat.zero_le _, Lib.hid (grown_refl _ _)⟩
      case round =>
        obtain ⟨k, rfl, hk, hgr⟩ := hrel
        by_cases hlt : k < 6
        · have h1 : (k : Int) < 6 := by omega
          have c0 := hgr.out.cell (HC6.out k hlt) (by simp)
          have hSl := HL6.out _ (List.getElem_mem (l := six raw tx bb) hlt)
          generalize (six raw tx bb)[k]'hlt = S at *
          have HSl := Lib.hid hSl
          go_wp2_with fail
          refine (Scan_any S HSl.out _).mono ?_
          intro e w5 hr
          obtain ⟨hg5, v5, rfl, hv5⟩ := scan_out hr
          obtain ⟨ax, cx, rfl, hml⟩ := toks_slice hv5
          have HV5 := Lib.hid hv5
          have HG5 := Lib.hid (grown_trans hgr.out hg5)
          clear hr hg5 hv5 c0 hSl
          go_wp2_with fail
          refine (rScan_any S HSl.out _).mono ?_
          intro e w6 hr
          obtain ⟨hg6, v6, rfl, hv6⟩ := scan_out hr
          obtain ⟨ay, cy, rfl, -⟩ := toks_slice hv6
          have HV6 := Lib.hid hv6
          replace HV5 := Lib.hid (HV5.out.same hg6)
          replace HG5 := Lib.hid (grown_trans HG5.out hg6)
          clear hr hg6 hv6
          have HJ := Lib.hid (scan_ask HSl.out)
          generalize (scanT S).1 = ts1 at *
          generalize (scanT S).2.1 = n1 at *
          generalize (scanT S).2.2 = er at *
          have d1 : (er != er) = false := by simp
          have d2 : (n1 != n1) = false := by simp
          go_wp2_with fail
          refine (rSame_any ts1 _ _ _ HV5.out HV6.out).mono ?_
          rintro e w7 ⟨rfl, hg7⟩
          replace HV6 := Lib.hid (HV6.out.same hg7)
          replace HG5 := Lib.hid (grown_trans HG5.out hg7)
          clear hg7 HV5 d1 d2
          go_wp2_with fail
          refine (Word_any S (by have := HSl.out; omega) _).mono ?_
          rintro e w8 ⟨rfl, rfl⟩
          go_wp2_with fail
          refine (rWord_any S (by have := HSl.out; omega) _).mono ?_
          rintro e w9 ⟨rfl, rfl⟩
          generalize isWord S = iw at *
          have d3 : (iw != iw) = false := by simp
          go_wp2_with fail
          refine (Join_any ts1 _ _ HV6.out HJ.out.1 HJ.out.2).mono ?_
          rintro e w10 ⟨rfl, hg10⟩
          replace HV6 := Lib.hid (HV6.out.same hg10)
          replace HG5 := Lib.hid (grown_trans HG5.out hg10)
          clear hg10 d3
          go_wp2_with fail
          refine (rJoin_any ts1 _ _ HV6.out HJ.out.1).mono ?_
          rintro e w11 ⟨rfl, rfl⟩
          generalize joinL ts1 = J at *
          have d4 := str_neB J
          go_wp2_with fail
          go_roundw
          case rel => exact ⟨k + 1, by go_num, by omega, HG5⟩
          case measure => simp [intOf]; omega
        · have h1 : ¬ (k : Int) < 6 := by omega
          have HS5 := Lib.hid (HSL.out.step hgr.out)
          clear HC6 HL6 hgr HSL
          go_wp2_with fail
          refine (next_st HS5.out 1000 (by omega) (by omega)).mono ?_
          rintro e w5 ⟨y, rfl, y0, y1, hs, hg⟩
          have HG6 := Lib.hid hs.2.1
          clear hs hg HS5
          go_wp2_with fail
          have HC5 : Hid (∀ (k : Nat) (h : k < 5), (w5.alloc (.cells #[.int .i64 n, .int .i64 y, .int .i64 9999999, .int .i64 10000000, .int .i64 (-1)] 3)).cell? ⟨w5.heap.size, k, none⟩ = some (.int .i64 ((five n y)[k]'h))) := Lib.hid (fun k h => by
            rw [World.cell?, heap_new _ rfl]
            match k, h with
            | 0, _ => rfl
            | 1, _ => rfl
            | 2, _ => rfl
            | 3, _ => rfl
            | 4, _ => rfl)
          have HG7 := Lib.hid (grown_trans HG6.out (World.grownBy_alloc w5 (.cells #[.int .i64 n, .int .i64 y, .int .i64 9999999, .int .i64 10000000, .int .i64 (-1)] 3) none))
          generalize hB5 : w5.heap.size = B5 at *
          generalize World.alloc w5 _ = wM at *
          clear hB5 HG6
          go_loopw [135] (fun i wr => ∃ k : Nat, i = .int .i64 k ∧ k ≤ 5 ∧ Hid (wM.grownBy wr none)) (fun i _ => 5 - (intOf i).toNat)
          case atStart => exact ⟨0, rfl, Nat.zero_le _, Lib.hid (grown_refl _ _)⟩
          case round =>
            obtain ⟨k5, rfl, hk5, hgr5⟩ := hrel
            by_cases hlt5 : k5 < 5
            · have h15 : (k5 : Int) < 5 := by omega
              have c0 := hgr5.out.cell (HC5.out k5 hlt5) (by simp)
              generalize (five n y)[k5]'hlt5 = N at *
              go_wp2_with fail
              refine (Number_all N _ (HT.out.same (grown_trans HG7.out hgr5.out))).mono ?_
              rintro e w6 ⟨rfl, hg6⟩
              have HG8 := Lib.hid (grown_trans hgr5.out hg6)
              clear hg6 c0
              go_wp2_with fail
              refine (rNumber_all N _).mono ?_
              rintro e w7 ⟨rfl, hg7⟩
              replace HG8 := Lib.hid (grown_trans HG8.out hg7)
              clear hg7
              generalize numL N = J at *
              have d4 := str_neB J
              go_wp2_with fail
              go_roundw
              case rel => exact ⟨k5 + 1, by go_num, by omega, HG8⟩
              case measure => simp [intOf]; omega
            · have h15 : ¬ (k5 : Int) < 5 := by omega
              have HG8 := Lib.hid (grown_trans HG7.out hgr5.out)
              have HTK := Lib.hid (HTK0.out.same HG8.out)
              clear HC5 hgr5 HG7
              go_wp2_with fail
              refine (Join_any ts _ _ HTK.out HJT.out HKB.out).mono ?_
              rintro e w6 ⟨rfl, hg6⟩
              replace HTK := Lib.hid (HTK.out.same hg6)
              replace HG8 := Lib.hid (grown_trans HG8.out hg6)
              clear hg6
              go_wp2_with fail
              refine (rJoin_any ts _ _ HTK.out HJT.out).mono ?_
              rintro e w7 ⟨rfl, rfl⟩
              generalize joinL ts = J at *
              have d5 := str_eqB J
              go_wp2_with fail
              go_ret
              exact ⟨by first | rfl | (rw [d5]), below_of HG8.out⟩
  · go_enter Tryd.func3, Tryd.ntmps3
    go_wp2_with fail
    refine (awake14_any _ HT.out).mono ?_
    rintro e w1 ⟨rfl, hg⟩
    have HG := Lib.hid hg
    clear hg
    go_wp2_with fail
    refine (few_any _ _ _ _).mono ?_
    rintro e w2 ⟨rfl, rfl⟩
    rw [decide_eq_false (show ¬ ((zs.length : Int) ≤ 400) by omega)]
    go_wp2_with fail
    refine (awake14_any _ (HT.out.same HG.out)).mono ?_
    rintro e w3 ⟨rfl, hg⟩
    replace HG := Lib.hid (grown_trans HG.out hg)
    clear hg
    go_wp2_with fail
    go_ret
    exact ⟨rfl, below_of HG.out⟩


/-! ### TokenExact: the statement and its card, from the walk -/
set_option maxRecDepth 100000 in
theorem contractTokenExact (H : Type) (enc : TypeId × Value → H) (W : World) (base : Nat) (args : Array Value) (ds gs : List (DataW H)) (before : List MemPlace)
    (hval0 : ∀ (j : Nat) t v, Tryd.f3.params[j]? = some t → args[j]? = some v → Value.okWide Tryd.prog W .any base t v)
    (hW : DataW.Whole enc Tryd.prog Tryd.f3.params.toList Rows.tokenExactSpec.vars false W args.toList ds gs before) (hL : laidMetH Tryd.prog Rows.tokenExactRow.laid W) :
    Calls Tryd.prog 3 args W fun e W' => ∃ v, e = .returned v ∧ Rows.tokenExactSpec.post enc Tryd.prog Tryd.f3 false true false false W args v W' := by
  have hval : ∀ (j : Nat) t v, Tryd.f3.params[j]? = some t → args[j]? = some v → Value.okWide Tryd.prog W .any base t v := hval0
  have hW' := hW
  obtain ⟨p, q, hA0, hV, rfl, hfz, hnd⟩ := hW
  have hA : DataW.TrodAll enc Tryd.prog W 0 (fun _ => true) true Tryd.f3.params.toList args.toList ds p := hA0
  rw [Tryd.params3] at hA hval
  obtain ⟨v0, vs0, d0, ds0, p0, q0, hargs, rfl, rfl, h0, r0⟩ := trodAll_cons hA
  obtain ⟨v1, vs1, d1, ds1, p1, q1, e1, rfl, rfl, h1, r1⟩ := trodAll_cons r0
  obtain ⟨v2, vs2, d2, ds2, p2, q2, e2, rfl, rfl, h2, r2⟩ := trodAll_cons r1
  obtain ⟨v3, vs3, d3, ds3, p3, q3, e3, rfl, rfl, h3, r3⟩ := trodAll_cons r2
  obtain ⟨v4, vs4, d4, ds4, p4, q4, e4, rfl, rfl, h4, r4⟩ := trodAll_cons r3
  obtain ⟨v5, vs5, d5, ds5, p5, q5, e5, rfl, rfl, h5, r5⟩ := trodAll_cons r4
  obtain ⟨rfl, rfl, rfl⟩ := trodAll_nil r5
  subst e5
  subst e4
  subst e3
  subst e2
  subst e1
  obtain rfl : args = #[v0, v1, v2, v3, v4, v5] := by cases args; simp_all
  obtain ⟨rfl, rfl⟩ := trodVars_none hV
  obtain ⟨a0, len0, cap0, rfl⟩ := okWide_slice Tryd.underlying22 (hval 0 22 v0 rfl rfl)
  have k0 := h0
  have lt0 : ∀ x ∈ p0, x.block < W.heap.size := by obtain ⟨m, hm⟩ := k0; exact DataW.trod_lt m _ _ _ hm
  obtain ⟨z0, w0⟩ : ∃ zs, IsRow .i64 W a0 len0 cap0 zs := by
    obtain ⟨fuel, hf⟩ := h0
    rcases open_ints Tryd.underlying22 Tryd.underlying3 (by kernel_rfl) hf with ⟨hcs, _⟩ | ⟨x, l, c, zs, hcs, _, hl, hm, hz, _, hcell, hwz⟩
    · simp [Value.cells] at hcs
      obtain ⟨rfl, rfl, rfl⟩ := hcs
      exact ⟨[], .inl ⟨rfl, rfl, rfl, rfl⟩⟩
    · simp [Value.cells] at hcs
      obtain ⟨rfl, rfl, rfl⟩ := hcs
      exact ⟨zs, .inr ⟨_, rfl, hl, hm, by simpa using hz, hcell, hwz⟩⟩
  obtain ⟨s1, rfl, rfl, rfl, w1⟩ := Go.ChangeMaps.open_string Tryd.underlying9 (hval 1 9 v1 rfl rfl) h1
  have hraw : s1.data.toList.length ≤ 9223372036854775807 := by have h : s1.data.toList.length ≤ maxLen := by simpa using w1
                                                                unfold maxLen at h; omega
  obtain ⟨a2, rfl, rfl, rfl, w2⟩ := open_int Tryd.underlying3 (hval 2 3 v2 rfl rfl) h2
  obtain ⟨a3, rfl, rfl, rfl, w3⟩ := open_int Tryd.underlying5 (hval 3 5 v3 rfl rfl) h3
  obtain ⟨a4, rfl, rfl, rfl, w4⟩ := open_int Tryd.underlying3 (hval 4 3 v4 rfl rfl) h4
  obtain ⟨a5, len5, cap5, rfl⟩ := okWide_slice Tryd.underlying23 (hval 5 23 v5 rfl rfl)
  have k5 := h5
  have lt5 : ∀ x ∈ p5, x.block < W.heap.size := by obtain ⟨m, hm⟩ := k5; exact DataW.trod_lt m _ _ _ hm
  obtain ⟨ts, hts, hkb⟩ : ∃ ts : List Tk, Toks W (.slice a5 len5 cap5) ts ∧ ∀ t ∈ ts, -9223372036854775808 ≤ t.1 ∧ t.1 ≤ 9223372036854775807 := by
    obtain ⟨fuel, hf⟩ := h5
    exact toks_in (fuel := fuel) hf
  obtain rfl : len5 = ts.length := by obtain ⟨a, c, h, -⟩ := hts; simp only [Value.slice.injEq] at h; exact h.2.1
  clear hA0 hval0
  refine (walkTokenExact a0 len0 cap0 z0 s1.data.toList a2 a3 a4 a5 cap5 ts W w0 hraw w2 w3 w4 hts hkb (tabP hL)).mono fun e W' ⟨he, bel⟩ => ?_
  subst he
  exact ⟨_, rfl, _, _, _, [], _, [], hW', trodAll_mk1 (shut_bool Tryd.underlying4 _), (trodAll_cons_mk (Below.trod laidOut (by kernel_rfl) (of_decide_eq_true (by kernel_rfl)) k0 bel lt0) (trodAll_cons_mk (Go.ChangeMaps.shut_string Tryd.underlying9 w1) (trodAll_cons_mk (shut_int Tryd.underlying3 w2) (trodAll_cons_mk (shut_int Tryd.underlying5 w3) (trodAll_cons_mk (shut_int Tryd.underlying3 w4) (trodAll_cons_mk (Below.trod laidOut (by kernel_rfl) (of_decide_eq_true (by kernel_rfl)) k5 bel lt5) trodAll_mk0)))))), rfl, bel.frame _, fun h => by cases h⟩
set_option maxRecDepth 100000 in
theorem metTokenExact (os : Os) : laidMet Tryd.prog tabs ((laidWorld os).forCall (fun _ _ => 0) ⟨#[], #[.slice none 0 0, .string ⟨#[]⟩, .int .i64 0, .int .u8 0, .int .i64 0, .slice none 0 0], []⟩).memory :=
  laidMet_of_run' 300 (by kernel_rfl) (by kernel_rfl)
set_option maxRecDepth 100000 in
theorem readsTokenExact (os : Os) {H : Type} (enc : TypeId × Value → H) : ∃ places, DataW.whole enc Tryd.prog ((laidWorld os).forCall (fun _ _ => 0) ⟨#[], #[.slice none 0 0, .string ⟨#[]⟩, .int .i64 0, .int .u8 0, .int .i64 0, .slice none 0 0], []⟩).memory Tryd.f3.params.toList Rows.tokenExactSpec.vars false #[Value.slice none 0 0, Value.string ⟨#[]⟩, Value.int .i64 0, Value.int .u8 0, Value.int .i64 0, Value.slice none 0 0].toList 8 = some ([.nil, .lit (.string []), .lit (.int .i64 0), .lit (.int .u8 0), .lit (.int .i64 0), .nil], [], places) :=
  ⟨[], by kernel_rfl⟩
set_option maxRecDepth 100000 in
theorem liftedTokenExact (os : Os) (started : os.Started) (H : Type) (enc : TypeId × Value → H) (F : Stop.Interp) :
    ReturnsInHanded {} Tryd.checked os 3 .any ((OpenSpec.ofChange Rows.tokenExactSpec).preRow enc Tryd.prog Tryd.f3 Rows.tokenExactRow.domain false Rows.tokenExactRow.laid) (((OpenSpec.ofChange Rows.tokenExactSpec).at F).post enc Tryd.prog Tryd.f3 false true false false) := by
  obtain ⟨places, hx⟩ := readsTokenExact os enc
  refine returnsInHanded_of_row (C := Tryd.checked) (s := OpenSpec.ofChange Rows.tokenExactSpec) ownK started (by kernel_rfl) Tryd.func3
    (witness_row_at (enc := enc) (C := Tryd.checked) false (laidWorld os) #[.slice none 0 0, .string ⟨#[]⟩, .int .i64 0, .int .u8 0, .int .i64 0, .slice none 0 0] rfl (by kernel_rfl) (by kernel_rfl) (by kernel_rfl)
      (OpenSpec.preRow_of_cond 8 hx (by kernel_rfl) (fun k hk => by cases hk) (by kernel_rfl) (metTokenExact os))) ?_
  intro W base args ds gs before hval hW _ _ _ hL _ _
  exact contractTokenExact H enc W base args ds gs before hval hW hL
theorem tokenExact_said : Rows.TokenExactSaid :=
  OpenClaim.holds_of_cond 3 Tryd.f3 rfl rfl rfl rfl rfl rfl rfl ⟨rfl, rfl, rfl, rfl, rfl⟩ rfl rfl rfl rfl rfl (by kernel_rfl) Tryd.func3 (by kernel_rfl)
    (of_decide_eq_true (by kernel_rfl)) (by unfold Func.isWrapper; first | (rw [if_pos (by decide +kernel)]; kernel_rfl) | (rw [if_neg (by decide +kernel)]; exact ⟨rfl, rfl⟩))
    (fun os started H enc _ F => by rw [OpenClaim.pre_eq_preRow]; exact liftedTokenExact os started H enc F)
theorem plainTokenExact (f : FuncId) (fn : Func) (hf : Tryd.pinned.checked.prog.funcNamed "coverability/coverabilitylaw14.TokenExact" = some f) (hfn : Tryd.pinned.checked.prog.funcs[f]? = some fn) :
    false = Tryd.pinned.checked.prog.looks [] ∧ ∀ (j : Nat) t, fn.params[j]? = some t → Tryd.pinned.checked.prog.wantsStandIn t = false := by
  obtain rfl : f = 3 := Option.some.inj ((show Tryd.prog.funcNamed "coverability/coverabilitylaw14.TokenExact" = some 3 by kernel_rfl).symm.trans hf) |>.symm
  obtain rfl : fn = Tryd.f3 := (Option.some.inj (Tryd.func3.symm.trans hfn)).symm
  refine ⟨by kernel_rfl, fun j t ht => ?_⟩
  rw [Tryd.params3] at ht
  have hm := Array.mem_of_getElem? ht
  simp only [List.mem_toArray, List.mem_cons, List.mem_nil_iff, or_false] at hm
  rcases hm with rfl | rfl | rfl | rfl | rfl | rfl
  · exact (show Tryd.prog.wantsStandIn 22 = false by kernel_rfl)
  · exact (show Tryd.prog.wantsStandIn 9 = false by kernel_rfl)
  · exact (show Tryd.prog.wantsStandIn 3 = false by kernel_rfl)
  · exact (show Tryd.prog.wantsStandIn 5 = false by kernel_rfl)
  · exact (show Tryd.prog.wantsStandIn 3 = false by kernel_rfl)
  · exact (show Tryd.prog.wantsStandIn 23 = false by kernel_rfl)
theorem tokenExact_card : Rows.TokenExactCardSaid :=
  Claim7.holds_tied_plain_at .later [] _ _ _ _ tokenExact_said (fun _ h => by cases h) (by kernel_rfl) (fun _ h => by cases h) tokenExact_row_tie rfl ⟨rfl, rfl⟩ (by kernel_rfl) rfl plainTokenExact (by kernel_rfl)
#print axioms tokenExact_card
end Go.Proofs.YthlollnpnangpaaDoor
