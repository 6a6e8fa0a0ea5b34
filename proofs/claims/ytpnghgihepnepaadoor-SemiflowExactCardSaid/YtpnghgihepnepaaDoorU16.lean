/- Texts Db, Ds in one. -/
import Derived.Test.YtpnghgihepnepaaDoorU15
import Derived.Test.YtpnghgihepnepaaDoorSz
import Derived.Outline
import Derived.Test.YtpnghgihepnepaaDoorU14
import Derived.Test.YtpnghgihepnepaaDoorU1
import Derived.Test.YtpnghgihepnepaaDoorSq
import Derived.Sort.LotA
namespace Go.Proofs.YtpnghgihepnepaaDoor
open Go.RowKit
set_option linter.unusedVariables false

def bitB (s k : Nat) : Bool := bits BinOp.and IntKind.u64 ((s : Int) / 2 ^ k) 1 == 1
def clr (s : Nat) : Nat := s &&& (s - 1)
theorem clr_bits : ∀ s : Nat, s < 64 → 1 ≤ s → bits BinOp.and IntKind.u64 (s : Int) ((s : Int) - 1) = ((clr s : Nat) : Int) := by decide +kernel
def chkC (n s : Nat) : Bool := decide (2 ^ n ≤ s) || decide (s = 0) || (idxs (bitB s) n == Lib.ctz 64 s :: idxs (bitB (clr s)) n && decide (clr s < 2 ^ n) && decide (clr s < 64) && decide (Lib.ctz 64 s < n))
theorem chkC_all : ∀ n : Nat, n < 7 → ∀ s : Nat, s < 64 → chkC n s = true := by decide +kernel
theorem idx_ctz (n : Nat) (hn : n < 7) (s : Nat) (hs : s < 64) (hs2 : s < 2 ^ n) (h1 : 1 ≤ s) : idxs (bitB s) n = Lib.ctz 64 s :: idxs (bitB (clr s)) n ∧ clr s < 2 ^ n ∧ clr s < 64 ∧ Lib.ctz 64 s < n := by
  have h := chkC_all n hn s hs
  unfold chkC at h
  have e1 : decide (2 ^ n ≤ s) = false := by simp; omega
  have e2 : decide (s = 0) = false := by simp; omega
  rw [e1, e2] at h
  simpa [and_assoc] using h
theorem bit_zero : ∀ n : Nat, n < 7 → idxs (bitB 0) n = [] := by decide +kernel
def chkZ (n s k : Nat) : Bool := decide (2 ^ n ≤ s) || decide (k < n) || !bitB s k
theorem chkZ_all : ∀ n : Nat, n < 7 → ∀ s : Nat, s < 64 → ∀ k : Nat, k < 6 → chkZ n s k = true := by decide +kernel
theorem bit_high {n s k : Nat} (hn : n < 7) (hs : s < 64) (hs2 : s < 2 ^ n) (hk : k < 6) (h : n ≤ k) : bitB s k = false := by
  have h1 := chkZ_all n hn s hs k hk
  unfold chkZ at h1
  have e1 : decide (2 ^ n ≤ s) = false := by simp; omega
  have e2 : decide (k < n) = false := by simp; omega
  rw [e1, e2] at h1
  simpa using h1
def encB (b0 b1 b2 b3 b4 b5 : Bool) : Nat := b0.toNat + 2 * b1.toNat + 4 * b2.toNat + 8 * b3.toNat + 16 * b4.toNat + 32 * b5.toNat
theorem enc_bits : ∀ b0 b1 b2 b3 b4 b5 : Bool, bitB (encB b0 b1 b2 b3 b4 b5) 0 = b0 ∧ bitB (encB b0 b1 b2 b3 b4 b5) 1 = b1 ∧ bitB (encB b0 b1 b2 b3 b4 b5) 2 = b2 ∧ bitB (encB b0 b1 b2 b3 b4 b5) 3 = b3 ∧ bitB (encB b0 b1 b2 b3 b4 b5) 4 = b4 ∧ bitB (encB b0 b1 b2 b3 b4 b5) 5 = b5 := by decide +kernel
theorem enc_of : ∀ s : Nat, s < 64 → encB (bitB s 0) (bitB s 1) (bitB s 2) (bitB s 3) (bitB s 4) (bitB s 5) = s := by decide +kernel
theorem bit_same {n : Nat} (hn : n < 7) {s t : Nat} (hs : s < 64) (hs2 : s < 2 ^ n) (ht : t < 64) (ht2 : t < 2 ^ n) (h : ∀ k, k < n → bitB s k = bitB t k) : s = t := by
  have h1 : ∀ k, k < 6 → bitB s k = bitB t k := fun k hk => by
    by_cases e : k < n
    · exact h k e
    · rw [bit_high hn hs hs2 hk (by omega), bit_high hn ht ht2 hk (by omega)]
  rw [← enc_of s hs, ← enc_of t ht, h1 0 (by omega), h1 1 (by omega), h1 2 (by omega), h1 3 (by omega), h1 4 (by omega), h1 5 (by omega)]
theorem mask_of (I : Nat → Bool) {n : Nat} (h6 : n ≤ 6) : ∃ s, s < 2 ^ n ∧ s < 64 ∧ ∀ k, k < n → bitB s k = I k := by
  obtain ⟨J, hJ⟩ : ∃ J : Nat → Bool, J = fun k => decide (k < n) && I k := ⟨_, rfl⟩
  have hJn : ∀ k, n ≤ k → J k = false := fun k hk => by rw [hJ]; simp; omega
  have hJI : ∀ k, k < n → J k = I k := fun k hk => by rw [hJ]; simp [hk]
  have he := enc_bits (J 0) (J 1) (J 2) (J 3) (J 4) (J 5)
  refine ⟨encB (J 0) (J 1) (J 2) (J 3) (J 4) (J 5), ?_, ?_, fun k hk => ?_⟩
  · have hb : ∀ b : Bool, b.toNat ≤ 1 := by decide
    have h0 := hb (J 0); have h1 := hb (J 1); have h2 := hb (J 2); have h3 := hb (J 3); have h4 := hb (J 4); have h5 := hb (J 5)
    have z : ∀ k, n ≤ k → (J k).toNat = 0 := fun k hk => by rw [hJn k hk]; rfl
    unfold encB
    obtain rfl | rfl | rfl | rfl | rfl | rfl | rfl : n = 0 ∨ n = 1 ∨ n = 2 ∨ n = 3 ∨ n = 4 ∨ n = 5 ∨ n = 6 := by omega
    · have := z 0 (by omega); have := z 1 (by omega); have := z 2 (by omega); have := z 3 (by omega); have := z 4 (by omega); have := z 5 (by omega); omega
    · have := z 1 (by omega); have := z 2 (by omega); have := z 3 (by omega); have := z 4 (by omega); have := z 5 (by omega); omega
    · have := z 2 (by omega); have := z 3 (by omega); have := z 4 (by omega); have := z 5 (by omega); omega
    · have := z 3 (by omega); have := z 4 (by omega); have := z 5 (by omega); omega
    · have := z 4 (by omega); have := z 5 (by omega); omega
    · have := z 5 (by omega); omega
    · omega
  · have hb : ∀ b : Bool, b.toNat ≤ 1 := by decide
    have h0 := hb (J 0); have h1 := hb (J 1); have h2 := hb (J 2); have h3 := hb (J 3); have h4 := hb (J 4); have h5 := hb (J 5)
    unfold encB; omega
  · rw [← hJI k hk]
    obtain ⟨e0, e1, e2, e3, e4, e5⟩ := he
    obtain rfl | rfl | rfl | rfl | rfl | rfl : k = 0 ∨ k = 1 ∨ k = 2 ∨ k = 3 ∨ k = 4 ∨ k = 5 := by omega
    · exact e0
    · exact e1
    · exact e2
    · exact e3
    · exact e4
    · exact e5
/-- The library's table. -/
def TabW (w : World) : Prop := TabAt (Tryd.tz_ren.g 1) Lib.deBruijn64tab w
theorem TabW.same {w w' : World} (h : TabW w) (g : w.grownBy w' none) : TabW w' := fun j hj => g.cell (h j hj) (by simp)
theorem TabW.deal {w w' : World} {d : Nat} (h : TabW w) (g : w.grownBy w' (some d)) (hd : Tryd.tz_ren.g 1 < d) : TabW w' := fun j hj => g.cell (h j hj) (by simp; omega)
theorem tz_any {w : World} (h : TabW w) (s : Nat) (hs : s < 64) : Calls Tryd.prog 47 #[.int .u64 (s : Int)] w fun e w' => e = .returned (.int .i64 (Lib.ctz 64 s : Nat)) ∧ w' = w :=
  Any7.bits_TrailingZeros Tryd.tz s (by omega) w (fun _ => h)
/-- The rows of a support. -/
def rowsS (ps : List Row) (s k : Nat) : List Row := (idxs (bitB s) k).map (fun i => ps[i]?.getD rowN)
theorem rowsS_succ (ps : List Row) (s k : Nat) : rowsS ps s (k + 1) = rowsS ps s k ++ (if bitB s k then [ps[k]?.getD rowN] else []) := by
  unfold rowsS
  rw [idxs_succ, List.map_append]
  congr 1
  split <;> rfl
theorem rowsS_mem {ps : List Row} {s k : Nat} (hk : k ≤ ps.length) {q : Row} (hq : q ∈ rowsS ps s k) : q ∈ ps := by
  unfold rowsS at hq
  obtain ⟨i, hi, rfl⟩ := List.mem_map.1 hq
  have hil : i < ps.length := by have := (idxs_lt hi).1; omega
  rw [List.getElem?_eq_getElem hil]
  exact List.getElem_mem hil
theorem idxs_len (I : Nat → Bool) : ∀ k, (idxs I k).length ≤ k
  | 0 => Nat.le_refl _
  | k + 1 => by rw [idxs_succ, List.length_append]; have := idxs_len I k; split <;> simp <;> omega
theorem rowsS_turn (ps : List Row) (s c : Nat) : turnL (rowsS ps s ps.length) c = colsOf (ps.map Prod.snd) c (idxs (bitB s) (ps.map Prod.snd).length) := by
  unfold turnL colsOf colL rowsS
  rw [List.length_map]
  refine List.map_congr_left (fun j _ => ?_)
  rw [List.map_map]
  refine List.map_congr_left (fun i hi => ?_)
  have hil : i < ps.length := (idxs_lt hi).1
  show (ps[i]?.getD rowN).2[j]?.getD 0 = ((ps.map Prod.snd)[i]?.getD [])[j]?.getD 0
  rw [List.getElem?_map, List.getElem?_eq_getElem hil]; rfl
def WithTo (C : List (List Int)) (c s : Nat) (w : World) (e : Ending) (w' : World) : Prop := w.grownBy w' none ∧
  ((∃ y v', e = .returned (.tuple #[v', .bool true]) ∧ OwnI w' w.heap.size v' y ∧ FlowAt C c (bitB s) y ∧ ∀ x ∈ y, 0 ≤ x ∧ x ≤ 12079595520) ∨ (e = .returned (.tuple #[.slice none 0 0, .bool false]) ∧ ∀ y, ¬ FlowAt C c (bitB s) y))
theorem with_bd {L : List Nat} {v : List Int} {n : Nat} (hp : ∀ x ∈ v, 0 ≤ x ∧ x ≤ 12079595520) : ∀ t, ∀ x ∈ spr L v n t, 0 ≤ x ∧ x ≤ 12079595520
  | 0 => fun x hx => by rw [List.eq_of_mem_replicate hx]; omega
  | t + 1 => fun x hx => by
    rcases List.mem_or_eq_of_mem_set hx with hx | rfl
    · exact with_bd hp t x hx
    · cases h : v[t]? with
      | none => simp
      | some z => exact hp z (List.mem_of_getElem? h)
set_option maxRecDepth 100000 in
set_option maxHeartbeats 3000000 in
theorem with_any {w : World} {v : Value} {ps : List Row} {r c : Nat} (h : RowsP w v ps) (hm : MatOkP r c ps) (h6 : r ≤ 6) (s : Nat) (hs1 : 1 ≤ s) (hs : s < 2 ^ r) (hs64 : s < 64) (hT : TabW w) :
    Calls Tryd.prog 31 #[v, .int .u64 (s : Int)] w (WithTo (ps.map Prod.snd) c s w) := by
  have HM := Lib.hid hm
  obtain ⟨hpl, hr1, hr12, hc1, hc12, hrc, hq⟩ := hm
  obtain ⟨a, cap, rfl, -⟩ : ∃ a cap, v = .slice a ps.length cap ∧ True := by obtain ⟨a, cap, h, -⟩ := h; exact ⟨a, cap, h, trivial⟩
  have H := Lib.hid h; have HT := Lib.hid hT; have HQ := Lib.hid hq; have HS := Lib.hid hs
  have hp6 : ps.length ≤ 6 := by omega
  have HG0 := Lib.hid (grown_refl w none)
  have HPL := Lib.hid hpl
  obtain ⟨C, hC⟩ : ∃ C, C = ps.map Prod.snd := ⟨_, rfl⟩
  have HC := Lib.hid hC
  rw [← hC]
  clear h hq hpl hr12 hrc h6 hT hs hC
  go_enter Tryd.func31, Tryd.ntmps31
  go_wp2_with fail
  go_loopw [17, 6] (fun i o wr => ∃ k : Nat, i = .int .i64 k ∧ k ≤ ps.length ∧ Hid (OwnP wr w.heap.size o (rowsS ps s k)) ∧ Hid (w.grownBy wr none)) (fun i _ _ => ps.length - (intOf i).toNat)
  case atStart => exact ⟨0, rfl, Nat.zero_le _, Lib.hid (by show OwnP w w.heap.size _ []; exact OwnP.nil _ _), HG0⟩
  case round =>
    clear HG0
    obtain ⟨k, rfl, hk, HO, HG⟩ := hrel
    rename World => wk
    by_cases hkb : k < ps.length
    · have h1 : (k : Int) < (ps.length : Int) := by omega
      have i1 : IntKind.i64.wrap ((k : Int) + 1) = (k : Int) + 1 := IntWalk.i64_in _ (by omega)
      have HRS := Lib.hid (rowsS_succ ps s k)
      cases hbit : bitB s k with
      | false =>
        have q1 : (bits BinOp.and IntKind.u64 ((s : Int) / 2 ^ k) 1 == 1) = false := hbit
        have HN : Hid (rowsS ps s (k + 1) = rowsS ps s k) := Lib.hid (by rw [HRS.out, hbit]; simp)
        clear hbit
        go_wp2_with fail
        go_roundw
        case rel => exact ⟨k + 1, by go_num, by omega, Lib.hid (by rw [HN.out]; exact HO.out), HG⟩
        case measure => simp [intOf]; omega
      | true =>
        have q1 : (bits BinOp.and IntKind.u64 ((s : Int) / 2 ^ k) 1 == 1) = true := hbit
        have HN : Hid (rowsS ps s (k + 1) = rowsS ps s k ++ [ps[k]]) := Lib.hid (by rw [HRS.out, hbit, if_pos rfl, List.getElem?_eq_getElem hkb]; rfl)
        clear hbit
        obtain ⟨b, off, ar, cr, rfl, hcr, hrv, -⟩ := H.out.row hkb
        have hcr2 := HG.out.cell hcr (by simp)
        have HRK : Hid (RowOk w ps[k]) := Lib.hid (by obtain ⟨_, _, -, -, -, h⟩ := H.out; exact h _ (List.getElem_mem hkb))
        have hwid := (HQ.out _ (List.getElem_mem hkb)).1
        rw [hwid] at hcr2 hrv
        have HRV := Lib.hid hrv
        have HLN : Hid ((rowsS ps s k).length ≤ 1000000000000) := Lib.hid (by unfold rowsS; rw [List.length_map]; have := idxs_len (bitB s) k; omega)
        clear hcr hrv hwid HRS
        generalize ps[k] = pk at *
        obtain ⟨pv, pr⟩ := pk
        have hpv : pv = .slice ar c cr := HRV.out
        subst hpv
        go_wp2_with (at_builtin; go_loud (refine app_row rfl _ _ rfl w.heap.size _ (rowsS ps s k) rfl (HO.out.same (World.grownBy_alloc _ _ none)) wk.heap.size (.slice ar c cr, pr) rfl (cell_new rfl) ((HRK.out.same HG.out).same (World.grownBy_alloc _ _ none)) (fun g hg e => by have := HRK.out.2.2 g hg; have := (HO.out.fresh g e).1; omega) HLN.out (Nat.le_trans HG.out.size (World.grownBy_alloc _ _ none).size) ?_))
        intro v' w9 ho9 hg9
        have HO9 := Lib.hid ho9
        have HG9 := Lib.hid (grown_then (grown_after HG.out) hg9 (fun j hj => .inl (HO.out.fresh j hj).1))
        clear ho9 hg9 hcr2
        go_wp2_with fail
        go_roundw
        case rel => exact ⟨k + 1, by go_num, by omega, Lib.hid (by rw [HN.out]; exact HO9.out), HG9⟩
        case measure => simp [intOf]; omega
    · obtain rfl : k = ps.length := by omega
      have h1 : ¬ (ps.length : Int) < (ps.length : Int) := by omega
      obtain ⟨L, hL⟩ : ∃ L, L = idxs (bitB s) ps.length := ⟨_, rfl⟩
      have HL := Lib.hid hL
      have hLl : (rowsS ps s ps.length).length = L.length := by unfold rowsS; rw [List.length_map, hL]
      have hctz := idx_ctz ps.length (by omega) s hs64 (by rw [HPL.out]; exact HS.out) hs1
      have hL1 : 1 ≤ L.length := by rw [hL, hctz.1]; simp
      have hL6 : L.length ≤ 6 := by rw [hL]; have := idxs_len (bitB s) ps.length; omega
      have HRO : Hid (MatOkP L.length c (rowsS ps s ps.length)) := Lib.hid ⟨hLl, hL1, by omega, hc1, hc12, by omega, fun q hq => HQ.out q (rowsS_mem (Nat.le_refl _) hq)⟩
      obtain ⟨ao, co, rfl⟩ := HO.out.slice
      have HR : Hid (RowsP wk (.slice ao L.length co) (rowsS ps s ps.length)) := Lib.hid (by have := HO.out.rows; rw [hLl] at this; exact this)
      rw [hLl]
      clear hL hLl hctz HO
      go_wp2_with fail
      refine (Transpose_any HR.out HRO.out).mono ?_
      rintro e w1 ⟨vt, ts, rfl, hM, hts, hg⟩
      have HTO := Lib.hid (turn_ok HRO.out hts)
      have HTS : Hid (ts.map Prod.snd = colsOf C c (idxs (bitB s) C.length)) := Lib.hid (by rw [hts, rowsS_turn, HC.out])
      have HCL : Hid (idxs (bitB s) C.length = L) := Lib.hid (by rw [HL.out, HC.out, List.length_map])
      have HMT := Lib.hid hM
      replace HG := Lib.hid (grown_trans HG.out hg)
      have HFIT : Hid (RedFit ts L.length) := Lib.hid (redFit_any (fun q hq => (HTO.out.2.2.2.2.2.2 q hq).1) (fun q hq => (HTO.out.2.2.2.2.2.2 q hq).2) (.inr hL6))
      clear hM hts hg HR
      go_wp2_with fail
      refine (Kernel_any HMT.out.rowsP HTO.out HFIT.out).mono ?_
      rintro e w2 ⟨qs, vk, ks, hq, rfl, hK, hk, hg⟩
      have hwd : ∀ x ∈ colsOf C c (idxs (bitB s) C.length), x.length = L.length := fun x hx => by rw [colsOf_wide x hx, HCL.out]
      obtain ⟨os, co2, hB⟩ := BInv.all (hq.trans HTS.out) hwd L.length (Nat.le_refl _)
      have HB : Hid (BInv (colsOf C c (idxs (bitB s) C.length)) (idxs (bitB s) C.length).length (idxs (bitB s) C.length).length (redN (qs, [], 1) L.length) os co2) := Lib.hid (by rw [HCL.out]; rw [HCL.out] at hB; exact hB)
      have HKS : Hid (ks.map Prod.snd = kerOf (redN (qs, [], 1) L.length) (idxs (bitB s) C.length).length) := Lib.hid (by rw [HCL.out]; exact hk)
      have HKB : Hid (∀ v ∈ ks.map Prod.snd, v.length = L.length ∧ ∀ x ∈ v, x.natAbs ≤ 12079595520) := Lib.hid (fun v hv => by
        rw [hk] at hv
        have h16 : ∀ x ∈ colsOf C c (idxs (bitB s) C.length), ∀ y ∈ x, y.natAbs ≤ 16 := fun x hx y hy => by
          rw [← HTS.out] at hx
          obtain ⟨q, hq', rfl⟩ := List.mem_map.1 hx
          have := (HTO.out.2.2.2.2.2.2 q hq').2 y hy
          omega
        exact ⟨(ker_vec hB hwd v hv).len, ker_bd hB hwd h16 (.inr hL6) v hv⟩)
      have HK := Lib.hid hK
      replace HG := Lib.hid (grown_trans HG.out hg)
      generalize redN (qs, [], 1) L.length = st at *
      have hks6 : ks.length ≤ 6 := by
        have := ker_count HB.out
        rw [← HKS.out, List.length_map, HCL.out] at this
        omega
      clear hq hK hk hg hwd hB HMT HFIT HTO HTS
      obtain ⟨ak, ck, rfl⟩ := HK.out.slice
      by_cases hone : ks.length = 1
      · obtain ⟨q, rfl⟩ : ∃ q, ks = [q] := List.length_eq_one_iff.1 hone
        have hqm : q.2 ∈ [q].map Prod.snd := by simp
        have HQL := Lib.hid (HKB.out q.2 hqm)
        obtain ⟨gk, ck', hvk, -⟩ := HK.out.head (by simp)
        simp only [Value.slice.injEq] at hvk
        obtain ⟨rfl, -, rfl⟩ := hvk
        obtain ⟨bq, cq, hrq, -⟩ := HK.out.row (i := 0) (by simp) (by have := HQL.out.1; show 1 ≤ q.2.length; omega)
        have hcq := (HK.out.own.cell 0 (by simp)).1
        have HQR : Hid (OwnI w2 w1.heap.size q.1 q.2) := Lib.hid (HK.out.rows q (by simp))
        have hrq2 : q.1 = .slice (some ⟨bq, 0, none⟩) L.length cq := by have h1 := HQL.out.1; rw [← h1]; exact hrq
        have hcq2 : w2.cell? ⟨gk, 0, none⟩ = some (.slice (some ⟨bq, 0, none⟩) L.length cq) := by rw [← hrq2]; exact hcq
        have HKS1 : Hid (kerOf st (idxs (bitB s) C.length).length = [q.2]) := Lib.hid HKS.out.symm
        rw [hrq2] at HQR
        have HCQ : Hid (∀ t, t < q.2.length → w2.cell? ⟨bq, t, none⟩ = some (.int .i64 (q.2[t]?.getD 0))) := Lib.hid (fun t ht => (HQR.out.cell t ht).1)
        have HQI : Hid (Ints w2 (.slice (some ⟨bq, 0, none⟩) L.length cq) q.2) := Lib.hid (HQR.out.ints (fun x hx => by have := HQL.out.2 x hx; omega))
        have HC2 := Lib.hid hcq2
        generalize q.2 = z at *
        clear hqm hrq hrq2 hcq HKB HKS HK hone HQR hks6
        go_wp2_with fail
        refine (min_any _ _ _ HQI.out (by have := HQL.out.1; omega)).mono ?_
        rintro e w3 ⟨m, rfl, hmn, hw⟩
        subst hw
        have HMN := Lib.hid hmn
        by_cases hm0 : m ≤ 0
        · have HNO : Hid (∀ y, ¬ FlowAt C c (bitB s) y) := Lib.hid (fun y => no_at HB.out (by rw [HCL.out]; omega) (fun v hv => by
            rw [HKS1.out] at hv
            obtain rfl : z = v := by simpa using hv
            obtain ⟨t, ht, e⟩ := List.getElem_of_mem HMN.out.1
            exact ⟨t, by rw [HCL.out, ← HQL.out.1]; exact ht, by rw [List.getElem?_eq_getElem ht]; simp only [Option.getD_some]; omega⟩) y)
          clear hmn hcq2
          go_wp2_with fail
          go_ret2
          exact ⟨HG.out, .inr ⟨rfl, HNO.out⟩⟩
        · have HFA : Hid (FlowAt C c (bitB s) (spr L z ps.length L.length)) := Lib.hid (by
            have := at_of_one HB.out HKS1.out (fun t ht => by
              rw [HCL.out, ← HQL.out.1] at ht
              have := HMN.out.2 _ (List.getElem_mem ht)
              rw [List.getElem?_eq_getElem ht]; simp only [Option.getD_some]; omega)
            rw [HCL.out] at this
            have e : C.length = ps.length := by rw [HC.out, List.length_map]
            rw [e] at this
            exact this)
          have HZP : Hid (∀ x ∈ z, 0 ≤ x ∧ x ≤ 12079595520) := Lib.hid (fun x hx => by have := HQL.out.2 x hx; have := HMN.out.2 x hx; omega)
          clear hmn
          go_wp2_with (at_make; refine make_int rfl _ _ rfl ps.length rfl rfl (by omega) ?_)
          intro w4 ho hg
          have HO : Hid (OwnI w4 w3.heap.size (.slice (some ⟨w3.heap.size, 0, none⟩) ps.length ps.length) (spr L z ps.length 0)) := Lib.hid ho
          have HG4 := Lib.hid hg
          have hcq4 := hg.cell hcq2 (by simp)
          clear ho hg hcq2
          go_wp2_with fail
          clear hcq4
          go_loopw [60, 1] (fun i u wr => ∃ t st' : Nat, i = .int .i64 t ∧ u = .int .u64 (st' : Nat) ∧ t ≤ L.length ∧ st' < 64 ∧ st' < 2 ^ ps.length ∧ Hid (idxs (bitB st') ps.length = L.drop t) ∧ Hid (OwnI wr w3.heap.size (.slice (some ⟨w3.heap.size, 0, none⟩) ps.length ps.length) (spr L z ps.length t)) ∧ Hid (w3.grownBy wr none)) (fun i _ _ => L.length - (intOf i).toNat)
          case atStart => exact ⟨0, s, rfl, rfl, Nat.zero_le _, hs64, by rw [HPL.out]; exact HS.out, Lib.hid (by rw [List.drop_zero]; exact HL.out.symm), HO, HG4⟩
          case round =>
            clear HO HG4
            obtain ⟨t, u, rfl, rfl, ht, hu64, hun, HI, HO, HGR⟩ := hrel
            rename World => wt
            by_cases htb : t < L.length
            · have h2 : (t : Int) < (L.length : Int) := by omega
              have i2 : IntKind.i64.wrap ((t : Int) + 1) = (t : Int) + 1 := IntWalk.i64_in _ (by omega)
              have hu1 : 1 ≤ u := by
                by_cases e : u = 0
                · subst e
                  have := HI.out
                  rw [bit_zero ps.length (by omega)] at this
                  have := congrArg List.length this
                  simp at this
                  omega
                · omega
              have hcz := idx_ctz ps.length (by omega) u hu64 hun hu1
              have hdrop : L.drop t = L[t] :: L.drop (t + 1) := List.drop_eq_getElem_cons htb
              have e1 := HI.out
              rw [hcz.1, hdrop] at e1
              obtain ⟨ec, er⟩ := List.cons.inj e1
              have HIN : Hid (idxs (bitB (clr u)) ps.length = L.drop (t + 1)) := Lib.hid er
              have hcl64 := hcz.2.2.1
              have hcln := hcz.2.1
              have hctn := hcz.2.2.2
              have hcb := clr_bits u hu64 hu1
              have HEC : Hid (L[t]?.getD 0 = Lib.ctz 64 u) := Lib.hid (by rw [List.getElem?_eq_getElem htb]; exact ec.symm)
              have m1 : IntKind.u64.wrap ((u : Int) - 1) = (u : Int) - 1 := by rw [IntKind.wrap_u64]; omega
              have htz : t < z.length := by have := HQL.out.1; omega
              have hcx := HGR.out.cell (HCQ.out t htz) (by simp)
              have hcs := HO.out.cell (Lib.ctz 64 u) (by rw [spr_len]; exact hctn)
              have hcs2 := hcs.2
              obtain ⟨zz, hcs1⟩ : ∃ z, wt.cell? ⟨w3.heap.size, Lib.ctz 64 u, none⟩ = some z := ⟨_, hcs.1⟩
              have HON : Hid (OwnI (wt.setCell ⟨w3.heap.size, Lib.ctz 64 u, none⟩ (.int .i64 (z[t]?.getD 0))) w3.heap.size (.slice (some ⟨w3.heap.size, 0, none⟩) ps.length ps.length) (spr L z ps.length (t + 1))) := Lib.hid (by
                have := HO.out.stored (Lib.ctz 64 u) (z[t]?.getD 0)
                rw [← HEC.out] at this ⊢
                exact this)
              have HGN : Hid (w3.grownBy (wt.setCell ⟨w3.heap.size, Lib.ctz 64 u, none⟩ (.int .i64 (z[t]?.getD 0))) none) := Lib.hid (grown_then HGR.out (grown_set _ _ _) (by rintro j ⟨⟩; exact .inl (Nat.le_refl _)))
              have HTW := Lib.hid ((HT.out.same HG.out).same HGR.out)
              have htc := tz_any HTW.out u hu64
              have HTC := Lib.hid htc
              have h3 : ((Lib.ctz 64 u : Nat) : Int) < (ps.length : Int) := by omega
              generalize z[t]?.getD 0 = x at *
              generalize Lib.ctz 64 u = cz at *
              clear hcz hdrop e1 ec er hcs htc htz hctn
              go_wp2_with fail
              refine HTC.out.mono ?_
              rintro e w5 ⟨rfl, hw⟩
              subst hw
              go_wp2_with fail
              clear hcx hcs1 hcs2
              go_roundw
              case rel => exact ⟨t + 1, clr u, by go_num, by first | rfl | rw [hcb], by omega, hcl64, hcln, HIN, HON, HGN⟩
              case measure => simp [intOf]; omega
            · obtain rfl : t = L.length := by omega
              have h2 : ¬ (L.length : Int) < (L.length : Int) := by omega
              go_wp2_with fail
              go_ret2
              exact ⟨grown_trans HG.out HGR.out, .inl ⟨_, _, rfl, HO.out.mono HG.out.size, HFA.out, with_bd HZP.out _⟩⟩
      · have hk1 : ((ks.length : Int) != 1) = true := by simp; omega
        have HNO : Hid (∀ y, ¬ FlowAt C c (bitB s) y) := Lib.hid (fun y => no_at HB.out (by rw [HCL.out]; omega) (fun v hv => by
          rw [← HKS.out] at hv
          have := congrArg List.length hv
          simp at this
          omega) y)
        go_wp2_with fail
        go_ret2
        exact ⟨HG.out, .inr ⟨rfl, HNO.out⟩⟩
end Go.Proofs.YtpnghgihepnepaaDoor

namespace Go.Proofs.YtpnghgihepnepaaDoor
open Go.RowKit Go.Shelf Go.Lib Go.Sort
set_option linter.unusedVariables false

theorem ins_none (p : Option Addr) (cap : Nat) (fv : Value) (w : World) :
    Calls Tryd.prog 58 #[.slice p 0 cap, .int .i64 0, .int .i64 0, fv] w fun e w' => e = .returned (.tuple #[]) ∧ w' = w := by
  go_enter Tryd.func58, Tryd.ntmps58
  go_wp2
  refine wp_loop_rounds 1 ?_
  rw [rounds_succ]
  go_wp2
  go_end0
  exact ⟨rfl, rfl⟩
set_option maxHeartbeats 2000000 in
theorem pdq_none (p : Option Addr) (cap : Nat) (lim : Int) (fv : Value) (w : World) :
    Calls Tryd.prog 48 #[.slice p 0 cap, .int .i64 0, .int .i64 0, .int .i64 lim, fv] w fun e w' => e = .returned (.tuple #[]) ∧ w' = w := by
  go_enter Tryd.func48, Tryd.ntmps48
  go_wp2_with fail
  refine wp_loop_rounds 1 ?_
  rw [rounds_succ]
  go_wp2_with (go_at_call 58; refine (ins_none _ _ _ _).mono ?_; rintro e w' ⟨rfl, rfl⟩)
  (try simp only [Exit.inBlock, Exit.then]); refine bodyPost_ret (results_none rfl _ _ _) rfl ?_
  exact ⟨rfl, rfl⟩
theorem sort_none (p : Option Addr) (cap : Nat) (fv : Value) (w : World) :
    Calls Tryd.prog 32 #[.slice p 0 cap, fv] w fun e w' => e = .returned (.tuple #[]) ∧ w' = w := by
  have hl : ∀ W, Calls Tryd.prog 49 #[.int .u64 0] W fun e w' => e = .returned (.int .i64 (Lib.bitLen 0 : Nat)) ∧ w' = W :=
    fun W => Any.bits_Len (SlLaysF0.n15.bits (P := Tryd.prog) (ρ := Tryd.laysSlF6_f32_ren) { Tryd.laysSlF6_f32 with }) 0 W (by omega) (by omega)
  go_enter Tryd.func32, Tryd.ntmps32
  go_wp2_with (first | (go_at_call 49; refine (hl _).mono ?_; rintro e w' ⟨rfl, rfl⟩) | (go_at_call 48; refine (pdq_none _ _ _ _ _).mono ?_; rintro e w' ⟨rfl, rfl⟩))
  go_end0
  exact ⟨rfl, rfl⟩

/-- A row of a length that lies apart from block g. -/
abbrev El (w : World) (g m : Nat) : Type := { p : Row // RowOk w p ∧ (∀ k, p.1.ownBlock = some k → k ≠ g) ∧ p.2.length = m }
def encEl (w : World) (g m : Nat) (x : El w g m) : Value := x.1.1
def cmpEl (w : World) (g m : Nat) (x y : El w g m) : Int := compareI x.1.2 y.1.2
theorem swo_cmp (w : World) (g m : Nat) : Go.Sort.SWO (ltOf (cmpEl w g m)) := by
  have hneg := fun a b : List Int => compareI_neg a b
  refine ⟨fun x => ?_, fun x y z h1 h2 => ?_, fun x y z h1 h2 => ?_⟩
  · unfold ltOf cmpEl
    have := (compareI_zero x.1.2 x.1.2).2 rfl
    rw [this]; rfl
  · unfold ltOf cmpEl at *
    simp only [decide_eq_true_eq] at *
    have h3 := cmp_trans _ _ _ (Int.le_of_lt h1) (Int.le_of_lt h2)
    rcases Int.lt_or_eq_of_le h3 with h4 | h4
    · exact h4
    · have := (compareI_zero _ _).1 h4
      rw [this] at h1
      have := hneg y.1.2 z.1.2
      omega
  · unfold ltOf cmpEl at *
    simp only [decide_eq_false_iff_not, Int.not_lt] at *
    have h3 := hneg y.1.2 x.1.2
    have h4 := hneg z.1.2 y.1.2
    have h5 := cmp_trans z.1.2 y.1.2 x.1.2 (by have := hneg y.1.2 z.1.2; omega) (by have := hneg x.1.2 y.1.2; omega)
    have := hneg x.1.2 z.1.2
    omega

theorem grownBy_sort {α : Type} [Inhabited α] (enc : α → Value) (w : World) (g n : Nat) (os : Array Obj) (d : Array α) : w.grownBy (sortWorld enc w g 0 n d os) (some g) := by
  refine ⟨rfl, rfl, rfl, by simp [sortWorld], fun k hk hne => ?_⟩
  unfold sortWorld
  rw [heap_grow_old _ _ (by simpa using hk)]
  have : g ≠ k := fun e => hne (by rw [e])
  simp [putRow, mapBlock, Sort.ahead, Array.getElem?_modify, this]

theorem sortm_any (v : Value) (ps : List Row) (base m : Nat) (w : World) (h : OwnP w base v ps) (hlen : ps.length ≤ 1000000000000) (hml : ∀ p ∈ ps, p.2.length = m) (hne : ps ≠ []) :
    Calls Tryd.prog 32 #[v, .func (.func 33) #[] #[]] w fun e w' => e = .returned (.tuple #[]) ∧ ∃ ps' : List Row, ps'.Perm ps ∧ ps'.Pairwise (fun p q => compareI p.2 q.2 ≤ 0) ∧ OwnP w' base v ps' ∧ w.grownBy w' v.ownBlock := by
  rcases h.1.2 with ⟨rfl, h0⟩ | ⟨g, cap, cur, rfl, hbg, hh, hn, hm, hs, ht⟩
  · have : ps = [] := List.eq_nil_of_length_eq_zero h0
    subst this
    refine (sort_none _ _ _ _).mono ?_
    rintro e w' ⟨rfl, rfl⟩
    exact ⟨rfl, [], List.Perm.refl _, List.Pairwise.nil, h, grown_refl _ _⟩
  · have hall : ∀ p ∈ ps, RowOk w p ∧ (∀ k, p.1.ownBlock = some k → k ≠ g) ∧ p.2.length = m := fun p hp => ⟨(h.2 p hp).1, fun k hk e => (h.2 p hp).2 k hk (by rw [e]; rfl), hml p hp⟩
    obtain ⟨p0, hp0⟩ : ∃ p, p ∈ ps := List.exists_mem_of_ne_nil _ hne
    haveI : Inhabited (El w g m) := ⟨⟨p0, hall p0 hp0⟩⟩
    obtain ⟨d, hd⟩ : ∃ d : List (El w g m), d.map Subtype.val = ps := ⟨ps.pmap (fun p hp => ⟨p, hp⟩) hall, by rw [List.map_pmap]; simp⟩
    have hdl : d.length = ps.length := by rw [← hd, List.length_map]
    have hdm : ∀ j (hj : j < d.length), encEl w g m d[j] = (ps[j]'(by omega)).1 := by
      intro j hj
      unfold encEl
      subst hd
      simp
    have H0 : Holds (encEl w g m) w g 0 d.toArray := by
      intro j hj
      have hj' : j < d.length := by simpa using hj
      have h1 := World.ownsRow.cellAt h.1 j (by omega)
      refine ⟨?_, World.ownsRow.frozenAt h.1 _⟩
      rw [Nat.zero_add, h1]
      simp only [List.getElem?_map]
      rw [List.getElem?_eq_getElem (by omega), getElem!_pos d.toArray j hj]
      simp only [Option.map_some, List.getElem_toArray, hdm j hj']
    have hsz : d.toArray.size = ps.length := by simpa using hdl
    have hcmp : CmpLays1 Tryd.prog 33 #[] (encEl w g m) (cmpEl w g m) g 0 d.toArray.size w := by
      intro m' os dk hdk x y
      have gx := x.2.1.1.kept (grownBy_sort (encEl w g m) w g m' os dk) (by rintro k ⟨⟩ e; exact x.2.2.1 _ e rfl)
      have gy := y.2.1.1.kept (grownBy_sort (encEl w g m) w g m' os dk) (by rintro k ⟨⟩ e; exact y.2.2.1 _ e rfl)
      refine (slcmp_any _ _ _ _ _ gx gy (by rw [x.2.2.2, y.2.2.2])).mono ?_
      rintro e w' ⟨rfl, rfl⟩
      exact ⟨by unfold cmpEl compareI; rw [if_neg (by rw [x.2.2.2, y.2.2.2]; omega), if_neg (by rw [x.2.2.2, y.2.2.2]; omega)], 0, #[], by simp [World.drewN, grow]⟩
    have hone : OneCell (encEl w g m) := fun x => slice_one x.2.1
    have hc := Any.slices_SortFunc Tryd.laysSlF6_f32 (encEl w g m) hone (cmpEl w g m) (swo_cmp w g m) 33 #[] g 0 cap d.toArray w (enters_of Tryd.func33 (by kernel_rfl) rfl) hcmp H0 (Array.getElem?_eq_some_iff.1 hh).1 (by omega)
    rw [hsz] at hc
    refine hc.mono ?_
    rintro e w' ⟨rfl, d', n, os, hP, hS, rfl⟩
    refine ⟨rfl, d'.toList.map Subtype.val, ?_, ?_, ?_, grownBy_sort _ _ _ _ _ _⟩
    · have h1 := hP.2.2
      rw [show d'.extract 0 ps.length = d' by rw [← hsz, ← hP.1]; exact Array.extract_size, show d.toArray.extract 0 ps.length = d.toArray by rw [← hsz]; exact Array.extract_size] at h1
      have h2 := h1.map Subtype.val
      rwa [show d.toArray.toList = d from rfl, hd] at h2
    · rw [List.pairwise_map, List.pairwise_iff_getElem]
      intro i j hi hj hij
      have hi' : i < d'.size := by simpa using hi
      have hj' : j < d'.size := by simpa using hj
      have h1 := hS i j (Nat.zero_le _) hij (by have := hP.1; omega)
      rw [getElem!_pos d' j hj', getElem!_pos d' i hi'] at h1
      unfold ltOf cmpEl at h1
      simp only [decide_eq_false_iff_not, Int.not_lt] at h1
      have := compareI_neg d'[j].1.2 d'[i].1.2
      simp only [Array.getElem_toList]
      omega
    · have hl' : d'.size = ps.length := by rw [hP.1, hsz]
      have hheap : (sortWorld (encEl w g m) w g 0 n d' os).heap[g]? = some (.cells (putCells (encEl w g m) 0 d' cur) 22 (0, 0)) := by
        unfold sortWorld
        rw [heap_grow_old _ _ (by simpa using (Array.getElem?_eq_some_iff.1 hh).1)]
        simp [putRow, mapBlock, Sort.ahead, Array.getElem?_modify, hh, onCells]
      have hpl : (d'.toList.map Subtype.val).length = ps.length := by simp [hl']
      refine ⟨⟨by simp, .inr ⟨g, cap, _, by rw [hpl], hbg, hheap, by rw [hpl]; exact hn, hm, by simp [putCells, hs], ?_⟩⟩, ?_⟩
      · apply List.ext_getElem?
        intro j
        by_cases hj : j < ps.length
        · rw [List.getElem?_take_of_lt (by rw [hpl]; omega), Array.getElem?_toList]
          have hjd : j < d'.size := by omega
          simp [putCells, encEl, hjd, show j < cur.size by omega]
        · rw [List.getElem?_take_eq_none (by rw [hpl]; omega), List.getElem?_eq_none (by simp; omega)]
      · intro p hp
        obtain ⟨x, -, rfl⟩ := List.mem_map.1 hp
        refine ⟨x.2.1.kept (grownBy_sort _ _ _ _ _ _) (by rintro k ⟨⟩ e; exact x.2.2.1 _ e rfl), fun k hk e => ?_⟩
        simp only [Value.ownBlock, Option.some.injEq] at e
        exact x.2.2.1 k hk e.symm


end Go.Proofs.YtpnghgihepnepaaDoor
