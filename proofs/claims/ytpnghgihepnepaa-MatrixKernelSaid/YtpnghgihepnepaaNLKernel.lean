/- MatrixKernel: for every input it answers true. -/
import Derived.Test.YtpnghgihepnepaaNl
import Derived.Test.YtpnghgihepnepaaBe
import Derived.Outline
import Derived.BigRegion
import Derived.Deep.RegionHeld3
namespace Go.Proofs.Ytpnghgihepnepaa
open Go.ChangeShapes Go.WideShapes Go.ChangeAt Go.RowKit
set_option linter.unusedVariables false

set_option maxRecDepth 100000 in
set_option maxHeartbeats 2000000 in
theorem walkMatrixKernel (a0 : Option Addr) (len0 cap0 : Nat) (z0 : List Int) (w : World) (w0 : IsRow .i64 w a0 len0 cap0 z0) :
    Calls Try.prog 4 #[.slice a0 len0 cap0] w fun e w' => e = .returned (.bool true) ∧ Below w.heap.size w w' := by
  obtain ⟨hI, hlen⟩ := w0.ints
  generalize z0.take len0 = zs at hI hlen
  subst hlen
  have HI := Lib.hid hI
  clear hI w0
  by_cases hfew : (zs.length : Int) ≤ 400
  · go_enter Try.func4, Try.ntmps4
    go_wp2_with fail
    refine (awake10_any _).mono ?_
    rintro e w1 ⟨rfl, hg⟩
    have HG := Lib.hid hg
    clear hg
    go_wp2_with fail
    refine (few_any _ _ _ _).mono ?_
    rintro e w2 ⟨rfl, rfl⟩
    rw [decide_eq_true hfew]
    go_wp2_with fail
    refine (new_st (HI.out.same HG.out) HG.out).mono ?_
    rintro e w3 ⟨p, d, rfl, hs⟩
    have HS := Lib.hid hs
    clear hs HG HI
    go_wp2_with fail
    refine (next_st HS.out _ (by omega) (by omega)).mono ?_
    rintro e w4 ⟨y, rfl, hy0, hy1, hs, hg⟩
    replace HS := Lib.hid hs
    clear hs hg
    obtain ⟨r, hr⟩ : ∃ r : Nat, 1 + y = (r : Int) := ⟨(1 + y).toNat, by omega⟩
    have hr1 : 1 ≤ r := by omega
    have hr2 : r ≤ 4 := by omega
    have ir : IntKind.i64.wrap (1 + y) = (r : Int) := by rw [hr]; exact IntWalk.i64_in _ (by omega)
    clear hr hy0 hy1
    go_wp2_with fail
    refine (next_st HS.out _ (by omega) (by omega)).mono ?_
    rintro e w5 ⟨y, rfl, hy0, hy1, hs, hg⟩
    replace HS := Lib.hid hs
    clear hs hg
    obtain ⟨c, hc⟩ : ∃ c : Nat, 1 + y = (c : Int) := ⟨(1 + y).toNat, by omega⟩
    have hc1 : 1 ≤ c := by omega
    have hc2 : c ≤ 5 := by omega
    have ic : IntKind.i64.wrap (1 + y) = (c : Int) := by rw [hc]; exact IntWalk.i64_in _ (by omega)
    clear hc hy0 hy1
    go_wp2_with fail
    clear ir ic
    refine (matrix_st HS.out r c (by omega) (by omega)).mono ?_
    rintro e w6 ⟨vm, ps, rfl, hpl, hdm, hM, hs, hg⟩
    have HMvm := Lib.hid (MatD.mk HS.out hM)
    replace HS := Lib.hid hs; have HOKvm := Lib.hid (dealt_ok hpl hdm hr1 (by omega) hc1 (by omega) (by omega))
    clear hpl hdm hM hs hg
    have HWD : Hid (∀ x ∈ ps.map Prod.snd, x.length = c) := Lib.hid (fun x hx => by
      obtain ⟨q, hq, rfl⟩ := List.mem_map.1 hx
      exact (HOKvm.out.2.2.2.2.2.2 q hq).1)
    have H16 : Hid (∀ x ∈ ps.map Prod.snd, ∀ y ∈ x, y.natAbs ≤ 16) := Lib.hid (fun x hx y hy => by
      obtain ⟨q, hq, rfl⟩ := List.mem_map.1 hx
      have := (HOKvm.out.2.2.2.2.2.2 q hq).2 y hy
      omega)
    have HFIT : Hid (RedFit ps c) := Lib.hid (redFit_any (fun q hq => (HOKvm.out.2.2.2.2.2.2 q hq).1) (fun q hq => (HOKvm.out.2.2.2.2.2.2 q hq).2) (by have := HOKvm.out.1; omega))
    go_wp2_with fail
    refine (Kernel_any HMvm.out.rows HOKvm.out HFIT.out).mono ?_
    rintro e w7 ⟨qs, vk, ks, hq, rfl, hK, hk, hg⟩
    obtain ⟨os, co, hB⟩ := BInv.all hq HWD.out c (Nat.le_refl _)
    have HKV : Hid (∀ v ∈ ks.map Prod.snd, KerV (ps.map Prod.snd) c v ∧ ∀ x ∈ v, x.natAbs ≤ 12079595520) := Lib.hid (fun v hv => by
      rw [hk] at hv
      exact ⟨ker_vec hB HWD.out v hv, ker_bd hB HWD.out H16.out (.inr (by omega)) v hv⟩)
    obtain ⟨n1, hn1⟩ : ∃ n, n = (redN (qs, [], 1) c).2.1.length := ⟨_, rfl⟩
    have HCNT : Hid (ks.length + n1 = c) := Lib.hid (by
      have := ker_count hB
      rw [← hk, List.length_map, ← hn1] at this
      exact this)
    have HR1 : Hid (RankIs (ps.map Prod.snd) c n1) := Lib.hid ⟨_, os, co, hB, hn1⟩
    have HK := Lib.hid hK; replace HMvm := Lib.hid (HMvm.out.step hg); replace HS := Lib.hid (HS.out.step hg)
    clear hq hK hk hg hB hn1
    obtain ⟨aK, cK, rfl⟩ := HK.out.slice
    go_wp2_with fail
    refine (Rank_any HMvm.out.rows HOKvm.out HFIT.out).mono ?_
    rintro e w8 ⟨qs2, hq, rfl, hg⟩
    have HR2 := Lib.hid (RankIs.mk hq HWD.out)
    have e12 : (redN (qs2, [], 1) c).2.1.length = n1 := (HR1.out.same HR2.out).symm
    rw [e12]
    replace HMvm := Lib.hid (HMvm.out.step hg); replace HS := Lib.hid (HS.out.step hg); replace HK := Lib.hid (HK.out.same hg)
    clear hq hg e12 HR2
    obtain ⟨bM, hdM, hMM⟩ := HMvm.out
    obtain ⟨gM, cM, rfl, -⟩ := hMM.head (by have := HOKvm.out.1; omega)
    have HMM := Lib.hid hMM
    have hpl := HOKvm.out.1
    have hrw0 : ∃ b cb, ps[0].1 = .slice (some ⟨b, 0, none⟩) c cb := by
      obtain ⟨b, cb, h1, -⟩ := hMM.row (i := 0) (by omega) (by rw [(HOKvm.out.2.2.2.2.2.2 _ (List.getElem_mem (show 0 < ps.length by omega))).1]; omega)
      rw [(HOKvm.out.2.2.2.2.2.2 _ (List.getElem_mem (show 0 < ps.length by omega))).1] at h1
      exact ⟨b, cb, h1⟩
    obtain ⟨b0, cb0, hb0⟩ := hrw0
    have hc0 := (hMM.own.cell 0 (by omega)).1
    rw [hb0] at hc0
    have hks : ks.length + n1 = c := HCNT.out
    have j1 : IntKind.i64.wrap ((ks.length : Int) + (n1 : Int)) = (c : Int) := by
      have e : (ks.length : Int) + (n1 : Int) = (c : Int) := by omega
      rw [e]; exact IntWalk.i64_in _ (by omega)
    have j2 : ((c : Int) != (c : Int)) = false := by simp
    have p1 : 0 < (ps.length : Int) := by omega
    have hk5 : ks.length ≤ 5 := by omega
    clear hMM hdM HCNT HR1 hb0 hks hpl
    go_wp2_with fail
    clear j1 j2 p1 hc0
    have HG8 := Lib.hid (grown_refl w8 none)
    go_loopw [67] (fun i wr => ∃ k : Nat, i = .int .i64 k ∧ k ≤ ks.length ∧ Hid (w8.grownBy wr none)) (fun i _ => ks.length - (intOf i).toNat)
    case atStart => exact ⟨0, rfl, Nat.zero_le _, HG8⟩
    case round =>
      obtain ⟨k, rfl, hk, hG⟩ := hrel
      rename World => wk
      have hkl : ks.length ≤ 5 := by omega
      by_cases hkb : k < ks.length
      · have h3 : (k : Int) < (ks.length : Int) := by omega
        have i1 : IntKind.i64.wrap ((k : Int) + 1) = (k : Int) + 1 := IntWalk.i64_in _ (by omega)
        obtain ⟨gK, cK', hvK, -⟩ := HK.out.head (by omega)
        simp only [Value.slice.injEq] at hvK
        obtain ⟨rfl, -, rfl⟩ := hvK
        have hkv := HKV.out _ (List.mem_map_of_mem (List.getElem_mem hkb))
        have hck := (HK.out.own.cell k hkb).1
        obtain ⟨bk, cbk, hrk, -⟩ := HK.out.row hkb (by rw [hkv.1.len]; omega)
        have HC : Hid (∀ t, t < ks[k].2.length → w8.cell? ⟨bk, t, none⟩ = some (.int .i64 (ks[k].2[t]?.getD 0))) := Lib.hid (fun t ht => (HK.out.cell hkb hrk ht).1)
        rw [hrk] at hck
        generalize ks[k].2 = v at *
        have hlen := hkv.1.len
        subst hlen
        have HV := Lib.hid hkv
        have hck2 := hG.out.cell hck (by simp)
        clear hkv hrk hck
        go_wp2_with fail
        clear hck2
        go_loopw [73, 11] (fun i g wr => ∃ t : Nat, i = .int .i64 t ∧ t ≤ v.length ∧ g = .int .i64 ((gcdF 0 (v.take t) : Nat) : Int) ∧ Hid (w8.grownBy wr none)) (fun i _ _ => v.length - (intOf i).toNat)
        case atStart => exact ⟨0, rfl, Nat.zero_le _, rfl, hG⟩
        case round =>
          clear hG
          obtain ⟨t, rfl, ht, rfl, hG⟩ := hrel
          rename World => wt
          by_cases htb : t < v.length
          · have h4 : (t : Int) < (v.length : Int) := by omega
            have i2 : IntKind.i64.wrap ((t : Int) + 1) = (t : Int) + 1 := IntWalk.i64_in _ (by omega)
            have hcx := hG.out.cell (HC.out t htb) (by simp)
            have HGS : Hid (gcdF 0 (v.take (t + 1)) = Nat.gcd (v[t]?.getD 0).natAbs (gcdF 0 (v.take t))) := Lib.hid (gcdF_snoc v htb)
            have hg0 : gcdF 0 (v.take t) ≤ 12079595520 := gcdF_bd _ _ (fun x hx => HV.out.2 x (List.mem_of_mem_take hx)) (by omega)
            have hx0 : (v[t]?.getD 0).natAbs ≤ 12079595520 := by rw [List.getElem?_eq_getElem htb]; exact HV.out.2 _ (List.getElem_mem htb)
            generalize v[t]?.getD 0 = x at *
            generalize gcdF 0 (v.take t) = g at *
            have m1 : IntKind.i64.wrap (-x) = -x := IntWalk.i64_in _ (by omega)
            have m2 : max x (-x) = ((x.natAbs : Nat) : Int) := by omega
            obtain ⟨xa, hxa⟩ : ∃ xa : Nat, x.natAbs = xa := ⟨_, rfl⟩
            rw [hxa] at hx0 HGS m2
            clear hxa
            go_wp2_with fail
            clear hcx m1 m2
            go_loopw [14, 15] (fun u v wr => ∃ a b : Nat, u = .int .i64 a ∧ v = .int .i64 b ∧ a ≤ 12079595520 ∧ b ≤ 12079595520 ∧ Hid (Nat.gcd a b = Nat.gcd xa g) ∧ Hid (w8.grownBy wr none)) (fun _ v _ => (intOf v).natAbs)
            case atStart => exact ⟨xa, g, rfl, rfl, hx0, hg0, Lib.hid rfl, hG⟩
            case round =>
              clear hG
              obtain ⟨a, b, rfl, rfl, ha, hb, hgc, hG⟩ := hrel
              rename World => we
              by_cases hb0 : b = 0
              · subst hb0
                have q0 : (((0 : Nat) : Int) == 0) = true := by decide
                have HA : Hid (a = gcdF 0 (v.take (t + 1))) := Lib.hid (by rw [HGS.out, ← hgc.out, Nat.gcd_zero_right])
                go_wp2_with fail
                go_roundw
                case rel => exact ⟨t + 1, by go_num, by omega, by rw [← HA.out], hG⟩
                case measure => simp [intOf]; omega
              · have q1 : ((b : Int) == 0) = false := by simpa using hb0
                have HMS : Hid (a % b < b) := Lib.hid (Nat.mod_lt _ (by omega))
                have hmb : a % b ≤ 12079595520 := by have := HMS.out; omega
                have i3 : IntKind.i64.wrap ((a : Int).tmod (b : Int)) = ((a % b : Nat) : Int) := by
                  have e : (a : Int).tmod (b : Int) = ((a % b : Nat) : Int) := by rw [Int.tmod_eq_emod_of_nonneg (by omega)]; rfl
                  rw [e]; exact IntWalk.i64_in _ (by omega)
                have HGN : Hid (Nat.gcd b (a % b) = Nat.gcd xa g) := Lib.hid (by rw [← hgc.out, Nat.gcd_comm, ← Nat.gcd_rec, Nat.gcd_comm])
                go_wp2_with fail
                go_big_quiet (fail)
                have HW := Lib.hid (grown_trans hG.out (grown_drewN we nq none))
                generalize we.drewN nq = wd at *
                go_wp2_with fail
                go_roundw
                case rel => exact ⟨b, a % b, rfl, rfl, hb, hmb, HGN, HW⟩
                case measure => have := HMS.out; simp [intOf]; omega
          · obtain rfl : t = v.length := by omega
            have h4 : ¬ (v.length : Int) < (v.length : Int) := by omega
            have e1 : gcdF 0 (v.take v.length) = 1 := by rw [List.take_length]; exact HV.out.1.prim
            rw [e1]
            have q2 : (((1 : Nat) : Int) != 1) = false := by decide
            clear e1
            go_wp2_with fail
            go_loopw [94] (fun i wr => ∃ i' : Nat, i = .int .i64 i' ∧ i' ≤ ps.length ∧ Hid (w8.grownBy wr none)) (fun i _ => ps.length - (intOf i).toNat)
            case atStart => exact ⟨0, rfl, Nat.zero_le _, hG⟩
            case round =>
              clear hG
              obtain ⟨i, rfl, hi, hG⟩ := hrel
              rename World => wi
              have hpl : ps.length ≤ 4 := by have := HOKvm.out.1; omega
              by_cases hib : i < ps.length
              · have h5 : (i : Int) < (ps.length : Int) := by omega
                have i4 : IntKind.i64.wrap ((i : Int) + 1) = (i : Int) + 1 := IntWalk.i64_in _ (by omega)
                have hqi := HOKvm.out.2.2.2.2.2.2 _ (List.getElem_mem hib)
                have hci := (HMM.out.own.cell i hib).1
                obtain ⟨bi, cbi, hri, -⟩ := HMM.out.row hib (by rw [hqi.1]; omega)
                have HCI : Hid (∀ t, t < ps[i].2.length → w8.cell? ⟨bi, t, none⟩ = some (.int .i64 (ps[i].2[t]?.getD 0))) := Lib.hid (fun t ht => (HMM.out.cell hib hri ht).1)
                have HD0 : Hid (dotL ps[i].2 v = 0) := Lib.hid (HV.out.1.kills _ (List.mem_map_of_mem (List.getElem_mem hib)))
                rw [hri] at hci
                have HQI := Lib.hid hqi
                generalize ps[i].2 = row at *
                have HCR := Lib.hid hci
                clear hqi hri hci hpl
                have HRL : Hid (row.length = v.length) := Lib.hid HQI.out.1
                have e2 : row.length = v.length := HRL.out
                rw [e2] at HCR
                clear e2
                go_wp2_with fail
                go_loopw [99, 17] (fun i s wr => ∃ t : Nat, i = .int .i64 t ∧ t ≤ v.length ∧ s = .int .i64 (dotL (row.take t) (v.take t)) ∧ Hid (w8.grownBy wr none)) (fun i _ _ => v.length - (intOf i).toNat)
                case atStart => exact ⟨0, rfl, Nat.zero_le _, rfl, hG⟩
                case round =>
                  clear hG
                  obtain ⟨t, rfl, ht2, rfl, hG⟩ := hrel
                  rename World => wj
                  by_cases htb : t < v.length
                  · have h6 : (t : Int) < (v.length : Int) := by omega
                    have i5 : IntKind.i64.wrap ((t : Int) + 1) = (t : Int) + 1 := IntWalk.i64_in _ (by omega)
                    have htr : t < row.length := by rw [HRL.out]; exact htb
                    have hc1 := hG.out.cell (HC.out t htb) (by simp)
                    have hc2 := hG.out.cell (HCI.out t htr) (by simp)
                    have hc3 := hG.out.cell HCR.out (by simp)
                    have HDS : Hid (dotL (row.take (t + 1)) (v.take (t + 1)) = dotL (row.take t) (v.take t) + row[t]?.getD 0 * v[t]?.getD 0) := Lib.hid (dot_snoc row v t htr htb)
                    have bd1 := dot_bd (A := 16) (B := 12079595520) (row.take t) (v.take t) (fun y hy => HQI.out.2 y (List.mem_of_mem_take hy)) (fun y hy => by have := HV.out.2 y (List.mem_of_mem_take hy); omega) (by decide)
                    have bl : (row.take t).length ≤ 5 := by have := List.length_take_le t row; omega
                    have bx := mem_at (P := fun y => -16 ≤ y ∧ y ≤ 16) HQI.out.2 htr
                    have hby : (v[t]?.getD 0).natAbs ≤ 12079595520 := mem_at (P := fun y => y.natAbs ≤ 12079595520) HV.out.2 htb
                    have bm := mul_bd (x := row[t]?.getD 0) (y := v[t]?.getD 0) (A := 16) (B := 12079595520) bx (by omega)
                    generalize (row.take t).length = rl at *
                    generalize dotL (row.take t) (v.take t) = s0 at *
                    generalize row[t]?.getD 0 = x at *
                    generalize v[t]?.getD 0 = y at *
                    obtain ⟨z, hz⟩ : ∃ z, x * y = z := ⟨_, rfl⟩
                    rw [hz] at bm HDS
                    have m1 : IntKind.i64.wrap (x * y) = z := by rw [hz]; exact IntWalk.i64_in _ (by omega)
                    have m2 : IntKind.i64.wrap (s0 + z) = s0 + z := IntWalk.i64_in _ (by omega)
                    clear bx hby bm bd1 hz htr
                    go_wp2_with fail
                    go_roundw
                    case rel => exact ⟨t + 1, by go_num, by omega, by rw [HDS.out], hG⟩
                    case measure => simp [intOf]; omega
                  · obtain rfl : t = v.length := by omega
                    have h6 : ¬ (v.length : Int) < (v.length : Int) := by omega
                    have e3 : dotL (row.take v.length) (v.take v.length) = 0 := by rw [List.take_length, List.take_of_length_le (by rw [HRL.out]; exact Nat.le_refl _)]; exact HD0.out
                    rw [e3]
                    have q3 : ((0 : Int) != 0) = false := by decide
                    clear e3
                    go_wp2_with fail
                    go_roundw
                    case rel => exact ⟨i + 1, by go_num, by omega, hG⟩
                    case measure => simp [intOf]; omega
              · obtain rfl : i = ps.length := by omega
                have h5 : ¬ (ps.length : Int) < (ps.length : Int) := by omega
                go_wp2_with fail
                go_roundw
                case rel => exact ⟨k + 1, by go_num, by omega, hG⟩
                case measure => simp [intOf]; omega
      · obtain rfl : k = ks.length := by omega
        have h3 : ¬ (ks.length : Int) < (ks.length : Int) := by omega
        go_wp2_with fail
        go_ret
        exact ⟨rfl, (HS.out.step hG.out).below⟩
  · go_enter Try.func4, Try.ntmps4
    go_wp2_with fail
    refine (awake10_any _).mono ?_
    rintro e w1 ⟨rfl, hg⟩
    have HG := Lib.hid hg
    clear hg
    go_wp2_with fail
    refine (few_any _ _ _ _).mono ?_
    rintro e w2 ⟨rfl, rfl⟩
    rw [decide_eq_false (by omega)]
    go_wp2_with fail
    refine (awake10_any _).mono ?_
    rintro e w3 ⟨rfl, hg⟩
    have HG := Lib.hid (grown_trans HG.out hg)
    clear hg
    go_wp2_with fail
    go_ret
    exact ⟨rfl, below_of HG.out⟩

/-! ### MatrixKernel: the statement, from its walk -/
set_option maxRecDepth 100000 in
theorem liftedMatrixKernel (os : Os) (started : os.Started) (H : Type) (enc : TypeId × Value → H) :
    ReturnsInHanded {} Try.checked os 4 .any (Rows.matrixKernelSpec.pre6 enc Try.prog Try.f4 Rows.matrixKernelRow.domain false) (Rows.matrixKernelSpec.post enc Try.prog Try.f4 false true false false) := by
  refine returnsInHanded_of_change (C := Try.checked) own started (by kernel_rfl) Try.func4
    (ChangeSpec.witness6 (enc := enc) (C := Try.checked) false ⟨#[], #[.slice none 0 0], []⟩ 8 (by kernel_rfl) (by kernel_rfl) (by kernel_rfl) (by kernel_rfl)) ?_
  intro W base args ds gs before hval0 hW hcnd _
  have hval : ∀ (j : Nat) t v, Try.f4.params[j]? = some t → args[j]? = some v → Value.okWide Try.prog W .any base t v := hval0
  have hW' := hW
  obtain ⟨p, q, hA0, hV, rfl, hfz, hnd⟩ := hW
  have hA : DataW.TrodAll enc Try.prog W 0 (fun _ => true) true Try.f4.params.toList args.toList ds p := hA0
  rw [Try.params4] at hA hval
  obtain ⟨v0, vs0, d0, ds0, p0, q0, hargs, rfl, rfl, h0, r0⟩ := trodAll_cons hA
  obtain ⟨rfl, rfl, rfl⟩ := trodAll_nil r0
  obtain rfl : args = #[v0] := by cases args; simp_all
  obtain ⟨rfl, rfl⟩ := trodVars_none hV
  obtain ⟨a0, len0, cap0, rfl⟩ := okWide_slice Try.underlying22 (hval 0 22 v0 rfl rfl)
  have k0 := h0
  have lt0 : ∀ x ∈ p0, x.block < W.heap.size := by obtain ⟨m, hm⟩ := k0; exact DataW.trod_lt m _ _ _ hm
  obtain ⟨z0, w0⟩ : ∃ zs, IsRow .i64 W a0 len0 cap0 zs := by
    obtain ⟨fuel, hf⟩ := h0
    rcases open_ints Try.underlying22 Try.underlying3 (by kernel_rfl) hf with ⟨hcs, _⟩ | ⟨x, l, c, zs, hcs, _, hl, hm, hz, _, hcell, hwz⟩
    · simp [Value.cells] at hcs
      obtain ⟨rfl, rfl, rfl⟩ := hcs
      exact ⟨[], .inl ⟨rfl, rfl, rfl, rfl⟩⟩
    · simp [Value.cells] at hcs
      obtain ⟨rfl, rfl, rfl⟩ := hcs
      exact ⟨zs, .inr ⟨_, rfl, hl, hm, by simpa using hz, hcell, hwz⟩⟩
  clear hA0 hval0
  refine (walkMatrixKernel a0 len0 cap0 z0 W w0).mono fun e W' ⟨he, bel⟩ => ?_
  subst he
  exact ⟨_, rfl, _, _, _, [], _, [], hW', trodAll_mk1 (shut_bool Try.underlying4 _), (trodAll_cons_mk (Below.trod laidOut (by kernel_rfl) (of_decide_eq_true (by kernel_rfl)) k0 bel lt0) trodAll_mk0), rfl, bel.frame _, fun h => by cases h⟩

theorem matrixKernel_holds : Rows.MatrixKernelSaid :=
  OpenClaim.holds_of_wide 4 Try.f4 rfl rfl rfl rfl rfl rfl rfl ⟨rfl, rfl, rfl, rfl, rfl⟩ rfl rfl rfl rfl rfl (by kernel_rfl) Try.func4 (by kernel_rfl)
    (of_decide_eq_true (by kernel_rfl)) (by unfold Func.isWrapper; first | (rw [if_pos (by decide +kernel)]; kernel_rfl) | (rw [if_neg (by decide +kernel)]; exact ⟨rfl, rfl⟩))
    (fun os started H enc _ => liftedMatrixKernel os started H enc)
#print axioms matrixKernel_holds
end Go.Proofs.Ytpnghgihepnepaa
