/- Texts Qd, Bv, Qz in one. -/
import Derived.Test.YtpnghgihepnepaaDoorU23
import Derived.Test.YtpnghgihepnepaaDoorU29
import Derived.Test.YtpnghgihepnepaaDoorU26
import Derived.Test.YtpnghgihepnepaaDoorU16
import Derived.Test.YtpnghgihepnepaaDoorU22
import Derived.Deep.Matrix
import Derived.Test.YtpnghgihepnepaaDoorU13
import Derived.Test.YtpnghgihepnepaaDoorU19
namespace Go.Proofs.YtpnghgihepnepaaDoor
open Go.RowKit
set_option linter.unusedVariables false

theorem bit_i64 : ∀ s : Nat, s < 64 → ∀ k : Nat, k < 6 → (bits BinOp.and IntKind.i64 ((s : Int) / 2 ^ k) 1 == 1) = bitB s k := by decide +kernel
theorem two_apart {w : World} {base base2 : Nat} {v7 v8 : Value} {T : List Row} {R : List Int} (h7 : OwnP w base v7 T) (h8 : OwnI w base2 v8 R) : ∀ g, v7.ownBlock = some g → v8.ownBlock ≠ some g := by
  intro g h1 h2
  rcases h7.1.2 with ⟨e, _⟩ | ⟨g1, cap1, cur1, e, _, b1, _⟩
  · rw [e] at h1; cases h1
  · rcases h8.2 with ⟨e2, _⟩ | ⟨g2, cap2, cur2, e2, _, b2, _⟩
    · rw [e2] at h2; cases h2
    · rw [e] at h1; rw [e2] at h2
      simp only [Value.ownBlock, Option.some.injEq] at h1 h2
      subst h1 h2
      rw [b1] at b2
      simp only [Option.some.injEq, Obj.cells.injEq] at b2
      exact absurd b2.2.1 (by decide)
theorem OwnP.aside {w w' : World} {base base2 : Nat} {v7 v8 : Value} {T : List Row} {R : List Int} (h7 : OwnP w base v7 T) (h8 : OwnI w base2 v8 R) (g : w.grownBy w' v8.ownBlock) (hr : ∀ r ∈ T, ∀ k, r.1.ownBlock = some k → k < base2) : OwnP w' base v7 T := by
  refine ⟨World.ownsRow.kept h7.1 g ?_, fun r hrr => ⟨(h7.2 r hrr).1.kept g (fun k hk e => ?_), (h7.2 r hrr).2⟩⟩
  · cases hv : v7.ownBlock with
    | none => exact .inl rfl
    | some k => exact .inr (fun e => two_apart h7 h8 k hv e.symm)
  · have := hr r hrr k e
    have := (h8.fresh k hk).1
    omega
def idxI (s k : Nat) : List Int := (idxs (bitB s) k).map (fun i : Nat => (i : Int))
theorem idxI_succ (s k : Nat) : idxI s (k + 1) = idxI s k ++ (if bitB s k then [(k : Int)] else []) := by
  unfold idxI
  rw [idxs_succ, List.map_append]
  congr 1
  split <;> rfl
theorem idxI_at {s n t : Nat} (h : t < (idxs (bitB s) n).length) : (idxI s n)[t]?.getD 0 = (((idxs (bitB s) n)[t]?.getD 0 : Nat) : Int) := by
  unfold idxI
  rw [List.getElem?_map, List.getElem?_eq_getElem h]
  rfl
def WithR (C : List (List Int)) (c s : Nat) (w : World) (e : Ending) (w' : World) : Prop := w.grownBy w' none ∧
  ((∃ y v', e = .returned (.tuple #[v', .bool true]) ∧ OwnI w' w.heap.size v' y ∧ FlowAt C c (bitB s) y ∧ ∀ x ∈ y, 0 ≤ x ∧ x ≤ 12079595520) ∨ (e = .returned (.tuple #[.slice none 0 0, .bool false]) ∧ ∀ y, ¬ FlowAt C c (bitB s) y))
set_option maxRecDepth 100000 in
set_option maxHeartbeats 3000000 in
theorem rwith_any {w : World} {v : Value} {ps : List Row} {r c : Nat} (h : RowsP w v ps) (hm : MatOkP r c ps) (h6 : r ≤ 6) (s : Nat) (hs1 : 1 ≤ s) (hs : s < 2 ^ r) (hs64 : s < 64) :
    Calls Tryd.prog 35 #[v, .int .i64 (s : Int)] w (WithR (ps.map Prod.snd) c s w) := by
  have HM := Lib.hid hm
  obtain ⟨hpl, hr1, hr12, hc1, hc12, hrc, hq⟩ := hm
  obtain ⟨a, cap, rfl, -⟩ : ∃ a cap, v = .slice a ps.length cap ∧ True := by obtain ⟨a, cap, h, -⟩ := h; exact ⟨a, cap, h, trivial⟩
  have H := Lib.hid h; have HQ := Lib.hid hq; have HS := Lib.hid hs
  have hp6 : ps.length ≤ 6 := by omega
  have HG0 := Lib.hid (grown_refl w none)
  have HPL := Lib.hid hpl
  have HPB : Hid (∀ q ∈ ps, ∀ g, q.1.ownBlock = some g → g < w.heap.size) := Lib.hid (fun q hq g hg => (rows_rows h q hq).2.2 g hg)
  obtain ⟨C, hC⟩ : ∃ C, C = ps.map Prod.snd := ⟨_, rfl⟩
  have HC := Lib.hid hC
  rw [← hC]
  clear h hq hpl hr12 hrc h6 hs hC
  go_enter Tryd.func35, Tryd.ntmps35
  go_wp2_with fail
  go_loopw [8, 6, 7] (fun i o u wr => ∃ k : Nat, i = .int .i64 k ∧ k ≤ ps.length ∧ Hid (OwnP wr w.heap.size o (rowsS ps s k)) ∧ Hid (OwnI wr w.heap.size u (idxI s k)) ∧ Hid (w.grownBy wr none)) (fun i _ _ _ => ps.length - (intOf i).toNat)
  case atStart => exact ⟨0, rfl, Nat.zero_le _, Lib.hid (by show OwnP w w.heap.size _ []; exact OwnP.nil _ _), Lib.hid (by show OwnI w w.heap.size _ []; exact OwnI.nil _ _), HG0⟩
  case round =>
    clear HG0
    obtain ⟨k, rfl, hk, HO, HI, HG⟩ := hrel
    rename World => wk
    by_cases hkb : k < ps.length
    · have h1 : (k : Int) < (ps.length : Int) := by omega
      have h0k : (0 : Int) ≤ (k : Int) := by omega
      have i1 : IntKind.i64.wrap ((k : Int) + 1) = (k : Int) + 1 := IntWalk.i64_in _ (by omega)
      have HRS := Lib.hid (rowsS_succ ps s k)
      have HIS := Lib.hid (idxI_succ s k)
      have hb6 := bit_i64 s hs64 k (by omega)
      cases hbit : bitB s k with
      | false =>
        have q1 : (bits BinOp.and IntKind.i64 ((s : Int) / 2 ^ k) 1 == 1) = false := by rw [hb6, hbit]
        have HN : Hid (rowsS ps s (k + 1) = rowsS ps s k) := Lib.hid (by rw [HRS.out, hbit]; simp)
        have HN2 : Hid (idxI s (k + 1) = idxI s k) := Lib.hid (by rw [HIS.out, hbit]; simp)
        clear hbit hb6
        go_wp2_with fail
        go_roundw
        case rel => exact ⟨k + 1, by go_num, by omega, Lib.hid (by rw [HN.out]; exact HO.out), Lib.hid (by rw [HN2.out]; exact HI.out), HG⟩
        case measure => simp [intOf]; omega
      | true =>
        have q1 : (bits BinOp.and IntKind.i64 ((s : Int) / 2 ^ k) 1 == 1) = true := by rw [hb6, hbit]
        have HN : Hid (rowsS ps s (k + 1) = rowsS ps s k ++ [ps[k]]) := Lib.hid (by rw [HRS.out, hbit, if_pos rfl, List.getElem?_eq_getElem hkb]; rfl)
        have HN2 : Hid (idxI s (k + 1) = idxI s k ++ [(k : Int)]) := Lib.hid (by rw [HIS.out, hbit, if_pos rfl])
        clear hbit hb6
        obtain ⟨b, off, ar, cr, rfl, hcr, hrv, -⟩ := H.out.row hkb
        have hcr2 := HG.out.cell hcr (by simp)
        have HRK : Hid (RowOk w ps[k]) := Lib.hid (by obtain ⟨_, _, -, -, -, h⟩ := H.out; exact h _ (List.getElem_mem hkb))
        have hwid := (HQ.out _ (List.getElem_mem hkb)).1
        rw [hwid] at hcr2 hrv
        have HRV := Lib.hid hrv
        have HLN : Hid ((rowsS ps s k).length ≤ 1000000000000) := Lib.hid (by unfold rowsS; rw [List.length_map]; have := idxs_len (bitB s) k; omega)
        have HLI : Hid ((idxI s k).length ≤ 1000000000000) := Lib.hid (by unfold idxI; rw [List.length_map]; have := idxs_len (bitB s) k; omega)
        have HTB : Hid (∀ q ∈ rowsS ps s (k + 1), ∀ g, q.1.ownBlock = some g → g < w.heap.size) := Lib.hid (fun q hq => HPB.out q (rowsS_mem (by omega) hq))
        clear hcr hrv hwid HRS HIS
        generalize ps[k] = pk at *
        obtain ⟨pv, pr⟩ := pk
        have hpv : pv = .slice ar c cr := HRV.out
        subst hpv
        go_wp2_with (at_builtin; refine app_row rfl _ _ rfl w.heap.size _ (rowsS ps s k) rfl (HO.out.same (World.grownBy_alloc _ _ none)) wk.heap.size (.slice ar c cr, pr) rfl (cell_new rfl) ((HRK.out.same HG.out).same (World.grownBy_alloc _ _ none)) (fun g hg e => by have := HRK.out.2.2 g hg; have := (HO.out.fresh g e).1; omega) HLN.out (Nat.le_trans HG.out.size (World.grownBy_alloc _ _ none).size) ?_)
        intro v' w9 ho9 hg9
        rw [← HN.out] at ho9
        have HO9 := Lib.hid ho9
        have HG9 := Lib.hid (grown_then (grown_after HG.out) hg9 (fun j hj => .inl (HO.out.fresh j hj).1))
        have HI9 : Hid (OwnI w9 w.heap.size u7 (idxI s k)) := Lib.hid ((HI.out.kept (World.grownBy_alloc wk _ none) (by simp)).keptB hg9 (fun g hg e => two_apart HO.out HI.out g hg e))
        clear ho9 hg9 hcr2
        go_wp2_with (at_builtin; refine app_int rfl _ _ rfl w.heap.size _ (idxI s k) rfl (HI9.out.kept (World.grownBy_alloc _ _ none) (by simp)) w9.heap.size (k : Int) rfl (by simp) HLI.out (by have := HG9.out.size; simp; omega) ?_)
        intro v8 w10 ho10 hg10
        rw [← HN2.out] at ho10
        have HI10 := Lib.hid ho10
        have HG10 := Lib.hid (grown_then (grown_after HG9.out) hg10 (fun j hj => .inl (HI9.out.fresh j hj).1))
        have HO10 : Hid (OwnP w10 w.heap.size v' (rowsS ps s (k + 1))) := Lib.hid ((HO9.out.same (World.grownBy_alloc w9 _ none)).aside (HI9.out.kept (World.grownBy_alloc w9 _ none) (by simp)) hg10 HTB.out)
        clear ho10 hg10
        go_wp2_with fail
        go_roundw
        case rel => exact ⟨k + 1, by go_num, by omega, HO10, HI10, HG10⟩
        case measure => simp [intOf]; omega
    · obtain rfl : k = ps.length := by omega
      have h1 : ¬ (ps.length : Int) < (ps.length : Int) := by omega
      obtain ⟨L, hL⟩ : ∃ L, L = idxs (bitB s) ps.length := ⟨_, rfl⟩
      have HL := Lib.hid hL
      have hLl : (rowsS ps s ps.length).length = L.length := by unfold rowsS; rw [List.length_map, hL]
      have hIl : (idxI s ps.length).length = L.length := by unfold idxI; rw [List.length_map, hL]
      have HIL := Lib.hid hIl
      have hctz := idx_ctz ps.length (by omega) s hs64 (by rw [HPL.out]; exact HS.out) hs1
      have hL1 : 1 ≤ L.length := by rw [hL, hctz.1]; simp
      have hL6 : L.length ≤ 6 := by rw [hL]; have := idxs_len (bitB s) ps.length; omega
      have HRO : Hid (MatOkP L.length c (rowsS ps s ps.length)) := Lib.hid ⟨hLl, hL1, by omega, hc1, hc12, by omega, fun q hq => HQ.out q (rowsS_mem (Nat.le_refl _) hq)⟩
      have HII : Hid (Ints wk u7 (idxI s ps.length)) := Lib.hid (HI.out.ints (fun x hx => by
        unfold idxI at hx
        obtain ⟨i, hi, rfl⟩ := List.mem_map.1 hx
        have := (idxs_lt hi).1
        omega))
      obtain ⟨ao, co, rfl⟩ := HO.out.slice
      obtain ⟨ai, ci, hui⟩ := ownI_open HI.out
      rw [hIl] at hui
      subst hui
      have HR : Hid (RowsP wk (.slice ao L.length co) (rowsS ps s ps.length)) := Lib.hid (by have := HO.out.rows; rw [hLl] at this; exact this)
      rw [hLl]
      clear hL hLl hIl hctz HO HI
      go_wp2_with fail
      refine (rTranspose_any HR.out HRO.out).mono ?_
      rintro e w1 ⟨vt, ts, rfl, hM, hts, hg⟩
      have HTO := Lib.hid (turn_ok HRO.out hts)
      have HTS : Hid (ts.map Prod.snd = colsOf C c (idxs (bitB s) C.length)) := Lib.hid (by rw [hts, rowsS_turn, HC.out])
      have HCL : Hid (idxs (bitB s) C.length = L) := Lib.hid (by rw [HL.out, HC.out, List.length_map])
      have HMT := Lib.hid hM
      replace HII := Lib.hid (HII.out.same hg)
      replace HG := Lib.hid (grown_trans HG.out hg)
      obtain ⟨at', ct, rfl, -⟩ : ∃ a cap, vt = .slice a ts.length cap ∧ True := by obtain ⟨a, cap, h, -⟩ := hM; exact ⟨a, cap, h, trivial⟩
      clear hM hts hg HR
      obtain ⟨R, P, hRP⟩ : ∃ R P, (R, P) = lredN (ts.map (fun q => primL q.2), []) L.length := ⟨_, _, rfl⟩
      have HRP := Lib.hid hRP
      clear hRP
      go_wp2_with fail
      refine (rKernel_any HMT.out HTO.out HRP.out).mono ?_
      rintro e w2 ⟨vk, ks, rfl, hK, hk, hg⟩
      rw [(ker_same HTO.out (qs := ts) rfl HRP.out).1] at hk
      have hwd : ∀ x ∈ colsOf C c (idxs (bitB s) C.length), x.length = L.length := fun x hx => by rw [colsOf_wide x hx, HCL.out]
      obtain ⟨os, co2, hB⟩ := BInv.all HTS.out hwd L.length (Nat.le_refl _)
      have HB : Hid (BInv (colsOf C c (idxs (bitB s) C.length)) (idxs (bitB s) C.length).length (idxs (bitB s) C.length).length (redN (ts, [], 1) L.length) os co2) := Lib.hid (by rw [HCL.out]; rw [HCL.out] at hB; exact hB)
      have HKS : Hid (ks.map Prod.snd = kerOf (redN (ts, [], 1) L.length) (idxs (bitB s) C.length).length) := Lib.hid (by rw [HCL.out]; exact hk)
      have HKB : Hid (∀ v ∈ ks.map Prod.snd, v.length = L.length ∧ ∀ x ∈ v, x.natAbs ≤ 12079595520) := Lib.hid (fun v hv => by
        rw [hk] at hv
        have h16 : ∀ x ∈ colsOf C c (idxs (bitB s) C.length), ∀ y ∈ x, y.natAbs ≤ 16 := fun x hx y hy => by
          rw [← HTS.out] at hx
          obtain ⟨q, hq', rfl⟩ := List.mem_map.1 hx
          have := (HTO.out.2.2.2.2.2.2 q hq').2 y hy
          omega
        exact ⟨(ker_vec hB hwd v hv).len, ker_bd hB hwd h16 (.inr hL6) v hv⟩)
      have HK := Lib.hid hK
      replace HII := Lib.hid (HII.out.same hg)
      replace HG := Lib.hid (grown_trans HG.out hg)
      generalize redN (ts, [], 1) L.length = st at *
      have hks6 : ks.length ≤ 6 := by
        have := ker_count HB.out
        rw [← HKS.out, List.length_map, HCL.out] at this
        omega
      obtain ⟨ak, ck, rfl, -⟩ : ∃ a cap, vk = .slice a ks.length cap ∧ True := by obtain ⟨a, cap, h, -⟩ := hK; exact ⟨a, cap, h, trivial⟩
      clear hK hk hg hwd hB HMT HTO HTS HRP
      by_cases hone : ks.length = 1
      · obtain ⟨q, rfl⟩ : ∃ q, ks = [q] := List.length_eq_one_iff.1 hone
        have hqm : q.2 ∈ [q].map Prod.snd := by simp
        have HQL := Lib.hid (HKB.out q.2 hqm)
        obtain ⟨bk, ok, a2, c2, rfl, hck, hki⟩ := row_ints HK.out (k := 0) (by simp)
        simp only [List.getElem_cons_zero] at hck hki
        rw [Nat.add_zero, HQL.out.1] at hck
        rw [HQL.out.1] at hki
        have HKS1 : Hid (kerOf st (idxs (bitB s) C.length).length = [q.2]) := Lib.hid HKS.out.symm
        have HQI := Lib.hid hki
        have HCK := Lib.hid hck
        generalize q.2 = z at *
        clear hqm hki HKB HKS HK hone hks6 hck
        go_wp2_with (at_make; refine make_int rfl _ _ rfl ps.length rfl rfl (by omega) ?_)
        intro w4 ho hg
        have HO : Hid (OwnI w4 w2.heap.size (.slice (some ⟨w2.heap.size, 0, none⟩) ps.length ps.length) (spr L z ps.length 0)) := Lib.hid ho
        have HG4 := Lib.hid hg
        clear ho hg
        go_wp2_with fail
        go_loopw [14] (fun i wr => ∃ t : Nat, i = .int .i64 t ∧ t ≤ L.length ∧ Hid (∀ t', t' < t → 0 < z[t']?.getD 0) ∧ Hid (OwnI wr w2.heap.size (.slice (some ⟨w2.heap.size, 0, none⟩) ps.length ps.length) (spr L z ps.length t)) ∧ Hid (w2.grownBy wr none)) (fun i _ => L.length - (intOf i).toNat)
        case atStart => exact ⟨0, rfl, Nat.zero_le _, Lib.hid (fun t' h => by omega), HO, HG4⟩
        case round =>
          clear HO HG4
          obtain ⟨t, rfl, ht, HP, HO, HGR⟩ := hrel
          rename World => wt
          by_cases htb : t < L.length
          · have h2 : (t : Int) < (L.length : Int) := by omega
            have i2 : IntKind.i64.wrap ((t : Int) + 1) = (t : Int) + 1 := IntWalk.i64_in _ (by omega)
            have hcr := HGR.out.cell HCK.out (by simp)
            obtain ⟨_, _, hxv, -, -, hxc⟩ := HQI.out.same HGR.out
            simp only [Value.slice.injEq] at hxv
            obtain ⟨rfl, -, rfl⟩ := hxv
            have htz : t < z.length := by have := HQL.out.1; omega
            obtain ⟨bz, oz, rfl, hcz⟩ := Ints.at hxc htz
            have HPN : Hid (0 < z[t]?.getD 0 → ∀ t', t' < t + 1 → 0 < z[t']?.getD 0) := Lib.hid (fun h t' h' => by
              by_cases e : t' = t
              · subst e; exact h
              · exact HP.out t' (by omega))
            have HZA : Hid (z[t]?.getD 0 ≤ 0 → ∀ y, ¬ FlowAt C c (bitB s) y) := Lib.hid (fun h y => no_at HB.out (by rw [HCL.out]; omega) (fun v hv => by
              rw [HKS1.out] at hv
              obtain rfl : z = v := by simpa using hv
              exact ⟨t, by rw [HCL.out]; exact htb, h⟩) y)
            have HST : Hid (∀ x, x = z[t]?.getD 0 → OwnI (wt.setCell ⟨w2.heap.size, L[t], none⟩ (.int .i64 x)) w2.heap.size (.slice (some ⟨w2.heap.size, 0, none⟩) ps.length ps.length) (spr L z ps.length (t + 1))) := Lib.hid (by
              rintro x rfl
              have := HO.out.stored L[t] (z[t]?.getD 0)
              have e : spr L z ps.length (t + 1) = (spr L z ps.length t).set L[t] (z[t]?.getD 0) := by
                show (spr L z ps.length t).set (L[t]?.getD 0) _ = _
                rw [List.getElem?_eq_getElem htb]; rfl
              rw [e]
              exact this)
            obtain ⟨x, hx⟩ : ∃ x, z[t]?.getD 0 = x := ⟨_, rfl⟩
            rw [hx] at hcz
            have HX := Lib.hid hx
            clear hxc hx
            by_cases hx0 : x ≤ 0
            · have HNO := Lib.hid (HZA.out (by rw [HX.out]; exact hx0))
              go_wp2_with fail
              go_ret2
              exact ⟨grown_trans HG.out HGR.out, .inr ⟨rfl, HNO.out⟩⟩
            · have hx1 : ¬ x ≤ 0 := hx0
              have HPP := Lib.hid (HPN.out (by rw [HX.out]; omega))
              have hLt : L[t] < ps.length := by
                have h7 : ∀ i ∈ L, i < ps.length := fun i hi => by
                  rw [HL.out] at hi
                  exact (idxs_lt hi).1
                exact h7 _ (List.getElem_mem htb)
              have hil : t < (idxI s ps.length).length := by rw [HIL.out]; exact htb
              obtain ⟨_, _, hxv, -, -, hyc⟩ := HII.out.same HGR.out
              simp only [Value.slice.injEq] at hxv
              obtain ⟨rfl, -, rfl⟩ := hxv
              obtain ⟨bi, oi, rfl, hci⟩ := Ints.at hyc hil
              rw [idxI_at (by rw [← HL.out]; exact htb), ← HL.out, List.getElem?_eq_getElem htb] at hci
              have HOC := HO.out.cell L[t] (by rw [spr_len]; exact hLt)
              have hcs2 := HOC.2
              obtain ⟨zz, hcs1⟩ : ∃ z, wt.cell? ⟨w2.heap.size, L[t], none⟩ = some z := ⟨_, HOC.1⟩
              have HON := Lib.hid (HST.out x HX.out.symm)
              have HGN : Hid (w2.grownBy (wt.setCell ⟨w2.heap.size, L[t], none⟩ (.int .i64 x)) none) := Lib.hid (grown_then HGR.out (grown_set _ _ _) (by rintro j ⟨⟩; exact .inl (Nat.le_refl _)))
              simp only [Option.getD_some] at hci
              generalize L[t] = l at *
              have h3 : ((l : Nat) : Int) < (ps.length : Int) := by omega
              have hcrd : wt.drew.cell? ⟨bk, ok, none⟩ = some (.slice (some ⟨bz, oz, none⟩) L.length c2) := hcr
              have hczd : wt.drew.cell? ⟨bz, oz + t, none⟩ = some (.int .i64 x) := hcz
              have hcid : wt.drew.cell? ⟨bi, oi + t, none⟩ = some (.int .i64 (l : Int)) := hci
              have hcs1d : wt.drew.cell? ⟨w2.heap.size, l, none⟩ = some zz := hcs1
              have hcs2d : wt.drew.frozen? ⟨w2.heap.size, l, none⟩ = false := hcs2
              have h6 : (0 : Int) ≤ (l : Int) := by omega
              clear hyc HOC
              go_wp2_with fail
              go_region
              clear hcr hcrd hcz hczd hci hcid hcs1 hcs1d hcs2 hcs2d
              replace HON := Lib.hid (HON.out.kept (grown_drew _ none) (by simp))
              replace HGN := Lib.hid (grown_trans HGN.out (grown_drew _ none))
              go_wp2_with fail
              go_roundw
              case rel => exact ⟨t + 1, by go_num, by omega, HPP, HON, HGN⟩
              case measure => simp [intOf]; omega
          · obtain rfl : t = L.length := by omega
            have h2 : ¬ (L.length : Int) < (L.length : Int) := by omega
            have HFA : Hid (FlowAt C c (bitB s) (spr L z ps.length L.length)) := Lib.hid (by
              have := at_of_one HB.out HKS1.out (fun t ht => by
                rw [HCL.out] at ht
                exact HP.out t ht)
              rw [HCL.out] at this
              have e : C.length = ps.length := by rw [HC.out, List.length_map]
              rw [e] at this
              exact this)
            have HZP : Hid (∀ x ∈ z, 0 ≤ x ∧ x ≤ 12079595520) := Lib.hid (fun x hx => by
              have := HQL.out.2 x hx
              obtain ⟨i, hi, rfl⟩ := List.getElem_of_mem hx
              have := HP.out i (by rw [← HQL.out.1]; exact hi)
              rw [List.getElem?_eq_getElem hi] at this
              simp only [Option.getD_some] at this
              omega)
            go_wp2_with fail
            go_ret2
            exact ⟨grown_trans HG.out HGR.out, .inl ⟨_, _, rfl, HO.out.mono HG.out.size, HFA.out, with_bd HZP.out _⟩⟩
      · have hk1 : ((ks.length : Int) != 1) = true := by simp; omega
        have HNO : Hid (∀ y, ¬ FlowAt C c (bitB s) y) := Lib.hid (fun y => no_at HB.out (by rw [HCL.out]; omega) (fun v hv => by
          rw [← HKS.out] at hv
          have := congrArg List.length hv
          simp at this
          omega) y)
        go_wp2_with fail
        go_ret2
        exact ⟨HG.out, .inr ⟨rfl, HNO.out⟩⟩
end Go.Proofs.YtpnghgihepnepaaDoor

namespace Go.Proofs.YtpnghgihepnepaaDoor
open Go.RowKit
set_option linter.unusedVariables false

theorem irows_of {W : World} {x : Addr} {l c : Nat} {A : Nat → Option Addr} {L C : Nat → Nat} {Z : Nat → Nat → Int} (hl : l ≤ c) (hm : c ≤ maxLen)
    (hx : ∀ r, r < c → W.cell? (x.add r) = some (.slice (A r) (L r) (C r)) ∧ L r ≤ C r ∧ C r ≤ maxLen ∧ (A r = none → C r = 0) ∧ ∀ a', A r = some a' → ∀ k, k < C r → W.cell? (a'.add k) = some (.int .i64 (Z r k)) ∧ -9223372036854775808 ≤ Z r k ∧ Z r k ≤ 9223372036854775807) :
    ∃ ps : List Row, l = ps.length ∧ RowsI W (.slice (some x) ps.length c) ps := by
  refine ⟨(List.range l).map (fun r => (.slice (A r) (L r) (C r), (List.range (L r)).map (Z r))), by simp, some x, c, rfl, by simp; omega, ?_, fun p hp => ?_⟩
  · by_cases h0 : l = 0
    · subst h0; exact .inl rfl
    · obtain ⟨b, off, spot⟩ := x
      have hspot : spot = none := by simpa [Addr.add] using World.cell?_spot (hx 0 (by omega)).1
      subst hspot
      refine .inr ⟨b, off, rfl, fun i hi => ?_⟩
      have hi' : i < l := by simpa using hi
      have := (hx i (by omega)).1
      have ha : (Addr.mk b off none).add i = ⟨b, off + i, none⟩ := by unfold Addr.add; split <;> simp_all
      rw [ha] at this
      rw [this]
      simp [hi']
  · obtain ⟨r, hr, rfl⟩ := List.mem_map.1 hp
    have hr' : r < l := List.mem_range.1 hr
    obtain ⟨-, h1, h2, h3, h4⟩ := hx r (by omega)
    have hbd : ∀ z ∈ (List.range (L r)).map (Z r), -9223372036854775808 ≤ z ∧ z ≤ 9223372036854775807 := fun z hz => by
      obtain ⟨k, hk, rfl⟩ := List.mem_map.1 hz
      have hk' : k < L r := List.mem_range.1 hk
      cases ha : A r with
      | none => exact absurd (h3 ha) (by omega)
      | some a' => exact (h4 _ ha k (by omega)).2
    have hc : (List.range (L r)).map (Z r) = [] ∨ ∃ b off, A r = some ⟨b, off, none⟩ ∧ ∀ i, i < ((List.range (L r)).map (Z r)).length → W.cell? ⟨b, off + i, none⟩ = some (.int .i64 (((List.range (L r)).map (Z r))[i]?.getD 0)) := by
      by_cases h0 : L r = 0
      · exact .inl (by simp [h0])
      · cases ha : A r with
        | none => exact absurd (h3 ha) (by omega)
        | some a' =>
          obtain ⟨b, off, spot⟩ := a'
          have hc := fun k hk => (h4 _ ha k hk).1
          have hspot : spot = none := by simpa [Addr.add] using World.cell?_spot (hc 0 (by omega))
          subst hspot
          refine .inr ⟨b, off, rfl, fun i hi => ?_⟩
          have hi' : i < L r := by simpa using hi
          have := hc i (by omega)
          have he : (Addr.mk b off none).add i = ⟨b, off + i, none⟩ := by unfold Addr.add; split <;> simp_all
          rw [he] at this
          rw [this]
          simp [hi']
    have hI : Ints W (.slice (A r) (L r) (C r)) ((List.range (L r)).map (Z r)) := ⟨A r, C r, by simp, by simp; omega, hbd, hc⟩
    refine ⟨hI, fun hne => ⟨hI, ⟨fun n c e => ?_, fun a n c e => ?_⟩, fun g hg => ?_⟩⟩
    · simp only [Value.slice.injEq] at e
      obtain ⟨e1, rfl, rfl⟩ := e
      have := h3 e1
      omega
    · simp only [Value.slice.injEq] at e
      obtain ⟨-, rfl, rfl⟩ := e
      exact h1
    · rcases hc with hc | ⟨b, off, ha, hc⟩
      · exact absurd hc hne
      · dsimp only at hg
        rw [ha] at hg
        simp only [Value.ownBlock, Option.some.injEq] at hg
        subst hg
        have h5 : 0 < ((List.range (L r)).map (Z r)).length := List.length_pos_iff.2 hne
        exact World.block_lt_of_cell? W _ (hc 0 h5)
/-- As the kit's open_int_rows tells it. -/
theorem irows_in {W : World} {x : Addr} {base l c : Nat} {A : Nat → Option Addr} {L C : Nat → Nat} {Z : Nat → List Int} (hl : l ≤ c) (hm : c ≤ maxLen)
    (hx : ∀ r, r < c → W.cell? (x.add r) = some (.slice (A r) (L r) (C r)) ∧ L r ≤ C r ∧ C r ≤ maxLen ∧ (Z r).length = C r ∧ (∀ n ∈ Z r, (Lit.int .i64 n).wf = true) ∧ (A r = none → C r = 0) ∧
        ∀ a', A r = some a' → base ≤ a'.block ∧ ∀ k, k < C r → W.cell? (a'.add k) = some (.int .i64 ((Z r).getD k 0))) :
    ∃ ps : List Row, l = ps.length ∧ RowsI W (.slice (some x) ps.length c) ps :=
  irows_of (Z := fun r k => (Z r).getD k 0) hl hm (fun r hr => by
    obtain ⟨h1, h2, h3, h4, h5, h6, h7⟩ := hx r hr
    refine ⟨h1, h2, h3, h6, fun a' ha k hk => ⟨(h7 a' ha).2 k hk, ?_⟩⟩
    have hz : (Z r).getD k 0 ∈ Z r := by
      rw [List.getD_eq_getElem?_getD, List.getElem?_eq_getElem (by omega)]
      exact List.getElem_mem _
    have := h5 _ hz
    simpa [Lit.wf, IntKind.min, IntKind.max, IntKind.signed, IntKind.bits] using this)
end Go.Proofs.YtpnghgihepnepaaDoor

namespace Go.Proofs.YtpnghgihepnepaaDoor
open Go.RowKit
set_option linter.unusedVariables false

def GotU (rs : List (List Int)) (err : Int) (w : World) (e : Ending) (w' : World) : Prop := ∃ v qs, e = .returned (.tuple #[v, .int .i64 err]) ∧ RowsP w' v qs ∧ qs.map Prod.snd = rs ∧ w.grownBy w' none
theorem rowsP_nil (w : World) : RowsP w (.slice none 0 0) [] := ⟨none, 0, rfl, Nat.zero_le _, .inl rfl, by simp⟩
theorem gotU_bad {w w' : World} {err : Int} {e : Ending} (h : e = .returned (.tuple #[.slice none 0 0, .int .i64 err]) ∧ w.grownBy w' none) : GotU [] err w e w' := ⟨_, [], h.1, rowsP_nil _, rfl, h.2⟩
/-- A matrix that came in, beside the deck in block d. -/
def RowsX (w : World) (d : Nat) (v : Value) (ps : List Row) : Prop := RowsI w v ps ∧ (ps ≠ [] → v.ownBlock ≠ some d) ∧ ∀ p ∈ ps, p.2 ≠ [] → p.1.ownBlock ≠ some d
theorem Ints.empty {w w' : World} {v : Value} (h : Ints w v []) : Ints w' v [] := by
  obtain ⟨a, cap, h1, h2, h3, h4⟩ := h
  exact ⟨a, cap, h1, h2, h3, .inl rfl⟩
theorem RowsX.kept {w w' : World} {d : Nat} {v : Value} {ps : List Row} {row : Option Nat} (h : RowsX w d v ps) (g : w.grownBy w' row) (hr : row = none ∨ row = some d) : RowsX w' d v ps := by
  obtain ⟨⟨a, cap, hv, hl, hc, hp⟩, h2, h3⟩ := h
  refine ⟨⟨a, cap, hv, hl, ?_, fun p hpm => ?_⟩, h2, h3⟩
  · rcases hc with rfl | ⟨b, off, rfl, hc⟩
    · exact .inl rfl
    · by_cases h0 : ps = []
      · exact .inl h0
      · refine .inr ⟨b, off, rfl, fun i hi => g.cell (hc i hi) (fun e => ?_)⟩
        have h4 := h2 h0
        rw [hv] at h4
        rcases hr with hr | hr
        · rw [hr] at e; cases e
        · rw [hr] at e
          cases e
          exact h4 rfl
  · obtain ⟨h5, h6⟩ := hp p hpm
    have hk : p.2 ≠ [] → ∀ k, row = some k → p.1.ownBlock ≠ some k := fun h0 k hk e => by
      rcases hr with hr | hr
      · rw [hr] at hk; cases hk
      · rw [hr] at hk; cases hk; exact h3 p hpm h0 e
    by_cases h0 : p.2 = []
    · refine ⟨?_, fun h => absurd h0 h⟩
      rw [h0] at h5 ⊢
      exact h5.empty
    · exact ⟨h5.kept g (hk h0), fun _ => (h6 h0).kept g (hk h0)⟩
theorem RowsX.same {w w' : World} {d : Nat} {v : Value} {ps : List Row} (h : RowsX w d v ps) (g : w.grownBy w' none) : RowsX w' d v ps := h.kept g (.inl rfl)
theorem RowsX.deal {w w' : World} {d : Nat} {v : Value} {ps : List Row} (h : RowsX w d v ps) (g : w.grownBy w' (some d)) : RowsX w' d v ps := h.kept g (.inr rfl)
theorem RowsX.slice {w : World} {d : Nat} {v : Value} {ps : List Row} (h : RowsX w d v ps) : ∃ a cap, v = .slice a ps.length cap := by obtain ⟨⟨a, cap, hv, _⟩, _⟩ := h; exact ⟨a, cap, hv⟩
theorem MatD.rowsX {w : World} {d : Nat} {v : Value} {ps : List Row} (h : MatD w d v ps) : RowsX w d v ps := by
  obtain ⟨base, hd, hm⟩ := h
  exact ⟨hm.rowsP.toI, fun _ e => by have := (hm.own.fresh d e).1; omega, fun p hp _ e => by have := ((hm.rows p hp).fresh d e).1; omega⟩
theorem cell_in {w : World} {b o : Nat} {v : Value} (h : w.cell? ⟨b, o, none⟩ = some v) : b < w.heap.size := by
  rcases Nat.lt_or_ge b w.heap.size with h1 | h1
  · exact h1
  · exfalso
    unfold World.cell? at h
    dsimp only at h
    rw [Array.getElem?_eq_none h1] at h
    simp at h
theorem RowsI.x {w0 w : World} {p : Value} {d : Nat} {v : Value} {ps : List Row} (h : RowsI w0 v ps) (hs : St w0 w p d) : RowsX w d v ps := by
  refine ⟨h.same hs.2.1, fun h0 e => ?_, fun q hq h0 e => ?_⟩
  · obtain ⟨a, cap, rfl, hl, hc, -⟩ := h
    rcases hc with rfl | ⟨b, off, rfl, hc⟩
    · exact h0 rfl
    · have h1 : 0 < ps.length := by cases ps with
        | nil => exact absurd rfl h0
        | cons _ _ => simp
      have := cell_in (hc 0 h1)
      simp only [Value.ownBlock, Option.some.injEq] at e
      have := hs.2.2
      omega
  · obtain ⟨-, -, -, -, -, hp⟩ := h
    have := ((hp q hq).2 h0).2.2 d e
    have := hs.2.2
    omega
/-- A vector that came in, beside the deck. -/
def IntX (w : World) (d : Nat) (v : Value) (xs : List Int) : Prop := Ints w v xs ∧ v.ownBlock ≠ some d
theorem IntX.same {w w' : World} {d : Nat} {v : Value} {xs : List Int} (h : IntX w d v xs) (g : w.grownBy w' none) : IntX w' d v xs := ⟨h.1.same g, h.2⟩
theorem IntX.deal {w w' : World} {d : Nat} {v : Value} {xs : List Int} (h : IntX w d v xs) (g : w.grownBy w' (some d)) : IntX w' d v xs := ⟨h.1.kept g (fun k hk => by cases hk; exact h.2), h.2⟩
theorem Vec.x {w : World} {d : Nat} {v : Value} {xs : List Int} (h : Vec w d v xs) : IntX w d v xs := ⟨h.1, fun e => by have := h.2 d e; omega⟩

end Go.Proofs.YtpnghgihepnepaaDoor
