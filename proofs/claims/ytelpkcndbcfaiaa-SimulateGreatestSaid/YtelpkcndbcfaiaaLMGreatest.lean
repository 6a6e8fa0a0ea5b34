/- SimulateGreatest: for every input it answers true -/
import Derived.Test.YtelpkcndbcfaiaaJu
import Derived.StillTailTactics
import Derived.Outline
import Derived.BigRegion
import Derived.BigQuiet
import Derived.Deep.RegionHeld3
namespace Go.Proofs.Ytelpkcndbcfaiaa
open Go.ChangeShapes Go.WideShapes Go.ChangeAt Go.RowKit
set_option linter.unusedVariables false
set_option maxRecDepth 100000 in
set_option maxHeartbeats 4000000 in
theorem walkSimulateGreatest (a0 : Option Addr) (len0 cap0 : Nat) (z0 : List Int) (w : World) (w0 : IsRow .u8 w a0 len0 cap0 z0) :
    Calls Try.prog 4 #[.slice a0 len0 cap0] w fun e w' => e = .returned (.bool true) ∧ Below w.heap.size w w' := by
  obtain ⟨hU0, hlen0, hcap0⟩ := w0.u8
  generalize z0.take len0 = zs0 at hU0 hlen0
  subst hlen0
  have HU0 := Lib.hid hU0; have HCAP0 := Lib.hid hcap0
  clear hU0 hcap0 w0
  go_enter Try.func4, Try.ntmps4
  go_wp2_with fail
  refine (awake36_any _).mono ?_
  rintro e w1 ⟨rfl, hg⟩
  have HG := Lib.hid hg
  clear hg
  go_wp2_with fail
  refine (dice_new (HU0.out.same HG.out) HCAP0.out HG.out).mono ?_
  rintro e w2 ⟨d, rfl, hs⟩
  have HS := Lib.hid hs
  clear hs
  go_wp2_with fail
  refine (system_any HS.out).mono ?_
  rintro e w3 ⟨aa, ca, la, rfl, hb, h1, h6, hr, hs, hg⟩
  have HDa : Hid (SysD d w3 (.slice aa la.length ca) la) := Lib.hid ⟨hb, h1, h6, hr⟩
  replace HS := Lib.hid hs
  clear hb h1 h6 hr hs hg
  go_wp2_with fail
  refine (system_any HS.out).mono ?_
  rintro e w4 ⟨ab, cb, lb, rfl, hb, h1, h6, hr, hs, hg⟩
  have HDb : Hid (SysD d w4 (.slice ab lb.length cb) lb) := Lib.hid ⟨hb, h1, h6, hr⟩
  replace HS := Lib.hid hs
  replace HDa := Lib.hid (HDa.out.deal hg)
  clear hb h1 h6 hr hs hg
  obtain ⟨H, hH⟩ : ∃ H, w4.heap.size = H := ⟨_, rfl⟩
  have HDH : Hid (d < H) := Lib.hid (by rw [← hH]; exact HS.out.lt)
  go_wp2_with fail
  obtain ⟨w5, hw5⟩ : ∃ w5, w5 = ((w4.alloc (.cells #[.slice aa la.length ca] 25)).alloc (.cells #[.slice ab lb.length cb] 25)) := ⟨_, rfl⟩
  have hgw5 : w4.grownBy w5 none := by rw [hw5]; exact grown_aft2 (World.grownBy_alloc _ _ _)
  have HCa : Hid (w5.cell? ⟨H, 0, none⟩ = some (.slice aa la.length ca)) := Lib.hid (by
    have hb : w5.heap[H]? = some (.cells #[.slice aa la.length ca] 25 (0, 0)) := by rw [hw5]; exact heap_old _ (heap_new _ hH.symm)
    unfold World.cell?
    dsimp only
    rw [hb]
    rfl)
  replace HDa := Lib.hid (HDa.out.step hgw5)
  have HCb : Hid (w5.cell? ⟨H + 1, 0, none⟩ = some (.slice ab lb.length cb)) := Lib.hid (by
    have hb : w5.heap[H + 1]? = some (.cells #[.slice ab lb.length cb] 25 (0, 0)) := by rw [hw5]; exact heap_new _ (by show _ = (w4.heap.push _).size; simp [hH])
    unfold World.cell?
    dsimp only
    rw [hb]
    rfl)
  replace HDb := Lib.hid (HDb.out.step hgw5)
  replace HS := Lib.hid (HS.out.step hgw5)
  rw [← hw5]
  clear hw5 hgw5 hH
  refine (greatest_any _ _ la lb _ HDa.out.sys HDb.out.sys).mono ?_
  rintro e w6 ⟨R, bs, rs, rfl, hR, hx, hgt, hg⟩
  have HSO := HS
  replace HCa := Lib.hid (hg.cell HCa.out (by simp)); replace HDa := Lib.hid (HDa.out.step hg)
  replace HCb := Lib.hid (hg.cell HCb.out (by simp)); replace HDb := Lib.hid (HDb.out.step hg)
  replace HS := Lib.hid (HS.out.step hg)
  have HX := Lib.hid hx; have HGT := Lib.hid hgt
  have HLA : Hid ((la.map Prod.snd).length = la.length) := Lib.hid (by rw [List.length_map])
  have HLB : Hid ((lb.map Prod.snd).length = lb.length) := Lib.hid (by rw [List.length_map])
  rw [HLA.out, HLB.out] at HX
  rw [HLA.out]
  obtain ⟨n, hn⟩ : ∃ n, la.length = n := ⟨_, rfl⟩
  obtain ⟨m, hm⟩ : ∃ m, lb.length = m := ⟨_, rfl⟩
  have HN := Lib.hid hn; have HM := Lib.hid hm
  have hn1 := HDa.out.one; have hn6 := HDa.out.six; have hm1 := HDb.out.one; have hm6 := HDb.out.six
  rw [hn] at HX hn1 hn6 HCa HLA ⊢
  rw [hm] at HX hm1 hm6 HCb HLB ⊢
  rw [hn] at HDa
  rw [hm] at HDb
  have HRD : Hid (d < R) := Lib.hid (by have h1 := HSO.out.lt; omega)
  clear hx hgt hg hR hn hm HSO
  have ca0 := HCa.out
  have cb0 := HCb.out
  go_wp2_with fail
  clear ca0 cb0
  refine (simulates_any _ _ la lb _ HDa.out.sys HDb.out.sys).mono ?_
  rintro e w7 ⟨rfl, hg⟩
  replace HCa := Lib.hid (hg.cell HCa.out (by simp)); replace HDa := Lib.hid (HDa.out.step hg)
  replace HCb := Lib.hid (hg.cell HCb.out (by simp)); replace HDb := Lib.hid (HDb.out.step hg)
  replace HS := Lib.hid (HS.out.step hg)
  obtain ⟨p, hp⟩ : ∃ p, grB (la.map Prod.snd) (lb.map Prod.snd) = p := ⟨_, rfl⟩
  rw [hp]
  have Hp := Lib.hid hp
  replace HX := Lib.hid (HX.out.same hg)
  clear hp hg
  have ca0 := HCa.out
  have cb0 := HCb.out
  obtain ⟨b0, hb0, hbR, x1, x2, -⟩ := HX.out.cells (x := 0) (y := 0) (by rw [HGT.out.1, HLA.out]; omega) (by omega)
  have HP0 : Hid (atB rs 0 0 = p) := Lib.hid (by
    rw [← Hp.out]
    exact grB_of (HGT.out.2.2 0 0 (by rw [HLA.out]; omega) (by rw [HLB.out]; omega)))
  rw [HP0.out] at x2
  have hn0 : (0 : Int) < (n : Int) := by omega
  have hm0 : (0 : Int) < (m : Int) := by omega
  have hpp : (p != p) = false := by cases p <;> rfl
  clear hb0 hbR
  go_wp2_with fail
  go_quiet (fail)
  go_wp2_with fail
  clear x1 x2 hpp
  clear ca0 cb0
  have gN := grown_drewN w7 nq none
  have HXN := Lib.hid (HX.out.same gN)
  refine (holds_any _ _ _ la lb (tabB m bs rs) (w7.drewN nq) (HDa.out.step gN).sys (HDb.out.step gN).sys (HXN.out.rel (HGT.out.1.trans HLA.out) (by omega) (by omega))).mono ?_
  rintro e wl ⟨⟨xv, rfl, hh⟩, hg⟩
  rw [tab_snd HXN.out.len] at hh
  have hxv := hold_great HDa.out.vs HDb.out.vs HGT.out hh
  rw [HP0.out] at hxv
  subst hxv
  have hg := grown_trans gN hg
  replace HCa := Lib.hid (hg.cell HCa.out (by simp)); replace HDa := Lib.hid (HDa.out.step hg)
  replace HCb := Lib.hid (hg.cell HCb.out (by simp)); replace HDb := Lib.hid (HDb.out.step hg)
  replace HS := Lib.hid (HS.out.step hg)
  replace HX := Lib.hid (HX.out.same hg)
  have HHD0 : Hid (some H ≠ some d) := Lib.hid (by have := HDH.out; simp; omega)
  have HHD1 : Hid (some (H + 1) ≠ some d) := Lib.hid (by have := HDH.out; simp; omega)
  clear gN hh hg HXN
  cases p with
  | false =>
    rw [if_neg (by simp)]
    have HGD : Hid (wl.grownBy wl (some d)) := Lib.hid (grown_refl _ _)
    have HDW : Hid (d < wl.heap.size) := Lib.hid HS.out.lt
    have ca0 := HCa.out
    go_wp2_with fail
    clear ca0
    go_loopw [88, 11] (fun i v wr => ∃ (x : Nat) (ts : List BolP), i = .int .i64 x ∧ x ≤ n ∧ Hid (ts.length = x) ∧ Hid (∀ q ∈ ts, q.2.length = m) ∧ Hid (OwnT wr wl.heap.size v ts) ∧ Hid (Sd w wr (.pointer (some ⟨d, 0, none⟩)) d) ∧ Hid (wl.grownBy wr (some d))) (fun i _ _ => n - (intOf i).toNat)
    case atStart => exact ⟨0, [], rfl, Nat.zero_le _, Lib.hid rfl, Lib.hid (by simp), Lib.hid (OwnT.nil _ _), HS, HGD⟩
    case round =>
      clear HS HGD
      obtain ⟨x, ts, rfl, hx, htl, htm, HT, HS, HGD⟩ := hrel
      by_cases hlx : x < n
      · have hxi : (x : Int) < (n : Int) := by omega
        have HBL := Lib.hid HT.out.below
        have HB2 : Hid (wl.heap.size ≤ wr.heap.size) := Lib.hid HGD.out.size
        have cb0 := HGD.out.cell HCb.out HHD1.out
        go_wp2_with fail
        clear cb0
        go_loopw [93, 12] (fun i v wk => ∃ (y : Nat) (r : List Bool), i = .int .i64 y ∧ y ≤ m ∧ Hid (r.length = y) ∧ Hid (OwnB wk wr.heap.size v r) ∧ Hid (OwnT wk wl.heap.size _ ts) ∧ Hid (Sd w wk (.pointer (some ⟨d, 0, none⟩)) d) ∧ Hid (wr.grownBy wk (some d))) (fun i _ _ => m - (intOf i).toNat)
        case atStart => exact ⟨0, [], rfl, Nat.zero_le _, Lib.hid rfl, Lib.hid (OwnB.nil _ _), HT, HS, Lib.hid (grown_refl _ _)⟩
        case round =>
          rename World => wk
          clear HT HS
          obtain ⟨y, r, rfl, hy, hrl, HR, HT, HS, HGK⟩ := hrel
          by_cases hly : y < m
          · have hyi : (y : Int) < (m : Int) := by omega
            go_wp2_with fail
            refine (dice_pick HS.out 2 (by omega) (by omega)).mono ?_
            rintro e w9 ⟨y0, rfl, hy0, hy1, hs, hg⟩
            have HS9 := Lib.hid hs
            have HT9 := Lib.hid (HT.out.lo hg (by rintro k ⟨⟩; exact HDW.out))
            have HR9 := Lib.hid (HR.out.lo hg (by rintro k ⟨⟩; have := HB2.out; have := HDW.out; omega))
            have HG9 := Lib.hid (grown_trans HGK.out hg)
            have HRL : Hid (r.length ≤ 1000000) := Lib.hid (by rw [hrl.out]; omega)
            clear hs hg hy0 hy1
            go_wp2_with (at_builtin; refine app_bool rfl _ _ rfl wr.heap.size _ r rfl (HR9.out.lo (World.grownBy_alloc _ _ none) (by simp)) w9.heap.size (y0 == 0) rfl (heap_new _ rfl) HRL.out (by show _ ≤ (w9.heap.push _).size; have := HG9.out.size; simp; omega) ?_; intro v6 w6' hown6 hg6; have HO6 := Lib.hid hown6; have HG6 := Lib.hid hg6; clear hown6 hg6)
            have HRB := HR9.out.lt
            have HT6 : Hid (OwnT w6' wl.heap.size _ ts) := Lib.hid ((HT9.out.lo (World.grownBy_alloc _ _ none) (by simp)).hi HG6.out wr.heap.size HBL.out (fun k hk => (HRB k hk).1))
            have HS6 : Hid (Sd w w6' (.pointer (some ⟨d, 0, none⟩)) d) := Lib.hid ((HS9.out.step (World.grownBy_alloc _ _ none)).row HG6.out (fun k hk => by have := (HRB k hk).1; have := HB2.out; have := HDW.out; omega))
            have HGK6 : Hid (wr.grownBy w6' (some d)) := Lib.hid (grown_then (grown_then HG9.out (World.grownBy_alloc _ _ none) (by simp)) HG6.out (fun k hk => .inl (HRB k hk).1))
            have HRL6 : Hid ((r ++ [(y0 == 0)]).length = y + 1) := Lib.hid (by rw [List.length_append, hrl.out]; rfl)
            clear HRB
            go_wp2_with fail
            go_roundw
            case rel => exact ⟨y + 1, _, by go_num, by omega, HRL6, HO6, HT6, HS6, HGK6⟩
            case measure => simp [intOf]; omega
          · have hyi : ¬ (y : Int) < (m : Int) := by omega
            have HRM : Hid (r.length = m) := Lib.hid (by rw [hrl.out]; omega)
            obtain ⟨ra, rc, hrv⟩ := own_slice HR.out
            subst hrv
            have HTL : Hid (ts.length ≤ 1000000) := Lib.hid (by rw [htl.out]; omega)
            have HBW : Hid (wl.heap.size ≤ wk.heap.size) := Lib.hid (Nat.le_trans HB2.out HGK.out.size)
            go_wp2_with (at_builtin; refine app_brow rfl _ _ rfl wl.heap.size _ ts.length (ts.map Prod.fst) rfl (HT.out.lo (World.grownBy_alloc _ _ none) (by simp)).t wk.heap.size [.slice ra r.length rc] rfl (by simp [Value.oneCell']) rfl (heap_new _ rfl) HTL.out (by show _ ≤ (wk.heap.push _).size; have := HBW.out; simp; omega) ?_; intro a7 c7 w7' hown7 hg7; have HO7 := Lib.hid hown7; have HG7 := Lib.hid hg7; clear hown7 hg7)
            have HT7 := Lib.hid (HT.out.more HR.out HB2.out (World.grownBy_alloc _ _ none) HG7.out HO7.out)
            have HVB := HT.out.t.lt
            have HS7 : Hid (Sd w w7' (.pointer (some ⟨d, 0, none⟩)) d) := Lib.hid ((HS.out.step (World.grownBy_alloc _ _ none)).row HG7.out (fun k hk => by have := (HVB k hk).1; have := HDW.out; omega))
            have HGD7 : Hid (wl.grownBy w7' (some d)) := Lib.hid (grown_then (grown_then (grown_then HGD.out HGK.out (fun k hk => .inr hk)) (World.grownBy_alloc _ _ none) (by simp)) HG7.out (fun k hk => .inl (HVB k hk).1))
            have HTL7 : Hid ((ts ++ [(Value.slice ra r.length rc, r)]).length = x + 1) := Lib.hid (by rw [List.length_append, htl.out]; rfl)
            have HTM7 : Hid (∀ q ∈ ts ++ [(Value.slice ra r.length rc, r)], q.2.length = m) := Lib.hid (fun q hq => by
              rcases List.mem_append.1 hq with hq | hq
              · exact htm.out q hq
              · rw [List.mem_singleton.1 hq]; exact HRM.out)
            clear HVB
            go_wp2_with fail
            go_roundw
            case rel => exact ⟨x + 1, _, by go_num, by omega, HTL7, HTM7, HT7, HS7, HGD7⟩
            case measure => simp [intOf]; omega
      · have hxi : ¬ (x : Int) < (n : Int) := by omega
        have HTN : Hid (ts.length = n) := Lib.hid (by rw [htl.out]; omega)
        obtain ⟨ta, tc, htv⟩ := own_slice HT.out.t
        subst htv
        have ca0 := HGD.out.cell HCa.out HHD0.out
        have cb0 := HGD.out.cell HCb.out HHD1.out
        have HXD := Lib.hid (HX.out.deal HGD.out HRD.out)
        have HREL : Hid (RelR wr (.slice ta ts.length tc) ts) := Lib.hid (HT.out.rel (by rw [HTN.out]; omega) (fun q hq => by rw [htm.out q hq]; omega))
        go_wp2_with fail
        refine (holds_any _ _ _ la lb ts wr (HDa.out.deal HGD.out).sys (HDb.out.deal HGD.out).sys HREL.out).mono ?_
        rintro e w11 ⟨⟨x2, rfl, hh2⟩, hg11⟩
        have HS11 := Lib.hid (HS.out.step hg11)
        have HX11 := Lib.hid (HXD.out.same hg11)
        have HR11 := Lib.hid (HREL.out.same hg11)
        clear ca0 cb0 hg11
        by_cases hz : x2 = 0
        · subst hz
          have HW := Lib.hid (hold_within hh2)
          clear hh2
          exfalso
          have h1 := grB_iff.2 (HW.out.2.2 0 0 (by rw [HLA.out]; omega) (by rw [HLB.out]; omega) HW.out.2.1)
          rw [Hp.out] at h1
          cases h1
        · have d1 : (x2 != 0) = true := by simpa using hz
          clear hz hh2
          go_wp2_with fail
          go_ret
          exact ⟨rfl, HS11.out.below⟩
  | true =>
    rw [if_pos rfl]
    have HGD : Hid (wl.grownBy wl (some d)) := Lib.hid (grown_refl _ _)
    have HDW : Hid (d < wl.heap.size) := Lib.hid HS.out.lt
    have ca0 := HCa.out
    go_wp2_with fail
    clear ca0
    go_loopw [88, 11] (fun i v wr => ∃ (x : Nat) (ts : List BolP), i = .int .i64 x ∧ x ≤ n ∧ Hid (ts.length = x) ∧ Hid (∀ q ∈ ts, q.2.length = m) ∧ Hid (OwnT wr wl.heap.size v ts) ∧ Hid (Sd w wr (.pointer (some ⟨d, 0, none⟩)) d) ∧ Hid (wl.grownBy wr (some d))) (fun i _ _ => n - (intOf i).toNat)
    case atStart => exact ⟨0, [], rfl, Nat.zero_le _, Lib.hid rfl, Lib.hid (by simp), Lib.hid (OwnT.nil _ _), HS, HGD⟩
    case round =>
      clear HS HGD
      obtain ⟨x, ts, rfl, hx, htl, htm, HT, HS, HGD⟩ := hrel
      by_cases hlx : x < n
      · have hxi : (x : Int) < (n : Int) := by omega
        have HBL := Lib.hid HT.out.below
        have HB2 : Hid (wl.heap.size ≤ wr.heap.size) := Lib.hid HGD.out.size
        have cb0 := HGD.out.cell HCb.out HHD1.out
        go_wp2_with fail
        clear cb0
        go_loopw [93, 12] (fun i v wk => ∃ (y : Nat) (r : List Bool), i = .int .i64 y ∧ y ≤ m ∧ Hid (r.length = y) ∧ Hid (OwnB wk wr.heap.size v r) ∧ Hid (OwnT wk wl.heap.size _ ts) ∧ Hid (Sd w wk (.pointer (some ⟨d, 0, none⟩)) d) ∧ Hid (wr.grownBy wk (some d))) (fun i _ _ => m - (intOf i).toNat)
        case atStart => exact ⟨0, [], rfl, Nat.zero_le _, Lib.hid rfl, Lib.hid (OwnB.nil _ _), HT, HS, Lib.hid (grown_refl _ _)⟩
        case round =>
          rename World => wk
          clear HT HS
          obtain ⟨y, r, rfl, hy, hrl, HR, HT, HS, HGK⟩ := hrel
          by_cases hly : y < m
          · have hyi : (y : Int) < (m : Int) := by omega
            go_wp2_with fail
            refine (dice_pick HS.out 2 (by omega) (by omega)).mono ?_
            rintro e w9 ⟨y0, rfl, hy0, hy1, hs, hg⟩
            have HS9 := Lib.hid hs
            have HT9 := Lib.hid (HT.out.lo hg (by rintro k ⟨⟩; exact HDW.out))
            have HR9 := Lib.hid (HR.out.lo hg (by rintro k ⟨⟩; have := HB2.out; have := HDW.out; omega))
            have HG9 := Lib.hid (grown_trans HGK.out hg)
            have HRL : Hid (r.length ≤ 1000000) := Lib.hid (by rw [hrl.out]; omega)
            clear hs hg hy0 hy1
            go_wp2_with (at_builtin; refine app_bool rfl _ _ rfl wr.heap.size _ r rfl (HR9.out.lo (World.grownBy_alloc _ _ none) (by simp)) w9.heap.size (y0 == 0) rfl (heap_new _ rfl) HRL.out (by show _ ≤ (w9.heap.push _).size; have := HG9.out.size; simp; omega) ?_; intro v6 w6' hown6 hg6; have HO6 := Lib.hid hown6; have HG6 := Lib.hid hg6; clear hown6 hg6)
            have HRB := HR9.out.lt
            have HT6 : Hid (OwnT w6' wl.heap.size _ ts) := Lib.hid ((HT9.out.lo (World.grownBy_alloc _ _ none) (by simp)).hi HG6.out wr.heap.size HBL.out (fun k hk => (HRB k hk).1))
            have HS6 : Hid (Sd w w6' (.pointer (some ⟨d, 0, none⟩)) d) := Lib.hid ((HS9.out.step (World.grownBy_alloc _ _ none)).row HG6.out (fun k hk => by have := (HRB k hk).1; have := HB2.out; have := HDW.out; omega))
            have HGK6 : Hid (wr.grownBy w6' (some d)) := Lib.hid (grown_then (grown_then HG9.out (World.grownBy_alloc _ _ none) (by simp)) HG6.out (fun k hk => .inl (HRB k hk).1))
            have HRL6 : Hid ((r ++ [(y0 == 0)]).length = y + 1) := Lib.hid (by rw [List.length_append, hrl.out]; rfl)
            clear HRB
            go_wp2_with fail
            go_roundw
            case rel => exact ⟨y + 1, _, by go_num, by omega, HRL6, HO6, HT6, HS6, HGK6⟩
            case measure => simp [intOf]; omega
          · have hyi : ¬ (y : Int) < (m : Int) := by omega
            have HRM : Hid (r.length = m) := Lib.hid (by rw [hrl.out]; omega)
            obtain ⟨ra, rc, hrv⟩ := own_slice HR.out
            subst hrv
            have HTL : Hid (ts.length ≤ 1000000) := Lib.hid (by rw [htl.out]; omega)
            have HBW : Hid (wl.heap.size ≤ wk.heap.size) := Lib.hid (Nat.le_trans HB2.out HGK.out.size)
            go_wp2_with (at_builtin; refine app_brow rfl _ _ rfl wl.heap.size _ ts.length (ts.map Prod.fst) rfl (HT.out.lo (World.grownBy_alloc _ _ none) (by simp)).t wk.heap.size [.slice ra r.length rc] rfl (by simp [Value.oneCell']) rfl (heap_new _ rfl) HTL.out (by show _ ≤ (wk.heap.push _).size; have := HBW.out; simp; omega) ?_; intro a7 c7 w7' hown7 hg7; have HO7 := Lib.hid hown7; have HG7 := Lib.hid hg7; clear hown7 hg7)
            have HT7 := Lib.hid (HT.out.more HR.out HB2.out (World.grownBy_alloc _ _ none) HG7.out HO7.out)
            have HVB := HT.out.t.lt
            have HS7 : Hid (Sd w w7' (.pointer (some ⟨d, 0, none⟩)) d) := Lib.hid ((HS.out.step (World.grownBy_alloc _ _ none)).row HG7.out (fun k hk => by have := (HVB k hk).1; have := HDW.out; omega))
            have HGD7 : Hid (wl.grownBy w7' (some d)) := Lib.hid (grown_then (grown_then (grown_then HGD.out HGK.out (fun k hk => .inr hk)) (World.grownBy_alloc _ _ none) (by simp)) HG7.out (fun k hk => .inl (HVB k hk).1))
            have HTL7 : Hid ((ts ++ [(Value.slice ra r.length rc, r)]).length = x + 1) := Lib.hid (by rw [List.length_append, htl.out]; rfl)
            have HTM7 : Hid (∀ q ∈ ts ++ [(Value.slice ra r.length rc, r)], q.2.length = m) := Lib.hid (fun q hq => by
              rcases List.mem_append.1 hq with hq | hq
              · exact htm.out q hq
              · rw [List.mem_singleton.1 hq]; exact HRM.out)
            clear HVB
            go_wp2_with fail
            go_roundw
            case rel => exact ⟨x + 1, _, by go_num, by omega, HTL7, HTM7, HT7, HS7, HGD7⟩
            case measure => simp [intOf]; omega
      · have hxi : ¬ (x : Int) < (n : Int) := by omega
        have HTN : Hid (ts.length = n) := Lib.hid (by rw [htl.out]; omega)
        obtain ⟨ta, tc, htv⟩ := own_slice HT.out.t
        subst htv
        have ca0 := HGD.out.cell HCa.out HHD0.out
        have cb0 := HGD.out.cell HCb.out HHD1.out
        have HXD := Lib.hid (HX.out.deal HGD.out HRD.out)
        have HREL : Hid (RelR wr (.slice ta ts.length tc) ts) := Lib.hid (HT.out.rel (by rw [HTN.out]; omega) (fun q hq => by rw [htm.out q hq]; omega))
        go_wp2_with fail
        refine (holds_any _ _ _ la lb ts wr (HDa.out.deal HGD.out).sys (HDb.out.deal HGD.out).sys HREL.out).mono ?_
        rintro e w11 ⟨⟨x2, rfl, hh2⟩, hg11⟩
        have HS11 := Lib.hid (HS.out.step hg11)
        have HX11 := Lib.hid (HXD.out.same hg11)
        have HR11 := Lib.hid (HREL.out.same hg11)
        clear ca0 cb0 hg11
        by_cases hz : x2 = 0
        · subst hz
          have HW := Lib.hid (hold_within hh2)
          clear hh2
          have HFIT : Hid (∀ (x : Nat) (h : x < ts.length), ts[x].2.length = m) := Lib.hid (fun x h => htm.out _ (List.getElem_mem h))
          go_wp2_with fail
          go_loop [114] (fun i => ∃ x : Nat, i = .int .i64 x ∧ x ≤ n) (fun i => n - (intOf i).toNat)
          case atStart => exact ⟨0, rfl, Nat.zero_le _⟩
          case round =>
            obtain ⟨x, rfl, hx⟩ := hrel
            by_cases hlx : x < n
            · have hxi : (x : Int) < (ts.length : Int) := by rw [HTN.out]; omega
              have hxt : x < ts.length := by rw [HTN.out]; exact hlx
              obtain ⟨rb, ro, rcap, hrv, r1, hrow⟩ := HR11.out.row hxt
              simp only [Value.slice.injEq] at hrv
              obtain ⟨rfl, -, rfl⟩ := hrv
              obtain ⟨qa, qc, hqe, -, -⟩ := hrow
              rw [hqe, HFIT.out x hxt] at r1
              clear hqe
              go_wp2_with fail
              go_loop [122] (fun i => ∃ y : Nat, i = .int .i64 y ∧ y ≤ m) (fun i => m - (intOf i).toNat)
              case atStart => exact ⟨0, rfl, Nat.zero_le _⟩
              case round =>
                obtain ⟨y, rfl, hy⟩ := hrel
                by_cases hly : y < m
                · have hyi : (y : Int) < (m : Int) := by omega
                  have hxn : (x : Int) < (n : Int) := by omega
                  obtain ⟨tb1, to1, tc1, tb2, to2, tc2, hv1, y1, y2⟩ := HR11.out.at hxt (j := y) (by rw [HFIT.out x hxt]; exact hly)
                  simp only [Value.slice.injEq, Option.some.injEq, Addr.mk.injEq, and_true] at hv1
                  obtain ⟨⟨rfl, rfl⟩, -, rfl⟩ := hv1
                  rw [HFIT.out x hxt] at y1
                  obtain ⟨gb, hgb, -, g1, g2, -⟩ := HX11.out.cells (x := x) (y := y) (by rw [HGT.out.1, HLA.out]; exact hlx) hly
                  have HAT : Hid (atB (ts.map Prod.snd) x y = true → atB rs x y = true) := Lib.hid (fun h => (HGT.out.2.2 x y (by rw [HLA.out]; exact hlx) (by rw [HLB.out]; exact hly)).2 (HW.out.2.2 x y (by rw [HLA.out]; exact hlx) (by rw [HLB.out]; exact hly) h))
                  clear hgb r1
                  cases hat : atB (ts.map Prod.snd) x y with
                  | false =>
                    rw [hat] at y2
                    clear hat
                    go_wp2_with fail
                    go_round
                    case rel => exact ⟨y + 1, by go_num, by omega⟩
                    case measure => simp [intOf]; omega
                  | true =>
                    rw [hat] at y2
                    rw [HAT.out hat] at g2
                    clear hat
                    go_wp2_with fail
                    go_round
                    case rel => exact ⟨y + 1, by go_num, by omega⟩
                    case measure => simp [intOf]; omega
                · have hyi : ¬ (y : Int) < (m : Int) := by omega
                  go_wp2_with fail
                  go_round
                  case rel => exact ⟨x + 1, by go_num, by omega⟩
                  case measure => simp [intOf]; omega
            · have hxi : ¬ (x : Int) < (ts.length : Int) := by rw [HTN.out]; omega
              go_wp2_with fail
              go_ret
              exact ⟨rfl, HS11.out.below⟩
        · have d1 : (x2 != 0) = true := by simpa using hz
          clear hz hh2
          go_wp2_with fail
          go_ret
          exact ⟨rfl, HS11.out.below⟩

/-! ### SimulateGreatest: the statement, from its walk -/
set_option maxRecDepth 100000 in
theorem liftedSimulateGreatest (os : Os) (started : os.Started) (H : Type) (enc : TypeId × Value → H) :
    ReturnsInHanded {} Try.checked os 4 .any (Rows.simulateGreatestSpec.pre6 enc Try.prog Try.f4 Rows.simulateGreatestRow.domain false) (Rows.simulateGreatestSpec.post enc Try.prog Try.f4 false true false false) := by
  refine returnsInHanded_of_change (C := Try.checked) own started (by kernel_rfl) Try.func4
    (ChangeSpec.witness6 (enc := enc) (C := Try.checked) false ⟨#[], #[.slice none 0 0], []⟩ 8 (by kernel_rfl) (by kernel_rfl) (by kernel_rfl) (by kernel_rfl)) ?_
  intro W base args ds gs before hval0 hW hcnd _
  have hval : ∀ (j : Nat) t v, Try.f4.params[j]? = some t → args[j]? = some v → Value.okWide Try.prog W .any base t v := hval0
  have hW' := hW
  obtain ⟨p, q, hA0, hV, rfl, hfz, hnd⟩ := hW
  have hA : DataW.TrodAll enc Try.prog W 0 (fun _ => true) true Try.f4.params.toList args.toList ds p := hA0
  rw [Try.params4] at hA hval
  obtain ⟨v0, vs0, d0, ds0, p0, q0, hargs, rfl, rfl, h0, r0⟩ := trodAll_cons hA
  obtain ⟨rfl, rfl, rfl⟩ := trodAll_nil r0
  obtain rfl : args = #[v0] := by cases args; simp_all
  obtain ⟨rfl, rfl⟩ := trodVars_none hV
  obtain ⟨a0, len0, cap0, rfl⟩ := okWide_slice Try.underlying22 (hval 0 22 v0 rfl rfl)
  have k0 := h0
  have lt0 : ∀ x ∈ p0, x.block < W.heap.size := by obtain ⟨m, hm⟩ := k0; exact DataW.trod_lt m _ _ _ hm
  obtain ⟨z0, w0⟩ : ∃ zs, IsRow .u8 W a0 len0 cap0 zs := by
    obtain ⟨fuel, hf⟩ := h0
    rcases open_ints Try.underlying22 Try.underlying5 (by kernel_rfl) hf with ⟨hcs, _⟩ | ⟨x, l, c, zs, hcs, _, hl, hm, hz, _, hcell, hwz⟩
    · simp [Value.cells] at hcs
      obtain ⟨rfl, rfl, rfl⟩ := hcs
      exact ⟨[], .inl ⟨rfl, rfl, rfl, rfl⟩⟩
    · simp [Value.cells] at hcs
      obtain ⟨rfl, rfl, rfl⟩ := hcs
      exact ⟨zs, .inr ⟨_, rfl, hl, hm, by simpa using hz, hcell, hwz⟩⟩
  clear hA0 hval0
  refine (walkSimulateGreatest a0 len0 cap0 z0 W w0).mono fun e W' ⟨he, bel⟩ => ?_
  subst he
  exact ⟨_, rfl, _, _, _, [], _, [], hW', trodAll_mk1 (shut_bool Try.underlying4 _), (trodAll_cons_mk (Below.trod laidOut (by kernel_rfl) (of_decide_eq_true (by kernel_rfl)) k0 bel lt0) trodAll_mk0), rfl, bel.frame _, fun h => by cases h⟩

theorem simulateGreatest_holds : Rows.SimulateGreatestSaid :=
  OpenClaim.holds_of_wide 4 Try.f4 rfl rfl rfl rfl rfl rfl rfl ⟨rfl, rfl, rfl, rfl, rfl⟩ rfl rfl rfl rfl rfl (by kernel_rfl) Try.func4 (by kernel_rfl)
    (of_decide_eq_true (by kernel_rfl)) (by unfold Func.isWrapper; first | (rw [if_pos (by decide +kernel)]; kernel_rfl) | (rw [if_neg (by decide +kernel)]; exact ⟨rfl, rfl⟩))
    (fun os started H enc _ => liftedSimulateGreatest os started H enc)
#print axioms simulateGreatest_holds
end Go.Proofs.Ytelpkcndbcfaiaa
