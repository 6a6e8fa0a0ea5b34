/- SimulateMore: for every input it answers true -/
import Derived.Test.YtelpkcndbcfaiaaJz
import Derived.StillTailTactics
import Derived.Outline
import Derived.BigRegion
import Derived.BigQuiet
import Derived.Deep.RegionHeld3
namespace Go.Proofs.Ytelpkcndbcfaiaa
open Go.ChangeShapes Go.WideShapes Go.ChangeAt Go.RowKit
set_option linter.unusedVariables false
set_option maxRecDepth 100000 in
set_option maxHeartbeats 4000000 in
theorem walkSimulateMore (a0 : Option Addr) (len0 cap0 : Nat) (z0 : List Int) (w : World) (w0 : IsRow .u8 w a0 len0 cap0 z0) :
    Calls Try.prog 8 #[.slice a0 len0 cap0] w fun e w' => e = .returned (.bool true) ∧ Below w.heap.size w w' := by
  obtain ⟨hU0, hlen0, hcap0⟩ := w0.u8
  generalize z0.take len0 = zs0 at hU0 hlen0
  subst hlen0
  have HU0 := Lib.hid hU0; have HCAP0 := Lib.hid hcap0
  clear hU0 hcap0 w0
  go_enter Try.func8, Try.ntmps8
  go_wp2_with fail
  refine (awake36_any _).mono ?_
  rintro e w1 ⟨rfl, hg⟩
  have HG := Lib.hid hg
  clear hg
  go_wp2_with fail
  refine (dice_new (HU0.out.same HG.out) HCAP0.out HG.out).mono ?_
  rintro e w2 ⟨d, rfl, hs⟩
  have HS := Lib.hid hs
  clear hs
  go_wp2_with fail
  refine (system_any HS.out).mono ?_
  rintro e w3 ⟨aa, ca, la, rfl, hb, h1, h6, hr, hs, hg⟩
  have HDa : Hid (SysD d w3 (.slice aa la.length ca) la) := Lib.hid ⟨hb, h1, h6, hr⟩
  replace HS := Lib.hid hs
  clear hb h1 h6 hr hs hg
  obtain ⟨H, hH⟩ : ∃ H, w3.heap.size = H := ⟨_, rfl⟩
  have HDH : Hid (d < H) := Lib.hid (by rw [← hH]; exact HS.out.lt)
  obtain ⟨n, hn⟩ : ∃ n, la.length = n := ⟨_, rfl⟩
  have HN := Lib.hid hn
  have hn1 := HDa.out.one
  have hn6 := HDa.out.six
  rw [hn] at HDa hn1 hn6 ⊢
  clear hn
  go_wp2_with fail
  obtain ⟨w5, hw5⟩ : ∃ w5, w5 = (w3.alloc (.cells #[.slice aa n ca] 25)).alloc (.cells #[.slice none 0 0] 25) := ⟨_, rfl⟩
  have hg5 : w3.grownBy w5 none := by rw [hw5]; exact grown_aft2 (World.grownBy_alloc _ _ _)
  have HCa : Hid (w5.heap[H]? = some (.cells #[.slice aa n ca] 25 (0, 0))) := Lib.hid (by rw [hw5]; exact heap_old _ (heap_new _ hH.symm))
  have HCb : Hid (w5.heap[H + 1]? = some (.cells #[.slice none 0 0] 25 (0, 0))) := Lib.hid (by rw [hw5]; exact heap_new _ (by show _ = (w3.heap.push _).size; simp [hH]))
  have HSZ : Hid (w5.heap.size = H + 2) := Lib.hid (by rw [hw5]; show ((w3.heap.push _).push _).size = _; simp [hH])
  replace HDa := Lib.hid (HDa.out.step hg5)
  replace HS := Lib.hid (HS.out.step hg5)
  rw [← hw5]
  clear hw5 hg5 hH
  go_loopw [26] (fun i wr => ∃ (k : Nat) (bv : Value) (lb : List ArcP), i = .int .i64 k ∧ k ≤ n ∧ Hid (lb.map Prod.snd = (la.map Prod.snd).take k) ∧ Hid (wr.heap[H + 1]? = some (.cells #[bv] 25 (0, 0))) ∧ Hid (SysB (H + 2) wr bv lb) ∧ Hid (DisjR lb) ∧ Hid (w5.grownBy wr (some (H + 1)))) (fun i _ => n - (intOf i).toNat)
  case atStart => exact ⟨0, _, [], rfl, Nat.zero_le _, Lib.hid rfl, HCb, Lib.hid ⟨World.ownsRow_nil _ _ _ _, by simp⟩, Lib.hid DisjR.nil, Lib.hid (grown_refl _ _)⟩
  case round =>
    obtain ⟨k, bv, lb, rfl, hk, hlb, hX, hB, hdj, hG⟩ := hrel
    have HAW : Hid (SysB (d + 1) wr (.slice aa n ca) la) := Lib.hid (HDa.out.b.boxed HCb.out hG.out)
    by_cases hlt : k < n
    · have h1 : (k : Int) < (n : Int) := by omega
      have HKL : Hid (k < la.length) := Lib.hid (by rw [HN.out]; exact hlt)
      have HLBL : Hid (lb.length = k) := Lib.hid (by
        have := congrArg List.length hlb.out
        rw [List.length_map, List.length_take, List.length_map, HN.out] at this
        omega)
      obtain ⟨ab, ao, acap, hv, c1, har⟩ := HAW.out.sys.at HKL.out
      simp only [Value.slice.injEq] at hv
      obtain ⟨rfl, -, rfl⟩ := hv
      have HOA : Hid (OwnA wr 0 la[k].1 la[k].2) := Lib.hid (own_base (HAW.out.2 _ (List.getElem_mem HKL.out)) (Nat.zero_le _))
      have HLL : Hid (la[k].2.length ≤ 1000) := Lib.hid (by have := (HDa.out.ok _ (List.getElem_mem HKL.out)).1; omega)
      have HTK : Hid ((la.map Prod.snd).take (k + 1) = (la.map Prod.snd).take k ++ [la[k].2]) := Lib.hid (take_snd HKL.out)
      generalize la[k] = q at *
      obtain ⟨lv, l⟩ := q
      dsimp only at c1 HOA HLL HTK
      obtain ⟨lva, lvc, hlv⟩ := own_slice HOA.out
      subst hlv
      obtain ⟨bva, bvc, hbv⟩ := own_slice hB.out.1
      subst hbv
      clear har
      go_wp2_with fail
      clear c1
      refine wp_gen ?_
      intro a0' ha0
      have f5 : a0'.eval (.tmp 5) = .pointer (some ⟨H + 1, 0, none⟩) := by rw [ha0]; rfl
      have f7 : a0'.eval (.tmp 7) = .slice lva l.length lvc := by rw [ha0]; rfl
      have fsz : a0'.tmps.size = 114 := by rw [ha0]; rfl
      have F5 := Lib.hid f5; have F7 := Lib.hid f7; have HFR := Lib.hid ha0
      clear ha0 f5 f7
      have HZS : Hid (H + 2 ≤ wr.heap.size) := Lib.hid (by have := hG.out.size; have := HSZ.out; omega)
      refine wp_cop (H + 2) wr.heap.size (H + 1) (.slice bva lb.length bvc) (.slice lva l.length lvc) l lb.length (lb.map Prod.fst) (by rfl) (by rw [fsz]; kernel_rfl) (by kernel_rfl) (by kernel_rfl) (by kernel_rfl) (by kernel_rfl) (by decide) (by rw [fsz]; decide) hX.out (by omega) hB.out.1 ?_ ?_
      · refine ⟨?_, ?_, ?_, ?_, ?_, ?_, ?_, ?_, trivial⟩
        · intro x wt s hx hI hs hd
          have e0 : x.eval (.tmp 5) = .pointer (some ⟨H + 1, 0, none⟩) := (hx.eval (s := 5) (by decide)).trans F5.out
          refine .inl ⟨wanted_noI rfl, ?_⟩
          unfold Oper.wp
          simp only [execOp, e0]
          go_simp
          exact ⟨_, rfl, ⟨rfl⟩, cop_none (by decide) (grown_refl _ _), hI.none (grown_refl _ _) (by decide)⟩
        · intro x wt s hx hI hs hd
          have e0 : x.eval (.tmp 30) = .pointer (some ⟨H + 1, 0, none⟩) := (hd 0 (by decide) 30 rfl).h
          have hb := hI.box hX.out (by omega) hB.out.1
          have cb : wt.cell? ⟨H + 1, 0, none⟩ = some (.slice bva lb.length bvc) := by unfold World.cell?; dsimp only; rw [hb]; rfl
          refine .inl ⟨wanted_noI rfl, ?_⟩
          unfold Oper.wp
          simp only [execOp, e0]
          go_simp
          exact ⟨_, rfl, ⟨rfl⟩, cop_none (by decide) (grown_refl _ _), hI.none (grown_refl _ _) (by decide)⟩
        · intro x wt s hx hI hs hd
          refine .inl ⟨wanted_noI rfl, ?_⟩
          unfold Oper.wp
          simp only [execOp]
          go_simp
          have hsz := hI.1.size
          refine ⟨_, rfl, ⟨⟨wt.heap.size, rfl, hsz, heap_new _ rfl, fun e => ?_⟩⟩, cop_none (by decide) (World.grownBy_alloc _ _ none), hI.none (World.grownBy_alloc _ _ none) (by decide)⟩
          have := (hB.out.1.lt _ e).2
          omega
        · intro x wt s hx hI hs hd
          have e0 : x.eval (.tmp 7) = .slice lva l.length lvc := (hx.eval (s := 7) (by decide)).trans F7.out
          refine .inl ⟨wanted_noI rfl, ?_⟩
          unfold Oper.wp
          simp only [execOp, e0]
          go_simp
          exact ⟨_, rfl, ⟨rfl⟩, cop_none (by decide) (grown_refl _ _), hI.none (grown_refl _ _) (by decide)⟩
        · intro x wt s hx hI hs hd
          obtain ⟨E, e0, e1, e2, e3⟩ : ∃ E, x.eval (.tmp 32) = .slice (some ⟨E, 0, none⟩) 0 0 ∧ wr.heap.size ≤ E ∧ wt.heap[E]? = some (.cells #[] 61 (0, 0)) ∧ (Value.slice bva lb.length bvc).ownBlock ≠ some E := (hd 2 (by decide) 32 rfl).h
          have e4 : x.eval (.tmp 33) = .slice lva l.length lvc := (hd 3 (by decide) 33 rfl).h
          have hoa : OwnA wt 0 (.slice lva l.length lvc) l := World.ownsRow.kept HOA.out hI.1 (own_ne HOA.out hB.out.1 (by decide))
          have hsz := hI.1.size
          have hbl : ∀ g, (Value.slice bva lb.length bvc).ownBlock = some g → g < wt.heap.size := fun g hg => by have := (hB.out.1.lt g hg).2; omega
          obtain ⟨v', w', hr, ho, hg, hfr⟩ := arcs_copy (zb := wr.heap.size) (bs := fun g => (Value.slice bva lb.length bvc).ownBlock = some g) 59 e2 e1 hoa HLL.out e3 hbl
          refine .inl ⟨wanted_noI rfl, oper_append 34 (.tmp 32) (.tmp 33) 59 _ _ _ _ _ _ v' w' e0 e4 hr ⟨_, rfl, ⟨⟨ho, ?_⟩⟩, cop_none (by decide) hg, hI.none hg (by decide)⟩⟩
          cases hv : v'.ownBlock with
          | none => exact .inl hv
          | some g => exact .inr (fun e => hfr g hv (by rw [← hv, e]))
        · intro x wt s hx hI hs hd
          obtain ⟨e0, e1⟩ : OwnA wt wr.heap.size (x.eval (.tmp 34)) l ∧ OffB (x.eval (.tmp 34)) (.slice bva lb.length bvc) := (hd 4 (by decide) 34 rfl).h
          obtain ⟨u, hu⟩ : ∃ u, x.eval (.tmp 34) = u := ⟨_, rfl⟩
          rw [hu] at e0 e1
          obtain ⟨ua, uc, huv⟩ := own_slice e0
          subst huv
          refine .inl ⟨wanted_noI rfl, ?_⟩
          unfold Oper.wp
          simp only [execOp]
          simp only [List.map_toArray, List.map_cons, List.map_nil, hu]
          go_simp
          have hsz := hI.1.size
          refine ⟨_, rfl, ⟨⟨wt.heap.size, _, rfl, heap_new _ rfl, fun e => ?_, e0.kept (World.grownBy_alloc _ _ none) (by simp), e1⟩⟩, cop_none (by decide) (World.grownBy_alloc _ _ none), hI.none (World.grownBy_alloc _ _ none) (by decide)⟩
          have := (hB.out.1.lt _ e).2
          omega
        · intro x wt s hx hI hs hd
          have e0 : x.eval (.tmp 31) = .slice bva lb.length bvc := (hd 1 (by decide) 31 rfl).h
          obtain ⟨g, rv, e1, e2, e3, e4, e5⟩ : ∃ g rv, x.eval (.tmp 35) = .slice (some ⟨g, 0, none⟩) 1 1 ∧ wt.heap[g]? = some (.cells #[rv] 59 (0, 0)) ∧ (Value.slice bva lb.length bvc).ownBlock ≠ some g ∧ OwnA wt wr.heap.size rv l ∧ OffB rv (.slice bva lb.length bvc) := (hd 5 (by decide) 35 rfl).h
          have hsz := hI.1.size
          obtain ⟨v', w', hr, ho, hg⟩ := run_arow 23 (hI.2 hs) e2 e4 (by have := HLBL.out; omega) (by have := HZS.out; omega)
          obtain ⟨va, vc, hv⟩ := own_slice ho
          subst hv
          refine .inl ⟨wanted_noI rfl, oper_append 36 (.tmp 31) (.tmp 35) 23 _ _ _ _ _ _ _ w' e0 e1 hr ⟨_, rfl, ⟨⟨rv, va, vc, rfl, ho, World.ownsRow.kept e4 hg e5⟩⟩, hg, ⟨grown_trans hI.1 hg, fun h => by simp [updS] at h⟩⟩⟩
        · intro x wt s hx hI hs hd
          have e0 : x.eval (.tmp 5) = .pointer (some ⟨H + 1, 0, none⟩) := (hx.eval (s := 5) (by decide)).trans F5.out
          refine .inl ⟨wanted_noI rfl, ?_⟩
          unfold Oper.wp
          simp only [execOp, e0]
          go_simp
          exact ⟨_, rfl, ⟨rfl⟩, cop_none (by decide) (grown_refl _ _), hI.none (grown_refl _ _) (by decide)⟩
      · intro vs rv ad c wq w' g1 ho hr gX hX2 e6
        simp only [List.dropLast, putAll, Nat.reduceAdd]
        rw [HFR.out]
        have HB2 : Hid (SysB (H + 2) w' (.slice ad (lb.length + 1) c) (lb ++ [(rv, l)])) := Lib.hid (hB.out.more g1 ho hr HZS.out gX (by omega))
        have HDJ2 : Hid (DisjR (lb ++ [(rv, l)])) := Lib.hid (hdj.out.more hB.out hr)
        have HL2 : Hid ((lb ++ [(rv, l)]).map Prod.snd = (la.map Prod.snd).take (k + 1)) := Lib.hid (by rw [List.map_append, hlb.out, HTK.out]; rfl)
        have HX2 := Lib.hid hX2
        have HBL := hB.out.1.lt
        have HG2 : Hid (w5.grownBy w' (some (H + 1))) := Lib.hid (grown_then (grown_then hG.out g1 (fun j hj => .inl (by have := (HBL j hj).1; have := HSZ.out; omega))) gX (fun j hj => .inr hj))
        clear g1 ho hr gX hX2 e6 HBL
        go_simp
        go_wp2_with fail
        go_roundw
        case rel => exact ⟨k + 1, _, _, by go_num, by omega, HL2, HX2, HB2, HDJ2, HG2⟩
        case measure => simp [intOf]; omega
    · have h1 : ¬ (k : Int) < (n : Int) := by omega
      have HLB : Hid (lb.map Prod.snd = la.map Prod.snd) := Lib.hid (by
        have := hlb.out
        rwa [List.take_of_length_le (by rw [List.length_map, HN.out]; omega)] at this)
      have hlbn : lb.length = n := by
        have := congrArg List.length HLB.out
        rw [List.length_map, List.length_map, HN.out] at this
        exact this
      have HLBN := Lib.hid hlbn
      obtain ⟨Bb, bc, hbv⟩ := own_first hB.out.1 (by omega)
      rw [hlbn] at hbv
      subst hbv
      have HBT : Hid (wr.ownsRow (H + 2) 59 1 (.slice (some ⟨Bb, 0, none⟩) n bc) n (lb.map Prod.fst)) := Lib.hid (by have := hB.out.1; rwa [hlbn] at this)
      have HSW : Hid (Sd w wr (.pointer (some ⟨d, 0, none⟩)) d) := Lib.hid (HS.out.row hG.out (by rintro j ⟨⟩; have := HDH.out; omega))
      have cb : wr.cell? ⟨H + 1, 0, none⟩ = some (.slice (some ⟨Bb, 0, none⟩) n bc) := by unfold World.cell?; dsimp only; rw [hX.out]; rfl
      clear hlbn hk
      go_wp2_with fail
      clear cb
      refine (dice_pick HSW.out (n : Int) (by omega) (by omega)).mono ?_
      rintro e w8 ⟨yi, rfl, hy0, hy1, hs8, hg8⟩
      obtain ⟨ii, rfl⟩ : ∃ ii : Nat, yi = (ii : Int) := ⟨yi.toNat, by omega⟩
      have HII : Hid (ii < n) := Lib.hid (by omega)
      have HS8 := Lib.hid hs8
      have low8 : ∀ q, (some d : Option Nat) = some q → q < H + 2 := by rintro q ⟨⟩; have := HDH.out; omega
      have HX8 : Hid (w8.heap[H + 1]? = some (.cells #[.slice (some ⟨Bb, 0, none⟩) n bc] 25 (0, 0))) := Lib.hid (by
        rw [hg8.block _ (Array.getElem?_eq_some_iff.1 hX.out).1 (by have := HDH.out; simp; omega)]; exact hX.out)
      have HT8 : Hid (w8.ownsRow (H + 2) 59 1 (.slice (some ⟨Bb, 0, none⟩) n bc) n (lb.map Prod.fst)) := Lib.hid (HBT.out.kept hg8 (own_low HBT.out low8))
      have HR8 : Hid (∀ q ∈ lb, OwnA w8 (H + 2) q.1 q.2) := Lib.hid (fun q hq => World.ownsRow.kept (hB.out.2 q hq) hg8 (own_low (hB.out.2 q hq) low8))
      have HZ8 : Hid (H + 2 ≤ w8.heap.size) := Lib.hid (by have h7 := hG.out.size; have h8 := hg8.size; have := HSZ.out; omega)
      have HIL : Hid (ii < lb.length) := Lib.hid (by rw [HLBN.out]; exact HII.out)
      have hq8 := HR8.out _ (List.getElem_mem HIL.out)
      have hgt : lb[ii]? = some lb[ii] := List.getElem?_eq_getElem HIL.out
      have HAT := Lib.hid hgt
      have HDJ0 : Hid (∀ j q, lb[j]? = some q → j ≠ ii → q.1.ownBlock = none ∨ q.1.ownBlock ≠ lb[ii].1.ownBlock) := Lib.hid (fun j q hj hne => by
        obtain ⟨hjl, rfl⟩ := List.getElem?_eq_some_iff.1 hj
        have hp := List.pairwise_iff_getElem.1 hdj.out
        by_cases hlt2 : j < ii
        · exact hp j ii hjl HIL.out hlt2
        · rcases hp ii j HIL.out hjl (by omega) with h7 | h7
          · cases hv : lb[j].1.ownBlock with
            | none => exact .inl rfl
            | some g => exact .inr (fun e => by have h9 := e.trans h7; cases h9)
          · exact .inr (fun e => h7 e.symm))
      clear hgt hs8 hy0 hy1
      generalize lb[ii] = qr at *
      obtain ⟨rv0, rl⟩ := qr
      dsimp only at hq8 HDJ0
      obtain ⟨rva, rvc, hrv⟩ := own_slice hq8
      subst hrv
      have HRO := Lib.hid hq8
      have HDJ := HDJ0
      have HRV := HAT
      have HRLN : Hid (rl.length ≤ 1000) := Lib.hid (by
        have h7 : rl ∈ lb.map Prod.snd := List.mem_map.2 ⟨_, List.mem_of_getElem? HAT.out, rfl⟩
        rw [HLB.out] at h7
        obtain ⟨q, hq, rfl⟩ := List.mem_map.1 h7
        have := (HDa.out.ok _ hq).1
        omega)
      clear hq8 low8
      go_wp2_with fail
      refine wp_gen ?_
      intro a0' ha0
      have f3 : a0'.eval (.tmp 3) = .pointer (some ⟨d, 0, none⟩) := by rw [ha0]; rfl
      have f5 : a0'.eval (.tmp 5) = .pointer (some ⟨H + 1, 0, none⟩) := by rw [ha0]; rfl
      have f8 : a0'.eval (.tmp 8) = .int .i64 (ii : Int) := by rw [ha0]; rfl
      have fsz : a0'.tmps.size = 114 := by rw [ha0]; rfl
      have F3 := Lib.hid f3; have F5 := Lib.hid f5; have F8 := Lib.hid f8; have HFR := Lib.hid ha0
      clear ha0 f3 f5 f8
      refine wp_pik (w00 := w) (H + 2) (H + 1) Bb ii n d bc (.slice rva rl.length rvc) (.pointer (some ⟨d, 0, none⟩)) lb rl (by rfl) (by rw [fsz]; kernel_rfl) (by kernel_rfl) (by kernel_rfl) (by kernel_rfl) (by kernel_rfl) (by decide) (by rw [fsz]; decide) (by have := HDH.out; omega) HLBN.out HII.out ⟨HS8.out, HX8.out, HT8.out, fun j q hj _ => HR8.out q (List.mem_of_getElem? hj), fun _ => HRO.out, fun _ _ _ => rfl, Nat.le_refl _⟩ ?_ ?_
      · refine ⟨?_, ?_, ?_, ?_, ?_, ?_, ?_, ?_, ?_, ?_, ?_, ?_, ?_, ?_, ?_, ?_, ?_, ?_, ?_, trivial⟩
        · intro x wt s hx hI hs hd
          have e0 : x.eval (.tmp 5) = .pointer (some ⟨H + 1, 0, none⟩) := (hx.eval (s := 5) (by decide)).trans F5.out
          refine .inl ⟨wanted_noI rfl, ?_⟩
          unfold Oper.wp
          simp only [execOp, e0]
          go_simp
          exact ⟨_, rfl, ⟨rfl⟩, pik_none (by decide) (grown_refl _ _), hI.still HZ8.out (grown_refl _ _) (by decide)⟩
        · intro x wt s hx hI hs hd
          have e0 : x.eval (.tmp 44) = .pointer (some ⟨H + 1, 0, none⟩) := (hd 0 (by decide) 44 rfl).h
          have cb : wt.cell? ⟨H + 1, 0, none⟩ = some (.slice (some ⟨Bb, 0, none⟩) n bc) := by unfold World.cell?; dsimp only; rw [hI.x]; rfl
          refine .inl ⟨wanted_noI rfl, ?_⟩
          unfold Oper.wp
          simp only [execOp, e0]
          go_simp
          exact ⟨_, rfl, ⟨rfl⟩, pik_none (by decide) (grown_refl _ _), hI.still HZ8.out (grown_refl _ _) (by decide)⟩
        · intro x wt s hx hI hs hd
          have e0 : x.eval (.tmp 8) = .int .i64 (ii : Int) := (hx.eval (s := 8) (by decide)).trans F8.out
          refine .inl ⟨wanted_noI rfl, ?_⟩
          unfold Oper.wp
          simp only [execOp, e0]
          go_simp
          exact ⟨_, rfl, ⟨rfl⟩, pik_none (by decide) (grown_refl _ _), hI.still HZ8.out (grown_refl _ _) (by decide)⟩
        · intro x wt s hx hI hs hd
          have e0 : x.eval (.tmp 5) = .pointer (some ⟨H + 1, 0, none⟩) := (hx.eval (s := 5) (by decide)).trans F5.out
          refine .inl ⟨wanted_noI rfl, ?_⟩
          unfold Oper.wp
          simp only [execOp, e0]
          go_simp
          exact ⟨_, rfl, ⟨rfl⟩, pik_none (by decide) (grown_refl _ _), hI.still HZ8.out (grown_refl _ _) (by decide)⟩
        · intro x wt s hx hI hs hd
          have e0 : x.eval (.tmp 47) = .pointer (some ⟨H + 1, 0, none⟩) := (hd 3 (by decide) 47 rfl).h
          have cb : wt.cell? ⟨H + 1, 0, none⟩ = some (.slice (some ⟨Bb, 0, none⟩) n bc) := by unfold World.cell?; dsimp only; rw [hI.x]; rfl
          refine .inl ⟨wanted_noI rfl, ?_⟩
          unfold Oper.wp
          simp only [execOp, e0]
          go_simp
          exact ⟨_, rfl, ⟨rfl⟩, pik_none (by decide) (grown_refl _ _), hI.still HZ8.out (grown_refl _ _) (by decide)⟩
        · intro x wt s hx hI hs hd
          have e0 : x.eval (.tmp 8) = .int .i64 (ii : Int) := (hx.eval (s := 8) (by decide)).trans F8.out
          refine .inl ⟨wanted_noI rfl, ?_⟩
          unfold Oper.wp
          simp only [execOp, e0]
          go_simp
          exact ⟨_, rfl, ⟨rfl⟩, pik_none (by decide) (grown_refl _ _), hI.still HZ8.out (grown_refl _ _) (by decide)⟩
        · intro x wt s hx hI hs hd
          have e0 : x.eval (.tmp 48) = .slice (some ⟨Bb, 0, none⟩) n bc := (hd 4 (by decide) 48 rfl).h
          have e1 : x.eval (.tmp 49) = .int .i64 (ii : Int) := (hd 5 (by decide) 49 rfl).h
          have hii1 : (ii : Int) < (n : Int) := by have := HII.out; omega
          refine .inl ⟨wanted_noI rfl, ?_⟩
          unfold Oper.wp
          simp only [execOp, e0, e1]
          go_simp
          exact ⟨_, rfl, ⟨rfl⟩, pik_none (by decide) (grown_refl _ _), hI.still HZ8.out (grown_refl _ _) (by decide)⟩
        · intro x wt s hx hI hs hd
          have e0 : x.eval (.tmp 50) = .pointer (some ⟨Bb, ii, none⟩) := (hd 6 (by decide) 50 rfl).h
          have cr : wt.cell? ⟨Bb, ii, none⟩ = some (.slice rva rl.length rvc) := by
            rw [World.ownsRow.cellAt hI.t ii (by have := HII.out; omega), List.getElem?_map, HRV.out]
            rfl
          refine .inl ⟨wanted_noI rfl, ?_⟩
          unfold Oper.wp
          simp only [execOp, e0]
          go_simp
          exact ⟨_, rfl, ⟨rfl⟩, pik_none (by decide) (grown_refl _ _), hI.still HZ8.out (grown_refl _ _) (by decide)⟩
        · intro x wt s hx hI hs hd
          have e0 : x.eval (.tmp 3) = .pointer (some ⟨d, 0, none⟩) := (hx.eval (s := 3) (by decide)).trans F3.out
          refine .inl ⟨wanted_noI rfl, ?_⟩
          unfold Oper.wp
          simp only [execOp, e0]
          go_simp
          exact ⟨_, rfl, ⟨rfl⟩, pik_none (by decide) (grown_refl _ _), hI.still HZ8.out (grown_refl _ _) (by decide)⟩
        · intro x wt s hx hI hs hd
          have e0 : x.eval (.tmp 52) = .pointer (some ⟨d, 0, none⟩) := (hd 8 (by decide) 52 rfl).h
          refine .inl ⟨wanted_noI rfl, oper_callI 53 19 _ _ _ _ _ _ Try.f19 _ Try.func19 (by kernel_rfl) rfl [.pointer (some ⟨d, 0, none⟩), .int .i64 3] (by simp only [List.map_cons, List.map_nil]; rw [e0]; rfl) _ (dice_pick hI.sd 3 (by decide) (by decide)) (fun e w4 hh => ?_)⟩
          obtain ⟨y, rfl, hy0, hy1, hs2, hg2⟩ := hh
          exact ⟨_, rfl, _, rfl, ⟨⟨y, rfl, hy0, hy1⟩⟩, pik_dice (by decide) hg2, hI.pick HZ8.out (by have := HDH.out; omega) (by have := HDH.out; omega) hs2 hg2 (by decide)⟩
        · intro x wt s hx hI hs hd
          have e0 : x.eval (.tmp 3) = .pointer (some ⟨d, 0, none⟩) := (hx.eval (s := 3) (by decide)).trans F3.out
          refine .inl ⟨wanted_noI rfl, ?_⟩
          unfold Oper.wp
          simp only [execOp, e0]
          go_simp
          exact ⟨_, rfl, ⟨rfl⟩, pik_none (by decide) (grown_refl _ _), hI.still HZ8.out (grown_refl _ _) (by decide)⟩
        · intro x wt s hx hI hs hd
          have e0 : x.eval (.tmp 5) = .pointer (some ⟨H + 1, 0, none⟩) := (hx.eval (s := 5) (by decide)).trans F5.out
          refine .inl ⟨wanted_noI rfl, ?_⟩
          unfold Oper.wp
          simp only [execOp, e0]
          go_simp
          exact ⟨_, rfl, ⟨rfl⟩, pik_none (by decide) (grown_refl _ _), hI.still HZ8.out (grown_refl _ _) (by decide)⟩
        · intro x wt s hx hI hs hd
          have e0 : x.eval (.tmp 55) = .pointer (some ⟨H + 1, 0, none⟩) := (hd 11 (by decide) 55 rfl).h
          have cb : wt.cell? ⟨H + 1, 0, none⟩ = some (.slice (some ⟨Bb, 0, none⟩) n bc) := by unfold World.cell?; dsimp only; rw [hI.x]; rfl
          refine .inl ⟨wanted_noI rfl, ?_⟩
          unfold Oper.wp
          simp only [execOp, e0]
          go_simp
          exact ⟨_, rfl, ⟨rfl⟩, pik_none (by decide) (grown_refl _ _), hI.still HZ8.out (grown_refl _ _) (by decide)⟩
        · intro x wt s hx hI hs hd
          have e0 : x.eval (.tmp 56) = .slice (some ⟨Bb, 0, none⟩) n bc := (hd 12 (by decide) 56 rfl).h
          refine .inl ⟨wanted_noI rfl, ?_⟩
          unfold Oper.wp
          simp only [execOp]
          simp only [resolve, invoke, builtin, List.map_toArray, List.map_cons, List.map_nil, e0]
          go_simp
          exact ⟨_, rfl, ⟨rfl⟩, pik_none (by decide) (grown_refl _ _), hI.still HZ8.out (grown_refl _ _) (by decide)⟩
        · intro x wt s hx hI hs hd
          have e0 : x.eval (.tmp 54) = .pointer (some ⟨d, 0, none⟩) := (hd 10 (by decide) 54 rfl).h
          have e1 : x.eval (.tmp 57) = .int .i64 (n : Int) := (hd 13 (by decide) 57 rfl).h
          refine .inl ⟨wanted_noI rfl, oper_callI 58 19 _ _ _ _ _ _ Try.f19 _ Try.func19 (by kernel_rfl) rfl [.pointer (some ⟨d, 0, none⟩), .int .i64 (n : Int)] (by simp only [List.map_cons, List.map_nil]; rw [e0, e1]) _ (dice_pick hI.sd (n : Int) (by omega) (by omega)) (fun e w4 hh => ?_)⟩
          obtain ⟨y, rfl, hy0, hy1, hs2, hg2⟩ := hh
          exact ⟨_, rfl, _, rfl, ⟨⟨y, rfl, hy0, hy1⟩⟩, pik_dice (by decide) hg2, hI.pick HZ8.out (by have := HDH.out; omega) (by have := HDH.out; omega) hs2 hg2 (by decide)⟩
        · intro x wt s hx hI hs hd
          obtain ⟨y, e0, y0, y1⟩ : ∃ y : Int, x.eval (.tmp 53) = .int .i64 y ∧ 0 ≤ y ∧ y < 3 := (hd 9 (by decide) 53 rfl).h
          obtain ⟨z, e1, z0, z1⟩ : ∃ z : Int, x.eval (.tmp 58) = .int .i64 z ∧ 0 ≤ z ∧ z < (n : Int) := (hd 14 (by decide) 58 rfl).h
          refine .inl ⟨wanted_noI rfl, ?_⟩
          unfold Oper.wp
          simp only [execOp]
          simp only [List.map_toArray, List.map_cons, List.map_nil, e0, e1]
          have HYZ : Hid ((0 ≤ y ∧ y < 3) ∧ 0 ≤ z ∧ z < (n : Int)) := Lib.hid ⟨⟨y0, y1⟩, z0, z1⟩
          clear y0 y1 z0 z1
          go_simp
          exact ⟨_, rfl, ⟨⟨y, z, rfl, HYZ.out⟩⟩, pik_none (by decide) (grown_refl _ _), hI.still HZ8.out (grown_refl _ _) (by decide)⟩
        · intro x wt s hx hI hs hd
          obtain ⟨y, z, e0, hyz⟩ : ∃ y z : Int, x.eval (.tmp 59) = .agg #[.int .i64 y, .int .i64 z] ∧ (0 ≤ y ∧ y < 3) ∧ 0 ≤ z ∧ z < (n : Int) := (hd 15 (by decide) 59 rfl).h
          refine .inl ⟨wanted_noI rfl, ?_⟩
          unfold Oper.wp
          simp only [execOp]
          simp only [List.map_toArray, List.map_cons, List.map_nil, e0]
          have HYZ := Lib.hid hyz
          clear hyz
          go_simp
          have hsz := hI.sz
          refine ⟨_, rfl, ⟨⟨wt.heap.size, y, z, rfl, HYZ.out, heap_new _ rfl, ?_, fun e => ?_⟩⟩, pik_none (by decide) (World.grownBy_alloc _ _ none), hI.still HZ8.out (World.grownBy_alloc _ _ none) (by decide)⟩
          · have := HZ8.out; have := HDH.out; omega
          · have := (HRO.out.fresh _ e).2
            omega
        · intro x wt s hx hI hs hd
          have e0 : x.eval (.tmp 51) = .slice rva rl.length rvc := (hd 7 (by decide) 51 rfl).h
          obtain ⟨g, y, z, e1, hyz, e2, e3, e4⟩ : ∃ (g : Nat) (y z : Int), x.eval (.tmp 60) = .slice (some ⟨g, 0, none⟩) 1 1 ∧ ((0 ≤ y ∧ y < 3) ∧ 0 ≤ z ∧ z < (n : Int)) ∧ wt.heap[g]? = some (.cells #[.int .i64 y, .int .i64 z] 61 (0, 0)) ∧ g ≠ d ∧ (Value.slice rva rl.length rvc).ownBlock ≠ some g := (hd 16 (by decide) 60 rfl).h
          have hrow := hI.row hs
          obtain ⟨v', w', hr, ho, hg⟩ := run_arc1 59 hrow e2 HRLN.out (by have := hI.sz; have := HZ8.out; omega)
          exact .inl ⟨wanted_noI rfl, oper_append 61 (.tmp 51) (.tmp 60) 59 _ _ _ _ _ _ v' w' e0 e1 hr ⟨_, rfl, ⟨⟨y, z, hyz, ho⟩⟩, hg, hI.app HZ8.out (by omega) (by have := HDH.out; omega) hrow HDJ.out hg⟩⟩
        · intro x wt s hx hI hs hd
          have e0 : x.eval (.tmp 45) = .slice (some ⟨Bb, 0, none⟩) n bc := (hd 1 (by decide) 45 rfl).h
          have e1 : x.eval (.tmp 46) = .int .i64 (ii : Int) := (hd 2 (by decide) 46 rfl).h
          have hii1 : (ii : Int) < (n : Int) := by have := HII.out; omega
          refine .inl ⟨wanted_noI rfl, ?_⟩
          unfold Oper.wp
          simp only [execOp, e0, e1]
          go_simp
          exact ⟨_, rfl, ⟨rfl⟩, pik_none (by decide) (grown_refl _ _), hI.still HZ8.out (grown_refl _ _) (by decide)⟩
      · intro vs vv y z s w9 hyz hsb hs9 hx9 hold
        simp only [List.dropLast, putAll, Nat.reduceAdd]
        rw [HFR.out]
        obtain ⟨l2, hl2⟩ : ∃ l2, lb.set ii (vv, rl ++ [(y, z)]) = l2 := ⟨_, rfl⟩
        have HRLA : Hid ((lb.map Prod.snd)[ii]? = some rl) := Lib.hid (by rw [List.getElem?_map, HRV.out]; rfl)
        have HL2 : Hid (l2.map Prod.snd = (la.map Prod.snd).set ii (rl ++ [(y, z)])) := Lib.hid (by rw [← hl2, List.map_set, HLB.out])
        have HSUB : Hid (∀ x p, p ∈ arcsOf (la.map Prod.snd) x → p ∈ arcsOf (l2.map Prod.snd) x) := Lib.hid (by
          rw [HL2.out]
          exact sub_set (by rw [← HLB.out]; exact HRLA.out))
        have HOKA : Hid (RowsOk n la) := Lib.hid (by have := HDa.out.ok; rwa [HN.out] at this)
        have HG2 : Hid (goodS l2 = true) := Lib.hid (by rw [← hl2]; exact good_more HN.out HOKA.out hn1 hn6 HLB.out HRLA.out hyz)
        have HLN2 : Hid (l2.length = n) := Lib.hid (by rw [← hl2, List.length_set]; exact HLBN.out)
        rw [hl2] at hsb
        have HSB := Lib.hid hsb
        have HS9 := Lib.hid hs9
        have hk9 : ∀ q, q < H + 2 → q ≠ d → q ≠ H + 1 → w9.heap[q]? = w5.heap[q]? := fun q h7 h8 h9 => by
          have hs5 := HSZ.out; have hsr := hG.out.size
          rw [hold q h7 h8, hg8.block q (by omega) (by simpa using h8), hG.out.block q (by omega) (by simpa using h9)]
        have HA9 : Hid (SysD d w9 (.slice aa n ca) la) := Lib.hid ⟨HDa.out.b.old (Nat.lt_succ_self d) HSZ.out HCb.out hk9, HDa.out.one, HDa.out.six, HDa.out.ok⟩
        have HCA9 : Hid (w9.cell? ⟨H, 0, none⟩ = some (.slice aa n ca)) := Lib.hid (by
          unfold World.cell?
          dsimp only
          rw [hk9 H (by omega) (by have := HDH.out; omega) (by omega), HCa.out]
          rfl)
        have HCB9 : Hid (w9.cell? ⟨H + 1, 0, none⟩ = some (.slice (some ⟨Bb, 0, none⟩) n bc)) := Lib.hid (by unfold World.cell?; dsimp only; rw [hx9]; rfl)
        have HSG2 : Hid (SysG w9 (.agg #[.slice (some ⟨Bb, 0, none⟩) n bc]) l2) := Lib.hid ⟨⟨_, rfl, hsb.sys⟩, HG2.out⟩
        have ca0 := HCA9.out
        clear hsb hs9 hx9 hold hk9 hl2 hyz hg8 HOKA
        go_simp
        go_wp2_with fail
        clear ca0
        go_loopw [66, 9] (fun i v wk => ∃ (x : Nat) (ts : List BolP), i = .int .i64 x ∧ x ≤ n ∧ Hid (ts.map Prod.snd = idTab n x) ∧ Hid (OwnT wk w9.heap.size v ts) ∧ Hid (w9.grownBy wk none)) (fun i _ _ => n - (intOf i).toNat)
        case atStart => exact ⟨0, [], rfl, Nat.zero_le _, Lib.hid rfl, Lib.hid (OwnT.nil _ _), Lib.hid (grown_refl _ _)⟩
        case round =>
          rename World => wk
          obtain ⟨x, ts, rfl, hx, htl, HT, HGK⟩ := hrel
          by_cases hlx : x < n
          · have hxi : (x : Int) < (n : Int) := by omega
            have HTL : Hid (ts.length ≤ 1000000) := Lib.hid (by
              have h7 := congrArg List.length htl.out
              rw [List.length_map] at h7
              have h8 : (idTab n x).length = x := by simp [idTab]
              omega)
            have cb0 := HGK.out.cell HCB9.out (by simp)
            have HXN := Lib.hid hlx
            obtain ⟨va, vc, hvv⟩ := own_slice HT.out.t
            subst hvv
            go_wp2_with (first | (at_make; refine make_boolZ rfl _ _ rfl n rfl rfl (by omega) ?_; intro W k2 g2; have hcz := OwnB.cellZ k2 HXN.out; obtain ⟨cw, fw⟩ := hcz; have HOW := Lib.hid (k2.put (List.length_replicate ..) true (x := x)); have HTS := Lib.hid ((HT.out.lo g2 (by simp)).hi (grown_set W ⟨wk.heap.size, x, none⟩ (.bool true)) wk.heap.size HT.out.below (by rintro q ⟨⟩; exact Nat.le_refl _)); have HGW := Lib.hid (grown_then (grown_trans HGK.out g2) (grown_set W ⟨wk.heap.size, x, none⟩ (.bool true)) (by rintro q ⟨⟩; exact .inl HGK.out.size)); clear k2 g2) | (at_builtin; clear cw fw; refine app_brow rfl _ _ rfl w9.heap.size _ ts.length (ts.map Prod.fst) rfl (HTS.out.lo (World.grownBy_alloc _ _ none) (by simp)).t _ [.slice (some ⟨wk.heap.size, 0, none⟩) n n] rfl (by simp [Value.oneCell']) rfl (heap_new _ (by simp)) HTL.out (Nat.le_trans HGW.out.size (World.grownBy_alloc _ _ none).size) ?_; intro a7 c7 w7' hown7 hg7; have HO7 := Lib.hid hown7; have HG7 := Lib.hid hg7; clear hown7 hg7))
            clear cb0
            have HT7 := Lib.hid (HTS.out.more HOW.out HGK.out.size (World.grownBy_alloc _ _ none) HG7.out HO7.out)
            have HVB := HTS.out.t.lt
            have HG8 : Hid (w9.grownBy w7' none) := Lib.hid (grown_then (grown_trans HGW.out (World.grownBy_alloc _ _ none)) HG7.out (fun k hk => .inl (HVB k hk).1))
            have HTL8 : Hid ((ts ++ [(Value.slice (some ⟨wk.heap.size, 0, none⟩) n n, (List.replicate n false).set x true)]).map Prod.snd = idTab n (x + 1)) := Lib.hid (by rw [List.map_append, htl.out, idTab_more]; rfl)
            have HTLN : Hid ((ts ++ [(Value.slice (some ⟨wk.heap.size, 0, none⟩) n n, (List.replicate n false).set x true)]).length = ts.length + 1) := Lib.hid (by rw [List.length_append]; rfl)
            clear HVB
            go_wp2_with fail
            go_roundw
            case rel => exact ⟨x + 1, _, by go_num, by omega, HTL8, HT7, HG8⟩
            case measure => simp [intOf]; omega
          · have hxi : ¬ (x : Int) < (n : Int) := by omega
            have hxn : x = n := by omega
            have HTN : Hid (ts.length = n) := Lib.hid (by
              have h7 := congrArg List.length htl.out
              rw [List.length_map] at h7
              have h8 : (idTab n x).length = x := by simp [idTab]
              omega)
            have HID : Hid (ts.map Prod.snd = idTab n n) := Lib.hid (by rw [htl.out, hxn])
            have HTM : Hid (∀ q ∈ ts, q.2.length ≤ 1000000) := Lib.hid (fun q hq => by
              have h7 : q.2 ∈ ts.map Prod.snd := List.mem_map.2 ⟨_, hq, rfl⟩
              rw [HID.out] at h7
              obtain ⟨z, -, h8⟩ := List.mem_map.1 h7
              rw [← h8, idRow_len]
              omega)
            obtain ⟨ta, tc, htv⟩ := own_slice HT.out.t
            subst htv
            have HREL : Hid (RelR wk (.slice ta ts.length tc) ts) := Lib.hid (HT.out.rel (by rw [HTN.out]; omega) HTM.out)
            have HDa2 : Hid (SysD d wk (.slice aa n ca) la) := Lib.hid (HA9.out.step HGK.out)
            have HCa2 : Hid (wk.cell? ⟨H, 0, none⟩ = some (.slice aa n ca)) := Lib.hid (HGK.out.cell HCA9.out (by simp))
            have HCb2 : Hid (wk.cell? ⟨H + 1, 0, none⟩ = some (.slice (some ⟨Bb, 0, none⟩) n bc)) := Lib.hid (HGK.out.cell HCB9.out (by simp))
            have HDb2 : Hid (SysG wk (.agg #[.slice (some ⟨Bb, 0, none⟩) n bc]) l2) := Lib.hid (HSG2.out.same HGK.out)
            have HS2 : Hid (Sd w wk (.pointer (some ⟨d, 0, none⟩)) d) := Lib.hid (HS9.out.step HGK.out)
            clear hx hlx hxn HT htl HDa HCa HCb HS HSG2 HS9 HCA9 HCB9 HA9
            have ca0 := HCa2.out
            have cb0 := HCb2.out
            go_wp2_with fail
            clear ca0 cb0
            refine (simulates_any _ _ la l2 _ HDa2.out.sys HDb2.out).mono ?_
            rintro e w10 ⟨rfl, hg⟩
            replace HCa2 := Lib.hid (hg.cell HCa2.out (by simp)); replace HCb2 := Lib.hid (hg.cell HCb2.out (by simp)); replace HDa2 := Lib.hid (HDa2.out.step hg); replace HDb2 := Lib.hid (HDb2.out.same hg); replace HS2 := Lib.hid (HS2.out.step hg); replace HREL := Lib.hid (HREL.out.same hg)
            rw [show grB (la.map Prod.snd) (l2.map Prod.snd) = true from grB_iff.2 (gr_id HSUB.out)]
            clear hg
            have ca0 := HCa2.out
            have cb0 := HCb2.out
            go_wp2_with fail
            clear ca0 cb0
            refine (trace_any _ _ la l2 5 _ HDa2.out.sys HDb2.out (by omega) HDa2.out.six (by rw [HLN2.out]; omega) (rows_intB HDa2.out.ok)).mono ?_
            rintro e w11 ⟨tv, L, ok, rfl, hI, hT, hg⟩
            replace HCa2 := Lib.hid (hg.cell HCa2.out (by simp)); replace HCb2 := Lib.hid (hg.cell HCb2.out (by simp)); replace HDa2 := Lib.hid (HDa2.out.step hg); replace HDb2 := Lib.hid (HDb2.out.same hg); replace HS2 := Lib.hid (HS2.out.step hg); replace HREL := Lib.hid (HREL.out.same hg)
            obtain rfl : ok = false := tr_none hT (fun u => gr_acc HDa2.out.vs (good_parts HDb2.out.2).2.2.1 (by rw [List.length_map]; exact HDa2.out.one) (by rw [List.length_map, HLN2.out]; omega) (gr_id HSUB.out))
            obtain ⟨ta2, tc2, rfl, -, -⟩ := hI
            clear hT hg
            have ca0 := HCa2.out
            have cb0 := HCb2.out
            go_wp2_with fail
            clear ca0 cb0
            refine (holds_any _ _ _ la l2 ts _ HDa2.out.sys HDb2.out HREL.out).mono ?_
            rintro e w12 ⟨⟨x2, rfl, hh2⟩, hg⟩
            replace HS2 := Lib.hid (HS2.out.step hg)
            have hx2 : x2 = 0 := by
              rw [HID.out] at hh2
              exact hold_id (n := n) (by rw [List.length_map]; exact HN.out) (by rw [List.length_map]; exact HLN2.out) hn1 HDa2.out.vs HSUB.out hh2
            subst hx2
            clear hg hh2
            go_wp2_with fail
            go_ret
            exact ⟨rfl, HS2.out.below⟩

/-! ### SimulateMore: the statement, from its walk -/
set_option maxRecDepth 100000 in
theorem liftedSimulateMore (os : Os) (started : os.Started) (H : Type) (enc : TypeId × Value → H) :
    ReturnsInHanded {} Try.checked os 8 .any (Rows.simulateMoreSpec.pre6 enc Try.prog Try.f8 Rows.simulateMoreRow.domain false) (Rows.simulateMoreSpec.post enc Try.prog Try.f8 false true false false) := by
  refine returnsInHanded_of_change (C := Try.checked) own started (by kernel_rfl) Try.func8
    (ChangeSpec.witness6 (enc := enc) (C := Try.checked) false ⟨#[], #[.slice none 0 0], []⟩ 8 (by kernel_rfl) (by kernel_rfl) (by kernel_rfl) (by kernel_rfl)) ?_
  intro W base args ds gs before hval0 hW hcnd _
  have hval : ∀ (j : Nat) t v, Try.f8.params[j]? = some t → args[j]? = some v → Value.okWide Try.prog W .any base t v := hval0
  have hW' := hW
  obtain ⟨p, q, hA0, hV, rfl, hfz, hnd⟩ := hW
  have hA : DataW.TrodAll enc Try.prog W 0 (fun _ => true) true Try.f8.params.toList args.toList ds p := hA0
  rw [Try.params8] at hA hval
  obtain ⟨v0, vs0, d0, ds0, p0, q0, hargs, rfl, rfl, h0, r0⟩ := trodAll_cons hA
  obtain ⟨rfl, rfl, rfl⟩ := trodAll_nil r0
  obtain rfl : args = #[v0] := by cases args; simp_all
  obtain ⟨rfl, rfl⟩ := trodVars_none hV
  obtain ⟨a0, len0, cap0, rfl⟩ := okWide_slice Try.underlying22 (hval 0 22 v0 rfl rfl)
  have k0 := h0
  have lt0 : ∀ x ∈ p0, x.block < W.heap.size := by obtain ⟨m, hm⟩ := k0; exact DataW.trod_lt m _ _ _ hm
  obtain ⟨z0, w0⟩ : ∃ zs, IsRow .u8 W a0 len0 cap0 zs := by
    obtain ⟨fuel, hf⟩ := h0
    rcases open_ints Try.underlying22 Try.underlying5 (by kernel_rfl) hf with ⟨hcs, _⟩ | ⟨x, l, c, zs, hcs, _, hl, hm, hz, _, hcell, hwz⟩
    · simp [Value.cells] at hcs
      obtain ⟨rfl, rfl, rfl⟩ := hcs
      exact ⟨[], .inl ⟨rfl, rfl, rfl, rfl⟩⟩
    · simp [Value.cells] at hcs
      obtain ⟨rfl, rfl, rfl⟩ := hcs
      exact ⟨zs, .inr ⟨_, rfl, hl, hm, by simpa using hz, hcell, hwz⟩⟩
  clear hA0 hval0
  refine (walkSimulateMore a0 len0 cap0 z0 W w0).mono fun e W' ⟨he, bel⟩ => ?_
  subst he
  exact ⟨_, rfl, _, _, _, [], _, [], hW', trodAll_mk1 (shut_bool Try.underlying4 _), (trodAll_cons_mk (Below.trod laidOut (by kernel_rfl) (of_decide_eq_true (by kernel_rfl)) k0 bel lt0) trodAll_mk0), rfl, bel.frame _, fun h => by cases h⟩

theorem simulateMore_holds : Rows.SimulateMoreSaid :=
  OpenClaim.holds_of_wide 8 Try.f8 rfl rfl rfl rfl rfl rfl rfl ⟨rfl, rfl, rfl, rfl, rfl⟩ rfl rfl rfl rfl rfl (by kernel_rfl) Try.func8 (by kernel_rfl)
    (of_decide_eq_true (by kernel_rfl)) (by unfold Func.isWrapper; first | (rw [if_pos (by decide +kernel)]; kernel_rfl) | (rw [if_neg (by decide +kernel)]; exact ⟨rfl, rfl⟩))
    (fun os started H enc _ => liftedSimulateMore os started H enc)
#print axioms simulateMore_holds
end Go.Proofs.Ytelpkcndbcfaiaa
