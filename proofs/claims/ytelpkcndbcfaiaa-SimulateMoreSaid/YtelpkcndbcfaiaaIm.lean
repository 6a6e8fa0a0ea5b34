/- Greatest at valid systems. -/
import Derived.Test.YtelpkcndbcfaiaaIl
import Derived.Test.YtelpkcndbcfaiaaIk
import Derived.Deep.LoopGhost
namespace Go.Proofs.Ytelpkcndbcfaiaa
open Go.RowKit
set_option linter.unusedVariables false
theorem goodF_all {n : Nat} : ∀ {ls : List ArcP} {c : Nat}, goodF n c ls = true → ∀ q ∈ ls, q.2.length ≤ 256 ∧ ∀ p ∈ q.2, 0 ≤ p.2 ∧ p.2 < (n : Int)
  | [], _, _, q, hq => by simp at hq
  | l :: ls, c, h, q, hq => by
    simp only [goodF, Bool.and_eq_true, decide_eq_true_eq, Bool.not_eq_true', List.any_eq_false] at h
    rcases List.mem_cons.1 hq with rfl | hq
    · refine ⟨by omega, fun p hp => ?_⟩
      have := h.2.1 p hp
      unfold outB at this
      simp at this
      exact this
    · exact goodF_all h.2.2 q hq
theorem good_parts {ls : List ArcP} (h : goodS ls = true) : 1 ≤ ls.length ∧ ls.length ≤ 128 ∧ VS (ls.map Prod.snd) ∧ ∀ q ∈ ls, q.2.length ≤ 256 := by
  simp only [goodS, Bool.and_eq_true, decide_eq_true_eq] at h
  have := goodF_all h.2.2
  refine ⟨h.1, h.2.1, fun l hl p hp => ?_, fun q hq => (this q hq).1⟩
  obtain ⟨q, hq, rfl⟩ := List.mem_map.1 hl
  rw [List.length_map]
  exact (this q hq).2 p hp
/-- A valid system. -/
def SysG (w : World) (v : Value) (ls : List ArcP) : Prop := SysW w v ls ∧ goodS ls = true
theorem SysG.same {w w' : World} {v : Value} {ls : List ArcP} (h : SysG w v ls) (g : w.grownBy w' none) : SysG w' v ls := ⟨h.1.same g, h.2⟩
theorem BoxR.slot {w : World} {R n m : Nat} {bs : List Nat} {rs : Rel} (h : BoxR w R n m bs rs) {k : Nat} (hk : k < n) : (∃ v, w.cell? ⟨R, k, none⟩ = some v) ∧ w.frozen? ⟨R, k, none⟩ = false := by
  obtain ⟨cur, c1, c2, c3⟩ := h.head
  refine ⟨⟨cur[k], ?_⟩, ?_⟩
  · unfold World.cell?
    dsimp only
    rw [c2]
    simp [c1, hk]
  · unfold World.frozen?
    dsimp only
    rw [c2]
    simp
theorem map_rep (m : Nat) : (List.replicate m true).map Value.bool = List.replicate m (.bool true) := by simp
theorem below_none {w w' : World} (h : Below w.heap.size w w') : w.grownBy w' none := ⟨h.os, h.tape, h.output, h.size, fun k hk _ => h.block k hk⟩
set_option maxRecDepth 100000 in
set_option maxHeartbeats 4000000 in
theorem greatest_any (va vb : Value) (sa sb : List ArcP) (w : World) (ha : SysG w va sa) (hb : SysG w vb sb) :
    Calls Try.prog 22 #[va, vb] w (GreatR w (sa.map Prod.snd) (sb.map Prod.snd)) := by
  obtain ⟨⟨xa, rfl, hA⟩, hga⟩ := ha
  obtain ⟨⟨xb, rfl, hB⟩, hgb⟩ := hb
  have HA := Lib.hid hA; have HB := Lib.hid hB
  obtain ⟨hn1, hn2, hva, hla⟩ := good_parts hga
  obtain ⟨hm1, hm2, hvb, hlb⟩ := good_parts hgb
  have HCA := Lib.hid (chk_yes hga); have HCB := Lib.hid (chk_yes hgb)
  have HVA := Lib.hid hva; have HVB := Lib.hid hvb
  have HLA : Hid (∀ q ∈ sa, q.2.length ≤ 1000000000) := Lib.hid (fun q hq => by have := hla q hq; omega)
  have HLB : Hid (∀ q ∈ sb, q.2.length ≤ 1000000000) := Lib.hid (fun q hq => by have := hlb q hq; omega)
  obtain ⟨a, c, rfl, -⟩ := hA
  obtain ⟨b, k, rfl, -⟩ := hB
  obtain ⟨n, hn⟩ : ∃ n, sa.length = n := ⟨_, rfl⟩
  obtain ⟨m, hm⟩ : ∃ m, sb.length = m := ⟨_, rfl⟩
  rw [hn] at hn1 hn2 HA ⊢
  rw [hm] at hm1 hm2 HB ⊢
  have HN := Lib.hid hn; have HM := Lib.hid hm
  clear hn hm hga hgb hva hvb hla hlb
  go_enter Try.func22, Try.ntmps22
  go_wp2_with fail
  obtain ⟨H, hH⟩ : ∃ H, w.heap.size = H := ⟨_, rfl⟩
  rw [hH]
  obtain ⟨w2, hw2⟩ : ∃ w2, w2 = (w.alloc (.cells #[.slice a n c] 25)).alloc (.cells #[.slice b m k] 25) := ⟨_, rfl⟩
  have hg2 : w.grownBy w2 none := by rw [hw2]; exact grown_aft2 (World.grownBy_alloc _ _ _)
  have k0 : w2.cell? ⟨H, 0, none⟩ = some (.slice a n c) := by
    rw [hw2]
    refine (World.grownBy_alloc _ _ none).cell ?_ (by simp)
    rw [World.cell?, heap_new _ hH.symm]; rfl
  have k1 : w2.cell? ⟨H + 1, 0, none⟩ = some (.slice b m k) := by
    rw [hw2, World.cell?, heap_new _ (by show _ = (w.heap.push _).size; simp [hH])]; rfl
  rw [← hw2]
  have HSZ : Hid (w.heap.size = H) := Lib.hid hH
  have K0 := Lib.hid k0; have K1 := Lib.hid k1; have HG2 := Lib.hid hg2
  clear hw2 k0 k1 hg2 hH
  refine wp_told (FrontV (.agg #[.slice a n c]) (.agg #[.slice b m k]) (chkI sa) (chkI sb)) (by kernel_rfl) (by kernel_rfl) FrontV.mono ?_ ?_
  · refine ⟨?_, ?_, ?_, ?_, ?_, ?_, ?_, trivial⟩
    · intro x w3 hx hg hd
      have e0 : x.eval (.tmp 2) = .pointer (some ⟨H, 0, none⟩) := (hx.eval (s := 2) (by decide)).trans rfl
      have c0 := hg.cell K0.out (by simp)
      refine .inl ⟨wanted_noI rfl, ?_⟩
      unfold Oper.wp
      simp only [execOp, e0]
      go_simp
      exact ⟨_, rfl, rfl, grown_refl _ _⟩
    · intro x w3 hx hg hd
      have e0 : x.eval (.tmp 12) = .agg #[.slice a n c] := hd 0 (by decide) 12 rfl
      exact .inl ⟨wanted_noI rfl, oper_callI 13 17 _ _ _ _ _ _ Try.f17 _ Try.func17 (by kernel_rfl) rfl [.agg #[.slice a n c]] (by simp only [List.map_cons, List.map_nil]; rw [e0]) _ (Check_any _ sa _ ⟨_, rfl, HA.out.same (grown_trans HG2.out hg)⟩ HLA.out) (fun e w4 hh => ⟨_, hh.1, _, rfl, rfl, hh.2⟩)⟩
    · intro x w3 hx hg hd
      have e0 : x.eval (.tmp 3) = .pointer (some ⟨H + 1, 0, none⟩) := (hx.eval (s := 3) (by decide)).trans rfl
      have c0 := hg.cell K1.out (by simp)
      refine .inl ⟨wanted_noI rfl, ?_⟩
      unfold Oper.wp
      simp only [execOp, e0]
      go_simp
      exact ⟨_, rfl, rfl, grown_refl _ _⟩
    · intro x w3 hx hg hd
      have e0 : x.eval (.tmp 14) = .agg #[.slice b m k] := hd 2 (by decide) 14 rfl
      exact .inl ⟨wanted_noI rfl, oper_callI 15 17 _ _ _ _ _ _ Try.f17 _ Try.func17 (by kernel_rfl) rfl [.agg #[.slice b m k]] (by simp only [List.map_cons, List.map_nil]; rw [e0]) _ (Check_any _ sb _ ⟨_, rfl, HB.out.same (grown_trans HG2.out hg)⟩ HLB.out) (fun e w4 hh => ⟨_, hh.1, _, rfl, rfl, hh.2⟩)⟩
    · intro x w3 hx hg hd
      have e0 : x.eval (.tmp 13) = .int .i64 (chkI sa) := hd 1 (by decide) 13 rfl
      have e1 : x.eval (.tmp 15) = .int .i64 (chkI sb) := hd 3 (by decide) 15 rfl
      refine .inl ⟨wanted_noI rfl, ?_⟩
      unfold Oper.wp
      simp only [execOp]
      simp only [List.map_toArray, List.map_cons, List.map_nil, e0, e1]
      go_simp
      exact ⟨_, rfl, ⟨w3.heap.size, rfl, by rw [World.cell?, heap_new _ rfl]; rfl, by rw [World.cell?, heap_new _ rfl]; rfl⟩, World.grownBy_alloc _ _ none⟩
    · intro x w3 hx hg hd
      obtain ⟨G, e0, c0, c1⟩ := hd 4 (by decide) 16 rfl
      exact .inl ⟨wanted_noI rfl, oper_callI 17 43 _ _ _ _ _ _ Try.f43 _ Try.func43 (by kernel_rfl) rfl [.slice (some ⟨G, 0, none⟩) 2 2] (by simp only [List.map_cons, List.map_nil]; rw [e0]) _ (or_any (chkI sa) (chkI sb) G w3 c0 c1) (fun e w4 hh => ⟨_, hh.1, _, rfl, rfl, hh.2 ▸ grown_refl _ _⟩)⟩
    · intro x w3 hx hg hd
      have e0 : x.eval (.tmp 17) = .int .i64 (orE (chkI sa) (chkI sb)) := hd 5 (by decide) 17 rfl
      refine .inl ⟨wanted_noI rfl, ?_⟩
      unfold Oper.wp
      simp only [execOp, e0]
      go_simp
      exact ⟨_, rfl, rfl, grown_refl _ _⟩
  intro vs w3 g2 hv
  have c0 := g2.cell K0.out (by simp)
  have c1 := g2.cell K1.out (by simp)
  have GG := Lib.hid (grown_trans HG2.out g2)
  have K0' : Hid (w3.cell? ⟨H, 0, none⟩ = some (.slice a n c)) := Lib.hid c0
  have K1' : Hid (w3.cell? ⟨H + 1, 0, none⟩ = some (.slice b m k)) := Lib.hid c1
  clear K0 K1 HG2
  have e6 : vs 6 = .int .i64 0 := (hv 6 6 rfl).trans (by rw [HCA.out, HCB.out]; rfl)
  simp only [putAll, Nat.reduceAdd, e6]
  clear hv e6 g2
  obtain ⟨R, hR⟩ : ∃ R, w3.heap.size = R := ⟨_, rfl⟩
  have HR : Hid (w.heap.size ≤ R) := Lib.hid (hR ▸ GG.out.size)
  go_wp2_with (at_make; refine make_relR rfl _ _ rfl n rfl rfl (by omega) ?_; intro W4 k4 g4; have K4 := Lib.hid k4; have G4 := Lib.hid g4; clear k4 g4)
  have HRW : Hid (w3.heap.size ≤ R) := Lib.hid (Nat.le_of_eq hR)
  have HX0 : Hid (BoxR W4 R n m [] []) := Lib.hid (hR ▸ BoxR.nil K4.out)
  try rw [hR]
  clear K4 hR c0 c1
  go_loopw [27] (fun i wr => ∃ (q : Nat) (bs : List Nat), i = .int .i64 q ∧ q ≤ n ∧ Hid (BoxR wr R n m bs (List.replicate q (List.replicate m true))) ∧ Hid (w3.grownBy wr none)) (fun i _ => n - (intOf i).toNat)
  case atStart => exact ⟨0, [], rfl, Nat.zero_le _, HX0, G4⟩
  case round =>
    obtain ⟨q, bs, rfl, hq, hx, hg⟩ := hrel
    clear HX0 G4
    by_cases hlt : q < n
    · have h1 : (q : Int) < (n : Int) := by omega
      obtain ⟨wa, hwa⟩ : ∃ wa, wa = wr.alloc (.cells #[.bool true] 4) := ⟨_, rfl⟩
      have hga : wr.grownBy wa none := by rw [hwa]; exact World.grownBy_alloc _ _ _
      have cb : wa.cell? ⟨H + 1, 0, none⟩ = some (.slice b m k) := (grown_trans hg.out hga).cell K1'.out (by simp)
      have HT : Hid (wa.cell? ⟨wr.heap.size, 0, none⟩ = some (.bool true)) := Lib.hid (by rw [hwa, World.cell?, heap_new _ rfl]; rfl)
      have HWA := Lib.hid hwa
      have HGA := Lib.hid hga
      have hmi : ¬ (m : Int) < 0 := by omega
      rw [hwa] at cb
      clear hwa hga
      go_wp2_with fail
      rw [← HWA.out]
      clear cb
      refine (repeat_any m hm1 (by omega) wr.heap.size wa HT.out).mono ?_
      rintro e w5 ⟨rfl, hb5, hbl⟩
      have G5 := Lib.hid (grown_trans HGA.out (below_none hbl))
      have HB5 := Lib.hid hb5
      have HSA : Hid (wr.heap.size ≤ wa.heap.size) := Lib.hid HGA.out.size
      clear hb5 hbl
      obtain ⟨⟨v0, cs⟩, fs⟩ := (hx.out.same G5.out).slot hlt
      have HX5 : Hid (BoxR (w5.setCell ⟨R, q, none⟩ (.slice (some ⟨wa.heap.size, 0, none⟩) m m)) R n m (bs ++ [wa.heap.size]) (List.replicate (q + 1) (List.replicate m true))) := Lib.hid (by
        have := hx.out.more G5.out HSA.out (List.replicate m true) (by simp) (by rw [map_rep]; exact HB5.out) (by rw [List.length_replicate]; exact hlt)
        rw [List.length_replicate] at this
        rw [List.replicate_succ']
        exact this)
      have G6 : Hid (w3.grownBy (w5.setCell ⟨R, q, none⟩ (.slice (some ⟨wa.heap.size, 0, none⟩) m m)) none) := Lib.hid (grown_then (grown_trans hg.out G5.out) (grown_set _ _ _) (by rintro j ⟨⟩; exact .inl HRW.out))
      go_wp2_with fail
      go_roundw
      case rel => exact ⟨q + 1, _, by go_num, by omega, HX5, G6⟩
      case measure => simp [intOf]; omega
    · have h1 : ¬ (q : Int) < (n : Int) := by omega
      obtain rfl : q = n := by omega
      clear hlt hq
      have HO : Hid (Over (sa.map Prod.snd) (sb.map Prod.snd) (List.replicate q (List.replicate m true))) := Lib.hid (by
        have := over_start (sa.map Prod.snd) (sb.map Prod.snd)
        rw [List.length_map, List.length_map, HN.out, HM.out] at this
        exact this)
      obtain ⟨rs0, hrs0⟩ : ∃ rs0, rs0 = List.replicate q (List.replicate m true) := ⟨_, rfl⟩
      rw [← hrs0] at hx HO
      have HL0 : Hid (rs0.length = q) := Lib.hid (by rw [hrs0]; simp)
      clear hrs0
      go_wp2_with fail
      go_loopg [9] (cntT rs0 + 1) (fun gk s9 wr => ∃ (cc : Bool) (rs : Rel), s9 = .bool cc ∧ Hid (rs.length = q) ∧ Hid (BoxR wr R q m bs rs) ∧ Hid (Over (sa.map Prod.snd) (sb.map Prod.snd) rs) ∧ Hid (w3.grownBy wr none) ∧ Hid (cntT rs + (if cc = true then 1 else 0) ≤ gk) ∧ Hid (cc = false → ∀ x y, x < q → y < m → (atB rs x y = true ↔ Gr (sa.map Prod.snd) (sb.map Prod.snd) x y)))
      case atStart => exact ⟨true, rs0, rfl, HL0, hx, HO, hg, Lib.hid (by simp), Lib.hid (fun h => by cases h)⟩
      case round =>
        clear hx HO hg HL0
        obtain ⟨cc, rs, rfl, hl, hx, ho, hg, hgk, hdn⟩ := hrel
        cases cc with
        | false =>
          have HGT : Hid (GrT (sa.map Prod.snd) (sb.map Prod.snd) rs) := Lib.hid (by
            have hr := hx.out.row
            have hd := hdn.out rfl
            unfold GrT
            rw [List.length_map, List.length_map, HN.out, HM.out]
            exact ⟨hl.out, hr, hd⟩)
          have HLN : Hid ((sa.map Prod.snd).length = q) := Lib.hid (by rw [List.length_map, HN.out])
          have HLM : Hid ((sb.map Prod.snd).length = m) := Lib.hid (by rw [List.length_map, HM.out])
          go_wp2_with fail
          ((try simp only [Exit.inBlock, Exit.then]); refine bodyPost_ret (results_tmp2 rfl _ _ _) rfl ?_)
          exact ⟨R, bs, rs, by rw [HLN.out]; rfl, HR.out, by rw [HLN.out, HLM.out]; exact hx.out, HGT.out, grown_trans GG.out hg.out⟩
        | true =>
          have c0 := hg.out.cell K0'.out (by simp)
          have HPS := Lib.hid (PassB.start (sa.map Prod.snd) (sb.map Prod.snd) m rs)
          go_wp2_with fail
          clear c0
          go_loopw [43, 9] (fun i s9 wr => ∃ (x : Nat) (cc : Bool) (r1 : Rel), i = .int .i64 x ∧ s9 = .bool cc ∧ x ≤ q ∧ Hid (r1.length = q) ∧ Hid (BoxR wr R q m bs r1) ∧ Hid (Over (sa.map Prod.snd) (sb.map Prod.snd) r1) ∧ Hid (w3.grownBy wr none) ∧ Hid (PassB (sa.map Prod.snd) (sb.map Prod.snd) m rs cc r1 x 0)) (fun i _ _ => q - (intOf i).toNat)
          case atStart => exact ⟨0, false, rs, rfl, rfl, Nat.zero_le _, hl, hx, ho, hg, HPS⟩
          case round =>
            rename World => wk
            clear hl hx ho hg hdn HPS
            obtain ⟨x, cc, r1, rfl, rfl, hxq, hl, hx, ho, hg, hps⟩ := hrel
            by_cases hlx : x < q
            · have hxi : (x : Int) < (q : Int) := by omega
              have c1 := hg.out.cell K1'.out (by simp)
              go_wp2_with fail
              clear c1
              go_loopw [49, 9] (fun i s9 wr => ∃ (y : Nat) (cc : Bool) (r1 : Rel), i = .int .i64 y ∧ s9 = .bool cc ∧ y ≤ m ∧ Hid (r1.length = q) ∧ Hid (BoxR wr R q m bs r1) ∧ Hid (Over (sa.map Prod.snd) (sb.map Prod.snd) r1) ∧ Hid (w3.grownBy wr none) ∧ Hid (PassB (sa.map Prod.snd) (sb.map Prod.snd) m rs cc r1 x y)) (fun i _ _ => m - (intOf i).toNat)
              case atStart => exact ⟨0, cc, r1, rfl, rfl, Nat.zero_le _, hl, hx, ho, hg, hps⟩
              case round =>
                rename World => wj
                clear hl hx ho hg hps
                obtain ⟨y, cc, r1, rfl, rfl, hym, hl, hx, ho, hg, hps⟩ := hrel
                by_cases hly : y < m
                · have hyi : (y : Int) < (m : Int) := by omega
                  obtain ⟨bx, hbx, hbR, x1, x2, f2⟩ := hx.out.cells (x := x) (y := y) (by rw [hl.out]; exact hlx) hly
                  have HBX := Lib.hid hbx
                  have HBR := Lib.hid hbR
                  have HSA := Lib.hid (HA.out.same (grown_trans GG.out hg.out))
                  have HSB := Lib.hid (HB.out.same (grown_trans GG.out hg.out))
                  clear hbx hbR f2
                  cases hat : atB r1 x y with
                  | false =>
                    rw [hat] at x2
                    have HP2 := Lib.hid (hps.out.next (.inl hat))
                    clear hat
                    go_wp2_with fail
                    go_roundw
                    case rel => exact ⟨y + 1, cc, r1, by go_num, rfl, by omega, hl, hx, ho, hg, HP2⟩
                    case measure => simp [intOf]; omega
                  | true =>
                    rw [hat] at x2
                    have HAT := Lib.hid hat
                    clear hat
                    have HMD : Hid (MatD wj (.agg #[.slice a q c]) (.agg #[.slice b m k]) (.slice (some ⟨R, 0, none⟩) q q) sa sb (tabB m bs r1)) := Lib.hid (by
                      have hbl := hx.out.len
                      have hrl := hl.out
                      refine ⟨⟨_, rfl, HSA.out⟩, ⟨_, rfl, HSB.out⟩, hx.out.rel hrl (by omega) (by omega), by rw [tab_len hbl, hrl, HN.out], fun z hz => ?_, HVA.out, HVB.out, by rw [HN.out]; omega, by rw [HM.out]; omega⟩
                      rw [HM.out]
                      exact hx.out.row _ (tab_row hbl hz))
                    have HXA : Hid (x < sa.length) := Lib.hid (by rw [HN.out]; exact hlx)
                    have HYB : Hid (y < sb.length) := Lib.hid (by rw [HM.out]; exact hly)
                    have HTS : Hid ((tabB m bs r1).map Prod.snd = r1) := Lib.hid (tab_snd hx.out.len)
                    have c0 := hg.out.cell K0'.out (by simp)
                    have c1 := hg.out.cell K1'.out (by simp)
                    go_wp2_with fail
                    refine (matches_any (.agg #[.slice a q c]) (.agg #[.slice b m k]) (.slice (some ⟨R, 0, none⟩) q q) sa sb (tabB m bs r1) x y wj HMD.out HXA.out HYB.out).mono ?_
                    rintro e w5 ⟨rfl, hg5⟩
                    rw [HTS.out]
                    have HG5 := Lib.hid hg5
                    have HX5 := Lib.hid (hx.out.same hg5)
                    have HGG := Lib.hid (grown_trans hg.out hg5)
                    clear hg5 c0 c1 x1 x2
                    cases hmt : matchB (arcsOf (sa.map Prod.snd) x) (arcsOf (sb.map Prod.snd) y) r1 with
                    | true =>
                      have HP2 := Lib.hid (hps.out.next (.inr hmt))
                      clear hmt
                      go_wp2_with fail
                      go_roundw
                      case rel => exact ⟨y + 1, cc, r1, by go_num, rfl, by omega, hl, HX5, ho, HGG, HP2⟩
                      case measure => simp [intOf]; omega
                    | false =>
                      have HP2 := Lib.hid (hps.out.drop HAT.out)
                      have HO2 := Lib.hid (ho.out.drop HVA.out HVB.out (x := x) (y := y) (by rw [List.length_map]; exact HXA.out) (by rw [List.length_map]; exact HYB.out) hmt)
                      clear hmt
                      obtain ⟨b2, hb2, hbR2, x1, x2, f2⟩ := HX5.out.cells (x := x) (y := y) (by rw [hl.out]; exact hlx) hly
                      have HB2 : Hid (BoxR (w5.setCell ⟨b2, y, none⟩ (.bool false)) R q m bs (dropB r1 x y)) := Lib.hid (by
                        obtain ⟨hxl, e⟩ := List.getElem?_eq_some_iff.1 hb2
                        have := HX5.out.drop (y := y) hxl
                        rw [e] at this
                        exact this)
                      have HL2 : Hid ((dropB r1 x y).length = q) := Lib.hid ((drop_len _ _ _).trans hl.out)
                      have HG2 : Hid (w3.grownBy (w5.setCell ⟨b2, y, none⟩ (.bool false)) none) := Lib.hid (grown_then HGG.out (grown_set _ _ _) (by rintro j ⟨⟩; exact .inl (Nat.le_of_lt (Nat.lt_of_le_of_lt HRW.out hbR2))))
                      clear hb2 hbR2
                      go_wp2_with fail
                      go_roundw
                      case rel => exact ⟨y + 1, true, _, by go_num, rfl, by omega, HL2, HB2, HO2, HG2, HP2⟩
                      case measure => simp [intOf]; omega
                · have hyi : ¬ (y : Int) < (m : Int) := by omega
                  have HP2 : Hid (PassB (sa.map Prod.snd) (sb.map Prod.snd) m rs cc r1 (x + 1) 0) := Lib.hid (by
                    have := hps.out
                    rw [show y = m by omega] at this
                    exact this.line)
                  go_wp2_with fail
                  go_roundw
                  case rel => exact ⟨x + 1, cc, r1, by go_num, rfl, by omega, hl, hx, ho, hg, HP2⟩
                  case measure => simp [intOf]; omega
            · have hxi : ¬ (x : Int) < (q : Int) := by omega
              have HPQ : Hid (PassB (sa.map Prod.snd) (sb.map Prod.snd) m rs cc r1 q 0) := Lib.hid (by
                have := hps.out
                rwa [show x = q by omega] at this)
              have HD : Hid (cc = false → ∀ x y, x < q → y < m → (atB r1 x y = true ↔ Gr (sa.map Prod.snd) (sb.map Prod.snd) x y)) := Lib.hid (by
                intro hcc
                have h1 := HPQ.out
                rw [hcc] at h1
                have h2 := pass_done (rs0 := rs) ho.out (by rw [List.length_map, List.length_map, HN.out, HM.out]; exact h1)
                rw [List.length_map, List.length_map, HN.out, HM.out] at h2
                exact h2)
              have HK : Hid (cntT r1 + (if cc = true then 1 else 0) ≤ cntT rs) := Lib.hid (by
                rcases HPQ.out with ⟨e1, e2, -⟩ | ⟨e1, h⟩
                · rw [e1, e2]; simp
                · rw [e1]; simp; omega)
              have HGK : Hid (cntT rs + 1 ≤ gk) := Lib.hid (by have := hgk.out; simpa using this)
              clear hgk
              go_wp2_with fail
              go_roundg (cntT rs)
              case measure => (have := HGK.out; omega)
              case rel => exact ⟨cc, r1, rfl, hl, hx, ho, hg, HK, HD⟩
end Go.Proofs.Ytelpkcndbcfaiaa
