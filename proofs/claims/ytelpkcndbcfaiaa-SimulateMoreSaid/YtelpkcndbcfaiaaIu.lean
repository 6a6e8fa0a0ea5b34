/- Trace at valid systems of at most six states. -/
import Derived.Test.YtelpkcndbcfaiaaIx
import Derived.Test.YtelpkcndbcfaiaaIo
namespace Go.Proofs.Ytelpkcndbcfaiaa
open Go.RowKit
set_option linter.unusedVariables false
def TraceR (A B : Sys) (most : Nat) (w : World) (e : Ending) (w' : World) : Prop := ∃ v L ok, e = .returned (.tuple #[v, .bool ok, .int .i64 0]) ∧ IntsR w' v L ∧ TrR A B most L ok ∧ w.grownBy w' none
theorem own_ints {w : World} {base : Nat} {v : Value} {u : List Int} (h : OwnI w base v u) (hl : u.length ≤ 1000000) : IntsR w v u := by
  rcases h.2 with ⟨rfl, h0⟩ | ⟨g, cap, cur, rfl, h1, h2, h3, h4, h5, h6⟩
  · obtain rfl := List.eq_nil_of_length_eq_zero h0
    exact ⟨none, 0, rfl, Nat.zero_le _, .inl rfl⟩
  · refine ⟨_, cap, rfl, by unfold maxLen; omega, .inr ⟨g, 0, rfl, fun i hi => ?_⟩⟩
    have := World.ownsRow.cellAt h i (by omega)
    rw [Nat.zero_add, this]
    simp
theorem rows_two {w : World} {g Y base : Nat} {lv : Value} {u : List Int} {y : Int} (h : OwnI w base lv u) (hb : ∀ x ∈ u, IntB x) (hy : IntB y) (hY : w.heap[Y]? = some (.cells #[.int .i64 y] 3 (0, 0))) (hg : w.heap[g]? = some (.cells #[lv, .slice (some ⟨Y, 0, none⟩) 1 1] 30 (0, 0))) :
    RowsP w (.slice (some ⟨g, 0, none⟩) 2 2) [(lv, u), (.slice (some ⟨Y, 0, none⟩) 1 1, [y])] := by
  refine rows_blk _ 2 2 hg rfl (by unfold maxLen; omega) rfl (fun p hp => ?_)
  simp only [List.mem_cons, List.not_mem_nil, or_false] at hp
  rcases hp with rfl | rfl
  · exact h.row hb
  · refine ⟨⟨_, 1, rfl, by show 1 ≤ maxLen; unfold maxLen; omega, fun x hx => by rw [List.mem_singleton.1 hx]; exact hy, .inr ⟨Y, 0, rfl, fun i hi => ?_⟩⟩, Good.some _ (Nat.le_refl _), fun g hg => ?_⟩
    · obtain rfl : i = 0 := by simp at hi; omega
      unfold World.cell?
      dsimp only
      rw [hY]
      rfl
    · cases hg
      exact (Array.getElem?_eq_some_iff.1 hY).1
theorem push2 {w0 w w1 w2 w3 : World} {M p : Nat} {A B : Sys} {E : List Nd} {done : List Int} {qv qv' lv lv0 : Value} {nd : Nd} {qs : List Qe} {a' b' : Nat} (h : TrI w0 w M A B E p done qv ((lv0, nd) :: qs)) {y : Int} (ea : behN A nd.a y = a') (eb : behN B nd.b y = b') (hy : ∀ z ∈ done, z < y) (ha : a' ≠ 0) (hb : b' ≠ 0) (hm : (a', b') ∉ pairs E)
    (hs : SeenR w1 M (pairs E ++ [(a', b')])) (g1 : w.grownBy w1 (some M)) (g2 : w1.grownBy w2 none) (hq : QRow w3 w0.heap.size qv' (((lv0, nd) :: qs) ++ [(lv, ⟨nd.w ++ [y], a', b'⟩)])) (g3 : w2.grownBy w3 qv.ownBlock) (hl : OwnI w w0.heap.size lv (nd.w ++ [y])) (hyb : IntB y) :
    TrI w0 w3 M A B (E ++ [⟨nd.w ++ [y], a', b'⟩]) p (done ++ [y]) qv' ((lv0, nd) :: (qs ++ [(lv, ⟨nd.w ++ [y], a', b'⟩)])) := by
  subst ea eb
  exact h.push hy ha hb hm hs g1 g2 hq g3 hl hyb
theorem wp_gen {c : Code} {Q : Exit → Act → World → Prop} {a : Act} {w : World} (h : ∀ a0, a0 = a → c.wp Try.prog Q a0 w) : c.wp Try.prog Q a w := h a rfl
set_option maxRecDepth 100000 in
set_option maxHeartbeats 4000000 in
theorem trace_any (va vb : Value) (sa sb : List ArcP) (most : Nat) (w : World) (ha : SysG w va sa) (hb : SysG w vb sb) (hm16 : most ≤ 16) (ha6 : sa.length ≤ 6) (hb6 : sb.length ≤ 6) (hlab : ∀ q ∈ sa, ∀ p ∈ q.2, IntB p.1) :
    Calls Try.prog 29 #[va, vb, .int .i64 most] w (TraceR (sa.map Prod.snd) (sb.map Prod.snd) most w) := by
  obtain ⟨⟨xa, rfl, hA⟩, hga⟩ := ha
  obtain ⟨⟨xb, rfl, hB⟩, hgb⟩ := hb
  have HA := Lib.hid hA; have HB := Lib.hid hB
  obtain ⟨hn1, hn2, hva, hla⟩ := good_parts hga
  obtain ⟨hm1, hm2, hvb, hlb⟩ := good_parts hgb
  have HGA := Lib.hid hga; have HGB := Lib.hid hgb
  have HCA := Lib.hid (chk_yes hga); have HCB := Lib.hid (chk_yes hgb)
  have HVA := Lib.hid hva; have HVB := Lib.hid hvb
  have HLAB : Hid (∀ x, (∃ j, j < (sa.map Prod.snd).length ∧ ∃ p ∈ arcsOf (sa.map Prod.snd) j, p.1 = x) → IntB x) := Lib.hid (by
    rintro x ⟨j, hj, p, hp, rfl⟩
    rw [List.length_map] at hj
    rw [arcs_map hj] at hp
    exact hlab _ (List.getElem_mem hj) p hp)
  have HLA : Hid (∀ q ∈ sa, q.2.length ≤ 1000000000) := Lib.hid (fun q hq => by have := hla q hq; omega)
  have HLB : Hid (∀ q ∈ sb, q.2.length ≤ 1000000000) := Lib.hid (fun q hq => by have := hlb q hq; omega)
  obtain ⟨a, c, rfl, -⟩ := hA
  obtain ⟨b, k, rfl, -⟩ := hB
  have HA6 : Hid ((sa.map Prod.snd).length ≤ 6) := Lib.hid (by rw [List.length_map]; exact ha6)
  have HB6 : Hid ((sb.map Prod.snd).length ≤ 6) := Lib.hid (by rw [List.length_map]; exact hb6)
  have HA8 : Hid (sa.length ≤ 8) := Lib.hid (by omega)
  have HB8 : Hid (sb.length ≤ 8) := Lib.hid (by omega)
  obtain ⟨n, hn⟩ : ∃ n, sa.length = n := ⟨_, rfl⟩
  obtain ⟨m, hm⟩ : ∃ m, sb.length = m := ⟨_, rfl⟩
  rw [hn] at hn1 hn2 HA ⊢
  rw [hm] at hm1 hm2 HB ⊢
  have HN := Lib.hid hn; have HM := Lib.hid hm
  clear hn hm hga hgb hva hvb hla hlb ha6 hb6 hlab hn1 hn2 hm1 hm2
  go_enter Try.func29, Try.ntmps29
  go_wp2_with fail
  obtain ⟨H, hH⟩ : ∃ H, w.heap.size = H := ⟨_, rfl⟩
  rw [hH]
  obtain ⟨w2, hw2⟩ : ∃ w2, w2 = (w.alloc (.cells #[.slice a n c] 25)).alloc (.cells #[.slice b m k] 25) := ⟨_, rfl⟩
  have hg2 : w.grownBy w2 none := by rw [hw2]; exact grown_aft2 (World.grownBy_alloc _ _ _)
  have k0 : w2.cell? ⟨H, 0, none⟩ = some (.slice a n c) := by
    rw [hw2]
    refine (World.grownBy_alloc _ _ none).cell ?_ (by simp)
    rw [World.cell?, heap_new _ hH.symm]; rfl
  have k1 : w2.cell? ⟨H + 1, 0, none⟩ = some (.slice b m k) := by
    rw [hw2, World.cell?, heap_new _ (by show _ = (w.heap.push _).size; simp [hH])]; rfl
  rw [← hw2]
  have HSZ : Hid (w.heap.size = H) := Lib.hid hH
  have K0 := Lib.hid k0; have K1 := Lib.hid k1; have HG2 := Lib.hid hg2
  clear hw2 k0 k1 hg2 hH
  refine wp_told (FrontV (.agg #[.slice a n c]) (.agg #[.slice b m k]) (chkI sa) (chkI sb)) (by kernel_rfl) (by kernel_rfl) FrontV.mono ?_ ?_
  · refine ⟨?_, ?_, ?_, ?_, ?_, ?_, ?_, trivial⟩
    · intro x w3 hx hg hd
      have e0 : x.eval (.tmp 3) = .pointer (some ⟨H, 0, none⟩) := (hx.eval (s := 3) (by decide)).trans rfl
      have c0 := hg.cell K0.out (by simp)
      refine .inl ⟨wanted_noI rfl, ?_⟩
      unfold Oper.wp
      simp only [execOp, e0]
      go_simp
      exact ⟨_, rfl, rfl, grown_refl _ _⟩
    · intro x w3 hx hg hd
      have e0 : x.eval (.tmp 18) = .agg #[.slice a n c] := hd 0 (by decide) 18 rfl
      exact .inl ⟨wanted_noI rfl, oper_callI 19 17 _ _ _ _ _ _ Try.f17 _ Try.func17 (by kernel_rfl) rfl [.agg #[.slice a n c]] (by simp only [List.map_cons, List.map_nil]; rw [e0]) _ (Check_any _ sa _ ⟨_, rfl, HA.out.same (grown_trans HG2.out hg)⟩ HLA.out) (fun e w4 hh => ⟨_, hh.1, _, rfl, rfl, hh.2⟩)⟩
    · intro x w3 hx hg hd
      have e0 : x.eval (.tmp 4) = .pointer (some ⟨H + 1, 0, none⟩) := (hx.eval (s := 4) (by decide)).trans rfl
      have c0 := hg.cell K1.out (by simp)
      refine .inl ⟨wanted_noI rfl, ?_⟩
      unfold Oper.wp
      simp only [execOp, e0]
      go_simp
      exact ⟨_, rfl, rfl, grown_refl _ _⟩
    · intro x w3 hx hg hd
      have e0 : x.eval (.tmp 20) = .agg #[.slice b m k] := hd 2 (by decide) 20 rfl
      exact .inl ⟨wanted_noI rfl, oper_callI 21 17 _ _ _ _ _ _ Try.f17 _ Try.func17 (by kernel_rfl) rfl [.agg #[.slice b m k]] (by simp only [List.map_cons, List.map_nil]; rw [e0]) _ (Check_any _ sb _ ⟨_, rfl, HB.out.same (grown_trans HG2.out hg)⟩ HLB.out) (fun e w4 hh => ⟨_, hh.1, _, rfl, rfl, hh.2⟩)⟩
    · intro x w3 hx hg hd
      have e0 : x.eval (.tmp 19) = .int .i64 (chkI sa) := hd 1 (by decide) 19 rfl
      have e1 : x.eval (.tmp 21) = .int .i64 (chkI sb) := hd 3 (by decide) 21 rfl
      refine .inl ⟨wanted_noI rfl, ?_⟩
      unfold Oper.wp
      simp only [execOp]
      simp only [List.map_toArray, List.map_cons, List.map_nil, e0, e1]
      go_simp
      exact ⟨_, rfl, ⟨w3.heap.size, rfl, by rw [World.cell?, heap_new _ rfl]; rfl, by rw [World.cell?, heap_new _ rfl]; rfl⟩, World.grownBy_alloc _ _ none⟩
    · intro x w3 hx hg hd
      obtain ⟨G, e0, c0, c1⟩ := hd 4 (by decide) 22 rfl
      exact .inl ⟨wanted_noI rfl, oper_callI 23 43 _ _ _ _ _ _ Try.f43 _ Try.func43 (by kernel_rfl) rfl [.slice (some ⟨G, 0, none⟩) 2 2] (by simp only [List.map_cons, List.map_nil]; rw [e0]) _ (or_any (chkI sa) (chkI sb) G w3 c0 c1) (fun e w4 hh => ⟨_, hh.1, _, rfl, rfl, hh.2 ▸ grown_refl _ _⟩)⟩
    · intro x w3 hx hg hd
      have e0 : x.eval (.tmp 23) = .int .i64 (orE (chkI sa) (chkI sb)) := hd 5 (by decide) 23 rfl
      refine .inl ⟨wanted_noI rfl, ?_⟩
      unfold Oper.wp
      simp only [execOp, e0]
      go_simp
      exact ⟨_, rfl, rfl, grown_refl _ _⟩
  intro vs w3 g2 hv
  have c0 := g2.cell K0.out (by simp)
  have c1 := g2.cell K1.out (by simp)
  have GG := Lib.hid (grown_trans HG2.out g2)
  have K0' : Hid (w3.cell? ⟨H, 0, none⟩ = some (.slice a n c)) := Lib.hid c0
  have K1' : Hid (w3.cell? ⟨H + 1, 0, none⟩ = some (.slice b m k)) := Lib.hid c1
  clear K0 K1 HG2
  have e6 : vs 6 = .int .i64 0 := (hv 6 9 rfl).trans (by rw [HCA.out, HCB.out]; rfl)
  simp only [putAll, Nat.reduceAdd, e6]
  clear hv e6 g2
  have g1 : ¬ (most : Int) < 0 := by omega
  have g2 : ¬ (16 : Int) < (most : Int) := by omega
  have HM16 := Lib.hid hm16
  clear hm16 c0 c1
  go_wp2_with fail
  refine (with_st 0 0 (by decide) (by decide) w3).mono ?_
  rintro e w4 ⟨rfl, hg4⟩
  unfold StV
  rw [show ((0 ||| 2 ^ 0 : Nat) : Int) = ((1 : Nat) : Int) from rfl]
  have HG4 := Lib.hid hg4
  clear hg4
  go_wp2_with fail
  refine (with_st 0 0 (by decide) (by decide) w4).mono ?_
  rintro e w5 ⟨rfl, hg5⟩
  unfold StV
  rw [show ((0 ||| 2 ^ 0 : Nat) : Int) = ((1 : Nat) : Int) from rfl]
  have HG5 := Lib.hid (grown_trans HG4.out hg5)
  clear hg5 HG4
  obtain ⟨F, hF⟩ : ∃ F, w5.heap.size = F := ⟨_, rfl⟩
  have hmm := @run_makeMap Try.prog
  have HS0 : Hid (SeenR ((w5.alloc (.cells #[.int .u64 1, .int .u64 0, .int .u64 1, .int .u64 0] 87)).alloc (.map #[] 0)) (F + 1) []) := Lib.hid (by
    have := seen_made (w5.alloc (.cells #[.int .u64 1, .int .u64 0, .int .u64 1, .int .u64 0] 87))
    rw [show (w5.alloc (.cells #[.int .u64 1, .int .u64 0, .int .u64 1, .int .u64 0] 87)).heap.size = F + 1 by show (w5.heap.push _).size = _; simp [hF]] at this
    exact this)
  have HB0 : Hid (((w5.alloc (.cells #[.int .u64 1, .int .u64 0, .int .u64 1, .int .u64 0] 87)).alloc (.map #[] 0)).heap[F]? = some (.cells #[.int .u64 1, .int .u64 0, .int .u64 1, .int .u64 0] 87 (0, 0))) := Lib.hid (heap_old _ (heap_new _ hF.symm))
  go_wp2_with (refine wpList_seen_ins rfl _ _ _ rfl (F + 1) [] rfl 1 1 rfl rfl HS0.out (by decide) (by decide) (by simp) (by simp) ?_; intro w6 hs6 hg6; have HS6 := Lib.hid hs6; have HG6 := Lib.hid hg6; have hb6 := (hg6.block F (Array.getElem?_eq_some_iff.1 HB0.out).1 (by simp)).trans HB0.out; obtain ⟨f0, f1, f2, f3⟩ := met_cells hb6; clear hs6 hg6 hb6)
  clear f0 f1 f2 f3
  obtain ⟨Q0, hQ0⟩ : ∃ Q0, w6.heap.size = Q0 := ⟨_, rfl⟩
  rw [hQ0]
  have HGW6 : Hid (w3.grownBy w6 none) := Lib.hid (by
    have h1 : w3.grownBy ((w5.alloc (.cells #[.int .u64 1, .int .u64 0, .int .u64 1, .int .u64 0] 87)).alloc (.map #[] 0)) none := grown_aft2 (grown_aft2 HG5.out)
    have h2 := HG5.out.size
    exact grown_then h1 HG6.out (by rintro j ⟨⟩; exact .inl (by omega)))
  have HW7 : Hid (TrI w3 (w6.alloc (.cells #[.slice none 0 0, .int .u64 1, .int .u64 0, .int .u64 1, .int .u64 0] 90)) (F + 1) (sa.map Prod.snd) (sb.map Prod.snd) [⟨[], 1, 1⟩] 0 [] (.slice (some ⟨Q0, 0, none⟩) 1 1) [(.slice none 0 0, ⟨[], 1, 1⟩)]) := Lib.hid (by
    have h1 := GG.out.size
    have h2 := HG5.out.size
    have h3 := HGW6.out.size
    refine ⟨Bfs.start _ _, QRow.made (q := (.slice none 0 0, ⟨[], 1, 1⟩)) (by omega) (heap_new _ hQ0.symm), rfl, fun q hq => ?_, HS6.out.same (World.grownBy_alloc _ _ none), grown_aft2 HGW6.out, by omega, fun q hq => ?_⟩
    · rw [List.mem_singleton.1 hq]; exact OwnI.nil _ _
    · rw [List.mem_singleton.1 hq]; intro x hx; simp at hx)
  have HG7 : Hid (w3.grownBy (w6.alloc (.cells #[.slice none 0 0, .int .u64 1, .int .u64 0, .int .u64 1, .int .u64 0] 90)) none) := Lib.hid (grown_aft2 HGW6.out)
  have HF7 : Hid (w3.heap.size ≤ F) := Lib.hid (by have := HG5.out.size; omega)
  clear hmm HS0 HB0 HS6 HG6 HGW6 HG5 hF
  go_loopg [12] 4096 (fun gk qv wr => ∃ (E : List Nd) (p : Nat) (qs : List Qe), gk + p = 4096 ∧ Hid (TrI w3 wr (F + 1) (sa.map Prod.snd) (sb.map Prod.snd) E p [] qv qs) ∧ Hid (w3.grownBy wr none))
  case atStart => exact ⟨_, 0, _, rfl, HW7, HG7⟩
  case round =>
    clear HW7 HG7 hQ0
    obtain ⟨E, p, qs, hgp, hI, hg⟩ := hrel
    have c0 := hg.out.cell K0'.out (by simp)
    have c1 := hg.out.cell K1'.out (by simp)
    cases qs with
    | nil =>
      obtain ⟨b0, o0, cap0, cur0, hqv, -⟩ := hI.out.q
      subst hqv
      have HT : Hid (TrR (sa.map Prod.snd) (sb.map Prod.snd) most [] false) := Lib.hid (hI.out.bfs.fin (fun i r hi hp => by
        have h1 := hI.out.qe
        have h2 : (E.drop p).length = 0 := by rw [← h1]; rfl
        have h3 := (List.getElem?_eq_some_iff.1 hi).1
        rw [List.length_drop] at h2
        omega))
      have HGE := Lib.hid (grown_trans GG.out hg.out)
      simp only [List.length_nil]
      clear c0 c1
      go_wp2_with fail
      go_ret3
      exact ⟨_, [], false, rfl, ⟨none, 0, rfl, Nat.zero_le _, .inl rfl⟩, HT.out, HGE.out⟩
    | cons q rest =>
      obtain ⟨b0, o0, cap0, hqv, hcap, x0, x1, x2, x3, x4, hpop⟩ := hI.out.q.front
      have hat := hI.out.at
      have hsm := hI.out.bfs.small HVA.out HVB.out HA6.out HB6.out
      have hlow := hI.out.q.low
      obtain ⟨lv, nd⟩ := q
      dsimp only at x0 x1 x3 hat
      have hlv := hI.out.lab (lv, nd) (by simp)
      have hok := hI.out.bfs.ok nd (List.mem_of_getElem? hat)
      have h64 := hsm.2 nd (List.mem_of_getElem? hat)
      have HPL : Hid (p + 1 < 4096) := Lib.hid (by have := (List.getElem?_eq_some_iff.1 hat).1; omega)
      have HWL := Lib.hid hlv
      obtain ⟨la, lc, hlve⟩ := own_slice hlv
      dsimp only at hlve
      subst hlve
      have HAT := Lib.hid hat; have HOK := Lib.hid hok
      have HA64 : Hid (nd.a < 256) := Lib.hid (by omega)
      have HB64 : Hid (nd.b < 256) := Lib.hid (by omega)
      have HLOW := Lib.hid hlow
      have HPOP := Lib.hid hpop
      have HCAP := Lib.hid hcap
      obtain ⟨ql, hql⟩ : ∃ ql, rest.length + 1 = ql := ⟨_, rfl⟩
      have hq0 : (0 : Int) < (ql : Int) := by omega
      have HQL := Lib.hid hql
      rw [hql] at hqv
      have hqv2 := hqv
      have HQV := Lib.hid hqv
      subst hqv
      clear hat hlv hok h64 hsm hlow hpop hcap hql hqv2
      by_cases hlm : nd.w.length < most
      · have hlmi : (nd.w.length : Int) < (most : Int) := by omega
        have HLM := Lib.hid hlm
        obtain ⟨Wb, hWb⟩ : ∃ Wb, wr.heap.size = Wb := ⟨_, rfl⟩
        obtain ⟨wb, hwb⟩ : ∃ wb, wb = wr.alloc (.cells #[.slice la nd.w.length lc, .int .u64 (nd.a : Int), .int .u64 0, .int .u64 (nd.b : Int), .int .u64 0] 90) := ⟨_, rfl⟩
        have hgb : wr.grownBy wb none := by rw [hwb]; exact World.grownBy_alloc _ _ _
        have cb0 := hgb.cell c0 (by simp)
        have HBX : Hid (wb.heap[Wb]? = some (.cells #[.slice la nd.w.length lc, .int .u64 (nd.a : Int), .int .u64 0, .int .u64 (nd.b : Int), .int .u64 0] 90 (0, 0))) := Lib.hid (by rw [hwb]; exact heap_new _ hWb.symm)
        have HWS : Hid (wb.heap.size = Wb + 1) := Lib.hid (by rw [hwb]; show (wr.heap.push _).size = _; simp [hWb])
        have HWR := Lib.hid hWb
        have HWB := Lib.hid hwb; have HGB := Lib.hid hgb
        have HC1 := Lib.hid (hgb.cell c1 (by simp))
        rw [hwb] at cb0
        clear hwb hgb hlm c1 hWb
        go_wp2_with fail
        rw [← HWB.out]
        rw [HWR.out]
        clear c0 cb0 x0 x1 x2 x3 x4
        refine (labels_st nd.a HA64.out (.agg #[.slice a n c]) sa wb ⟨⟨_, rfl, HA.out.same (grown_trans (grown_trans GG.out hg.out) HGB.out)⟩, HGA.out⟩ HA8.out).mono ?_
        rintro e w8 ⟨lbv, L, rfl, hIn, hL, hg8, hlen, hfr⟩
        have HI8 := Lib.hid (hI.out.same (grown_trans HGB.out hg8))
        have HK8 : Hid (KpI w8 Wb (.slice la nd.w.length lc, nd) lbv L) := Lib.hid ⟨(hg8.block Wb (Array.getElem?_eq_some_iff.1 HBX.out).1 (by simp)).trans HBX.out, hIn⟩
        have HS8 : Hid (Safe Wb lbv (Value.slice (some ⟨b0, o0, none⟩) ql cap0).ownBlock) := Lib.hid (by
          have h1 := (HLOW.out b0 rfl).2
          have h2 := HWR.out; have h3 := HWS.out
          refine ⟨fun e => ?_, fun k hk e => ?_⟩
          · have e2 : b0 = Wb := Option.some.inj e
            omega
          · have e2 : b0 = k := Option.some.inj hk
            have := hfr k e
            omega)
        have HSM : Hid (Safe Wb lbv (some (F + 1))) := Lib.hid (by
          obtain ⟨es, clock, hmap⟩ := seen_heap hI.out.seen
          have h1 := (Array.getElem?_eq_some_iff.1 hmap).1
          have h2 := HWR.out; have h3 := HWS.out
          refine ⟨fun e => ?_, fun k hk e => ?_⟩
          · have e2 : F + 1 = Wb := Option.some.inj e
            omega
          · have e2 : F + 1 = k := Option.some.inj hk
            have := hfr k e
            omega)
        have HLN : Hid (L.length ≤ 1000000) := Lib.hid hlen
        have HL := Lib.hid hL
        have HG8 : Hid (w3.grownBy w8 none) := Lib.hid (grown_trans hg.out (grown_trans HGB.out hg8))
        have HWF : Hid (w8.heap.size ≥ Wb + 1) := Lib.hid (by have := hg8.size; have := HWS.out; omega)
        obtain ⟨lad, lcap, hlbe, -, -⟩ := hIn
        subst hlbe
        clear hI hg HPOP HLOW HC1 HBX HWS HWR HWB HGB hL hg8 hlen hfr HCAP HQL HQV hq0
        go_wp2_with fail
        go_loopw [67, 12] (fun i qv wk => ∃ (t : Nat) (E : List Nd) (rest : List Qe), i = .int .i64 t ∧ t ≤ L.length ∧ Hid (TrI w3 wk (F + 1) (sa.map Prod.snd) (sb.map Prod.snd) E p (L.take t) qv ((.slice la nd.w.length lc, nd) :: rest)) ∧ Hid (KpI wk Wb (.slice la nd.w.length lc, nd) (.slice lad L.length lcap) L) ∧ Hid (Safe Wb (.slice lad L.length lcap) qv.ownBlock) ∧ Hid (w3.grownBy wk none)) (fun i _ _ => L.length - (intOf i).toNat)
        case atStart => exact ⟨0, E, rest, rfl, Nat.zero_le _, HI8, HK8, HS8, HG8⟩
        case round =>
          rename World => wj
          clear HI8 HK8 HS8 HG8
          obtain ⟨t, E, rest, rfl, ht, hI, hK, hS, hg⟩ := hrel
          by_cases hlt : t < L.length
          · have hti : (t : Int) < (L.length : Int) := by omega
            obtain ⟨lx, lcx, hlx, -, hcells⟩ := hK.out.lab
            simp only [Value.slice.injEq] at hlx
            obtain ⟨rfl, -, rfl⟩ := hlx
            have hc0 : ∃ lb lo, lad = some ⟨lb, lo, none⟩ ∧ wj.cell? ⟨lb, lo + t, none⟩ = some (.int .i64 L[t]) := by
              rcases hcells with h0 | ⟨lb, lo, e, hcells⟩
              · rw [h0] at hlt; simp at hlt
              · refine ⟨lb, lo, e, ?_⟩
                have := hcells t hlt
                rwa [List.getElem?_eq_getElem hlt] at this
            obtain ⟨lb, lo, rfl, y0⟩ := hc0
            obtain ⟨k0, k1, k2, k3, k4⟩ := word_cells hK.out.box
            dsimp only at k0 k1 k2 k3 k4
            have HYL := Lib.hid (List.getElem_mem hlt)
            have HYB : Hid (IntB L[t]) := Lib.hid (HLAB.out _ (by
              obtain ⟨j, hj, h1, p, hp, e⟩ := (HL.out.2 _).1 HYL.out
              exact ⟨j, hj, p, hp, e⟩))
            have HYD : Hid (∀ z ∈ L.take t, z < L[t]) := Lib.hid (fun z hz => by
              obtain ⟨i, hi, rfl⟩ := List.mem_iff_getElem.1 hz
              rw [List.getElem_take]
              rw [List.length_take] at hi
              exact List.pairwise_iff_getElem.1 HL.out.1 i t (by omega) hlt (by omega))
            have HYU : Hid (∀ z ∈ L, z < L[t] → z ∈ L.take t) := Lib.hid (fun z hz hzl => by
              obtain ⟨i, hi, rfl⟩ := List.mem_iff_getElem.1 hz
              by_cases e : i < t
              · rw [List.mem_iff_getElem]
                exact ⟨i, by rw [List.length_take]; omega, by rw [List.getElem_take]⟩
              · exfalso
                by_cases e2 : i = t
                · subst e2; omega
                · have := List.pairwise_iff_getElem.1 HL.out.1 t i hlt hi (by omega)
                  omega)
            have HTK : Hid (L.take (t + 1) = L.take t ++ [L[t]]) := Lib.hid (List.take_succ_eq_append_getElem hlt)
            have HAB := Lib.hid ((lab_beh HL.out).1 HYL.out)
            have HLBS : Hid (lb < wj.heap.size) := Lib.hid (World.block_lt_of_cell? _ _ y0)
            generalize L[t] = y at *
            have HG := Lib.hid (grown_trans GG.out hg.out)
            have HSA := Lib.hid (HA.out.same HG.out)
            have HSB := Lib.hid (HB.out.same HG.out)
            have c0 := hg.out.cell K0'.out (by simp)
            have c1 := hg.out.cell K1'.out (by simp)
            have C0 := Lib.hid c0; have C1 := Lib.hid c1; have X1 := Lib.hid k1; have X2 := Lib.hid k2; have X3 := Lib.hid k3; have X4 := Lib.hid k4
            clear hcells c0 c1 k0 k1 k2 k3 k4
            go_wp2_with fail
            clear y0
            obtain ⟨a', ha'⟩ : ∃ a', behN (sa.map Prod.snd) nd.a y = a' := ⟨_, rfl⟩
            obtain ⟨b', hb'⟩ : ∃ b', behN (sb.map Prod.snd) nd.b y = b' := ⟨_, rfl⟩
            have HA' := Lib.hid ha'; have HB' := Lib.hid hb'
            clear ha' hb'
            refine wp_gen ?_
            intro a0 ha0
            have f13 : a0.eval (.tmp 13) = .pointer (some ⟨Wb, 0, none⟩) := by rw [ha0]; rfl
            have f3 : a0.eval (.tmp 3) = .pointer (some ⟨H, 0, none⟩) := by rw [ha0]; rfl
            have f4 : a0.eval (.tmp 4) = .pointer (some ⟨H + 1, 0, none⟩) := by rw [ha0]; rfl
            have f15 : a0.eval (.tmp 15) = .int .i64 y := by rw [ha0]; rfl
            have fsz : a0.tmps.size = 113 := by rw [ha0]; rfl
            have F13 := Lib.hid f13; have F3 := Lib.hid f3; have F4 := Lib.hid f4; have F15 := Lib.hid f15
            have HFR := Lib.hid ha0
            clear ha0 f13 f3 f4 f15
            refine wp_next Wb (.agg #[.slice a n c]) (.agg #[.slice b m k]) nd.a nd.b y a' b' (by rfl) (by rw [fsz]; kernel_rfl) (by kernel_rfl) (by kernel_rfl) (by kernel_rfl) (by kernel_rfl) (by decide) (by rw [fsz]; decide) ?_ ?_
            · refine ⟨?_, ?_, ?_, ?_, ?_, ?_, ?_, ?_, ?_, ?_, ?_, ?_, ?_, ?_, trivial⟩
              · intro x w9 hx hg9 hd
                have e0 : x.eval (.tmp 13) = .pointer (some ⟨Wb, 0, none⟩) := (hx.eval (s := 13) (by decide)).trans F13.out
                refine .inl ⟨wanted_noI rfl, ?_⟩
                unfold Oper.wp
                simp only [execOp, e0]
                go_simp
                exact ⟨_, rfl, ⟨rfl⟩, grown_refl _ _⟩
              · intro x w9 hx hg9 hd
                have e0 : x.eval (.tmp 71) = .pointer (some ⟨Wb, 1, none⟩) := (hd 0 (by decide) 71 rfl).h
                refine .inl ⟨wanted_noI rfl, ?_⟩
                unfold Oper.wp
                simp only [execOp, e0]
                go_simp
                exact ⟨_, rfl, ⟨rfl⟩, grown_refl _ _⟩
              · intro x w9 hx hg9 hd
                have e0 : x.eval (.tmp 72) = .pointer (some ⟨Wb, 1, none⟩) := (hd 1 (by decide) 72 rfl).h
                have k1 := hg9.cell X1.out (by simp)
                have k2 := hg9.cell X2.out (by simp)
                refine .inl ⟨wanted_noI rfl, ?_⟩
                unfold Oper.wp
                simp only [execOp, e0]
                go_simp
                exact ⟨_, rfl, ⟨rfl⟩, grown_refl _ _⟩
              · intro x w9 hx hg9 hd
                have e0 : x.eval (.tmp 3) = .pointer (some ⟨H, 0, none⟩) := (hx.eval (s := 3) (by decide)).trans F3.out
                have c0 := hg9.cell C0.out (by simp)
                refine .inl ⟨wanted_noI rfl, ?_⟩
                unfold Oper.wp
                simp only [execOp, e0]
                go_simp
                exact ⟨_, rfl, ⟨rfl⟩, grown_refl _ _⟩
              · intro x w9 hx hg9 hd
                have e0 : x.eval (.tmp 15) = .int .i64 y := (hx.eval (s := 15) (by decide)).trans F15.out
                refine .inl ⟨wanted_noI rfl, ?_⟩
                unfold Oper.wp
                simp only [execOp, e0]
                go_simp
                exact ⟨_, rfl, ⟨rfl⟩, grown_refl _ _⟩
              · intro x w9 hx hg9 hd
                have e0 : x.eval (.tmp 73) = .agg #[.int .u64 (nd.a : Int), .int .u64 0] := (hd 2 (by decide) 73 rfl).h
                have e1 : x.eval (.tmp 74) = .agg #[.slice a n c] := (hd 3 (by decide) 74 rfl).h
                have e2 : x.eval (.tmp 75) = .int .i64 y := (hd 4 (by decide) 75 rfl).h
                refine .inl ⟨wanted_noI rfl, oper_callI 76 41 _ _ _ _ _ _ Try.f41 _ Try.func41 (by kernel_rfl) rfl [StV nd.a, .agg #[.slice a n c], .int .i64 y] (by simp only [List.map_cons, List.map_nil]; rw [e0, e1, e2]; rfl) _ (behind_st nd.a HA64.out _ sa y w9 ⟨⟨_, rfl, HSA.out.same hg9⟩, HGA.out⟩ HA8.out) (fun e w4 hh => ⟨_, hh.1, _, rfl, ⟨?_⟩, hh.2⟩)⟩
                rw [HA'.out]; rfl
              · intro x w9 hx hg9 hd
                have e0 : x.eval (.tmp 13) = .pointer (some ⟨Wb, 0, none⟩) := (hx.eval (s := 13) (by decide)).trans F13.out
                refine .inl ⟨wanted_noI rfl, ?_⟩
                unfold Oper.wp
                simp only [execOp, e0]
                go_simp
                exact ⟨_, rfl, ⟨rfl⟩, grown_refl _ _⟩
              · intro x w9 hx hg9 hd
                have e0 : x.eval (.tmp 77) = .pointer (some ⟨Wb, 1, none⟩) := (hd 6 (by decide) 77 rfl).h
                refine .inl ⟨wanted_noI rfl, ?_⟩
                unfold Oper.wp
                simp only [execOp, e0]
                go_simp
                exact ⟨_, rfl, ⟨rfl⟩, grown_refl _ _⟩
              · intro x w9 hx hg9 hd
                have e0 : x.eval (.tmp 78) = .pointer (some ⟨Wb, 3, none⟩) := (hd 7 (by decide) 78 rfl).h
                have k3 := hg9.cell X3.out (by simp)
                have k4 := hg9.cell X4.out (by simp)
                refine .inl ⟨wanted_noI rfl, ?_⟩
                unfold Oper.wp
                simp only [execOp, e0]
                go_simp
                exact ⟨_, rfl, ⟨rfl⟩, grown_refl _ _⟩
              · intro x w9 hx hg9 hd
                have e0 : x.eval (.tmp 4) = .pointer (some ⟨H + 1, 0, none⟩) := (hx.eval (s := 4) (by decide)).trans F4.out
                have c1 := hg9.cell C1.out (by simp)
                refine .inl ⟨wanted_noI rfl, ?_⟩
                unfold Oper.wp
                simp only [execOp, e0]
                go_simp
                exact ⟨_, rfl, ⟨rfl⟩, grown_refl _ _⟩
              · intro x w9 hx hg9 hd
                have e0 : x.eval (.tmp 15) = .int .i64 y := (hx.eval (s := 15) (by decide)).trans F15.out
                refine .inl ⟨wanted_noI rfl, ?_⟩
                unfold Oper.wp
                simp only [execOp, e0]
                go_simp
                exact ⟨_, rfl, ⟨rfl⟩, grown_refl _ _⟩
              · intro x w9 hx hg9 hd
                have e0 : x.eval (.tmp 79) = .agg #[.int .u64 (nd.b : Int), .int .u64 0] := (hd 8 (by decide) 79 rfl).h
                have e1 : x.eval (.tmp 80) = .agg #[.slice b m k] := (hd 9 (by decide) 80 rfl).h
                have e2 : x.eval (.tmp 81) = .int .i64 y := (hd 10 (by decide) 81 rfl).h
                refine .inl ⟨wanted_noI rfl, oper_callI 82 41 _ _ _ _ _ _ Try.f41 _ Try.func41 (by kernel_rfl) rfl [StV nd.b, .agg #[.slice b m k], .int .i64 y] (by simp only [List.map_cons, List.map_nil]; rw [e0, e1, e2]; rfl) _ (behind_st nd.b HB64.out _ sb y w9 ⟨⟨_, rfl, HSB.out.same hg9⟩, HGB.out⟩ HB8.out) (fun e w4 hh => ⟨_, hh.1, _, rfl, ⟨?_⟩, hh.2⟩)⟩
                rw [HB'.out]; rfl
              · intro x w9 hx hg9 hd
                have e0 : x.eval (.tmp 76) = .agg #[.int .u64 (a' : Int), .int .u64 0] := (hd 5 (by decide) 76 rfl).h
                have e1 : x.eval (.tmp 82) = .agg #[.int .u64 (b' : Int), .int .u64 0] := (hd 11 (by decide) 82 rfl).h
                refine .inl ⟨wanted_noI rfl, ?_⟩
                unfold Oper.wp
                simp only [execOp]
                simp only [List.map_toArray, List.map_cons, List.map_nil, e0, e1]
                go_simp
                exact ⟨_, rfl, ⟨rfl⟩, grown_refl _ _⟩
              · intro x w9 hx hg9 hd
                refine .inl ⟨wanted_noI rfl, ?_⟩
                unfold Oper.wp
                simp only [execOp]
                go_simp
                exact ⟨_, rfl, ⟨⟨w9.heap.size, rfl, hg9.size, heap_new _ rfl⟩⟩, World.grownBy_alloc _ _ none⟩
            · intro vs N w9 hg9 hN hbN e13
              simp only [List.dropLast, putAll, Nat.reduceAdd, e13]
              rw [HFR.out]
              have HG9 := Lib.hid hg9
              have HBN := Lib.hid hbN
              have HNW := Lib.hid hN
              clear hg9 hbN hN e13
              have HI9 := Lib.hid (hI.out.same HG9.out)
              have HK9 := Lib.hid (hK.out.same HG9.out)
              have HGG := Lib.hid (grown_trans hg.out HG9.out)
              have k0 := (word_cells HK9.out.box).1
              dsimp only at k0
              obtain ⟨Y, hY⟩ : ∃ Y, w9.heap.size = Y := ⟨_, rfl⟩
              obtain ⟨wz, hwz⟩ : ∃ wz, wz = (w9.alloc (.cells #[.int .i64 y] 3)).alloc (.cells #[.slice la nd.w.length lc, .slice (some ⟨Y, 0, none⟩) 1 1] 30) := ⟨_, rfl⟩
              have HZ : Hid (w9.grownBy wz none) := Lib.hid (by rw [hwz]; exact grown_aft2 (World.grownBy_alloc _ _ _))
              have HRW : Hid (RowsP wz (.slice (some ⟨Y + 1, 0, none⟩) 2 2) [(.slice la nd.w.length lc, nd.w), (.slice (some ⟨Y, 0, none⟩) 1 1, [y])]) := Lib.hid (rows_two ((HI9.out.lab (.slice la nd.w.length lc, nd) (by simp)).kept HZ.out (by simp)) (HI9.out.lb (.slice la nd.w.length lc, nd) (by simp)) HYB.out (by rw [hwz]; exact heap_old _ (heap_new _ hY.symm)) (by rw [hwz]; exact heap_new _ (by show _ = (w9.heap.push _).size; simp [hY])))
              have HWZ := Lib.hid hwz
              clear hwz hI hK hg
              go_simp
              go_wp2_with fail
              rw [← HWZ.out]
              clear k0 hY
              refine (concat_any _ _ wz HRW.out (by show (nd.w ++ ([y] ++ [])).length ≤ _; have h1 := HLM.out; have h2 := HM16.out; simp; omega)).mono ?_
              rintro e w10 ⟨v10, rfl, hown, hg10⟩
              have hown2 : OwnI w10 wz.heap.size v10 (nd.w ++ [y]) := hown
              obtain ⟨va10, vc10, hv10⟩ := own_slice hown2
              subst hv10
              have HZ10 := Lib.hid (grown_trans HZ.out hg10)
              have HV10 : Hid (OwnI w10 w3.heap.size (.slice va10 (nd.w ++ [y]).length vc10) (nd.w ++ [y])) := Lib.hid (own_base hown2 (by
                have h1 := GG.out.size; have h2 := HGG.out.size; have h3 := HZ.out.size
                omega))
              have HI10 := Lib.hid (HI9.out.same HZ10.out)
              have HK10 := Lib.hid (HK9.out.same HZ10.out)
              have HGG10 := Lib.hid (grown_trans HGG.out HZ10.out)
              have HBN10 : Hid (w10.heap[N]? = some (.cells #[.int .u64 (a' : Int), .int .u64 0, .int .u64 (b' : Int), .int .u64 0] 87 (0, 0))) := Lib.hid ((HZ10.out.block N (Array.getElem?_eq_some_iff.1 HBN.out).1 (by simp)).trans HBN.out)
              obtain ⟨n0, n1, n2, n3⟩ := met_cells HBN10.out
              clear hown hown2 hg10
              obtain ⟨nl, hnl⟩ : ∃ nl, (nd.w ++ [y]).length = nl := ⟨_, rfl⟩
              have HNL := Lib.hid hnl
              rw [hnl] at HV10 ⊢
              clear hnl
              by_cases hb0 : b' = 0
              · have heq : ∀ W, (binOp .eql 76 (.agg #[.int .u64 (b' : Int), .int .u64 0]) (.agg #[.int .u64 0, .int .u64 0])).run Try.prog W = .ok (.bool true) W := fun W => by rw [eql_runS, decide_eq_true hb0]
                have HT : Hid (TrR (sa.map Prod.snd) (sb.map Prod.snd) most (nd.w ++ [y]) true) := Lib.hid (HI10.out.bfs.found HI10.out.at HL.out HYL.out HYU.out (by show behN _ nd.b y = 0; rw [HB'.out]; exact hb0) HLM.out)
                have HGE := Lib.hid (grown_trans GG.out HGG10.out)
                have HIR : Hid (IntsR w10 (.slice va10 nl vc10) (nd.w ++ [y])) := Lib.hid (own_ints HV10.out (by rw [List.length_append]; have h1 := HLM.out; have h2 := HM16.out; simp; omega))
                clear hb0
                go_wp2_with fail
                go_ret3
                exact ⟨_, nd.w ++ [y], true, rfl, HIR.out, HT.out, HGE.out⟩
              · have heq : ∀ W, (binOp .eql 76 (.agg #[.int .u64 (b' : Int), .int .u64 0]) (.agg #[.int .u64 0, .int .u64 0])).run Try.prog W = .ok (.bool false) W := fun W => by rw [eql_runS, decide_eq_false hb0]
                have HB0 := Lib.hid hb0
                have HA0 : Hid (a' ≠ 0) := Lib.hid (by rw [← HA'.out]; exact HAB.out)
                have ha256 : a' < 256 := by rw [← HA'.out]; exact beh_lt HVA.out (by have := HA6.out; omega) _ _
                have hb256 : b' < 256 := by rw [← HB'.out]; exact beh_lt HVB.out (by have := HB6.out; omega) _ _
                have HA256 := Lib.hid ha256; have HB256 := Lib.hid hb256
                clear hb0 ha256 hb256
                by_cases hmem : (a', b') ∈ pairs E
                · have HMEM := Lib.hid (decide_eq_true hmem)
                  have HI11 : Hid (TrI w3 w10 (F + 1) (sa.map Prod.snd) (sb.map Prod.snd) E p (L.take (t + 1)) _ ((.slice la nd.w.length lc, nd) :: rest)) := Lib.hid (by
                    rw [HTK.out]
                    exact HI10.out.old HYD.out (by show behN _ nd.b y ≠ 0; rw [HB'.out]; exact HB0.out) (by show (behN _ nd.a y, behN _ nd.b y) ∈ _; rw [HA'.out, HB'.out]; exact hmem))
                  clear hmem
                  have htb : t ≤ 1000000 := by have := HLN.out; omega
                  go_wp2_with (refine wpList_seen_look rfl _ _ rfl (F + 1) (pairs E) rfl a' b' rfl HI10.out.seen HA256.out HB256.out ?_; rw [HMEM.out])
                  go_roundw
                  case rel => exact ⟨t + 1, E, rest, by go_num, by omega, HI11, HK10, hS, HGG10⟩
                  case measure => simp [intOf]; omega
                · have HNM := Lib.hid hmem
                  have HMEM := Lib.hid (decide_eq_false hmem)
                  have HPS : Hid ((pairs E).length ≤ 1000000) := Lib.hid (by have := (HI10.out.bfs.small HVA.out HVB.out HA6.out HB6.out).1; simp [pairs]; omega)
                  have hps : ¬ (4096 : Int) ≤ ((pairs E).length : Int) := by have := (HI10.out.bfs.small HVA.out HVB.out HA6.out HB6.out).1; simp [pairs]; omega
                  have HRL : Hid (((.slice la nd.w.length lc, nd) :: rest : List Qe).length ≤ 1000000) := Lib.hid (by
                    have h1 := congrArg List.length HI10.out.qe
                    have h2 := (HI10.out.bfs.small HVA.out HVB.out HA6.out HB6.out).1
                    rw [List.length_map, List.length_drop] at h1
                    omega)
                  have HNF : Hid (some N ≠ some (F + 1)) := Lib.hid (fun e => by
                    have e2 : N = F + 1 := Option.some.inj e
                    obtain ⟨es, clock, hmap⟩ := seen_heap HI10.out.seen
                    rw [← e2, HBN10.out] at hmap
                    cases hmap)
                  have htb : t ≤ 1000000 := by have := HLN.out; omega
                  clear hmem
                  go_wp2_with (first | (refine wpList_seen_look rfl _ _ rfl (F + 1) (pairs E) rfl a' b' rfl HI10.out.seen HA256.out HB256.out ?_; rw [HMEM.out]) | (refine wpList_seen_len rfl _ rfl (F + 1) (pairs E) rfl HI10.out.seen ?_) | (refine wpList_seen_put rfl _ _ _ rfl (F + 1) (pairs E) rfl a' b' rfl rfl HI10.out.seen HA256.out HB256.out HNM.out HPS.out ?_; intro w11 hs11 hg11; have HS11 := Lib.hid hs11; have HG11 := Lib.hid hg11; obtain ⟨m0, m1, m2, m3⟩ := met_cells ((hg11.block N (Array.getElem?_eq_some_iff.1 HBN10.out).1 HNF.out).trans HBN10.out); have HQ11 := Lib.hid (HI10.out.q.kept hg11 (HI10.out.q.not_map HI10.out.seen)); clear hs11 hg11) | (at_builtin; refine app_word rfl _ _ rfl w3.heap.size _ ((.slice la nd.w.length lc, nd) :: rest) rfl (HQ11.out.same (World.grownBy_alloc _ _ none)) w11.heap.size (.slice va10 nl vc10, ⟨nd.w ++ [y], a', b'⟩) rfl (heap_new _ rfl) rfl HRL.out (by have h1 := GG.out.size; have h2 := HGG10.out.size; have h3 := HG11.out.size; show _ ≤ (w11.heap.push _).size; simp; omega) ?_; intro v12 w12 hq12 hg12 hf12; have HQ12 := Lib.hid hq12; have HG12 := Lib.hid hg12; have HF12 := Lib.hid hf12; clear hq12 hg12 hf12))
                  have HI12 : Hid (TrI w3 w12 (F + 1) (sa.map Prod.snd) (sb.map Prod.snd) (E ++ [⟨nd.w ++ [y], a', b'⟩]) p (L.take (t + 1)) v12 ((.slice la nd.w.length lc, nd) :: (rest ++ [(.slice va10 nl vc10, ⟨nd.w ++ [y], a', b'⟩)]))) := Lib.hid (by
                    rw [HTK.out]
                    exact push2 HI10.out HA'.out HB'.out HYD.out HA0.out HB0.out HNM.out HS11.out HG11.out (World.grownBy_alloc _ _ none) HQ12.out HG12.out HV10.out HYB.out)
                  have HK12 : Hid (KpI w12 Wb (.slice la nd.w.length lc, nd) (.slice (some ⟨lb, lo, none⟩) L.length lcap) L) := Lib.hid (((HK10.out.kept HG11.out HSM.out).same (World.grownBy_alloc _ _ none)).kept HG12.out hS.out)
                  have HS12 : Hid (Safe Wb (.slice (some ⟨lb, lo, none⟩) L.length lcap) v12.ownBlock) := Lib.hid (by
                    rcases HF12.out with e | e
                    · rw [e]; exact hS.out
                    · have h1 := (Array.getElem?_eq_some_iff.1 HK10.out.box).1
                      have h2 := HLBS.out; have h3 := HG9.out.size; have h4 := HZ10.out.size; have h5 := HG11.out.size
                      have h6 : ∀ g, v12.ownBlock = some g → w11.heap.size ≤ g := fun g hg => by
                        have := e g hg
                        have h7 : (w11.heap.push _).size ≤ g := this
                        simp at h7
                        omega
                      refine ⟨fun e2 => ?_, fun q hq e2 => ?_⟩
                      · have := h6 Wb e2; omega
                      · have := h6 q hq
                        have e3 : lb = q := Option.some.inj e2
                        omega)
                  have HGG12 : Hid (w3.grownBy w12 none) := Lib.hid (by
                    have hl := HQ11.out.low
                    have h1 := GG.out.size
                    have h2 := HF7.out
                    refine grown_then (grown_then (grown_then HGG10.out HG11.out (by rintro j ⟨⟩; exact .inl (by omega))) (World.grownBy_alloc _ _ none) (by simp)) HG12.out (fun j hj => ?_)
                    exact .inl (hl j hj).1)
                  go_wp2_with fail
                  go_roundw
                  case rel => exact ⟨t + 1, _, _, by go_num, by omega, HI12, HK12, HS12, HGG12⟩
                  case measure => simp [intOf]; omega
          · have hti : ¬ (t : Int) < (L.length : Int) := by omega
            have HI2 : Hid (TrI w3 wj (F + 1) (sa.map Prod.snd) (sb.map Prod.snd) E p L _ ((.slice la nd.w.length lc, nd) :: rest)) := Lib.hid (by have := hI.out; rwa [List.take_of_length_le (by omega)] at this)
            obtain ⟨b1, o1, cap1, hqv, hcap, -, -, -, -, -, hpop⟩ := HI2.out.q.front
            have HI3 := Lib.hid (HI2.out.pop HL.out hpop)
            obtain ⟨q1, hq1⟩ : ∃ q1, rest.length = q1 := ⟨_, rfl⟩
            rw [hq1] at hqv hcap
            have HQ1 := Lib.hid hq1
            have h1 : (1 : Int) ≤ (cap1 : Int) := by omega
            subst hqv
            clear hpop hq1 HI2
            by_cases hc1 : cap1 = 1
            · subst hc1
              obtain rfl : q1 = 0 := by omega
              have HI4 : Hid (TrI w3 wj (F + 1) (sa.map Prod.snd) (sb.map Prod.snd) E (p + 1) [] (.slice (some ⟨b1, o1, none⟩) 0 0) rest) := Lib.hid (by
                have := HI3.out
                rw [HQ1.out] at this
                exact this)
              clear HI3
              go_wp2_with fail
              go_roundg (gk - 1)
              case measure => (have := HPL.out; omega)
              case rel => exact ⟨E, p + 1, rest, by have := HPL.out; omega, HI4, hg⟩
            · have HI4 : Hid (TrI w3 wj (F + 1) (sa.map Prod.snd) (sb.map Prod.snd) E (p + 1) [] (.slice (some ⟨b1, o1 + 5, none⟩) q1 (cap1 - 1)) rest) := Lib.hid (by
                have := HI3.out
                rw [HQ1.out, if_neg hc1] at this
                exact this)
              clear HI3
              go_wp2_with fail
              go_roundg (gk - 1)
              case measure => (have := HPL.out; omega)
              case rel => exact ⟨E, p + 1, rest, by have := HPL.out; omega, HI4, hg⟩
      · have hlmi : ¬ (nd.w.length : Int) < (most : Int) := by omega
        have HT : Hid (TrR (sa.map Prod.snd) (sb.map Prod.snd) most [] false) := Lib.hid (hI.out.bfs.fin (fun i r hi hp => by
          by_cases e : p = i
          · subst e
            have h3 := HAT.out
            rw [h3] at hi
            cases hi
            omega
          · have h3 := hI.out.bfs.lt_of HAT.out hi (by omega)
            rcases h3 with h3 | ⟨h3, -⟩ <;> omega))
        have HGE := Lib.hid (grown_trans GG.out hg.out)
        clear c0 c1
        go_wp2_with fail
        go_ret3
        exact ⟨_, [], false, rfl, ⟨none, 0, rfl, Nat.zero_le _, .inl rfl⟩, HT.out, HGE.out⟩
end Go.Proofs.Ytelpkcndbcfaiaa
