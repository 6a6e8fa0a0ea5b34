/- LimitSets: for every input the statement answers true (union and intersection are those of the sets, and inclusion is). No condition. -/
import Derived.Test.YtahffjoehjpfkaaZp
import Derived.Deep.Matrix
namespace Go.Proofs.Ytahffjoehjpfkaa
open Go.ChangeShapes Go.WideShapes Go.ChangeAt Go.RowKit Go.Deep
set_option linter.unusedVariables false

theorem asc_nodup {K : List (List Int)} (h : Asc K) : K.Nodup := by
  refine List.Pairwise.imp ?_ h
  rintro a b hab rfl
  rw [lexI_self] at hab
  revert hab
  decide
theorem nodup_sub : ∀ {A B : List (List Int)}, A.Nodup → (∀ x ∈ A, x ∈ B) → A.length ≤ B.length
  | [], _, _, _ => by simp
  | a :: A, B, h, hs => by
    rw [List.nodup_cons] at h
    obtain ⟨s, t, rfl⟩ := List.append_of_mem (hs a (by simp))
    have := nodup_sub (A := A) (B := s ++ t) h.2 (fun x hx => by
      have h5 := hs x (by simp [hx])
      rw [List.mem_append, List.mem_cons] at h5
      rw [List.mem_append]
      rcases h5 with h5 | h5 | h5
      · exact .inl h5
      · subst h5; exact absurd hx h.1
      · exact .inr h5)
    simp only [List.length_append, List.length_cons] at this ⊢
    omega
theorem under_any {K : List (List Int)} {z : List Int} : Under leqI K z ↔ K.any (leqI z) = true := by
  rw [List.any_eq_true]
  exact Iff.rfl
theorem under_of {n : Nat} {l K : List (List Int)} (hn : ∀ v ∈ l, v.length = n) (h : Tops leqI l K) (hex : ∀ v ∈ l, ∃ u, Top leqI l u ∧ leqI v u = true) {z : List Int} (hz : z.length = n) : K.any (leqI z) = true ↔ Under leqI l z :=
  under_any.symm.trans (h.under (ord_leq n) hn hz hex)
theorem or_eq {X Y U : Bool} (h : U = true ↔ X = true ∨ Y = true) : U = (X || Y) := by cases X <;> cases Y <;> cases U <;> simp_all
theorem and_eq {X Y U : Bool} (h : U = true ↔ X = true ∧ Y = true) : U = (X && Y) := by cases X <;> cases Y <;> cases U <;> simp_all
theorem imp_eq {X Y S : Bool} (h : S = true → X = true → Y = true) : X = true → Y = false → S = false := by cases X <;> cases Y <;> cases S <;> simp_all
theorem small_fin {n : Nat} {z : List Int} (hn : n ≤ 6) (hl : z.length = n) (h : ∀ x ∈ z, 0 ≤ x ∧ x ≤ 5) : finiteB z = true := by
  unfold finiteB
  simp only [Bool.and_eq_true, decide_eq_true_eq, List.all_eq_true]
  refine ⟨by omega, fun x hx => ?_⟩
  have := h x hx
  unfold numB
  simp only [Bool.and_eq_true, decide_eq_true_eq]
  omega
def SmallTo (n : Nat) (w0 w : World) (p : Value) (d : Nat) (e : Ending) (w' : World) : Prop :=
  ∃ (a : Option Addr) (c : Nat) (us : List Int), e = .returned (.slice a us.length c) ∧ us.length = n ∧ finiteB us = true ∧ RowOk w' (.slice a us.length c, us) ∧ St w0 w' p d ∧ w.grownBy w' (some d)
theorem small5 {w0 w : World} {p : Value} {d : Nat} (h : St w0 w p d) (n : Nat) (h1 : n ≤ 6) :
    Calls Try.prog 14 #[p, .int .i64 n, .int .i64 5] w (SmallTo n w0 w p d) :=
  (small_any p d n 5 w h.1 (by omega) (by omega) (by omega)).mono fun e w' ⟨v, xs, he, hl, hp, ho, hd, hg⟩ => by
    obtain ⟨a, c, rfl⟩ := ownI_sl' ho
    have hl' : xs.length = n := by simpa using hl
    exact ⟨a, c, xs, he, hl', small_fin h1 hl' hp, ho.row (by intro x hx; have := hp x hx; omega), h.deal hd hg, hg⟩

set_option maxRecDepth 100000 in
set_option maxHeartbeats 4000000 in
theorem walkLimitSets (a0 : Option Addr) (len0 cap0 : Nat) (z0 : List Int) (w : World) (w0 : IsRow .i64 w a0 len0 cap0 z0) :
    Calls Try.prog 5 #[.slice a0 len0 cap0] w fun e w' => e = .returned (.bool true) ∧ Below w.heap.size w w' := by
  obtain ⟨hI, hlen⟩ := w0.ints
  generalize z0.take len0 = zs at hI hlen
  subst hlen
  have HI := Lib.hid hI
  clear hI w0
  by_cases hfew : (zs.length : Int) ≤ 400
  case neg =>
    go_enter Try.func5, Try.ntmps5
    go_wp2_with fail
    refine (awake08_any _).mono ?_
    rintro e w1 ⟨rfl, hg⟩
    have HG := Lib.hid hg
    clear hg
    go_wp2_with fail
    refine (few_any _ _ _ _).mono ?_
    rintro e w2 ⟨rfl, rfl⟩
    rw [decide_eq_false (by omega)]
    go_wp2_with fail
    refine (awake08_any _).mono ?_
    rintro e w9 ⟨rfl, hg⟩
    have HGX := Lib.hid (grown_trans HG.out hg)
    clear hg
    go_wp2_with fail
    go_ret
    exact ⟨rfl, below_of HGX.out⟩
  go_enter Try.func5, Try.ntmps5
  go_wp2_with fail
  refine (awake08_any _).mono ?_
  rintro e w1 ⟨rfl, hg⟩
  have HG := Lib.hid hg
  clear hg
  go_wp2_with fail
  refine (few_any _ _ _ _).mono ?_
  rintro e w2 ⟨rfl, rfl⟩
  rw [decide_eq_true hfew]
  go_wp2_with fail
  refine (new_st (HI.out.same HG.out) HG.out).mono ?_
  rintro e w6 ⟨p, d, rfl, hs⟩
  have HS := Lib.hid hs
  clear hs
  go_wp2_with fail
  refine (next_st HS.out _ (by omega) (by omega)).mono ?_
  rintro e w7 ⟨y, rfl, hy0, hy1, hs, hg⟩
  replace HS := Lib.hid hs
  clear hs hg
  obtain ⟨m, hm⟩ : ∃ m : Nat, 1 + y = (m : Int) := ⟨(1 + y).toNat, by omega⟩
  have hm1 : 1 ≤ m := by omega
  have hm2 : m ≤ 5 := by omega
  have im : IntKind.i64.wrap (1 + y) = (m : Int) := by rw [hm]; exact IntWalk.i64_in _ (by omega)
  clear hm hy0 hy1
  go_wp2_with fail
  refine (vectors_ev HS.out m 4 (by omega) (by omega) (by omega)).mono ?_
  rintro e w11 ⟨v1, p1, rfl, hev, hgd, hpl, hpn, hs, hg⟩

  replace HS := Lib.hid hs
  have EV1 := Lib.hid hev; have GD1 := Lib.hid hgd; have PL1 := Lib.hid hpl; have PN1 := Lib.hid hpn
  obtain ⟨a1, c1, rfl⟩ : ∃ a c, v1 = .slice a p1.length c := by obtain ⟨a, c, h, -⟩ := hev.at; exact ⟨a, c, h⟩
  clear hev hgd hpl hpn hs hg
  go_wp2_with fail
  refine (maximise_any m _ p1 _ EV1.out.at GD1.out (by omega) (by omega) (by have := PL1.out; omega) PN1.out).mono ?_
  rintro e w12 ⟨u1, q1, rfl, hr, hgq, hg, hnew, ht, hk, hex⟩
  have hlt := HS.out.lt

  replace HS := Lib.hid (HS.out.step hg)
  have E1 := Lib.hid (ev_rows hr hnew hlt); have Q1 := Lib.hid hgq; have T1 := Lib.hid ht; have K1 := Lib.hid hk; have X1 := Lib.hid hex
  obtain ⟨b1, d1, rfl⟩ : ∃ a c, u1 = .slice a q1.length c := by obtain ⟨a, c, h, -⟩ := hr; exact ⟨a, c, h⟩
  clear hr hgq hg hnew ht hk hex hlt
  have PLL1 : Hid (q1.length ≤ 4) := Lib.hid (by
    have h5 : (q1.map Prod.snd).length ≤ (p1.map Prod.snd).length := nodup_sub (asc_nodup T1.out.1) (fun x hx => ((T1.out.2 x).1 hx).1)
    have := PL1.out
    simp only [List.length_map] at h5
    omega)
  clear PL1 EV1 GD1
  clear im
  go_wp2_with fail
  refine (vectors_ev HS.out m 4 (by omega) (by omega) (by omega)).mono ?_
  rintro e w21 ⟨v2, p2, rfl, hev, hgd, hpl, hpn, hs, hg⟩
  replace E1 := Lib.hid (E1.out.deal hg)
  replace HS := Lib.hid hs
  have EV2 := Lib.hid hev; have GD2 := Lib.hid hgd; have PL2 := Lib.hid hpl; have PN2 := Lib.hid hpn
  obtain ⟨a2, c2, rfl⟩ : ∃ a c, v2 = .slice a p2.length c := by obtain ⟨a, c, h, -⟩ := hev.at; exact ⟨a, c, h⟩
  clear hev hgd hpl hpn hs hg
  go_wp2_with fail
  refine (maximise_any m _ p2 _ EV2.out.at GD2.out (by omega) (by omega) (by have := PL2.out; omega) PN2.out).mono ?_
  rintro e w22 ⟨u2, q2, rfl, hr, hgq, hg, hnew, ht, hk, hex⟩
  have hlt := HS.out.lt
  replace E1 := Lib.hid (E1.out.step hg)
  replace HS := Lib.hid (HS.out.step hg)
  have E2 := Lib.hid (ev_rows hr hnew hlt); have Q2 := Lib.hid hgq; have T2 := Lib.hid ht; have K2 := Lib.hid hk; have X2 := Lib.hid hex
  obtain ⟨b2, d2, rfl⟩ : ∃ a c, u2 = .slice a q2.length c := by obtain ⟨a, c, h, -⟩ := hr; exact ⟨a, c, h⟩
  clear hr hgq hg hnew ht hk hex hlt
  have PLL2 : Hid (q2.length ≤ 4) := Lib.hid (by
    have h5 : (q2.map Prod.snd).length ≤ (p2.map Prod.snd).length := nodup_sub (asc_nodup T2.out.1) (fun x hx => ((T2.out.2 x).1 hx).1)
    have := PL2.out
    simp only [List.length_map] at h5
    omega)
  clear PL2 EV2 GD2
  go_wp2_with fail
  refine (union_any m _ _ q1 q2 _ E1.out.at Q1.out K1.out E2.out.at Q2.out K2.out (by have := PLL1.out; have := PLL2.out; omega)).mono ?_
  rintro e w32 ⟨u3, q3, rfl, hr, hgq, hg, hnew, ht, hk, hex⟩
  have hlt := HS.out.lt
  replace E1 := Lib.hid (E1.out.step hg); replace E2 := Lib.hid (E2.out.step hg)
  replace HS := Lib.hid (HS.out.step hg)
  have E3 := Lib.hid (ev_rows hr hnew hlt); have Q3 := Lib.hid hgq; have T3 := Lib.hid ht; have K3 := Lib.hid hk; have X3 := Lib.hid hex
  obtain ⟨b3, d3, rfl⟩ : ∃ a c, u3 = .slice a q3.length c := by obtain ⟨a, c, h, -⟩ := hr; exact ⟨a, c, h⟩
  clear hr hgq hg hnew ht hk hex hlt
  go_wp2_with fail
  refine (intersect_any m _ _ q1 q2 _ E1.out.at Q1.out K1.out E2.out.at Q2.out K2.out (by
    have h5 : q1.length * q2.length ≤ 4 * 4 := Nat.mul_le_mul PLL1.out PLL2.out
    omega)).mono ?_
  rintro e w42 ⟨u4, q4, rfl, hr, hgq, hg, hnew, ht, hk, hex⟩
  have hlt := HS.out.lt
  replace E1 := Lib.hid (E1.out.step hg); replace E2 := Lib.hid (E2.out.step hg); replace E3 := Lib.hid (E3.out.step hg)
  replace HS := Lib.hid (HS.out.step hg)
  have E4 := Lib.hid (ev_rows hr hnew hlt); have Q4 := Lib.hid hgq; have T4 := Lib.hid ht; have K4 := Lib.hid hk; have X4 := Lib.hid hex
  obtain ⟨b4, d4, rfl⟩ : ∃ a c, u4 = .slice a q4.length c := by obtain ⟨a, c, h, -⟩ := hr; exact ⟨a, c, h⟩
  clear hr hgq hg hnew ht hk hex hlt
  have HLA : Hid (∀ x ∈ q1.map Prod.snd, x.length = m) := Lib.hid (fun x hx => (K1.out.rows x hx).1)
  have HLB : Hid (∀ x ∈ q2.map Prod.snd, x.length = m) := Lib.hid (fun x hx => (K2.out.rows x hx).1)
  have HU : Hid (∀ z : List Int, z.length = m → ((q3.map Prod.snd).any (leqI z) = true ↔ (q1.map Prod.snd).any (leqI z) = true ∨ (q2.map Prod.snd).any (leqI z) = true)) := Lib.hid (fun z hz => by
    rw [under_of (n := m) (fun v hv => by rcases List.mem_append.1 hv with h5 | h5; exact HLA.out v h5; exact HLB.out v h5) T3.out X3.out hz, Under.append, under_any, under_any])
  have HN : Hid (∀ z : List Int, z.length = m → ((q4.map Prod.snd).any (leqI z) = true ↔ (q1.map Prod.snd).any (leqI z) = true ∧ (q2.map Prod.snd).any (leqI z) = true)) := Lib.hid (fun z hz => by
    rw [under_of (n := m) (fun v hv => by
      obtain ⟨x, hx, h5⟩ := List.mem_flatMap.1 hv
      obtain ⟨u, hu, rfl⟩ := List.mem_map.1 h5
      exact minV_len (HLA.out x hx) (HLB.out u hu)) T4.out X4.out hz, Under.meet (n := m) HLA.out HLB.out hz, under_any, under_any])
  clear T1 T2 T3 T4 X1 X2 X3 X4 PN1 PN2
  go_wp2_with fail
  go_loopw [13] (fun i wr => ∃ k : Nat, i = .int .i64 k ∧ k ≤ 10 ∧ Hid (Ev d (fun W => RowsP W (.slice b1 q1.length d1) q1) wr) ∧ Hid (Ev d (fun W => RowsP W (.slice b2 q2.length d2) q2) wr) ∧ Hid (Ev d (fun W => RowsP W (.slice b3 q3.length d3) q3) wr) ∧ Hid (Ev d (fun W => RowsP W (.slice b4 q4.length d4) q4) wr) ∧ Hid (St w wr p d)) (fun i _ => 10 - (intOf i).toNat)
  case atStart => exact ⟨0, rfl, by omega, E1, E2, E3, E4, HS⟩
  case round =>
    clear E1 E2 E3 E4 HS
    obtain ⟨k, rfl, hk, E1, E2, E3, E4, HS⟩ := hrel
    rename World => wk
    by_cases hk10 : k < 10
    · have g1 : (k : Int) < 10 := by omega
      have i1 : IntKind.i64.wrap ((k : Int) + 1) = (k : Int) + 1 := IntWalk.i64_in _ (by omega)
      go_wp2_with fail
      refine (small5 HS.out m (by omega)).mono ?_
      rintro e w50 ⟨az, cz, z, rfl, hzl, hzf, hzr, hs, hg⟩
      replace E1 := Lib.hid (E1.out.deal hg); replace E2 := Lib.hid (E2.out.deal hg); replace E3 := Lib.hid (E3.out.deal hg); replace E4 := Lib.hid (E4.out.deal hg)
      replace HS := Lib.hid hs
      have ZL := Lib.hid hzl; have ZF := Lib.hid hzf; have ZR := Lib.hid hzr
      have HU1 := Lib.hid (HU.out z hzl); have HN1 := Lib.hid (HN.out z hzl)
      have G0 := Lib.hid (grown_refl w50 none)
      clear hzl hzf hzr hs hg
      have HSB : Hid (q1.all (fun p => q2.any (fun q => leqI p.2 q.2)) = true → (q1.map Prod.snd).any (leqI z) = true → (q2.map Prod.snd).any (leqI z) = true) := Lib.hid (fun hall hx => by
        obtain ⟨u, hu, hzu⟩ := List.any_eq_true.1 hx
        obtain ⟨r, hr, rfl⟩ := List.mem_map.1 hu
        have h5 := List.all_eq_true.1 hall r hr
        obtain ⟨s, hs, h6⟩ := List.any_eq_true.1 h5
        refine List.any_eq_true.2 ⟨s.2, List.mem_map_of_mem hs, ?_⟩
        exact leqI_trans z r.2 s.2 (ZL.out.trans (HLA.out _ (List.mem_map_of_mem hr)).symm) ((HLA.out _ (List.mem_map_of_mem hr)).trans (HLB.out _ (List.mem_map_of_mem hs)).symm) hzu h6)
      obtain ⟨BX, hBX⟩ : ∃ B, (q1.map Prod.snd).any (leqI z) = B := ⟨_, rfl⟩
      obtain ⟨BY, hBY⟩ : ∃ B, (q2.map Prod.snd).any (leqI z) = B := ⟨_, rfl⟩
      obtain ⟨BU, hBU⟩ : ∃ B, (q3.map Prod.snd).any (leqI z) = B := ⟨_, rfl⟩
      obtain ⟨BN, hBN⟩ : ∃ B, (q4.map Prod.snd).any (leqI z) = B := ⟨_, rfl⟩
      obtain ⟨BS, hBS⟩ : ∃ B, q1.all (fun p => q2.any (fun q => leqI p.2 q.2)) = B := ⟨_, rfl⟩
      have FU := HU1.out; have FN := HN1.out; have FS := HSB.out
      rw [hBX, hBY, hBU] at FU
      rw [hBX, hBY, hBN] at FN
      rw [hBX, hBY, hBS] at FS
      have RX := Lib.hid hBX; have RY := Lib.hid hBY; have RU := Lib.hid hBU; have RN := Lib.hid hBN; have RS := Lib.hid hBS
      clear hBX hBY hBU hBN hBS HU1 HN1 HSB
      have hU := or_eq FU
      have hN := and_eq FN
      have hS := imp_eq FS
      subst hU hN
      have HSS := Lib.hid hS
      clear FU FN FS hS
      go_wp2_with fail
      refine (has_any m _ _ q1 z _ (E1.out.on G0.out) Q1.out K1.out (ZR.out.same G0.out) ZL.out ZF.out).mono ?_
      rintro e w51 ⟨rfl, hg⟩
      rw [snd_any q1 (leqI z), RX.out]
      replace G0 := Lib.hid (grown_trans G0.out hg)
      clear hg
      go_wp2_with fail
      refine (has_any m _ _ q2 z _ (E2.out.on G0.out) Q2.out K2.out (ZR.out.same G0.out) ZL.out ZF.out).mono ?_
      rintro e w52 ⟨rfl, hg⟩
      rw [snd_any q2 (leqI z), RY.out]
      replace G0 := Lib.hid (grown_trans G0.out hg)
      clear hg
      cases BX <;> cases BY
      all_goals
        go_wp2_with fail
        refine (has_any m _ _ q3 z _ (E3.out.on G0.out) Q3.out K3.out (ZR.out.same G0.out) ZL.out ZF.out).mono ?_
        rintro e w53 ⟨rfl, hg⟩
        rw [snd_any q3 (leqI z), RU.out]
        replace G0 := Lib.hid (grown_trans G0.out hg)
        clear hg
        go_wp2_with fail
        refine (has_any m _ _ q4 z _ (E4.out.on G0.out) Q4.out K4.out (ZR.out.same G0.out) ZL.out ZF.out).mono ?_
        rintro e w54 ⟨rfl, hg⟩
        rw [snd_any q4 (leqI z), RN.out]
        replace G0 := Lib.hid (grown_trans G0.out hg)
        clear hg
        go_wp2_with fail
        refine (subset_any m _ _ q1 q2 _ (E1.out.on G0.out) Q1.out K1.out (E2.out.on G0.out) Q2.out K2.out).mono ?_
        rintro e w55 ⟨rfl, hg⟩
        rw [RS.out]
        replace G0 := Lib.hid (grown_trans G0.out hg)
        clear hg
      all_goals (first | (have h9 : BS = false := HSS.out (by decide) (by decide); subst h9) | (clear HSS; cases BS))
      all_goals
        go_wp2_with fail
        have hg := G0.out
        replace E1 := Lib.hid (E1.out.step hg); replace E2 := Lib.hid (E2.out.step hg); replace E3 := Lib.hid (E3.out.step hg); replace E4 := Lib.hid (E4.out.step hg); replace HS := Lib.hid (HS.out.step hg)
        clear hg
        go_roundw
        case rel => exact ⟨k + 1, by go_num, by omega, E1, E2, E3, E4, HS⟩
        case measure => (simp [intOf]; try omega)
    · obtain rfl : k = 10 := by omega
      have g1 : ¬ (((10 : Nat) : Int)) < 10 := by omega
      have S1 : Hid (q4.all (fun p => q1.any (fun q => leqI p.2 q.2)) = true) := Lib.hid (by
        rw [List.all_eq_true]
        intro r hr
        have h5 := (HN.out r.2 ((K4.out.rows _ (List.mem_map_of_mem hr)).1)).1 (List.any_eq_true.2 ⟨r.2, List.mem_map_of_mem hr, leqI_refl _⟩)
        have h6 := h5.1
        rwa [← snd_any q1 (leqI r.2)] at h6)
      have S2 : Hid (q1.all (fun p => q3.any (fun q => leqI p.2 q.2)) = true) := Lib.hid (by
        rw [List.all_eq_true]
        intro r hr
        have h5 := (HU.out r.2 ((K1.out.rows _ (List.mem_map_of_mem hr)).1)).2 (.inl (List.any_eq_true.2 ⟨r.2, List.mem_map_of_mem hr, leqI_refl _⟩))
        rwa [← snd_any q3 (leqI r.2)] at h5)
      go_wp2_with fail
      refine (subset_any m _ _ q4 q1 _ E4.out.at Q4.out K4.out E1.out.at Q1.out K1.out).mono ?_
      rintro e w61 ⟨rfl, hg⟩
      rw [S1.out]
      have G1 := Lib.hid hg
      clear hg
      go_wp2_with fail
      refine (subset_any m _ _ q1 q3 _ (E1.out.on G1.out) Q1.out K1.out (E3.out.on G1.out) Q3.out K3.out).mono ?_
      rintro e w62 ⟨rfl, hg⟩
      rw [S2.out]
      have G2 := Lib.hid (grown_trans G1.out hg)
      clear hg
      go_wp2_with fail
      go_ret
      exact ⟨rfl, below_of (grown_trans HS.out.2.1 G2.out)⟩

/-! ### LimitSets: the statement, from its walk -/
set_option maxRecDepth 100000 in
theorem liftedLimitSets (os : Os) (started : os.Started) (H : Type) (enc : TypeId × Value → H) :
    ReturnsInHanded {} Try.checked os 5 .any (Rows.limitSetsSpec.pre6 enc Try.prog Try.f5 Rows.limitSetsRow.domain false) (Rows.limitSetsSpec.post enc Try.prog Try.f5 false true false false) := by
  refine returnsInHanded_of_change (C := Try.checked) own started (by kernel_rfl) Try.func5
    (ChangeSpec.witness6 (enc := enc) (C := Try.checked) false ⟨#[], #[.slice none 0 0], []⟩ 8 (by kernel_rfl) (by kernel_rfl) (by kernel_rfl) (by kernel_rfl)) ?_
  intro W base args ds gs before hval0 hW hcnd _
  have hval : ∀ (j : Nat) t v, Try.f5.params[j]? = some t → args[j]? = some v → Value.okWide Try.prog W .any base t v := hval0
  have hW' := hW
  obtain ⟨p, q, hA0, hV, rfl, hfz, hnd⟩ := hW
  have hA : DataW.TrodAll enc Try.prog W 0 (fun _ => true) true Try.f5.params.toList args.toList ds p := hA0
  rw [Try.params5] at hA hval
  obtain ⟨v0, vs0, d0, ds0, p0, q0, hargs, rfl, rfl, h0, r0⟩ := trodAll_cons hA
  obtain ⟨rfl, rfl, rfl⟩ := trodAll_nil r0
  obtain rfl : args = #[v0] := by cases args; simp_all
  obtain ⟨rfl, rfl⟩ := trodVars_none hV
  obtain ⟨a0, len0, cap0, rfl⟩ := okWide_slice Try.underlying22 (hval 0 22 v0 rfl rfl)
  have k0 := h0
  have lt0 : ∀ x ∈ p0, x.block < W.heap.size := by obtain ⟨m, hm⟩ := k0; exact DataW.trod_lt m _ _ _ hm
  obtain ⟨z0, w0⟩ : ∃ zs, IsRow .i64 W a0 len0 cap0 zs := by
    obtain ⟨fuel, hf⟩ := h0
    rcases open_ints Try.underlying22 Try.underlying3 (by kernel_rfl) hf with ⟨hcs, _⟩ | ⟨x, l, c, zs, hcs, _, hl, hm, hz, _, hcell, hwz⟩
    · simp [Value.cells] at hcs
      obtain ⟨rfl, rfl, rfl⟩ := hcs
      exact ⟨[], .inl ⟨rfl, rfl, rfl, rfl⟩⟩
    · simp [Value.cells] at hcs
      obtain ⟨rfl, rfl, rfl⟩ := hcs
      exact ⟨zs, .inr ⟨_, rfl, hl, hm, by simpa using hz, hcell, hwz⟩⟩
  clear hA0 hval0
  refine (walkLimitSets a0 len0 cap0 z0 W w0).mono fun e W' ⟨he, bel⟩ => ?_
  subst he
  exact ⟨_, rfl, _, _, _, [], _, [], hW', trodAll_mk1 (shut_bool Try.underlying4 _), (trodAll_cons_mk (Below.trod laidOut (by kernel_rfl) (of_decide_eq_true (by kernel_rfl)) k0 bel lt0) trodAll_mk0), rfl, bel.frame _, fun h => by cases h⟩

theorem limitSets_holds : Rows.LimitSetsSaid :=
  OpenClaim.holds_of_wide 5 Try.f5 rfl rfl rfl rfl rfl rfl rfl ⟨rfl, rfl, rfl, rfl, rfl⟩ rfl rfl rfl rfl rfl (by kernel_rfl) Try.func5 (by kernel_rfl)
    (of_decide_eq_true (by kernel_rfl)) (by unfold Func.isWrapper; first | (rw [if_pos (by decide +kernel)]; kernel_rfl) | (rw [if_neg (by decide +kernel)]; exact ⟨rfl, rfl⟩))
    (fun os started H enc _ => liftedLimitSets os started H enc)
#print axioms limitSets_holds
end Go.Proofs.Ytahffjoehjpfkaa
