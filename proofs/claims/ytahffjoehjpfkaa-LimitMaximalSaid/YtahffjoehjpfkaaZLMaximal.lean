/- LimitMaximal: for every input the statement answers true (each vector of a list is within its limits, these come from the list, and none can be left out). No condition. -/
import Derived.Test.YtahffjoehjpfkaaZp
import Derived.Test.YtahffjoehjpfkaaGr
import Derived.Deep.Matrix
namespace Go.Proofs.Ytahffjoehjpfkaa
open Go.ChangeShapes Go.WideShapes Go.ChangeAt Go.RowKit Go.Deep
set_option linter.unusedVariables false

theorem head_run {b off n cap k : Nat} (hk : k ≤ cap) (hn : 0 < cap) (w' : World) : (Instr.slice 28 (.slice (some ⟨b, off, none⟩) n cap) none (some (.int .i64 (k : Int))) none).run Try.prog w' = .ok (.slice (some ⟨b, off, none⟩) k cap) w' := by
  obtain ⟨i, hi, hz0, hz1, hz2⟩ := info_parts info_row
  rw [run_slice_h w' 28 (some ⟨b, off, none⟩) n cap Try.underlying28 .i64 (k : Int) (by omega) (by omega)]
  rw [show Try.prog.elem 28 = 22 by kernel_rfl]
  have h0 : ¬ cap = 0 := by omega
  simp [sizeOf, typeInfo, hi, hz1, sliced, Result.andThen, h0, Addr.add]
theorem RowsP.rowsOk {w : World} {v : Value} {ps : List Row} (h : RowsP w v ps) : ∀ p ∈ ps, RowOk w p := by obtain ⟨-, -, -, -, -, h⟩ := h; exact h
theorem rows_head {w : World} {a : Option Addr} {n cap k : Nat} {ps : List Row} (h : RowsP w (.slice a n cap) ps) (hk : k ≤ ps.length) : RowsP w (.slice a k cap) (ps.take k) := by
  obtain ⟨a1, cap1, hv, hl, hc, hr⟩ := h
  simp only [Value.slice.injEq] at hv
  obtain ⟨rfl, rfl, rfl⟩ := hv
  have hlen : (ps.take k).length = k := by rw [List.length_take]; omega
  refine ⟨a, cap, by rw [hlen], by omega, ?_, fun p hp => hr p (List.mem_of_mem_take hp)⟩
  rcases hc with rfl | ⟨b, off, e, hc⟩
  · exact .inl (by simp)
  · refine .inr ⟨b, off, e, fun i hi => ?_⟩
    rw [hlen] at hi
    rw [hc i (by omega), List.getElem?_take, if_pos hi]

theorem limOk_one {n : Nat} {x : List Int} (h1 : 1 ≤ n) (h6 : n ≤ 6) (h : x.length = n ∧ validB x = true) : LimOk n [x] := ⟨h1, h6, by simp, by intro v hv; rw [List.mem_singleton.1 hv]; exact h, by unfold Asc; simp, by simp⟩
theorem rest_sub {α : Type} (l : List α) (t : Nat) : (l.take t ++ l.drop (t + 1)).Sublist l := by
  have h := (List.Sublist.refl (l.take t)).append (List.drop_sublist 1 (l.drop t))
  rw [List.drop_drop, List.take_append_drop] at h
  exact h
theorem limOk_rest {n : Nat} {q : List Row} (h : LimOk n (q.map Prod.snd)) (t : Nat) : LimOk n ((q.take t ++ q.drop (t + 1)).map Prod.snd) := by
  have hs := (rest_sub q t).map Prod.snd
  exact ⟨h.n1, h.n6, Nat.le_trans hs.length_le h.few, fun v hv => h.rows v (hs.subset hv), List.Pairwise.sublist hs h.asc, List.Pairwise.sublist hs h.apart⟩
theorem rest_no {l : List (List Int)} {q : List Row} (h : (q.map Prod.snd).Pairwise (fun a b => leqI a b = false)) (ht : Tops leqI l (q.map Prod.snd)) {t : Nat} (hlt : t < q.length) : (q.take t ++ q.drop (t + 1)).any (fun r => leqI (q[t]).2 r.2) = false := by
  have hp := ht.apart
  rw [List.pairwise_iff_getElem] at hp
  rw [List.any_eq_false]
  intro r hr
  rcases List.mem_append.1 hr with h5 | h5
  · obtain ⟨i, hi, rfl⟩ := List.getElem_of_mem h5
    rw [List.length_take] at hi
    rw [List.getElem_take]
    have h6 := (hp i t (by simp; omega) (by simpa using hlt) (by omega)).2
    simp only [List.getElem_map] at h6
    rw [h6]
    simp
  · obtain ⟨i, hi, rfl⟩ := List.getElem_of_mem h5
    rw [List.length_drop] at hi
    rw [List.getElem_drop]
    have h6 := (hp t (t + 1 + i) (by simpa using hlt) (by simp; omega) (by omega)).1
    simp only [List.getElem_map] at h6
    rw [h6]
    simp

set_option maxRecDepth 100000 in
set_option maxHeartbeats 4000000 in
theorem walkLimitMaximal (a0 : Option Addr) (len0 cap0 : Nat) (z0 : List Int) (w : World) (w0 : IsRow .i64 w a0 len0 cap0 z0) :
    Calls Try.prog 6 #[.slice a0 len0 cap0] w fun e w' => e = .returned (.bool true) ∧ Below w.heap.size w w' := by
  obtain ⟨hI, hlen⟩ := w0.ints
  generalize z0.take len0 = zs at hI hlen
  subst hlen
  have HI := Lib.hid hI
  clear hI w0
  by_cases hfew : (zs.length : Int) ≤ 400
  case neg =>
    go_enter Try.func6, Try.ntmps6
    go_wp2_with fail
    refine (awake08_any _).mono ?_
    rintro e w1 ⟨rfl, hg⟩
    have HG := Lib.hid hg
    clear hg
    go_wp2_with fail
    refine (few_any _ _ _ _).mono ?_
    rintro e w2 ⟨rfl, rfl⟩
    rw [decide_eq_false (by omega)]
    go_wp2_with fail
    refine (awake08_any _).mono ?_
    rintro e w9 ⟨rfl, hg⟩
    have HGX := Lib.hid (grown_trans HG.out hg)
    clear hg
    go_wp2_with fail
    go_ret
    exact ⟨rfl, below_of HGX.out⟩
  go_enter Try.func6, Try.ntmps6
  go_wp2_with fail
  refine (awake08_any _).mono ?_
  rintro e w1 ⟨rfl, hg⟩
  have HG := Lib.hid hg
  clear hg
  go_wp2_with fail
  refine (few_any _ _ _ _).mono ?_
  rintro e w2 ⟨rfl, rfl⟩
  rw [decide_eq_true hfew]
  go_wp2_with fail
  refine (new_st (HI.out.same HG.out) HG.out).mono ?_
  rintro e w6 ⟨p, d, rfl, hs⟩
  have HS := Lib.hid hs
  clear hs
  go_wp2_with fail
  refine (next_st HS.out _ (by omega) (by omega)).mono ?_
  rintro e w7 ⟨y, rfl, hy0, hy1, hs, hg⟩
  replace HS := Lib.hid hs
  clear hs hg
  obtain ⟨m, hm⟩ : ∃ m : Nat, 1 + y = (m : Int) := ⟨(1 + y).toNat, by omega⟩
  have hm1 : 1 ≤ m := by omega
  have hm2 : m ≤ 5 := by omega
  have im : IntKind.i64.wrap (1 + y) = (m : Int) := by rw [hm]; exact IntWalk.i64_in _ (by omega)
  clear hm hy0 hy1
  go_wp2_with fail
  refine (vectors_ev HS.out m 6 (by omega) (by omega) (by omega)).mono ?_
  rintro e w11 ⟨v1, p1, rfl, hev, hgd, hpl, hpn, hs, hg⟩
  replace HS := Lib.hid hs
  have EV1 := Lib.hid hev.at; have GD1 := Lib.hid hgd; have PL1 := Lib.hid hpl; have PN1 := Lib.hid hpn
  obtain ⟨a1, c1, rfl⟩ : ∃ a c, v1 = .slice a p1.length c := by obtain ⟨a, c, h, -⟩ := hev.at; exact ⟨a, c, h⟩
  clear hev hgd hpl hpn hs hg im
  go_wp2_with fail
  refine (maximise_any m _ p1 _ EV1.out GD1.out (by omega) (by omega) (by have := PL1.out; omega) PN1.out).mono ?_
  rintro e w12 ⟨u1, q1, rfl, hr, hgq, hg, hnew, ht, hk, hex⟩
  replace HS := Lib.hid (HS.out.step hg)
  have EV := Lib.hid (EV1.out.same hg); have EQ := Lib.hid hr; have Q1 := Lib.hid hgq; have T1 := Lib.hid ht; have K1 := Lib.hid hk; have X1 := Lib.hid hex
  obtain ⟨b1, d1, rfl⟩ : ∃ a c, u1 = .slice a q1.length c := by obtain ⟨a, c, h, -⟩ := hr; exact ⟨a, c, h⟩
  clear hr hgq hg hnew ht hk hex EV1
  have hp6 : p1.length ≤ 6 := by have := PL1.out; omega
  have hq256 : q1.length ≤ 256 := by have := K1.out.few; simpa using this
  go_wp2_with fail
  refine (check_ok m _ q1 _ EQ.out Q1.out K1.out).mono ?_
  rintro e w13 ⟨rfl, hg⟩
  replace HS := Lib.hid (HS.out.step hg); replace EV := Lib.hid (EV.out.same hg); replace EQ := Lib.hid (EQ.out.same hg)
  clear hg
  have G0 := Lib.hid (grown_refl w13 none)
  go_wp2_with fail
  go_loopw [48] (fun i wr => ∃ k : Nat, i = .int .i64 k ∧ k ≤ p1.length ∧ Hid (w13.grownBy wr none)) (fun i _ => p1.length - (intOf i).toNat)
  case atStart => exact ⟨0, rfl, Nat.zero_le _, G0⟩
  case round =>
    clear G0
    obtain ⟨k, rfl, hk, hg⟩ := hrel
    rename World => wk
    by_cases hlt : k < p1.length
    · have g1 : (k : Int) < (p1.length : Int) := by omega
      have i1 : IntKind.i64.wrap ((k : Int) + 1) = (k : Int) + 1 := IntWalk.i64_in _ (by omega)
      obtain ⟨_, _, hv, _, hc, hrow⟩ := EV.out.same hg.out
      simp only [Value.slice.injEq] at hv
      obtain ⟨rfl, -, rfl⟩ := hv
      obtain ⟨b, off, rfl, hx⟩ := RowsP.at hc hlt
      have HR := Lib.hid (hrow _ (List.getElem_mem hlt))
      have HQ := Lib.hid (PN1.out _ (List.getElem_mem hlt))
      have HX : Hid (q1.any (fun q => leqI (p1[k]).2 q.2) = true) := Lib.hid (by
        obtain ⟨u, hu, h5⟩ := X1.out _ (List.mem_map_of_mem (List.getElem_mem hlt))
        obtain ⟨r, hr, h6⟩ := List.mem_map.1 ((T1.out.2 u).2 hu)
        exact List.any_eq_true.2 ⟨r, hr, by rw [h6]; exact h5⟩)
      clear hc hrow
      generalize (p1[k]) = q at *
      obtain ⟨qv, xs⟩ := q
      obtain ⟨aq, cq, hqv⟩ : ∃ a c, qv = .slice a xs.length c := by obtain ⟨⟨a, c, h, -⟩, -⟩ := HR.out; exact ⟨a, c, h⟩
      subst hqv
      dsimp only at hx HR HQ HX
      go_wp2_with fail
      have ho2 := ownP_lit1 HR.out
      have hgb := World.grownBy_alloc wk (.cells #[.slice aq xs.length cq] 22) none
      dsimp only at ho2
      generalize (wk.alloc (.cells #[.slice aq xs.length cq] 22)) = Wb at *
      refine (subset_any m _ _ [(.slice aq xs.length cq, xs)] q1 _ ho2.rows (Good.some _ (Nat.le_refl _)) (limOk_one (by omega) (by omega) HQ.out) (EQ.out.same (grown_trans hg.out hgb)) Q1.out K1.out).mono ?_
      rintro e w21 ⟨rfl, hg2⟩
      have HALL : Hid (([(Value.slice aq xs.length cq, xs)] : List Row).all (fun p => q1.any (fun q => leqI p.2 q.2)) = true) := Lib.hid (by simpa using HX.out)
      rw [HALL.out]
      have G2 := Lib.hid (grown_trans hg.out (grown_trans hgb hg2))
      clear hg2 ho2 hgb HALL
      go_wp2_with fail
      go_roundw
      case rel => exact ⟨k + 1, by go_num, by omega, G2⟩
      case measure => (simp [intOf]; try omega)
    · have g1 : ¬ (k : Int) < (p1.length : Int) := by omega
      go_wp2_with fail
      go_loopw [61] (fun i wr => ∃ t : Nat, i = .int .i64 t ∧ t ≤ q1.length ∧ Hid (w13.grownBy wr none)) (fun i _ => q1.length - (intOf i).toNat)
      case atStart => exact ⟨0, rfl, Nat.zero_le _, hg⟩
      case round =>
        clear hg
        obtain ⟨t, rfl, ht, hg⟩ := hrel
        rename World => wt
        by_cases hlt2 : t < q1.length
        · have g2 : (t : Int) < (q1.length : Int) := by omega
          have i2 : IntKind.i64.wrap ((t : Int) + 1) = (t : Int) + 1 := IntWalk.i64_in _ (by omega)
          obtain ⟨_, _, hv, _, hc, hrow⟩ := EQ.out.same hg.out
          simp only [Value.slice.injEq] at hv
          obtain ⟨rfl, -, rfl⟩ := hv
          obtain ⟨b, off, rfl, hx⟩ := RowsP.at hc hlt2
          obtain ⟨_, _, -, -, -, hrow0⟩ := EQ.out
          have HR := Lib.hid (hrow0 _ (List.getElem_mem hlt2))
          have HQ := Lib.hid (K1.out.rows _ (List.mem_map_of_mem (List.getElem_mem hlt2)))
          have HIN : Hid (p1.any (fun q => (q1[t]).2 == q.2) = true) := Lib.hid (by
            have h5 := ((T1.out.2 _).1 (List.mem_map_of_mem (List.getElem_mem hlt2))).1
            obtain ⟨r, hr, h6⟩ := List.mem_map.1 h5
            exact List.any_eq_true.2 ⟨r, hr, by rw [h6]; simp⟩)
          have HNO : Hid ((q1.take t ++ q1.drop (t + 1)).any (fun q => leqI (q1[t]).2 q.2) = false) := Lib.hid (rest_no K1.out.apart T1.out hlt2)
          have HLR : Hid (LimOk m ((q1.take t ++ q1.drop (t + 1)).map Prod.snd)) := Lib.hid (limOk_rest K1.out t)
          have F0 : Hid (([] : List Row).any (fun q => (q1[t]).2 == q.2) = false) := Lib.hid rfl
          clear hc hrow hrow0
          generalize (q1[t]) = q at *
          obtain ⟨qv, xs⟩ := q
          obtain ⟨aq, cq, hqv⟩ : ∃ a c, qv = .slice a xs.length c := by obtain ⟨⟨a, c, h, -⟩, -⟩ := HR.out; exact ⟨a, c, h⟩
          subst hqv
          dsimp only at hx HR HQ HIN HNO F0
          have hgt := hg
          go_wp2_with fail
          go_loopw [68, 12] (fun i fv wr => ∃ (j : Nat) (B : Bool), i = .int .i64 j ∧ fv = .bool B ∧ j ≤ p1.length ∧ Hid ((p1.take j).any (fun q => xs == q.2) = B) ∧ Hid (w13.grownBy wr none)) (fun i _ _ => p1.length - (intOf i).toNat)
          case atStart => exact ⟨0, false, rfl, rfl, Nat.zero_le _, Lib.hid (by simp), hg⟩
          case round =>
            clear hg
            obtain ⟨j, B, rfl, rfl, hj, hB, hg⟩ := hrel
            rename World => wj
            by_cases hlt3 : j < p1.length
            · have g3 : (j : Int) < (p1.length : Int) := by omega
              have i3 : IntKind.i64.wrap ((j : Int) + 1) = (j : Int) + 1 := IntWalk.i64_in _ (by omega)
              obtain ⟨_, _, hv, _, hc, hrow⟩ := EV.out.same hg.out
              simp only [Value.slice.injEq] at hv
              obtain ⟨rfl, -, rfl⟩ := hv
              obtain ⟨b', off', rfl, hx'⟩ := RowsP.at hc hlt3
              have HS3 := Lib.hid (any_snoc (fun q => xs == q.2) p1 j hlt3)
              have HRJ := Lib.hid (hrow _ (List.getElem_mem hlt3))
              clear hc hrow
              generalize (p1[j]) = r at *
              obtain ⟨rv, ys⟩ := r
              obtain ⟨ar, cr, hrv⟩ : ∃ a c, rv = .slice a ys.length c := by obtain ⟨⟨a, c, h, -⟩, -⟩ := HRJ.out; exact ⟨a, c, h⟩
              subst hrv
              dsimp only at hx' HRJ HS3
              cases B
              · go_wp2_with fail
                refine (same_any (.slice aq xs.length cq) (.slice ar ys.length cr) xs ys _ (HR.out.same hg.out).1 HRJ.out.1).mono ?_
                rintro e w31 ⟨rfl, hdr⟩
                have G3 := Lib.hid (grown_trans hg.out (hdr.grown none))
                have HB3 : Hid ((p1.take (j + 1)).any (fun q => xs == q.2) = (xs == ys)) := Lib.hid (by rw [HS3.out, hB.out]; simp)
                obtain ⟨BS, hBS⟩ : ∃ B, (xs == ys) = B := ⟨_, rfl⟩
                rw [hBS] at HB3
                rw [hBS]
                clear hdr hBS
                go_wp2_with fail
                go_roundw
                case rel => exact ⟨j + 1, BS, by go_num, rfl, by omega, HB3, G3⟩
                case measure => (simp [intOf]; try omega)
              · have HB3 : Hid ((p1.take (j + 1)).any (fun q => xs == q.2) = true) := Lib.hid (by rw [HS3.out, hB.out]; simp)
                go_wp2_with fail
                go_roundw
                case rel => exact ⟨j + 1, true, by go_num, rfl, by omega, HB3, hg⟩
                case measure => (simp [intOf]; try omega)
            · have g3 : ¬ (j : Int) < (p1.length : Int) := by omega
              have hBt : B = true := by have := hB.out; rw [List.take_of_length_le (by omega), HIN.out] at this; exact this.symm
              subst hBt
              have hr1 := rows_head (EQ.out.same hg.out) (k := t) (by omega)
              obtain ⟨a6, c6, hsl2, hr2, hg2⟩ := rows_tail1 (EQ.out.same hg.out) Q1.out (k := t + 1) (by omega)
              have hsl3 : ∀ w', (Instr.slice 28 (.slice (some ⟨b, off, none⟩) q1.length d1) (some (.int .i64 ((t : Int) + 1))) none none).run Try.prog w' = .ok (.slice a6 (q1.length - (t + 1)) c6) w' := fun w' => hsl2 w'
              have R1 := Lib.hid hr1; have R2 := Lib.hid hr2
              have hcap0 : q1.length ≤ d1 := Q1.out.2 _ _ _ rfl
              have hsl1 := head_run (b := b) (off := off) (n := q1.length) (cap := d1) (k := t) (by omega) (by omega)
              have hcap : (t : Int) ≤ (d1 : Int) := by omega
              have g4 : (t : Int) ≤ (q1.length : Int) := by omega
              have g5 : (t : Int) + 1 ≤ (q1.length : Int) := by omega
              clear hsl2 hr1 hr2 hg2
              go_wp2_with fail
              have HT1 := Lib.hid (R1.out.same (grown_drew wj none))
              have HO0 : Hid (OwnP wj.drew wj.heap.size (.slice none 0 0) []) := Lib.hid (OwnP.nil _ _)
              have HLN : Hid (([] : List Row).length + (q1.take t).length ≤ 1000000000000) := Lib.hid (by simp; omega)
              have HDD : Hid (∀ q ∈ q1.take t, ∀ g, q.1.ownBlock = some g → Value.ownBlock (.slice none 0 0) ≠ some g) := Lib.hid (by simp [Value.ownBlock])
              have HLN2 : Hid ((q1.take t).length + (q1.drop (t + 1)).length ≤ 1000000000000) := Lib.hid (by simp; omega)
              go_region_law (first
                | (refine step_app_all rfl (.const (.slice none 0 0)) (.tmp 81) rfl wj.heap.size (.slice none 0 0) [] (by kernel_rfl) HO0.out (.slice (some ⟨b, off, none⟩) t d1) (q1.take t) (by kernel_rfl) HT1.out HDD.out HLN.out (Nat.le_refl _) ?_; intro x5 n5 y5 w5 hn5 ho5 hg5; have O5 : Hid (OwnP w5 wj.heap.size (.slice x5 n5 y5) (q1.take t)) := Lib.hid ho5; have G5 : Hid (wj.grownBy w5 none) := Lib.hid (grown_trans (grown_drew wj none) hg5); clear hn5 ho5 hg5)
                | (refine step_app_all rfl (.tmp 82) (.tmp 86) rfl wj.heap.size (.slice x5 n5 y5) (q1.take t) (by kernel_rfl) O5.out (.slice a6 (q1.length - (t + 1)) c6) (q1.drop (t + 1)) (by kernel_rfl) (R2.out.same G5.out) (fun q hq g hg' e => absurd (O5.out.fresh g e).1 (Nat.not_le_of_lt ((R2.out.rowsOk q hq).2.2 g hg'))) HLN2.out G5.out.size ?_; intro x6 n6 y6 w6 hn6 ho6 hg6; have O6 := Lib.hid ho6; have G6 : Hid (wj.grownBy w6 none) := Lib.hid (grown_then G5.out hg6 (fun z hz => .inl (O5.out.fresh z hz).1)); have N6 := Lib.hid hn6; clear hn6 ho6 hg6))
              all_goals
                have hn6 := N6.out
                clear N6
                have HL0 : Hid (∃ L : List Row, L = q1.take t ++ q1.drop (t + 1)) := Lib.hid ⟨_, rfl⟩
                obtain ⟨L, hL⟩ := HL0.out
                clear HL0
                have hn7 : n6 = L.length := by rw [hn6, hL]
                clear hn6
                subst hn7
                rw [← hL] at O6 HLR
                have HL := Lib.hid hL
                clear hL
                have GW := Lib.hid (grown_trans hg.out G6.out)
                clear hsl1 hsl3 hcap hcap0 g4 g5
                go_wp2_with fail
                have ho2 := ownP_lit1 (HR.out.same GW.out)
                have hgb := World.grownBy_alloc w6 (.cells #[.slice aq xs.length cq] 22) none
                dsimp only at ho2
                generalize (w6.alloc (.cells #[.slice aq xs.length cq] 22)) = Wb at *
                refine (subset_any m _ _ [(.slice aq xs.length cq, xs)] L _ ho2.rows (Good.some _ (Nat.le_refl _)) (limOk_one (by omega) (by omega) HQ.out) (O6.out.same hgb).rows (O6.out.same hgb).good1 HLR.out).mono ?_
                rintro e w41 ⟨rfl, hg2⟩
                have HALL : Hid (([(Value.slice aq xs.length cq, xs)] : List Row).all (fun p => L.any (fun q => leqI p.2 q.2)) = false) := Lib.hid (by rw [List.all_cons, HL.out, HNO.out]; rfl)
                rw [HALL.out]
                have G2 := Lib.hid (grown_trans GW.out (grown_trans hgb hg2))
                clear hg2 ho2 hgb HALL
                go_wp2_with fail
                go_roundw
                case rel => exact ⟨t + 1, by go_num, by omega, G2⟩
                case measure => (simp [intOf]; try omega)
        · have g2 : ¬ (t : Int) < (q1.length : Int) := by omega
          go_wp2_with fail
          go_ret
          exact ⟨rfl, below_of (grown_trans HS.out.2.1 hg.out)⟩

/-! ### LimitMaximal: the statement, from its walk -/
set_option maxRecDepth 100000 in
theorem liftedLimitMaximal (os : Os) (started : os.Started) (H : Type) (enc : TypeId × Value → H) :
    ReturnsInHanded {} Try.checked os 6 .any (Rows.limitMaximalSpec.pre6 enc Try.prog Try.f6 Rows.limitMaximalRow.domain false) (Rows.limitMaximalSpec.post enc Try.prog Try.f6 false true false false) := by
  refine returnsInHanded_of_change (C := Try.checked) own started (by kernel_rfl) Try.func6
    (ChangeSpec.witness6 (enc := enc) (C := Try.checked) false ⟨#[], #[.slice none 0 0], []⟩ 8 (by kernel_rfl) (by kernel_rfl) (by kernel_rfl) (by kernel_rfl)) ?_
  intro W base args ds gs before hval0 hW hcnd _
  have hval : ∀ (j : Nat) t v, Try.f6.params[j]? = some t → args[j]? = some v → Value.okWide Try.prog W .any base t v := hval0
  have hW' := hW
  obtain ⟨p, q, hA0, hV, rfl, hfz, hnd⟩ := hW
  have hA : DataW.TrodAll enc Try.prog W 0 (fun _ => true) true Try.f6.params.toList args.toList ds p := hA0
  rw [Try.params6] at hA hval
  obtain ⟨v0, vs0, d0, ds0, p0, q0, hargs, rfl, rfl, h0, r0⟩ := trodAll_cons hA
  obtain ⟨rfl, rfl, rfl⟩ := trodAll_nil r0
  obtain rfl : args = #[v0] := by cases args; simp_all
  obtain ⟨rfl, rfl⟩ := trodVars_none hV
  obtain ⟨a0, len0, cap0, rfl⟩ := okWide_slice Try.underlying22 (hval 0 22 v0 rfl rfl)
  have k0 := h0
  have lt0 : ∀ x ∈ p0, x.block < W.heap.size := by obtain ⟨m, hm⟩ := k0; exact DataW.trod_lt m _ _ _ hm
  obtain ⟨z0, w0⟩ : ∃ zs, IsRow .i64 W a0 len0 cap0 zs := by
    obtain ⟨fuel, hf⟩ := h0
    rcases open_ints Try.underlying22 Try.underlying3 (by kernel_rfl) hf with ⟨hcs, _⟩ | ⟨x, l, c, zs, hcs, _, hl, hm, hz, _, hcell, hwz⟩
    · simp [Value.cells] at hcs
      obtain ⟨rfl, rfl, rfl⟩ := hcs
      exact ⟨[], .inl ⟨rfl, rfl, rfl, rfl⟩⟩
    · simp [Value.cells] at hcs
      obtain ⟨rfl, rfl, rfl⟩ := hcs
      exact ⟨zs, .inr ⟨_, rfl, hl, hm, by simpa using hz, hcell, hwz⟩⟩
  clear hA0 hval0
  refine (walkLimitMaximal a0 len0 cap0 z0 W w0).mono fun e W' ⟨he, bel⟩ => ?_
  subst he
  exact ⟨_, rfl, _, _, _, [], _, [], hW', trodAll_mk1 (shut_bool Try.underlying4 _), (trodAll_cons_mk (Below.trod laidOut (by kernel_rfl) (of_decide_eq_true (by kernel_rfl)) k0 bel lt0) trodAll_mk0), rfl, bel.frame _, fun h => by cases h⟩

theorem limitMaximal_holds : Rows.LimitMaximalSaid :=
  OpenClaim.holds_of_wide 6 Try.f6 rfl rfl rfl rfl rfl rfl rfl ⟨rfl, rfl, rfl, rfl, rfl⟩ rfl rfl rfl rfl rfl (by kernel_rfl) Try.func6 (by kernel_rfl)
    (of_decide_eq_true (by kernel_rfl)) (by unfold Func.isWrapper; first | (rw [if_pos (by decide +kernel)]; kernel_rfl) | (rw [if_neg (by decide +kernel)]; exact ⟨rfl, rfl⟩))
    (fun os started H enc _ => liftedLimitMaximal os started H enc)
#print axioms limitMaximal_holds
end Go.Proofs.Ytahffjoehjpfkaa
