/- Contracts of package priority: Falling. -/
import Derived.Test.YtaenkbcclgpphaaPi
namespace Go.Proofs.Ytaenkbcclgpphaa
open Go.RowKit
set_option linter.unusedVariables false

theorem row_flat (x : Int) (px : List Int) (u1 u2 : Value) : [(u1, [x]), (u2, px)].flatMap Prod.snd = x :: px := by simp
theorem rank_at {rs : List Int} (h : ranksB rs = true) {k : Nat} (hk : k < rs.length) : 0 ≤ rs[k]?.getD 0 ∧ rs[k]?.getD 0 < 6 := by
  have := (ranksB_le h).2.2 _ (List.getElem_mem hk)
  simpa [hk] using this

set_option maxRecDepth 100000 in
set_option maxHeartbeats 1000000 in
theorem pfalling_any : ∀ (f : Nat) (vr : Value) (rs : List Int) (m : Int) (w : World), Ints w vr rs → ranksB rs = true → (∀ r ∈ rs, r ≤ m → r < f) → f ≤ 6 →
    Calls Try.prog 46 #[vr, .int .i64 m] w (FallP (fallA rs f m) w) := by
  intro f
  induction f with
  | zero =>
    intro vr rs m w hr hrb hm hf
    have HR := Lib.hid hr; have HRB := Lib.hid hrb
    obtain ⟨ar, cr, rfl, -, -, hrc⟩ := hr
    have h6 := (ranksB_le hrb).2.1
    have HM := Lib.hid hm
    clear hrb hm
    go_enter Try.func46, Try.ntmps46
    go_wp2_with fail
    refine (ranked_any _ _ _ HR.out).mono ?_; rintro e w' ⟨rfl, rfl⟩
    rw [HRB.out]
    go_wp2_with fail
    go_loopw [6, 18] (fun v i wr => ∃ k : Nat, i = .int .i64 k ∧ k ≤ rs.length ∧ v = .slice none 0 0 ∧ wr = w') (fun _ i _ => rs.length - (intOf i).toNat)
    case atStart => exact ⟨0, rfl, Nat.zero_le _, rfl, rfl⟩
    case round =>
      obtain ⟨k, rfl, hk, rfl, rfl⟩ := hrel
      by_cases hlt : k < rs.length
      · have g1 : (k : Int) < (rs.length : Int) := by omega
        obtain ⟨b, off, rfl, hx⟩ := Ints.at hrc hlt
        have hgt : m < rs[k]?.getD 0 := by
          have h1 := HM.out (rs[k]) (List.getElem_mem hlt)
          have h2 := (ranksB_le HRB.out).2.2 _ (List.getElem_mem hlt)
          simp only [List.getElem?_eq_getElem hlt, Option.getD_some]
          omega
        clear hrc
        generalize rs[k]?.getD 0 = r at *
        have g2 : decide (m < r) = true := by simpa using hgt
        go_wp2_with fail
        go_roundw
        case rel => exact ⟨k + 1, by go_num, by omega, rfl, trivial⟩
        case measure => simp [intOf]; omega
      · have g1 : ¬ (k : Int) < (rs.length : Int) := by omega
        clear hrc
        go_wp2_with fail
        refine (sort_any _ [] wr.heap.size _ (OwnP.nil _ _) (by simp)).mono ?_
        rintro e w1 ⟨rfl, ps', hp, -, ho, hg⟩
        have hp' : ps' = [] := List.Perm.eq_nil hp
        subst hp'
        have HO := Lib.hid ho
        have HG : Hid (wr.grownBy w1 none) := Lib.hid hg
        clear ho hg hp
        go_wp2_with fail
        go_ret2
        exact ⟨_, [], rfl, HO.out, by simp [fallA], HG.out, by simp⟩
  | succ f ih =>
    intro vr rs m w hr hrb hm hf
    have HR := Lib.hid hr; have HRB := Lib.hid hrb; have IH := Lib.hid ih
    clear ih
    obtain ⟨ar, cr, rfl, -, -, hrc⟩ := hr
    have h6 := (ranksB_le hrb).2.1
    have HM := Lib.hid hm; have HRC := Lib.hid hrc
    have hf6 : f ≤ 6 := by omega
    clear hrb hm hrc
    go_enter Try.func46, Try.ntmps46
    go_wp2_with fail
    refine (ranked_any _ _ _ HR.out).mono ?_; rintro e w' ⟨rfl, rfl⟩
    rw [HRB.out]
    go_wp2_with fail
    go_loopw [6, 18] (fun v i wr => ∃ (k : Nat) (ps : List Row), i = .int .i64 k ∧ k ≤ rs.length ∧ Hid (ps.map Prod.snd = rawK rs f m k) ∧ Hid (OwnP wr w'.heap.size v ps) ∧ Hid (∀ p ∈ ps, ∀ g, p.1.ownBlock = some g → w'.heap.size ≤ g) ∧ Hid (w'.grownBy wr none)) (fun _ i _ => rs.length - (intOf i).toNat)
    case atStart => exact ⟨0, [], rfl, Nat.zero_le _, Lib.hid (by simp [rawK]), Lib.hid (OwnP.nil _ _), Lib.hid (by simp), Lib.hid (grown_refl _ _)⟩
    case round =>
      obtain ⟨k, ps, rfl, hk, hmm, ho, hfr, hg⟩ := hrel
      rename World => wk
      rename Value => vo
      obtain ⟨ao, co, rfl⟩ := ho.out.slice
      have hpl : ps.length ≤ 400000 := by
        have e1 := congrArg List.length hmm.out
        have e2 := rawK_len rs h6 f m k hk hf6
        rw [List.length_map] at e1
        omega
      by_cases hlt : k < rs.length
      · have g1 : (k : Int) < (rs.length : Int) := by omega
        obtain ⟨b, off, rfl, hx⟩ := Ints.at HRC.out hlt
        replace hx := hg.out.cell hx (by simp)
        have hrk := rank_at HRB.out hlt
        have HST := Lib.hid (rawK_step rs f m k)
        have HF : Hid (fallX rs m (fallA rs f) k = if m < rs[k]?.getD 0 then [] else [(k : Int)] :: (fallA rs f (rs[k]?.getD 0 - 1)).map (fun u => (k : Int) :: u)) := Lib.hid rfl
        have HM2 : Hid (rs[k]?.getD 0 ≤ m → ∀ r ∈ rs, r ≤ rs[k]?.getD 0 - 1 → r < f) := Lib.hid (fun h r hr h2 => by
          have h3 := HM.out (rs[k]?.getD 0) (by simp [hlt]) h
          omega)
        generalize rs[k]?.getD 0 = r at *
        by_cases hgt : m < r
        · have g2 : decide (m < r) = true := by simpa using hgt
          go_wp2_with fail
          go_roundw
          case rel => exact ⟨k + 1, ps, by go_num, by omega, Lib.hid (by rw [HST.out, HF.out, if_pos hgt, List.append_nil]; exact hmm.out), ho, hfr, hg⟩
          case measure => simp [intOf]; omega
        · have g2 : decide (m < r) = false := by simpa using hgt
          have i5 : IntKind.i64.wrap (r - 1) = r - 1 := IntWalk.i64_in _ (by omega)
          have HF2 : Hid (rawK rs f m (k + 1) = rawK rs f m k ++ [(k : Int)] :: (fallA rs f (r - 1)).map (fun u => (k : Int) :: u)) := Lib.hid (by rw [HST.out, HF.out, if_neg hgt])
          have HM3 := Lib.hid (HM2.out (by omega))
          have G2 : Hid (wk.grownBy ((wk.alloc (.cells #[.int .i64 (k : Int)] 3)).alloc (.cells #[.slice (some ⟨wk.heap.size, 0, none⟩) 1 1] 22)) none) := Lib.hid (grown_after (grown_after (grown_refl _ _)))
          have HSZ : Hid ((wk.alloc (.cells #[.int .i64 (k : Int)] 3)).heap.size = wk.heap.size + 1) := Lib.hid (by show (wk.heap.push _).size = _; simp)
          have hsw := hg.out.size
          have RN : Hid (RowOk ((wk.alloc (.cells #[.int .i64 (k : Int)] 3)).alloc (.cells #[.slice (some ⟨wk.heap.size, 0, none⟩) 1 1] 22)) (.slice (some ⟨wk.heap.size, 0, none⟩) 1 1, [(k : Int)])) := Lib.hid ((row_new (w := wk) (heap_new _ rfl) (by omega)).same (World.grownBy_alloc _ _ none))
          have FN : Hid (∀ g, Value.ownBlock (.slice (some ⟨wk.heap.size, 0, none⟩) 1 1) = some g → Value.ownBlock (.slice ao ps.length co) ≠ some g) := Lib.hid (fun g h1 h2 => by
            simp only [Value.ownBlock, Option.some.injEq] at h1
            have := (ho.out.fresh g h2).2
            omega)
          go_wp2_with (at_builtin; refine app_row_at rfl (.tmp 26) (.tmp 29) rfl w'.heap.size (.slice ao ps.length co) ps (by kernel_rfl) (ho.out.same G2.out) (wk.heap.size + 1) (.slice (some ⟨wk.heap.size, 0, none⟩) 1 1, [(k : Int)]) (by kernel_rfl) (cell_new HSZ.out.symm) RN.out FN.out (by omega) (Nat.le_trans hsw G2.out.size) ?_)
          intro a3 n3 c3 w3 hn3 ho3 hg3 hat3
          obtain ⟨bo, hbo⟩ : ∃ bo, bo = Value.ownBlock (.slice a3 n3 c3) := ⟨_, rfl⟩
          have HBO := Lib.hid hbo
          have O3 := Lib.hid ho3
          have G3 : Hid (w'.grownBy w3 none) := Lib.hid (grown_then (grown_trans hg.out G2.out) hg3 (fun j hj => .inl (ho.out.fresh j hj).1))
          have F3 : Hid (∀ p ∈ ps ++ [(Value.slice (some ⟨wk.heap.size, 0, none⟩) 1 1, [(k : Int)])], ∀ g, p.1.ownBlock = some g → w'.heap.size ≤ g) := Lib.hid (by
            intro p hp g hg'
            rcases List.mem_append.1 hp with h | h
            · exact hfr.out p h g hg'
            · rw [List.mem_singleton.1 h] at hg'
              simp only [Value.ownBlock, Option.some.injEq] at hg'
              omega)
          clear ho3 hg3 hat3 hn3 hbo
          go_wp2_with fail
          refine (IH.out _ rs (r - 1) _ (HR.out.same G3.out) HRB.out HM3.out hf6).mono ?_
          rintro e w4 ⟨v9, q9, rfl, ho9, hm9, hg9, hf9⟩
          have O9 := Lib.hid ho9; have M9 := Lib.hid hm9; have G9 := Lib.hid hg9; have F9 := Lib.hid hf9
          have O4 := Lib.hid (O3.out.same hg9)
          have G4 := Lib.hid (grown_trans G3.out hg9)
          have hq9 : q9.length ≤ 55986 := by
            have e1 := congrArg List.length hm9
            have e2 := fallA_len rs h6 f (r - 1)
            have e3 := fallB_le hf6
            rw [List.length_map] at e1
            omega
          have B3 : Hid (∀ g, bo = some g → g < w3.heap.size) := Lib.hid (fun g h => (O3.out.fresh g (by rw [← HBO.out]; exact h)).2)
          clear ho9 hm9 hg9 hf9
          obtain ⟨a9, c9, rfl⟩ := O9.out.slice
          have hs34 := G9.out.size
          go_wp2_with fail
          go_loopw [6, 40] (fun v i wr => ∃ (j : Nat) (pj : List Row), i = .int .i64 j ∧ j ≤ q9.length ∧ pj.length ≤ 400001 + j ∧ Hid (pj.map Prod.snd = rawK rs f m k ++ [(k : Int)] :: ((q9.take j).map Prod.snd).map (fun u => (k : Int) :: u)) ∧ Hid (OwnP wr w'.heap.size v pj) ∧ Hid (∀ p ∈ pj, ∀ g, p.1.ownBlock = some g → w'.heap.size ≤ g) ∧ Hid (w4.grownBy wr bo) ∧ Hid (∀ g, v.ownBlock = some g → w4.heap.size ≤ g ∨ bo = some g)) (fun _ i _ => q9.length - (intOf i).toNat)
          case atStart => exact ⟨0, _, rfl, Nat.zero_le _, by simp; omega, Lib.hid (by rw [List.map_append, hmm.out]; rfl), O4, F3, Lib.hid (grown_refl _ _), Lib.hid (fun g h => .inr (by rw [HBO.out]; exact h))⟩
          case round =>
            obtain ⟨j, pj, rfl, hj, hpj, hmj, hoj, hfj, hgj, hbj⟩ := hrel
            rename World => wi
            rename Value => vi
            obtain ⟨ai, ci, rfl⟩ := hoj.out.slice
            have GI : Hid (w'.grownBy wi none) := Lib.hid (grown_then G4.out hgj.out (fun g h => .inl (O3.out.fresh g (by rw [← HBO.out]; exact h)).1))
            by_cases hlj : j < q9.length
            · have k1 : (j : Int) < (q9.length : Int) := by omega
              have R9 := O9.out.rows.keptR hgj.out (fun g h1 h2 => by have := B3.out g h1; have := (O9.out.fresh g h2).1; omega) (fun g h1 p hp h2 => by have := B3.out g h1; have := F9.out p hp g h2; omega)
              obtain ⟨_, _, hv, _, hc, hrow⟩ := R9
              simp only [Value.slice.injEq] at hv
              obtain ⟨rfl, -, -⟩ := hv
              obtain ⟨b9, o9, rfl, hx9⟩ := RowsP.at hc hlj
              have R1 := Lib.hid (hrow _ (List.getElem_mem hlj))
              have RL : Hid ((q9[j]).2.length ≤ 6) := Lib.hid (by
                have : (q9[j]).2 ∈ fallA rs f (r - 1) := by rw [← M9.out]; exact List.mem_map.2 ⟨_, List.getElem_mem hlj, rfl⟩
                have := (fallA_el rs f (r - 1) _ this).2.1
                omega)
              have HT := Lib.hid (headed_take (k : Int) q9 j hlj)
              clear hc hrow
              generalize q9[j] = p at *
              obtain ⟨pv, px⟩ := p
              dsimp only at hx9
              have G5 : Hid (wi.grownBy ((wi.alloc (.cells #[.int .i64 (k : Int)] 3)).alloc (.cells #[.slice (some ⟨wi.heap.size, 0, none⟩) 1 1, pv] 22)) none) := Lib.hid (grown_after (grown_after (grown_refl _ _)))
              have HSI : Hid ((wi.alloc (.cells #[.int .i64 (k : Int)] 3)).heap.size = wi.heap.size + 1) := Lib.hid (by show (wi.heap.push _).size = _; simp)
              have RNEW : Hid (RowOk (wi.alloc (.cells #[.int .i64 (k : Int)] 3)) (.slice (some ⟨wi.heap.size, 0, none⟩) 1 1, [(k : Int)])) := Lib.hid (row_new (w := wi) (heap_new _ rfl) (by omega))
              have hfl : ([(Value.slice (some ⟨wi.heap.size, 0, none⟩) 1 1, [(k : Int)]), (pv, px)].flatMap Prod.snd).length ≤ 1000000 := by have := RL.out; simp at this ⊢; omega
              obtain ⟨⟨aq, cq, hvq, -⟩, -⟩ := R1.out
              dsimp only at hvq
              subst hvq
              go_wp2_with fail
              refine (concat_any _ [(Value.slice (some ⟨wi.heap.size, 0, none⟩) 1 1, [(k : Int)]), (Value.slice aq px.length cq, px)] _ (rows_two (w := wi.alloc (.cells #[.int .i64 (k : Int)] 3)) (heap_new _ HSI.out.symm) (World.grownBy_alloc _ _ none) RNEW.out (R1.out.same (World.grownBy_alloc _ _ none))) hfl).mono ?_
              rintro e w6 ⟨v6, rfl, ho6, hg6⟩
              rw [row_flat] at ho6
              obtain ⟨a6, c6, rfl⟩ := ownI_open' ho6
              have G6 : Hid (wi.grownBy w6 none) := Lib.hid (grown_trans G5.out hg6)
              have F6 := Lib.hid (made_far hoj.out G5.out.size ho6)
              have R6 := Lib.hid (ho6.row (fun z hz => by
                rcases List.mem_cons.1 hz with rfl | hz
                · omega
                · exact R1.out.bdd' z hz))
              have N6 : Hid (∀ g, Value.ownBlock (.slice a6 ((k : Int) :: px).length c6) = some g → w'.heap.size ≤ g) := Lib.hid (fun g h => Nat.le_trans (grown_trans GI.out G5.out).size (ho6.fresh g h).1)
              have hpj9 : pj.length ≤ 1000000000000 := by omega
              clear ho6 hg6
              go_wp2_with (at_builtin; refine app_row_at rfl (.tmp 44) (.tmp 50) rfl w'.heap.size (.slice ai pj.length ci) pj (by kernel_rfl) (hoj.out.same (grown_after G6.out)) w6.heap.size (.slice a6 ((k : Int) :: px).length c6, (k : Int) :: px) (by kernel_rfl) (cell_new rfl) (R6.out.same (World.grownBy_alloc _ _ none)) F6.out hpj9 (grown_after (grown_trans GI.out G6.out)).size ?_)
              intro a7 n7 c7 w7 hn7 ho7 hg7 hat7
              have O7 := Lib.hid ho7
              have G7 : Hid (w4.grownBy w7 bo) := Lib.hid (grown_then (grown_then hgj.out (grown_after G6.out) (by simp)) hg7 (fun g h => hbj.out g h))
              have F7 : Hid (∀ p ∈ pj ++ [(Value.slice a6 ((k : Int) :: px).length c6, (k : Int) :: px)], ∀ g, p.1.ownBlock = some g → w'.heap.size ≤ g) := Lib.hid (by
                intro p hp g hg'
                rcases List.mem_append.1 hp with h | h
                · exact hfj.out p h g hg'
                · rw [List.mem_singleton.1 h] at hg'; exact N6.out g hg')
              have B7 : Hid (∀ g, Value.ownBlock (.slice a7 n7 c7) = some g → w4.heap.size ≤ g ∨ bo = some g) := Lib.hid (fun g h => by
                rcases hat7 g h with h1 | h1
                · exact hbj.out g h1
                · refine .inl ?_
                  have := hgj.out.size; have := G6.out.size; omega)
              clear ho7 hg7 hat7 hn7
              go_wp2_with fail
              go_roundw
              case rel => exact ⟨j + 1, _, by go_num, by omega, by simp; omega, Lib.hid (by rw [List.map_append, hmj.out, HT.out]; simp), O7, F7, G7, B7⟩
              case measure => simp [intOf]; omega
            · have k1 : ¬ (j : Int) < (q9.length : Int) := by omega
              have HE : Hid (pj.map Prod.snd = rawK rs f m (k + 1)) := Lib.hid (by rw [hmj.out, HF2.out, List.take_of_length_le (by omega), M9.out])
              go_wp2_with fail
              go_roundw
              case rel => exact ⟨k + 1, pj, by go_num, by omega, HE, hoj, hfj, GI⟩
              case measure => simp [intOf]; omega
      · have g1 : ¬ (k : Int) < (rs.length : Int) := by omega
        have hkl : k = rs.length := by omega
        have HKL := Lib.hid hkl
        clear hkl
        go_wp2_with fail
        refine (sort_any _ _ _ _ ho.out (by omega)).mono ?_
        rintro e w1 ⟨rfl, ps', hp, hs, ho1, hg1⟩
        have HP := Lib.hid hp; have HS := Lib.hid hs; have HO := Lib.hid ho1
        have HG : Hid (w'.grownBy w1 none) := Lib.hid (grown_then hg.out hg1 (fun j hj => .inl (ho.out.fresh j hj).1))
        clear hp hs ho1 hg1
        go_wp2_with fail
        go_ret2
        refine ⟨_, ps', rfl, HO.out, ?_, HG.out, fun p hp g hg' => hfr.out p (HP.out.mem_iff.1 hp) g hg'⟩
        rw [sorted_asc HP.out HS.out (by rw [hmm.out]; exact rawK_nodup rs f m k), hmm.out, HKL.out]
        rfl

theorem pfalling_bad (vr : Value) (rs : List Int) (m : Int) (w : World) (hr : Ints w vr rs) (hrb : ranksB rs = false) :
    Calls Try.prog 46 #[vr, .int .i64 m] w fun e w' => e = .returned (.tuple #[.slice none 0 0, .int .i64 2]) ∧ w' = w := by
  have HR := Lib.hid hr; have HRB := Lib.hid hrb
  clear hr hrb
  go_enter Try.func46, Try.ntmps46
  go_wp2_with fail
  refine (ranked_any _ _ _ HR.out).mono ?_; rintro e w' ⟨rfl, rfl⟩
  rw [HRB.out]
  go_wp2_with fail
  go_ret2
  exact ⟨rfl, rfl⟩

end Go.Proofs.Ytaenkbcclgpphaa
