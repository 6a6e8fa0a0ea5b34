/- MultisetTurns: for every input it answers true. -/
import Derived.Test.YtnppmemcdcgjhaaHo
import Derived.Deep.RegionHeld3
namespace Go.Proofs.Ytnppmemcdcgjhaa
open Go.ChangeShapes Go.WideShapes Go.ChangeAt Go.RowKit
set_option linter.unusedVariables false

/-- One element of a table. -/
theorem TabD.bit {w : World} {d c i j cp : Nat} {a : Option Addr} {ps : List BRow} (h : TabD w d (.slice a ps.length cp) ps) (hc : ∀ q ∈ ps, q.2.length = c) (hi : i < ps.length) (hj : j < c) :
    ∃ b o b1 o1 c1, a = some ⟨b, o, none⟩ ∧ w.cell? ⟨b, o + i, none⟩ = some (.slice (some ⟨b1, o1, none⟩) c c1) ∧ w.cell? ⟨b1, o1 + j, none⟩ = some (.bool (tb (ps.map Prod.snd) i j)) ∧ True := by
  obtain ⟨⟨a1, c1, hv, -, hct, hrs⟩, -⟩ := h
  simp only [Value.slice.injEq] at hv
  obtain ⟨rfl, -, -⟩ := hv
  obtain ⟨b, o, rfl, hx⟩ := BRowsP.at hct hi
  have hl := hc _ (List.getElem_mem hi)
  obtain ⟨⟨ra, rc, hrv, -, hrc⟩, -⟩ := hrs _ (List.getElem_mem hi)
  obtain ⟨b1, o1, rfl, hy⟩ := Bools.at hrc (show j < (ps[i]).2.length by rw [hl]; exact hj)
  rw [hrv, hl] at hx
  refine ⟨b, o, b1, o1, rc, rfl, hx, ?_, trivial⟩
  rw [tb_row (by rw [List.length_map]; exact hi), List.getElem_map]
  exact hy
theorem gx_of {w w1 w2 : World} {r : Option Nat} (h : w1.grownBy w2 r) (g : w.grownBy w1 none) : w.grownBy w1 none := g
theorem ownT_nil {w : World} {base n cap c : Nat} {a : Option Addr} (h : OwnBP w base (.slice a n cap) (List.replicate c (.slice none 0 0, []))) : OwnT w base (.slice a n cap) (List.replicate c nilB) :=
  ⟨h, fun q hq => by rw [List.eq_of_mem_replicate hq]; exact OwnB.nil _ _, List.pairwise_replicate.2 (.inr (by intro g hg; simp [nilB, Value.ownBlock] at hg))⟩
theorem brows_ok {w : World} {v : Value} {ps : List BRow} (h : BRowsP w v ps) : ∀ q ∈ ps, BOk w q := by
  obtain ⟨_, _, _, _, _, hr⟩ := h
  exact hr
theorem row_cell {w : World} {base g n cap k : Nat} {qs : List BRow} (h : w.ownsRow base 26 1 (.slice (some ⟨g, 0, none⟩) n cap) qs.length (qs.map Prod.fst)) (hk : k < qs.length) :
    w.cell? ⟨g, k, none⟩ = some (qs[k]).1 ∧ w.frozen? ⟨g, k, none⟩ = false := by
  have hn : qs.length = n := by
    rcases h.2 with ⟨h', _⟩ | ⟨g', cap', cur, h', _⟩
    · simp at h'
    · simp only [Value.slice.injEq] at h'
      exact h'.2.1.symm
  rw [hn] at h
  refine ⟨?_, World.ownsRow.frozenAt h k⟩
  rw [World.ownsRow.cellAt h k (by omega)]
  simp [hk]
theorem OwnBP.keptR {w w' : World} {base : Nat} {v : Value} {ps : List BRow} {row : Option Nat} (h : OwnBP w base v ps) (g : w.grownBy w' row) (hv : v.ownBlock = none ∨ v.ownBlock ≠ row) (hr : ∀ p ∈ ps, ∀ k, row = some k → p.1.ownBlock ≠ some k) : OwnBP w' base v ps :=
  ⟨World.ownsRow.kept h.1 g hv, fun p hp => ⟨(h.2 p hp).1.kept g (hr p hp), (h.2 p hp).2⟩⟩
theorem sep_row {v : Value} {row : Option Nat} (h : ∀ g, v.ownBlock = some g → row = some g → False) : v.ownBlock = none ∨ v.ownBlock ≠ row := by
  cases hv : v.ownBlock with
  | none => exact .inl rfl
  | some g => exact .inr (fun e => h g hv e.symm)
theorem OwnT.keptR {w w' : World} {base M n cap : Nat} {qs : List BRow} {row : Option Nat} (h : OwnT w base (.slice (some ⟨M, 0, none⟩) n cap) qs) (g : w.grownBy w' row) (hd : ∀ g, row = some g → some M ≠ some g ∧ ∀ q ∈ qs, q.1.ownBlock ≠ some g) : OwnT w' base (.slice (some ⟨M, 0, none⟩) n cap) qs :=
  ⟨h.1.keptR g (sep_row (fun g e1 e2 => (hd g e2).1 e1)) (fun q hq k hk => (hd k hk).2 q hq), fun q hq => World.ownsRow.kept (h.2.1 q hq) g (sep_row (fun g e1 e2 => (hd g e2).2 q hq e1)), h.2.2⟩
theorem OwnT.stepT {w w' : World} {base M n cap : Nat} {qs : List BRow} (h : OwnT w base (.slice (some ⟨M, 0, none⟩) n cap) qs) (g : w.grownBy w' none) : OwnT w' base (.slice (some ⟨M, 0, none⟩) n cap) qs := h.keptR g (by intro g e; cases e)
theorem row_none (v : Value) : v.ownBlock = none ∨ v.ownBlock ≠ none := by
  cases v.ownBlock
  · exact .inl rfl
  · exact .inr (by simp)
set_option maxRecDepth 100000 in
set_option maxHeartbeats 3000000 in
theorem walkMultisetTurns (a0 : Option Addr) (len0 cap0 : Nat) (z0 : List Int) (w : World) (w0 : IsRow .i64 w a0 len0 cap0 z0) :
    Calls Try.prog 7 #[.slice a0 len0 cap0] w fun e w' => e = .returned (.bool true) ∧ Below w.heap.size w w' := by
  obtain ⟨hI, hlen⟩ := w0.ints
  generalize z0.take len0 = zs at hI hlen
  subst hlen
  have HI := Lib.hid hI
  clear hI w0
  by_cases hfew : (zs.length : Int) ≤ 400
  · go_enter Try.func7, Try.ntmps7
    go_wp2_with fail
    refine (awake03_any _).mono ?_
    rintro e w1 ⟨rfl, hg⟩
    have HG := Lib.hid hg
    clear hg
    go_wp2_with fail
    refine (few_any _ _ _ _).mono ?_
    rintro e w2 ⟨rfl, rfl⟩
    rw [decide_eq_true hfew]
    go_wp2_with fail
    refine (new_st (HI.out.same HG.out) HG.out).mono ?_
    rintro e w3 ⟨p, d, rfl, hs⟩
    have HS := Lib.hid hs
    clear hs HG HI
    go_wp2_with fail
    refine (next_st HS.out _ (by omega) (by omega)).mono ?_
    rintro e w4 ⟨y, rfl, hy0, hy1, hs, hg⟩
    obtain ⟨r, hr⟩ : ∃ r : Nat, 1 + y = (r : Int) := ⟨(1 + y).toNat, by omega⟩
    have ir : IntKind.i64.wrap (1 + y) = (r : Int) := by rw [IntWalk.i64_in _ (by omega)]; exact hr
    have hr1 : 1 ≤ r := by omega
    have hr2 : r ≤ 7 := by omega
    replace HS := Lib.hid hs
    clear hs hg hr hy0 hy1
    go_wp2_with fail
    refine (next_st HS.out _ (by omega) (by omega)).mono ?_
    rintro e w5 ⟨y2, rfl, hy0, hy1, hs, hg⟩
    obtain ⟨c, hr⟩ : ∃ c : Nat, 1 + y2 = (c : Int) := ⟨(1 + y2).toNat, by omega⟩
    have ic : IntKind.i64.wrap (1 + y2) = (c : Int) := by rw [IntWalk.i64_in _ (by omega)]; exact hr
    have hc1 : 1 ≤ c := by omega
    have hc2 : c ≤ 7 := by omega
    replace HS := Lib.hid hs
    clear hs hg hr hy0 hy1
    go_wp2_with fail
    refine (table_st HS.out r c (by omega) (by omega)).mono ?_
    rintro e w6 ⟨v, ps, rfl, htd, hpl, hpc, hs, hg⟩
    obtain ⟨av, cv, rfl⟩ := htd.open
    obtain rfl : ps.length = r := hpl
    replace HS := Lib.hid hs; have V := Lib.hid htd; have HPC := Lib.hid hpc
    have HVL : Hid (validT (ps.map Prod.snd) = true) := Lib.hid (valid_tab (by omega) hpc (by omega))
    have HTL : Hid ((ps.map Prod.snd).length = ps.length) := Lib.hid (by simp)
    have HCB : Hid (∀ r j, tb (ps.map Prod.snd) r j = true → j < c) := Lib.hid (fun r j hj => by
      obtain ⟨h1, h2⟩ := tb_lt hj
      have h3 : r < ps.length := by simpa using h1
      have := hpc _ (List.getElem_mem h3)
      simp at h2
      omega)
    clear hs hg htd hpc ir ic
    go_wp2_with (at_make; refine make_brows rfl _ _ rfl c rfl rfl (by omega) ?_)
    intro w20 ho hg
    have HG := Lib.hid hg
    have HO : Hid (OwnT w20 w6.heap.size (.slice (some ⟨w6.heap.size, 0, none⟩) c c) (List.replicate c nilB)) := Lib.hid (ownT_nil ho)
    clear ho hg
    obtain ⟨M, hMM⟩ : ∃ M, w6.heap.size = M := ⟨_, rfl⟩
    rw [hMM] at HO ⊢
    have HMM := Lib.hid hMM
    have HRB : Hid (∀ q ∈ ps, ∀ g, q.1.ownBlock = some g → g < M) := Lib.hid (fun q hq g hg => by rw [← hMM]; exact (brows_ok V.out.1 q hq).2.2 g hg)
    have HMW : Hid (w6.heap.size ≤ M) := Lib.hid (Nat.le_of_eq hMM)
    have HTT : Hid (∀ i (h : i < ps.length), ((ps.map Prod.snd)[i]?.getD []) = (ps[i]).2) := Lib.hid (fun i h => by rw [List.getElem?_map, List.getElem?_eq_getElem h]; rfl)
    clear hMM
    generalize hT : ps.map Prod.snd = T at *
    have HT := Lib.hid hT
    clear hT
    go_wp2_with fail
    go_loopw [8, 41] (fun bv i wr => ∃ (k : Nat) (qs bs : List BRow), i = .int .i64 k ∧ k ≤ ps.length ∧ Hid (OwnT wr M (.slice (some ⟨M, 0, none⟩) c c) qs) ∧ Hid (qs.length = c) ∧ Hid (∀ j (h : j < qs.length), (qs[j]).2 = colT T j k) ∧ Hid (OwnBP wr M bv bs) ∧ Hid (bs.length = k) ∧ Hid (∀ i (h : i < bs.length), (bs[i]).2 = T[ps.length - 1 - i]?.getD []) ∧ Hid (∀ g, bv.ownBlock = some g → g ≠ M ∧ ∀ q ∈ qs, q.1.ownBlock ≠ some g) ∧ Hid (∀ q ∈ bs, ∀ g, q.1.ownBlock = some g → g < M) ∧ Hid (w6.grownBy wr none)) (fun _ i _ => ps.length - (intOf i).toNat)
    case atStart => exact ⟨0, List.replicate c nilB, [], rfl, Nat.zero_le _, HO, Lib.hid (by simp), Lib.hid (fun j h => by simp [nilB, colT]), Lib.hid (OwnBP.nil _ _), Lib.hid rfl, Lib.hid (by intro i h; simp at h), Lib.hid (by intro g h; simp [Value.ownBlock] at h), Lib.hid (by simp), HG⟩
    case round =>
      obtain ⟨k, qs, bs, rfl, hk, hQ, hql, hqc, hB, hbl, hbc, hdj, hbr, hG⟩ := hrel
      rename World => wk
      by_cases hkb : k < ps.length
      · have h2 : (k : Int) < (ps.length : Int) := by omega
        have i1 : IntKind.i64.wrap ((k : Int) + 1) = (k : Int) + 1 := IntWalk.i64_in _ (by omega)
        have VR := Lib.hid (V.out.step hG.out)
        obtain ⟨bt, ot, b1, o1, c1, rfl, he1, he2, -⟩ := VR.out.bit HPC.out hkb (show 0 < c by omega)
        clear he2
        go_wp2_with fail
        clear he1
        go_loopw [49] (fun i wr => ∃ (j : Nat) (qs : List BRow), i = .int .i64 j ∧ j ≤ c ∧ Hid (OwnT wr M (.slice (some ⟨M, 0, none⟩) c c) qs) ∧ Hid (qs.length = c) ∧ Hid (∀ j' (h : j' < qs.length), (qs[j']).2 = colT T j' (if j' < j then k + 1 else k)) ∧ Hid (OwnBP wr M u8 bs) ∧ Hid (∀ g, u8.ownBlock = some g → g ≠ M ∧ ∀ q ∈ qs, q.1.ownBlock ≠ some g) ∧ Hid (w6.grownBy wr none)) (fun i _ => c - (intOf i).toNat)
        case atStart => exact ⟨0, qs, rfl, Nat.zero_le _, hQ, hql, Lib.hid (fun j' h => by rw [hqc.out j' h]; simp), hB, hdj, hG⟩
        case round =>
          obtain ⟨j, qs1, rfl, hj, hQ1, hql1, hqc1, hB1, hdj1, hG1⟩ := hrel
          by_cases hjb : j < c
          · have h3 : (j : Int) < (c : Int) := by omega
            have i2 : IntKind.i64.wrap ((j : Int) + 1) = (j : Int) + 1 := IntWalk.i64_in _ (by omega)
            have V1 := Lib.hid (V.out.step hG1.out)
            obtain ⟨bt2, ot2, b2, o2, c2, hbe, he1, he2, -⟩ := V1.out.bit HPC.out hkb hjb
            simp only [Option.some.injEq, Addr.mk.injEq, and_true] at hbe
            obtain ⟨rfl, rfl⟩ := hbe
            rw [HT.out] at he2
            have HJQ : Hid (j < qs1.length) := Lib.hid (by rw [hql1.out]; exact hjb)
            obtain ⟨hcj, hfj⟩ := hQ1.out.1.cell j HJQ.out
            have HOK := Lib.hid (hQ1.out.2.1 _ (List.getElem_mem HJQ.out))
            have HCX := Lib.hid (hqc1.out j HJQ.out)
            have HMK : Hid ((qs1[j]'HJQ.out).1.ownBlock ≠ some M) := Lib.hid (fun e => (hQ1.out.1.2 _ (List.getElem_mem HJQ.out)).2 M e rfl)
            obtain ⟨R, hRR⟩ : ∃ R, qs1[j]'HJQ.out = R := ⟨_, rfl⟩
            rw [hRR] at hcj HOK HCX HMK
            have HRR := Lib.hid hRR
            obtain ⟨vk, xs⟩ := R
            dsimp only at hcj HOK HCX HMK
            obtain ⟨ak, ck, rfl⟩ := ownB_open HOK.out
            have HXL : Hid (xs.length ≤ 1000) := Lib.hid (by rw [HCX.out, colT, List.length_map, List.length_range]; split <;> omega)
            have HML : Hid (M < wr.heap.size) := Lib.hid (hQ1.out.1.fresh M rfl).2
            obtain ⟨bb, hbb⟩ : ∃ bb, tb T k j = bb := ⟨_, rfl⟩
            rw [hbb] at he2
            have HBB := Lib.hid hbb
            clear hbb hRR
            have hnn : ∀ g : Nat, some g ≠ (none : Option Nat) := by intro g; simp
            have p1 := (grown_drew wr none).cell hcj (hnn _); have p2 := (grown_drew wr none).cell he1 (hnn _); have p3 := (grown_drew wr none).cell he2 (hnn _)
            have q1 := (World.grownBy_alloc wr (.cells #[.bool bb] 4) none).cell hcj (hnn _); have q2 := (World.grownBy_alloc wr (.cells #[.bool bb] 4) none).cell he1 (hnn _); have q3 := (World.grownBy_alloc wr (.cells #[.bool bb] 4) none).cell he2 (hnn _)
            have r1 := (grown_trans (World.grownBy_alloc wr (.cells #[.bool bb] 4) none) (grown_drew _ none)).cell hcj (hnn _); have r2 := (grown_trans (World.grownBy_alloc wr (.cells #[.bool bb] 4) none) (grown_drew _ none)).cell he1 (hnn _); have r3 := (grown_trans (World.grownBy_alloc wr (.cells #[.bool bb] 4) none) (grown_drew _ none)).cell he2 (hnn _)
            have s1 := (grown_after (o := .cells #[.bool bb] 4) (grown_drew wr none)).cell hcj (hnn _); have s2 := (grown_after (o := .cells #[.bool bb] 4) (grown_drew wr none)).cell he1 (hnn _); have s3 := (grown_after (o := .cells #[.bool bb] 4) (grown_drew wr none)).cell he2 (hnn _)
            go_wp2_with fail
            go_region_law ((first
              | ((refine step_app_bblk rfl (.tmp 57) (.tmp 65) rfl M (.slice ak xs.length ck) xs ?_ ?_ (wr.heap.size) bb ?_ ?_ (Nat.le_trans HXL.out (by decide)) ?_ ?_); (exact rfl); (refine World.ownsRow.kept HOK.out ?_ (row_none _); (first | exact World.grownBy_alloc _ _ none | exact grown_trans (World.grownBy_alloc _ _ none) (grown_drew _ none) | exact grown_after (grown_drew _ none))); (exact rfl); (first | exact cell_new_drew rfl | exact cell_new rfl); (refine Nat.le_trans (Nat.le_of_lt HML.out) ?_; refine World.grownBy.size (row := none) ?_; (first | exact World.grownBy_alloc _ _ none | exact grown_trans (World.grownBy_alloc _ _ none) (grown_drew _ none) | exact grown_after (grown_drew _ none))); intro v66 w66 ho hg hb; have hgx := gx_of (w := wr) hg (by (first | exact World.grownBy_alloc _ _ none | exact grown_trans (World.grownBy_alloc _ _ none) (grown_drew _ none) | exact grown_after (grown_drew _ none))); have hpr := push_row hQ1.out HJQ.out HRR.out hgx ho hg hb; have hor := World.ownsRow.kept (World.ownsRow.kept hQ1.out.1.1 hgx (row_none _)) hg (.inr (fun e => HMK.out e.symm)); obtain ⟨hst1, hst2⟩ := row_cell hor HJQ.out; have HB6 := Lib.hid ((hB1.out.same hgx).keptR hg (sep_row (fun g e1 e2 => (hdj1.out g e1).2 _ (List.getElem_mem HJQ.out) (by rw [HRR.out]; exact e2))) (fun q hq j hj e => by have := hbr.out q hq _ e; have := (HOK.out.fresh j hj).1; omega)); have HG6 : Hid (w6.grownBy w66 none) := Lib.hid (grown_then (grown_trans hG1.out hgx) hg (fun j hj => .inl (Nat.le_trans HMW.out (HOK.out.fresh j hj).1))); have HDJ : Hid (∀ g, u8.ownBlock = some g → v66.ownBlock ≠ some g) := Lib.hid (fun g e1 e2 => by rcases hb g e2 with e3 | e3; exact (hdj1.out g e1).2 _ (List.getElem_mem HJQ.out) (by rw [HRR.out]; exact e3); have := (hB1.out.fresh g e1).2; have := hgx.size; omega); obtain ⟨X2, hX2⟩ : ∃ X2, X2 = xs ++ [bb] := ⟨_, rfl⟩; rw [← hX2] at ho hpr; have HX2 := Lib.hid hX2; obtain ⟨a66, c66, rfl⟩ := ownB_open ho; have HPR := Lib.hid hpr; clear hgx hpr hor ho hg hb hX2)))
            all_goals
              have HB7 := Lib.hid (HB6.out.keptR (grown_set w66 ⟨M, j, none⟩ (.slice a66 X2.length c66)) (sep_row (fun g e1 e2 => (hdj1.out g e1).1 (by cases e2; rfl))) (fun q hq g hg e => Nat.lt_irrefl M (hbr.out q hq M (by cases hg; exact e))))
              have HG7 := Lib.hid (grown_then HG6.out (grown_set w66 ⟨M, j, none⟩ (.slice a66 X2.length c66)) (by rintro g ⟨⟩; exact .inl HMW.out))
              have HQC : Hid (∀ j' (h : j' < (qs1.set j (.slice a66 X2.length c66, X2)).length), ((qs1.set j (.slice a66 X2.length c66, X2))[j']).2 = colT T j' (if j' < j + 1 then k + 1 else k)) := Lib.hid (fun j' h => by
                rw [List.length_set] at h
                rw [List.getElem_set]
                by_cases e : j = j'
                · subst e
                  rw [if_pos rfl, if_pos (by omega), colT_next, HBB.out]
                  show X2 = _
                  rw [HX2.out, HCX.out, if_neg (by omega)]
                · rw [if_neg e, hqc1.out j' h]
                  congr 1
                  by_cases e2 : j' < j
                  · rw [if_pos e2, if_pos (by omega)]
                  · rw [if_neg e2, if_neg (by omega)])
              have HDJ7 : Hid (∀ g, u8.ownBlock = some g → g ≠ M ∧ ∀ q ∈ qs1.set j (.slice a66 X2.length c66, X2), q.1.ownBlock ≠ some g) := Lib.hid (fun g e1 => ⟨(hdj1.out g e1).1, fun q hq => by
                rcases List.mem_or_eq_of_mem_set hq with hq | rfl
                · exact (hdj1.out g e1).2 q hq
                · exact HDJ.out g e1⟩)
              clear p1 p2 p3 q1 q2 q3 r1 r2 r3 s1 s2 s3 hst1 hst2 hcj hfj he1 he2
              go_wp2_with fail
              go_roundw
              case rel => exact ⟨j + 1, _, by go_num, by omega, HPR, Lib.hid (by rw [List.length_set, hql1.out]), HQC, HB7, HDJ7, HG7⟩
              case measure => simp [intOf]; omega
          · obtain rfl : j = c := by omega
            have h3 : ¬ (j : Int) < (j : Int) := by omega
            obtain ⟨m, hm⟩ : ∃ m, m = ps.length - 1 - k := ⟨_, rfl⟩
            have i3 : IntKind.i64.wrap ((ps.length : Int) - 1) = (ps.length : Int) - 1 := IntWalk.i64_in _ (by omega)
            have i4 : IntKind.i64.wrap ((ps.length : Int) - 1 - (k : Int)) = (m : Int) := by rw [IntWalk.i64_in _ (by omega)]; omega
            have hmp : m < ps.length := by omega
            have hmi : (m : Int) < (ps.length : Int) := by omega
            have HMM2 := Lib.hid hm
            clear hm
            have V1 := Lib.hid (V.out.step hG1.out)
            obtain ⟨a3, cc3, hv3, -, hct, hrs⟩ := V1.out.1
            simp only [Value.slice.injEq] at hv3
            obtain ⟨e1, -, -⟩ := hv3
            obtain ⟨b3, o3, hb3, hc3⟩ := BRowsP.at hct hmp
            rw [← e1] at hb3
            simp only [Option.some.injEq, Addr.mk.injEq, and_true] at hb3
            obtain ⟨rfl, rfl⟩ := hb3
            have HBR := Lib.hid (hrs _ (List.getElem_mem hmp)); have HRM := Lib.hid (HRB.out _ (List.getElem_mem hmp)); have HTM := Lib.hid (HTT.out m hmp)
            generalize ps[m] = R at *
            obtain ⟨rv, R⟩ := R
            obtain ⟨⟨ra, rc, hrv, -, -⟩, -⟩ := HBR.out
            dsimp only at hrv hc3 HRM HTM
            subst hrv
            have hbl2 : bs.length ≤ 1000 := by have := hbl.out; omega
            have hMs : M ≤ wr.heap.size := Nat.le_of_lt (hQ1.out.1.fresh M rfl).2
            clear e1 hct hrs
            go_wp2_with (at_builtin; refine app_brow_blk rfl _ _ rfl M u8 bs rfl (hB1.out.same (World.grownBy_alloc _ _ none)) wr.heap.size (.slice ra R.length rc, R) rfl (by simp) (HBR.out.same (World.grownBy_alloc _ _ none)) (by intro g hg e; have := HRM.out g hg; have := (hB1.out.fresh g e).1; omega) (by omega) (by simp; omega) ?_)
            intro v8 w8 ho8 hg8 hb8
            have HO8 := Lib.hid ho8
            have HQ8 := Lib.hid ((hQ1.out.stepT (World.grownBy_alloc wr (.cells #[.slice ra R.length rc] 26) none)).keptR hg8 (fun g e => ⟨fun e2 => (hdj1.out g e).1 (by cases e2; rfl), fun q hq e2 => (hdj1.out g e).2 q hq e2⟩))
            have HG8 := Lib.hid (grown_then (grown_trans hG1.out (World.grownBy_alloc wr (.cells #[.slice ra R.length rc] 26) none)) hg8 (fun g e => .inl (Nat.le_trans HMW.out (hB1.out.fresh g e).1)))
            have HDJ8 : Hid (∀ g, v8.ownBlock = some g → g ≠ M ∧ ∀ q ∈ qs1, q.1.ownBlock ≠ some g) := Lib.hid (fun g e => by
              rcases hb8 g e with e2 | e2
              · exact hdj1.out g e2
              · have hsz := (World.grownBy_alloc wr (.cells #[.slice ra R.length rc] 26) none).size
                exact ⟨by have := (hQ1.out.1.fresh M rfl).2; omega, fun q hq e3 => by have := ((hQ1.out.2.1 q hq).fresh g e3).2; omega⟩)
            have HBC8 : Hid (∀ i (h : i < (bs ++ [((.slice ra R.length rc, R) : BRow)]).length), ((bs ++ [((.slice ra R.length rc, R) : BRow)])[i]).2 = T[ps.length - 1 - i]?.getD []) := Lib.hid (fun i h => by
              by_cases e : i < bs.length
              · rw [List.getElem_append_left e]; exact hbc.out i e
              · rw [List.length_append, List.length_singleton] at h
                obtain rfl : i = k := by have := hbl.out; omega
                rw [List.getElem_append_right (by omega), ← HMM2.out, HTM.out]
                simp)
            have HBR8 : Hid (∀ q ∈ bs ++ [((.slice ra R.length rc, R) : BRow)], ∀ g, q.1.ownBlock = some g → g < M) := Lib.hid (fun q hq => by
              rcases List.mem_append.1 hq with hq | hq
              · exact hbr.out q hq
              · rw [List.mem_singleton.1 hq]; exact HRM.out)
            clear ho8 hg8 hb8 hc3
            go_wp2_with fail
            go_roundw
            case rel => exact ⟨k + 1, qs1, _, by go_num, by omega, HQ8, hql1, Lib.hid (fun j' h => by rw [hqc1.out j' h, if_pos (by rw [← hql1.out]; exact h)]), HO8, Lib.hid (by rw [List.length_append, hbl.out]; rfl), HBC8, HDJ8, HBR8, HG8⟩
            case measure => simp [intOf]; omega
      · obtain rfl : k = ps.length := by omega
        have h2 : ¬ (ps.length : Int) < (ps.length : Int) := by omega
        have VT := Lib.hid (V.out.step hG.out)
        have HSR := Lib.hid (HS.out.step hG.out)
        have HQV : Hid (validT (qs.map Prod.snd) = true) := Lib.hid (valid_tab (c := ps.length) (by rw [hql.out]; omega) (fun q hq => by
          obtain ⟨i, hi, rfl⟩ := List.getElem_of_mem hq
          rw [hqc.out i hi, colT, List.length_map, List.length_range]) (by omega))
        have Hu8 : Hid (validT (bs.map Prod.snd) = true) := Lib.hid (valid_tab (c := c) (by rw [hbl.out]; omega) (fun q hq => by
          obtain ⟨i, hi, rfl⟩ := List.getElem_of_mem hq
          rw [hbc.out i hi, HTT.out _ (by have := hbl.out; omega)]
          exact HPC.out _ (List.getElem_mem _)) (by omega))
        go_wp2_with fail
        refine (Most_any _ ps _ VT.out.1 (HT.out ▸ HVL.out)).mono ?_
        rintro e w81 ⟨n1, rfl, hn1, hg⟩
        rw [HT.out] at hn1
        have HN1 := Lib.hid hn1; have HQ1 := Lib.hid (hQ.out.stepT hg); have HB1 := Lib.hid (hB.out.same hg); have HS1 := Lib.hid (HSR.out.step hg)
        clear hn1 hg
        go_wp2_with fail
        refine (Most_any _ qs _ HQ1.out.1.rows HQV.out).mono ?_
        rintro e w82 ⟨n2, rfl, hn2, hg⟩
        have HN2 := Lib.hid hn2; have HB2 := Lib.hid (HB1.out.same hg); have HS2 := Lib.hid (HS1.out.step hg)
        clear hn2 hg
        go_wp2_with fail
        refine (Most_any _ bs _ HB2.out.rows Hu8.out).mono ?_
        rintro e w83 ⟨n3, rfl, hn3, hg⟩
        have HS3 := Lib.hid (HS2.out.step hg)
        obtain rfl : n1 = n2 := nu_turn (tb_turn hql.out (fun j h => by rw [hqc.out j h, HTL.out]) HCB.out) HN1.out HN2.out
        obtain rfl : n1 = n3 := nu_back (R := ps.length) HTL.out (by rw [List.length_map, hbl.out]) (fun i hi j => by
          rw [tb_row (by rw [List.length_map, hbl.out]; exact hi), List.getElem_map, hbc.out i (by rw [hbl.out]; exact hi)]
          unfold tb
          rfl) HN1.out hn3
        clear hn3 hg
        go_wp2_with fail
        go_ret
        exact ⟨rfl, HS3.out.below⟩
  · go_enter Try.func7, Try.ntmps7
    go_wp2_with fail
    refine (awake03_any _).mono ?_
    rintro e w1 ⟨rfl, hg⟩
    have HG := Lib.hid hg
    clear hg
    go_wp2_with fail
    refine (few_any _ _ _ _).mono ?_
    rintro e w2 ⟨rfl, rfl⟩
    rw [decide_eq_false (by omega)]
    go_wp2_with fail
    refine (awake03_any _).mono ?_
    rintro e w3 ⟨rfl, hg⟩
    have HG := Lib.hid (grown_trans HG.out hg)
    clear hg
    go_wp2_with fail
    go_ret
    exact ⟨rfl, below_of HG.out⟩

/-! ### MultisetTurns: the statement, from its walk -/
set_option maxRecDepth 100000 in
theorem liftedMultisetTurns (os : Os) (started : os.Started) (H : Type) (enc : TypeId × Value → H) :
    ReturnsInHanded {} Try.checked os 7 .any (Rows.multisetTurnsSpec.pre6 enc Try.prog Try.f7 Rows.multisetTurnsRow.domain false) (Rows.multisetTurnsSpec.post enc Try.prog Try.f7 false true false false) := by
  refine returnsInHanded_of_change (C := Try.checked) own started (by kernel_rfl) Try.func7
    (ChangeSpec.witness6 (enc := enc) (C := Try.checked) false ⟨#[], #[.slice none 0 0], []⟩ 8 (by kernel_rfl) (by kernel_rfl) (by kernel_rfl) (by kernel_rfl)) ?_
  intro W base args ds gs before hval0 hW hcnd _
  have hval : ∀ (j : Nat) t v, Try.f7.params[j]? = some t → args[j]? = some v → Value.okWide Try.prog W .any base t v := hval0
  have hW' := hW
  obtain ⟨p, q, hA0, hV, rfl, hfz, hnd⟩ := hW
  have hA : DataW.TrodAll enc Try.prog W 0 (fun _ => true) true Try.f7.params.toList args.toList ds p := hA0
  rw [Try.params7] at hA hval
  obtain ⟨v0, vs0, d0, ds0, p0, q0, hargs, rfl, rfl, h0, r0⟩ := trodAll_cons hA
  obtain ⟨rfl, rfl, rfl⟩ := trodAll_nil r0
  obtain rfl : args = #[v0] := by cases args; simp_all
  obtain ⟨rfl, rfl⟩ := trodVars_none hV
  obtain ⟨a0, len0, cap0, rfl⟩ := okWide_slice Try.underlying22 (hval 0 22 v0 rfl rfl)
  have k0 := h0
  have lt0 : ∀ x ∈ p0, x.block < W.heap.size := by obtain ⟨m, hm⟩ := k0; exact DataW.trod_lt m _ _ _ hm
  obtain ⟨z0, w0⟩ : ∃ zs, IsRow .i64 W a0 len0 cap0 zs := by
    obtain ⟨fuel, hf⟩ := h0
    rcases open_ints Try.underlying22 Try.underlying3 (by kernel_rfl) hf with ⟨hcs, _⟩ | ⟨x, l, c, zs, hcs, _, hl, hm, hz, _, hcell, hwz⟩
    · simp [Value.cells] at hcs
      obtain ⟨rfl, rfl, rfl⟩ := hcs
      exact ⟨[], .inl ⟨rfl, rfl, rfl, rfl⟩⟩
    · simp [Value.cells] at hcs
      obtain ⟨rfl, rfl, rfl⟩ := hcs
      exact ⟨zs, .inr ⟨_, rfl, hl, hm, by simpa using hz, hcell, hwz⟩⟩
  clear hA0 hval0
  refine (walkMultisetTurns a0 len0 cap0 z0 W w0).mono fun e W' ⟨he, bel⟩ => ?_
  subst he
  exact ⟨_, rfl, _, _, _, [], _, [], hW', trodAll_mk1 (shut_bool Try.underlying4 _), (trodAll_cons_mk (Below.trod laidOut (by kernel_rfl) (of_decide_eq_true (by kernel_rfl)) k0 bel lt0) trodAll_mk0), rfl, bel.frame _, fun h => by cases h⟩

theorem multisetTurns_holds : Rows.MultisetTurnsSaid :=
  OpenClaim.holds_of_wide 7 Try.f7 rfl rfl rfl rfl rfl rfl rfl ⟨rfl, rfl, rfl, rfl, rfl⟩ rfl rfl rfl rfl rfl (by kernel_rfl) Try.func7 (by kernel_rfl)
    (of_decide_eq_true (by kernel_rfl)) (by unfold Func.isWrapper; first | (rw [if_pos (by decide +kernel)]; kernel_rfl) | (rw [if_neg (by decide +kernel)]; exact ⟨rfl, rfl⟩))
    (fun os started H enc _ => liftedMultisetTurns os started H enc)
#print axioms multisetTurns_holds
end Go.Proofs.Ytnppmemcdcgjhaa
