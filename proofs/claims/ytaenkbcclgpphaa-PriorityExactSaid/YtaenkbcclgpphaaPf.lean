/- Contracts of package priority and its reference: Drops. -/
import Derived.Test.YtaenkbcclgpphaaPe
import Derived.Test.YtaenkbcclgpphaaXf
namespace Go.Proofs.Ytaenkbcclgpphaa
open Go.RowKit
set_option linter.unusedVariables false

def dropAt (rs xs : List Int) (i : Nat) : Bool := decide (i + 1 < xs.length) && decide (rk rs (xs[i]?.getD 0) ≤ rk rs (xs[i + 1]?.getD 0))
def dropK (rs xs : List Int) (k : Nat) : List (List Int) := ((List.range k).filter (dropAt rs xs)).map (withoutL xs)
def dropsP (rs xs : List Int) : List (List Int) := if validP rs xs then ascL (dropK rs xs xs.length) else []
theorem dropK_step (rs xs : List Int) (k : Nat) : dropK rs xs (k + 1) = if dropAt rs xs k then dropK rs xs k ++ [withoutL xs k] else dropK rs xs k := by
  unfold dropK
  rw [List.range_succ, List.filter_append, List.map_append]
  by_cases h : dropAt rs xs k = true
  · rw [if_pos h, List.filter_cons, if_pos h]; rfl
  · rw [if_neg h, List.filter_cons, if_neg h]; simp
theorem dropK_end (rs xs : List Int) (k : Nat) (hk : k ≤ xs.length) (h : ¬ k + 1 < xs.length) : dropK rs xs xs.length = dropK rs xs k := by
  rcases Nat.lt_or_ge k xs.length with h1 | h1
  · rw [show xs.length = k + 1 by omega, dropK_step, if_neg]
    unfold dropAt
    rw [decide_eq_false (by omega)]; simp
  · rw [show xs.length = k by omega]
theorem dropAt_in {rs xs : List Int} {k q1 q2 : Nat} (h : k + 1 < xs.length) (h1 : xs[k]?.getD 0 = (q1 : Int)) (h2 : xs[k + 1]?.getD 0 = (q2 : Int)) : dropAt rs xs k = decide (rs[q1]?.getD 0 ≤ rs[q2]?.getD 0) := by
  unfold dropAt
  rw [decide_eq_true h, h1, h2]; rfl
theorem asc_sorted {ps ps' : List Row} (hp : ps'.Perm ps) (hs : ps'.Pairwise (fun p q => compareI p.2 q.2 ≤ 0)) : (cpt ps' ps'.length).map Prod.snd = ascL (ps.map Prod.snd) := by
  obtain ⟨h1, h2⟩ := cpt_asc ps' hs ps'.length (Nat.le_refl _)
  refine asc_unique _ _ h1 (ascL_asc _) fun x => ?_
  rw [h2 x, ascL_mem, List.take_length]
  exact (hp.map Prod.snd).mem_iff

theorem ownI_open' {w : World} {base : Nat} {v : Value} {xs : List Int} (h : OwnI w base v xs) : ∃ a c, v = .slice a xs.length c := by
  rcases h.2 with ⟨hv, h0⟩ | ⟨g, cap, cur, hv, _⟩
  · exact ⟨none, 0, by rw [hv, h0]⟩
  · exact ⟨_, cap, hv⟩
theorem RowOk.bdd' {w : World} {v : Value} {xs : List Int} (h : RowOk w (v, xs)) : ∀ x ∈ xs, -9223372036854775808 ≤ x ∧ x ≤ 9223372036854775807 := by
  obtain ⟨⟨_, _, _, _, hb, _⟩, _⟩ := h
  exact hb
theorem made_far {wr w1 w2 : World} {base : Nat} {v u : Value} {ps : List Row} {xs : List Int} (h : OwnP wr base u ps) (hs : wr.heap.size ≤ w1.heap.size) (h' : OwnI w2 w1.heap.size v xs) : ∀ g, v.ownBlock = some g → u.ownBlock ≠ some g := by
  intro g h1 h2
  have a1 := (h'.fresh g h1).1
  have a2 := (h.fresh g h2).2
  omega

set_option maxRecDepth 100000 in
set_option maxHeartbeats 4000000 in
theorem dropsP_any (vr v : Value) (rs xs : List Int) (w : World) (hr : Ints w vr rs) (h : RowOk w (v, xs)) :
    Calls Try.prog 42 #[vr, v] w (MadeP (dropsP rs xs) w) := by
  have HR := Lib.hid hr; have H := Lib.hid h
  obtain ⟨ar, cr, rfl, hrl0, -, hrc⟩ := hr
  obtain ⟨⟨a, cap, hv, hl, hb, hc⟩, hgood, -⟩ := h
  simp only at hv
  subst hv
  dsimp only at hl hc
  unfold maxLen at hl hrl0
  have HRC := Lib.hid hrc; have HC := Lib.hid hc
  clear hb hrc hc
  cases c1 : validP rs xs
  · have C1 := Lib.hid c1
    have HE : Hid (dropsP rs xs = []) := Lib.hid (by simp [dropsP, c1])
    clear c1 hgood
    go_enter Try.func42, Try.ntmps42
    go_wp2_with fail
    refine (validP_any _ _ _ _ _ HR.out H.out.1).mono ?_; rintro e w' ⟨rfl, rfl⟩
    rw [C1.out]
    go_wp2_with fail
    go_ret
    exact ⟨_, [], rfl, OwnP.nil _ _, by rw [HE.out]; rfl, grown_refl _ _⟩
  have HE : Hid (dropsP rs xs = ascL (dropK rs xs xs.length)) := Lib.hid (by simp [dropsP, c1])
  have C1 := Lib.hid c1
  have hxl := (validP_le c1).2.1
  have hcap : xs.length ≤ cap := hgood.2 _ _ _ rfl
  clear c1 hgood
  go_enter Try.func42, Try.ntmps42
  go_wp2_with fail
  refine (validP_any _ _ _ _ _ HR.out H.out.1).mono ?_; rintro e w' ⟨rfl, rfl⟩
  rw [C1.out]
  go_wp2_with fail
  go_loopw [5, 6] (fun v i wr => ∃ (k : Nat) (ps : List Row), i = .int .i64 k ∧ k ≤ xs.length ∧ ps.length ≤ k ∧ Hid (ps.map Prod.snd = dropK rs xs k) ∧ Hid (OwnP wr w'.heap.size v ps) ∧ Hid (w'.grownBy wr none)) (fun _ i _ => xs.length - (intOf i).toNat)
  case atStart => exact ⟨0, [], rfl, Nat.zero_le _, Nat.zero_le _, Lib.hid (by simp [dropK]), Lib.hid (OwnP.nil _ _), Lib.hid (grown_refl _ _)⟩
  case round =>
    obtain ⟨k, ps, rfl, hk, hlp, hm, ho, hg⟩ := hrel
    obtain ⟨ao, co, rfl⟩ := ho.out.slice
    have i5 : IntKind.i64.wrap ((k : Int) + 1) = (k : Int) + 1 := IntWalk.i64_in _ (by omega)
    have i6 : (0 : Int) ≤ (k : Int) + 1 := by omega
    have i7 : ((k : Int) + 1).toNat = k + 1 := by omega
    by_cases hlt : k + 1 < xs.length
    · have g1 : (k : Int) + 1 < (xs.length : Int) := by omega
      have g2 : (k : Int) < (xs.length : Int) := by omega
      obtain ⟨q1, hq1, hq1l⟩ := letter_nat C1.out (show k < xs.length by omega)
      obtain ⟨q2, hq2, hq2l⟩ := letter_nat C1.out hlt
      have HDA := Lib.hid (dropAt_in (rs := rs) hlt hq1 hq2)
      obtain ⟨b, off, rfl, hx1⟩ := Ints.at HC.out (show k < xs.length by omega)
      obtain ⟨b', off', hab, hx2⟩ := Ints.at HC.out hlt
      simp only [Option.some.injEq, Addr.mk.injEq, and_true] at hab
      obtain ⟨rfl, rfl⟩ := hab
      obtain ⟨br, offr, rfl, hr1⟩ := Ints.at HRC.out hq1l
      obtain ⟨br', offr', hab, hr2⟩ := Ints.at HRC.out hq2l
      simp only [Option.some.injEq, Addr.mk.injEq, and_true] at hab
      obtain ⟨rfl, rfl⟩ := hab
      rw [hq1] at hx1
      rw [hq2] at hx2
      replace hx1 := hg.out.cell hx1 (by simp)
      replace hx2 := hg.out.cell hx2 (by simp)
      replace hr1 := hg.out.cell hr1 (by simp)
      replace hr2 := hg.out.cell hr2 (by simp)
      have j1 : (q1 : Int) < (rs.length : Int) := by omega
      have j2 : (q2 : Int) < (rs.length : Int) := by omega
      have DS := Lib.hid (dropK_step rs xs k)
      clear hq1 hq2
      generalize rs[q1]?.getD 0 = r1 at *
      generalize rs[q2]?.getD 0 = r2 at *
      by_cases hle : r1 ≤ r2
      · have g3 : decide (r1 ≤ r2) = true := by simpa using hle
        have HDB : Hid (dropAt rs xs k = true) := Lib.hid (by rw [HDA.out]; exact g3)
        obtain ⟨at', ct, hrun, hrt, -⟩ := row_tail (k := k + 1) H.out (show k + 1 ≤ xs.length by omega)
        rw [show ((k + 1 : Nat) : Int) = (k : Int) + 1 by omega] at hrun
        have RT := Lib.hid (hrt.same hg.out)
        have RH := Lib.hid ((RowOk.take H.out (show k ≤ xs.length by omega)).same hg.out)
        have j3 : (0 : Int) ≤ (k : Int) := by omega
        have j4 : (k : Int) ≤ (cap : Int) := by omega
        have hl9 : ps.length ≤ 1000000000000 := by omega
        have hfl : ([(Value.slice (some ⟨b, off, none⟩) k cap, xs.take k), (Value.slice at' (xs.length - (k + 1)) ct, xs.drop (k + 1))].flatMap Prod.snd).length ≤ 1000000 := by simp; omega
        have hfe : Hid ([(Value.slice (some ⟨b, off, none⟩) k cap, xs.take k), (Value.slice at' (xs.length - (k + 1)) ct, xs.drop (k + 1))].flatMap Prod.snd = withoutL xs k) := Lib.hid (by simp [withoutL])
        clear hrt
        go_wp2_with fail
        go_big_quiet (fail)
        go_wp2_with fail
        have G : Hid (wr.grownBy (wr.drewN nq).drew none) := Lib.hid (grown_trans (grown_drewN _ _ none) (grown_drew _ none))
        go_region_law (first
          | (refine step_call 43 59 _ _ _ _ _ Try.f59 _ Try.func59 (by kernel_rfl) rfl [.slice (some ⟨(wr.drewN nq).drew.heap.size, 0, none⟩) 2 2] (by kernel_rfl) _ (concat_any _ [(Value.slice (some ⟨b, off, none⟩) k cap, xs.take k), (Value.slice at' (xs.length - (k + 1)) ct, xs.drop (k + 1))] _ (rows_two (heap_new _ rfl) (World.grownBy_alloc _ _ none) (RH.out.same G.out) (RT.out.same G.out)) hfl) ?_; rintro e w43 ⟨v43, rfl, ho43, hg43⟩; rw [hfe.out] at ho43; obtain ⟨a43, c43, rfl⟩ := ownI_open' ho43; refine ⟨_, rfl, ?_⟩; have F43 := Lib.hid (made_far ho.out (World.grownBy_alloc _ _ none).size ho43); have R43 := Lib.hid (ho43.row (without_bd H.out.bdd')); replace G : Hid (wr.grownBy w43 none) := Lib.hid (grown_trans (grown_after G.out) hg43); clear ho43 hg43)
          | (refine step_app_row rfl (.tmp 34) (.tmp 44) rfl w'.heap.size (.slice ao ps.length co) ps (by kernel_rfl) (ho.out.same (grown_after G.out)) w43.heap.size (.slice a43 (withoutL xs k).length c43, withoutL xs k) (by kernel_rfl) (cell_new rfl) (R43.out.same (World.grownBy_alloc _ _ none)) F43.out hl9 (Nat.le_trans (grown_trans hg.out G.out).size (World.grownBy_alloc w43 _ none).size) ?_; intro v45 w45 ho45 hg45; have O45 := Lib.hid ho45; have G45 : Hid (w'.grownBy w45 none) := Lib.hid (grown_then (grown_trans hg.out (grown_after G.out)) hg45 (fun j hj => .inl (ho.out.fresh j hj).1)); clear ho45 hg45))
        go_wp2_with fail
        go_roundw
        case rel => exact ⟨k + 1, _, by go_num, by omega, by simp; omega, Lib.hid (by rw [DS.out, HDB.out, List.map_append, hm.out]; rfl), O45, G45⟩
        case measure => simp [intOf]; omega
      · have g3 : decide (r1 ≤ r2) = false := by simpa using hle
        have HDB : Hid (dropAt rs xs k = false) := Lib.hid (by rw [HDA.out]; exact g3)
        go_wp2_with fail
        go_big_quiet (fail)
        go_wp2_with fail
        go_roundw
        case rel => exact ⟨k + 1, ps, by go_num, by omega, by omega, Lib.hid (by rw [DS.out, HDB.out]; exact hm.out), Lib.hid (ho.out.same (grown_drewN _ _ none)), Lib.hid (grown_trans hg.out (grown_drewN _ _ none))⟩
        case measure => simp [intOf]; omega
    · have g1 : ¬ (k : Int) + 1 < (xs.length : Int) := by omega
      have HEN := Lib.hid (dropK_end rs xs k hk hlt)
      go_wp2_with fail
      refine (sort_any _ _ _ _ ho.out (by omega)).mono ?_
      rintro e w1 ⟨rfl, ps', hp, hs, ho1, hg1⟩
      have HP := Lib.hid hp; have HS := Lib.hid hs; have HO := Lib.hid ho1
      have HG : Hid (w'.grownBy w1 none) := Lib.hid (grown_then hg.out hg1 (fun j hj => .inl (ho.out.fresh j hj).1))
      have hl' : ps'.length ≤ 1000000000000 := by rw [hp.length_eq]; omega
      clear hp hs ho1 hg1
      go_wp2_with fail
      refine (compact_any _ _ _ _ HO.out hl').mono ?_
      rintro e w2 ⟨v', rfl, ho2, hg2, hv2⟩
      have HO2 := Lib.hid ho2
      have HG2 : Hid (w'.grownBy w2 none) := Lib.hid (grown_then HG.out hg2 (fun j hj => .inl (HO.out.fresh j hj).1))
      clear ho2 hg2 hv2
      go_wp2_with fail
      go_ret
      exact ⟨v', _, rfl, HO2.out, by rw [asc_sorted HP.out HS.out, hm.out, HE.out, HEN.out], HG2.out⟩

end Go.Proofs.Ytaenkbcclgpphaa
