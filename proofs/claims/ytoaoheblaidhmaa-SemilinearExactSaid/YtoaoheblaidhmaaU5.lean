/- Texts Cf, As in one. -/
import Derived.Test.YtoaoheblaidhmaaU4
import Derived.Deep.LoopGhost
import Derived.Lib.SliceRun
import Derived.IntWalk
namespace Go.Proofs.Ytoaoheblaidhmaa
open Go.RowKit
set_option linter.unusedVariables false

/-- No row. -/
def row0 : Row := (.slice none 0 0, [])
/-- The first rows, of equal neighbours the first alone. -/
def cpt (ps : List Row) : Nat → List Row
  | 0 => []
  | m + 1 => if m = 0 ∨ (ps[m]?.getD row0).2 ≠ (ps[m - 1]?.getD row0).2 then cpt ps m ++ [ps[m]?.getD row0] else cpt ps m
theorem cpt_len (ps : List Row) : ∀ m, (cpt ps m).length ≤ m
  | 0 => by simp [cpt]
  | m + 1 => by
    have := cpt_len ps m
    unfold cpt
    split
    · simp; omega
    · omega
theorem cpt_mem (ps : List Row) : ∀ m, m ≤ ps.length → ∀ p ∈ cpt ps m, p ∈ ps
  | 0, _, p, h => by simp [cpt] at h
  | m + 1, hm, p, h => by
    unfold cpt at h
    have ih := cpt_mem ps m (by omega) p
    split at h
    · rcases List.mem_append.1 h with h | h
      · exact ih h
      · rw [List.mem_singleton.1 h, List.getElem?_eq_getElem (by omega)]
        exact List.getElem_mem _
    · exact ih h
theorem getD_lt {ps : List Row} {k : Nat} (h : k < ps.length) : ps[k]?.getD row0 = ps[k] := by simp [h]
theorem take_snocR (ps : List Row) (k : Nat) (h : k < ps.length) : ps.take (k + 1) = ps.take k ++ [ps[k]?.getD row0] := by
  rw [List.take_succ_eq_append_getElem h, getD_lt h]
theorem cpt_small (ps : List Row) (h : ps.length < 2) : cpt ps ps.length = ps := by
  match ps, h with
  | [], _ => rfl
  | [p], _ => simp [cpt]

theorem quiet_drew {P : Program} {f : FuncId} {args : Array Value} {W : World} {v : Value} {Q : World → Prop}
    (h : Calls P f args W fun e w' => e = .returned v ∧ Drew W w') (hq : ∀ m, Q (W.drewN m)) : Calls P f args W fun e w'' => e = .returned v ∧ Q w'' :=
  h.mono fun _ _ ⟨he, m, hm⟩ => ⟨he, hm ▸ hq m⟩

theorem drew_tail (w : World) (a n m : Nat) : ∃ k, (w.drewN (a + n)).drewN m = w.drewN (a + k) := ⟨n + m, by simp [Nat.add_assoc]⟩

theorem drew_tail0 (w : World) (n m : Nat) : ∃ k, (w.drewN n).drewN m = w.drewN k := ⟨n + m, by simp⟩

theorem setCells_heap : ∀ (l : List Value) (w : World) (b o : Nat) (cur : Array Value) (e : TypeId) (f : Nat × Nat), w.heap[b]? = some (.cells cur e f) →
    (∃ cur', (w.setCells b o l).heap[b]? = some (.cells cur' e f) ∧ cur'.size = cur.size ∧ ∀ j, j < o → cur'[j]? = cur[j]?) ∧ w.grownBy (w.setCells b o l) (some b)
  | [], w, b, o, cur, e, f, h => ⟨⟨cur, h, rfl, fun _ _ => rfl⟩, grown_refl _ _⟩
  | x :: l, w, b, o, cur, e, f, h => by
    obtain ⟨⟨cur', h1, h2, h3⟩, h4⟩ := setCells_heap l (w.setCell ⟨b, o, none⟩ x) b (o + 1) _ e f (heap_set h x)
    refine ⟨⟨cur', h1, by rw [h2]; simp, fun j hj => ?_⟩, grown_trans (grown_set _ _ _) h4⟩
    rw [h3 j (by omega), Array.getElem?_setIfInBounds]
    rw [if_neg (by omega)]

/-- The slice that CompactFunc gives. -/
def Compacts (base : Nat) (v : Value) (ps : List Row) (w : World) (e : Ending) (w' : World) : Prop :=
  ∃ v', e = .returned v' ∧ OwnP w' base v' (cpt ps ps.length) ∧ w.grownBy w' v.ownBlock ∧ ∀ g, v'.ownBlock = some g → v.ownBlock = some g

/-- What the inner loop of CompactFunc knows of the cells. -/
def Mid (ps : List Row) (m kk : Nat) (us : List Value) : Prop :=
  us.length = ps.length ∧ kk = (cpt ps m).length ∧ kk ≤ m - 1 ∧ us.take kk = (cpt ps m).map Prod.fst ∧ ∀ j, m - 1 ≤ j → us[j]? = (ps.map Prod.fst)[j]?
theorem Mid.start {ps : List Row} {k : Nat} (hk : 1 ≤ k) (hlt : k < ps.length) (h : cpt ps k = ps.take k) (hd : (ps[k]?.getD row0).2 = (ps[k - 1]?.getD row0).2) : Mid ps (k + 1) k (ps.map Prod.fst) := by
  have hc : cpt ps (k + 1) = ps.take k := by
    unfold cpt
    rw [if_neg (by rintro (h1 | h1); omega; exact h1 hd), h]
  refine ⟨by simp, by rw [hc, List.length_take]; omega, by omega, ?_, fun j _ => rfl⟩
  rw [hc, List.map_take]
theorem Mid.skip {ps : List Row} {m kk : Nat} {us : List Value} (h : Mid ps m kk us) (hm : 1 ≤ m) (hd : (ps[m]?.getD row0).2 = (ps[m - 1]?.getD row0).2) : Mid ps (m + 1) kk us := by
  obtain ⟨h1, h2, h3, h4, h5⟩ := h
  have hc : cpt ps (m + 1) = cpt ps m := by
    conv => lhs; unfold cpt
    rw [if_neg (by rintro (h1 | h1); omega; exact h1 hd)]
  exact ⟨h1, by rw [hc]; exact h2, by omega, by rw [hc]; exact h4, fun j hj => h5 j (by omega)⟩
theorem Mid.keep {ps : List Row} {m kk : Nat} {us : List Value} (h : Mid ps m kk us) (hm : 1 ≤ m) (hlt : m < ps.length) (hd : (ps[m]?.getD row0).2 ≠ (ps[m - 1]?.getD row0).2) : Mid ps (m + 1) (kk + 1) (us.set kk (ps[m]?.getD row0).1) := by
  obtain ⟨h1, h2, h3, h4, h5⟩ := h
  have hc : cpt ps (m + 1) = cpt ps m ++ [ps[m]?.getD row0] := by
    conv => lhs; unfold cpt
    rw [if_pos (.inr hd)]
  refine ⟨by simpa using h1, by rw [hc, List.length_append, ← h2]; rfl, by omega, ?_, fun j hj => ?_⟩
  · rw [hc, List.map_append, ← h4, List.take_succ_eq_append_getElem (by simp; omega), List.take_set_of_le (Nat.le_refl _)]
    simp
  · rw [List.getElem?_set, if_neg (by omega)]
    exact h5 j (by omega)

set_option maxHeartbeats 2000000 in
set_option maxRecDepth 100000 in
theorem compact_any (v : Value) (ps : List Row) (base : Nat) (w : World) (h : OwnP w base v ps) (hlen : ps.length ≤ 1000000000000) :
    Calls Try.prog 55 #[v, .func (.func 44) #[] #[]] w (Compacts base v ps w) := by
  have H := Lib.hid h
  by_cases hl2 : ps.length < 2
  · have HR : Hid (Compacts base v ps w (.returned v) w) := Lib.hid ⟨v, rfl, by rw [cpt_small ps hl2]; exact h, grown_refl _ _, fun g hg => hg⟩
    obtain ⟨a, cap, rfl⟩ := h.slice
    clear h
    go_enter Try.func55, Try.ntmps55
    go_wp2_with fail
    go_ret
    exact HR.out
  · rcases h.1.2 with ⟨rfl, h0⟩ | ⟨g, cap, cur, rfl, hbg, hh, hn, hm, hs, ht⟩
    · omega
    have hcell : ∀ j, j < ps.length → w.cell? ⟨g, j, none⟩ = some (ps[j]?.getD row0).1 := by
      intro j hj
      rw [World.ownsRow.cellAt h.1 j (by omega)]
      simp [hj]
    have HC := Lib.hid hcell
    have HO : Hid (∀ p ∈ ps, RowOk w p ∧ ∀ k, p.1.ownBlock = some k → k ≠ g) := Lib.hid (fun p hp => ⟨(h.2 p hp).1, fun k hk e => (h.2 p hp).2 k hk (by rw [e]; rfl)⟩)
    clear hcell ht hs hh
    unfold maxLen at hm
    have hge : 2 ≤ ps.length := by omega
    clear h
    go_enter Try.func55, Try.ntmps55
    go_wp2_with fail
    go_loopg [5] ps.length (fun gg s5 wr => ∃ k q : Nat, 1 ≤ k ∧ k ≤ ps.length ∧ ps.length - k ≤ gg ∧ s5 = .int .i64 k ∧ wr = w.drewN q ∧ Hid (cpt ps k = ps.take k))
    case atStart => exact ⟨1, 0, Nat.le_refl _, by omega, by omega, rfl, rfl, Lib.hid (by cases ps with | nil => simp at hge | cons p ps => simp [cpt])⟩
    case round =>
      obtain ⟨k, q, hk1, hk, hg, rfl, rfl, hall⟩ := hrel
      by_cases hlt : k < ps.length
      · have c1 := HC.out k hlt
        have c0 := HC.out (k - 1) (by omega)
        have i1 := (HO.out _ (by rw [getD_lt hlt]; exact List.getElem_mem hlt) : RowOk w (ps[k]?.getD row0) ∧ _).1.1
        have i0 := (HO.out _ (by rw [getD_lt (show k - 1 < ps.length by omega)]; exact List.getElem_mem (by omega)) : RowOk w (ps[k - 1]?.getD row0) ∧ _).1.1
        have HD : Hid ((ps[k]?.getD row0).2 = (ps[k - 1]?.getD row0).2 → Mid ps (k + 1) k (ps.map Prod.fst)) := Lib.hid (Mid.start hk1 hlt hall.out)
        have HN : Hid ((ps[k]?.getD row0).2 ≠ (ps[k - 1]?.getD row0).2 → cpt ps (k + 1) = ps.take (k + 1)) := Lib.hid (by
          intro hne
          rw [take_snocR ps k hlt]
          conv => lhs; unfold cpt
          rw [if_pos (.inr hne), hall.out])
        have I1 := Lib.hid i1; have I0 := Lib.hid i0
        clear i1 i0
        generalize ps[k]?.getD row0 = p1 at *
        generalize ps[k - 1]?.getD row0 = p0 at *
        have h1 : (k : Int) < (ps.length : Int) := by omega
        have h1' : (1 : Int) ≤ (k : Int) := by omega
        have hkc : k < cap := by omega
        by_cases hdup : p1.2 = p0.2
        · have HE : Hid ((p1.2 == p0.2) = true) := Lib.hid (by simpa using hdup)
          have HM := Lib.hid (HD.out hdup)
          clear hdup
          have g1 : IntKind.i64.wrap ((k : Int) - 1) = (k : Int) - 1 := IntWalk.i64_in _ (by omega)
          have g2 : (0 : Int) ≤ (k : Int) - 1 := by omega
          have g3 : ((k : Int) - 1).toNat = k - 1 := by omega
          have g4 : (k : Int) - 1 < (ps.length : Int) := by omega
          go_wp2_with fail
          go_quiet ((go_at_call 44; exact quiet_drew (equal_any _ _ _ _ _ (I1.out.drewN _) (I0.out.drewN _)) (fun m => drew_tail _ _ _ _)))
          rw [HE.out]
          clear g1 g2 g3 g4
          go_wp2_with fail
          clear c0 c1
          go_loopg [5, 7] ps.length (fun gg s5 s7 wr => ∃ (kk k2 : Nat) (us : List Value), s5 = .int .i64 kk ∧ s7 = .int .i64 k2 ∧ 1 ≤ k2 ∧ k + k2 ≤ ps.length ∧ ps.length - (k + k2) ≤ gg ∧ kk ≤ k + k2 - 1 ∧ Hid (Mid ps (k + k2) kk us) ∧ Hid (wr.ownsRow base 22 1 (.slice (some ⟨g, 0, none⟩) ps.length cap) ps.length us) ∧ Hid (w.grownBy wr (some g)))
          case atStart => exact ⟨k, 1, ps.map Prod.fst, rfl, rfl, Nat.le_refl _, by omega, by omega, by omega, HM, Lib.hid (World.ownsRow.kept H.out.1 (grown_drewN _ _ none) (.inr (by simp [Value.ownBlock]))), Lib.hid (grown_drewN _ _ _)⟩
          case round =>
            obtain ⟨kk, k2, us, rfl, rfl, hk2, hle, hg2, hkk, hM, ho, hgw⟩ := hrel
            have hul : us.length = ps.length := hM.out.1
            by_cases hlt2 : k + k2 < ps.length
            · have cm := World.ownsRow.cellAt ho.out (k + k2) (by omega)
              have cp := World.ownsRow.cellAt ho.out (k + (k2 - 1)) (by omega)
              have ck := World.ownsRow.cellAt ho.out kk (by omega)
              have fk := World.ownsRow.frozenAt ho.out kk
              rw [hM.out.2.2.2.2 (k + k2) (by omega)] at cm
              rw [hM.out.2.2.2.2 (k + (k2 - 1)) (by omega)] at cp
              rw [List.getElem?_map, List.getElem?_eq_getElem hlt2, Option.map_some, ← getD_lt hlt2] at cm
              rw [List.getElem?_map, List.getElem?_eq_getElem (show k + (k2 - 1) < ps.length by omega), Option.map_some, ← getD_lt (show k + (k2 - 1) < ps.length by omega)] at cp
              rw [List.getElem?_eq_getElem (show kk < us.length by omega)] at ck
              have rm := HO.out _ (List.getElem_mem hlt2)
              have rp := HO.out _ (List.getElem_mem (show k + (k2 - 1) < ps.length by omega))
              rw [← getD_lt hlt2] at rm
              rw [← getD_lt (show k + (k2 - 1) < ps.length by omega)] at rp
              have im := (rm.1.kept hgw.out (by rintro j ⟨⟩ e; exact rm.2 _ e rfl)).1
              have ip := (rp.1.kept hgw.out (by rintro j ⟨⟩ e; exact rp.2 _ e rfl)).1
              have HS : Hid ((ps[k + k2]?.getD row0).2 = (ps[k + (k2 - 1)]?.getD row0).2 → Mid ps (k + k2 + 1) kk us) := Lib.hid (fun e => hM.out.skip (by omega) (by rw [show k + k2 - 1 = k + (k2 - 1) by omega]; exact e))
              have HK : Hid ((ps[k + k2]?.getD row0).2 ≠ (ps[k + (k2 - 1)]?.getD row0).2 → Mid ps (k + k2 + 1) (kk + 1) (us.set kk (ps[k + k2]?.getD row0).1)) := Lib.hid (fun e => hM.out.keep (by omega) hlt2 (by rw [show k + k2 - 1 = k + (k2 - 1) by omega]; exact e))
              have IM := Lib.hid im; have IP := Lib.hid ip
              have OC := Lib.hid (slice_one rm.1)
              clear im ip rm rp hM
              generalize us[kk]'(by omega) = old at ck
              obtain ⟨am, cam, hvm, -⟩ := IM.out
              generalize ps[k + k2]?.getD row0 = pm at *
              generalize ps[k + (k2 - 1)]?.getD row0 = pp at *
              rw [hvm] at cm
              have VM := Lib.hid hvm
              have IN := Lib.hid (hvm ▸ IM.out)
              clear hvm
              have g1 : IntKind.i64.wrap ((k2 : Int) - 1) = (k2 : Int) - 1 := IntWalk.i64_in _ (by omega)
              have g2 : (0 : Int) ≤ (k2 : Int) - 1 := by omega
              have g3 : ((k2 : Int) - 1).toNat = k2 - 1 := by omega
              have g4 : (k2 : Int) - 1 < ((ps.length - k : Nat) : Int) := by omega
              have g5 : (k2 : Int) < ((ps.length - k : Nat) : Int) := by omega
              have g6 : k ≠ cap := by omega
              by_cases huv : pm.2 = pp.2
              · have HE : Hid ((pm.2 == pp.2) = true) := Lib.hid (by simpa using huv)
                have HM2 := Lib.hid (HS.out huv)
                clear huv
                go_wp2_with fail
                go_quiet ((go_at_call 44; exact quiet_drew (equal_any _ _ _ _ _ (IN.out.drewN _) (IP.out.drewN _)) (fun m => drew_tail0 _ _ _)))
                rw [HE.out]
                go_wp2_with fail
                go_roundg (ps.length - (k + (k2 + 1)))
                case measure => omega
                case rel => exact ⟨kk, k2 + 1, us, rfl, by go_num, by omega, by omega, Nat.le_refl _, by omega, HM2, Lib.hid (World.ownsRow.kept ho.out (grown_drewN _ _ none) (.inr (by simp [Value.ownBlock]))), Lib.hid (grown_trans hgw.out (grown_drewN _ _ _))⟩
              · have HE : Hid ((pm.2 == pp.2) = false) := Lib.hid (by simpa using huv)
                have HM2 := Lib.hid (HK.out huv)
                clear huv
                go_wp2_with fail
                go_quiet ((go_at_call 44; exact quiet_drew (equal_any _ _ _ _ _ (IN.out.drewN _) (IP.out.drewN _)) (fun m => drew_tail0 _ _ _)))
                rw [HE.out]
                go_wp2_with fail
                go_roundg (ps.length - (k + (k2 + 1)))
                case measure => omega
                case rel => exact ⟨kk + 1, k2 + 1, us.set kk pm.1, by go_num, by go_num, by omega, by omega, Nat.le_refl _, by omega, HM2, Lib.hid (by rw [← VM.out]; exact (World.ownsRow.stored (World.ownsRow.kept ho.out (grown_drewN _ _ none) (.inr (by simp [Value.ownBlock]))) kk _).1), Lib.hid (grown_trans hgw.out (grown_trans (grown_drewN _ _ _) (grown_set _ _ _)))⟩
            · have hend : k + k2 = ps.length := by omega
              have hkl : kk < ps.length := by omega
              have hkc2 : kk ≠ cap := by omega
              have hcl : ∀ ty, (Builtin.clear_ #[24] ty #[.slice (some ⟨g, kk, none⟩) (ps.length - kk) (cap - kk)]).run Try.prog wr = .ok (.tuple #[]) (wr.setCells g kk (List.replicate (ps.length - kk) (.slice none 0 0))) :=
                fun ty => Lib.run_clear_slice wr 24 22 ty (.slice none 0 0) Try.underlying24 Try.zeroValue22 rfl rfl g kk _ _ (by omega) (fun j hj => by rw [World.ownsRow.cellAt ho.out (kk + j) (by omega), List.getElem?_eq_getElem (by omega)]; rfl) (fun j hj => World.ownsRow.frozenAt ho.out _)
              have HF : Hid (∃ W, W = wr.setCells g kk (List.replicate (ps.length - kk) (.slice none 0 0)) ∧ Compacts base (.slice (some ⟨g, 0, none⟩) ps.length cap) ps w (.returned (.slice (some ⟨g, 0, none⟩) kk cap)) W) := Lib.hid (by
                refine ⟨_, rfl, _, rfl, ?_, ?_, fun _ h => h⟩
                · obtain ⟨cur2, hh2, -, -, -, hs2, ht2⟩ : ∃ cur2, wr.heap[g]? = some (.cells cur2 22 (0, 0)) ∧ True ∧ True ∧ True ∧ cur2.size = cap * 1 ∧ cur2.toList.take (ps.length * 1) = us := by
                    rcases ho.out.2 with ⟨h1, _⟩ | ⟨g', cap', cur', h1, _, h3, _, _, h6, h7⟩
                    · simp at h1
                    · simp only [Value.slice.injEq, Option.some.injEq, Addr.mk.injEq, and_true, true_and] at h1
                      obtain ⟨rfl, rfl⟩ := h1
                      exact ⟨cur', h3, trivial, trivial, trivial, h6, h7⟩
                  obtain ⟨⟨cur3, hh3, hs3, hj3⟩, hg3⟩ := setCells_heap (List.replicate (ps.length - kk) (.slice none 0 0)) wr g kk cur2 _ _ hh2
                  have hM' := hM.out
                  rw [hend] at hM'
                  have hkk' : (cpt ps ps.length).length = kk := hM'.2.1.symm
                  refine ⟨⟨by simp, .inr ⟨g, cap, cur3, by rw [hkk'], hbg, hh3, by rw [hkk']; omega, by unfold maxLen; exact hm, by rw [hs3, hs2], ?_⟩⟩, ?_⟩
                  · rw [hkk', Nat.mul_one, ← hM'.2.2.2.1, ← ht2, Nat.mul_one]
                    apply List.ext_getElem?
                    intro j
                    by_cases hj : j < kk
                    · rw [List.getElem?_take_of_lt hj, List.getElem?_take_of_lt hj, List.getElem?_take_of_lt (by omega)]
                      simpa using hj3 j hj
                    · rw [List.getElem?_take_eq_none (by omega), List.getElem?_take_eq_none (by omega)]
                  · intro p hp
                    have hp' := HO.out p (cpt_mem ps ps.length (Nat.le_refl _) p hp)
                    refine ⟨hp'.1.kept (grown_trans hgw.out hg3) (by rintro j ⟨⟩ e; exact hp'.2 _ e rfl), fun j hj e => ?_⟩
                    simp only [Value.ownBlock, Option.some.injEq] at e
                    exact hp'.2 j hj e.symm
                · obtain ⟨cur2, hh2⟩ : ∃ cur2, wr.heap[g]? = some (.cells cur2 22 (0, 0)) := by
                    rcases ho.out.2 with ⟨h1, _⟩ | ⟨g', cap', cur', h1, _, h3, _, _, h6, h7⟩
                    · simp at h1
                    · simp only [Value.slice.injEq, Option.some.injEq, Addr.mk.injEq, and_true, true_and] at h1
                      obtain ⟨rfl, rfl⟩ := h1
                      exact ⟨cur', h3⟩
                  exact grown_trans hgw.out (setCells_heap (List.replicate (ps.length - kk) (.slice none 0 0)) wr g kk cur2 _ _ hh2).2)
              have g5 : ¬ (k2 : Int) < ((ps.length - k : Nat) : Int) := by omega
              have g6 : k ≠ cap := by omega
              clear hM
              go_wp2_with fail
              go_ret
              obtain ⟨W, hW, hc⟩ := HF.out
              subst hW
              exact hc
        · have HE : Hid ((p1.2 == p0.2) = false) := Lib.hid (by simpa using hdup)
          have HM := Lib.hid (HN.out hdup)
          clear hdup
          have g1 : IntKind.i64.wrap ((k : Int) - 1) = (k : Int) - 1 := IntWalk.i64_in _ (by omega)
          have g2 : (0 : Int) ≤ (k : Int) - 1 := by omega
          have g3 : ((k : Int) - 1).toNat = k - 1 := by omega
          have g4 : (k : Int) - 1 < (ps.length : Int) := by omega
          go_wp2_with fail
          go_quiet ((go_at_call 44; exact quiet_drew (equal_any _ _ _ _ _ (I1.out.drewN _) (I0.out.drewN _)) (fun m => drew_tail _ _ _ _)))
          rw [HE.out]
          clear g1 g2 g3 g4
          go_wp2_with fail
          go_roundg (ps.length - (k + 1))
          case measure => omega
          case rel => exact ⟨k + 1, _, by omega, by omega, Nat.le_refl _, by go_num, rfl, HM⟩
      · have HF : Hid (cpt ps ps.length = ps) := Lib.hid (by have h1 := hall.out; rw [show k = ps.length by omega, List.take_length] at h1; exact h1)
        go_wp2_with fail
        go_ret
        exact ⟨_, rfl, by rw [HF.out]; exact H.out.same (grown_drewN _ _ _), grown_drewN _ _ _, fun g hg => hg⟩

end Go.Proofs.Ytoaoheblaidhmaa

namespace Go.Proofs.Ytoaoheblaidhmaa
open Go.RowKit
set_option linter.unusedVariables false

/-- A list put into an ascending list, if it is not there. -/
def putL : List (List Int) → List Int → List (List Int)
  | [], r => [r]
  | x :: xs, r => if compareI x r < 0 then x :: putL xs r else if x = r then x :: xs else r :: x :: xs
def ascL (rs : List (List Int)) : List (List Int) := rs.foldl putL []
def Asc (rs : List (List Int)) : Prop := rs.Pairwise (fun a b => compareI a b < 0)
theorem putL_mem (r : List Int) : ∀ (l : List (List Int)) (x : List Int), x ∈ putL l r ↔ x ∈ l ∨ x = r
  | [], x => by simp [putL]
  | y :: l, x => by
    have ih := putL_mem r l x
    unfold putL
    split
    · simp [ih, or_assoc]
    · split
      · rename_i h; subst h; simp; exact fun h => .inl h
      · simp only [List.mem_cons]
        constructor
        · rintro (h | h | h)
          · exact .inr h
          · exact .inl (.inl h)
          · exact .inl (.inr h)
        · rintro ((h | h) | h)
          · exact .inr (.inl h)
          · exact .inr (.inr h)
          · exact .inl h
theorem cmp_lt_trans {a b c : List Int} (h : compareI a b < 0) (h' : compareI b c < 0) : compareI a c < 0 := by
  have h3 := cmp_trans a b c (Int.le_of_lt h) (Int.le_of_lt h')
  rcases Int.lt_or_eq_of_le h3 with h4 | h4
  · exact h4
  · have := (compareI_zero _ _).1 h4
    subst this
    have := compareI_neg a b
    omega
theorem putL_asc (r : List Int) : ∀ l : List (List Int), Asc l → Asc (putL l r)
  | [], _ => by simp [putL, Asc]
  | y :: l, h => by
    have h1 := List.pairwise_cons.1 h
    unfold putL
    split
    · rename_i hy
      refine List.pairwise_cons.2 ⟨fun x hx => ?_, putL_asc r l h1.2⟩
      rcases (putL_mem r l x).1 hx with hx | hx
      · exact h1.1 x hx
      · rw [hx]; exact hy
    · rename_i hy
      split
      · exact h
      · rename_i hne
        have hr : compareI r y < 0 := by
          have := compareI_neg r y
          have h0 := mt (compareI_zero y r).1 hne
          omega
        refine List.pairwise_cons.2 ⟨fun x hx => ?_, h⟩
        rcases List.mem_cons.1 hx with hx | hx
        · rw [hx]; exact hr
        · exact cmp_lt_trans hr (h1.1 x hx)
theorem foldl_put (rs : List (List Int)) : ∀ l, Asc l → Asc (rs.foldl putL l) ∧ ∀ x, x ∈ rs.foldl putL l ↔ x ∈ l ∨ x ∈ rs := by
  induction rs with
  | nil => intro l h; exact ⟨h, by simp⟩
  | cons r rs ih =>
    intro l h
    obtain ⟨h1, h2⟩ := ih (putL l r) (putL_asc r l h)
    refine ⟨h1, fun x => ?_⟩
    rw [List.foldl_cons, h2, putL_mem, List.mem_cons, or_assoc]
theorem ascL_asc (rs : List (List Int)) : Asc (ascL rs) := (foldl_put rs [] List.Pairwise.nil).1
theorem ascL_mem (rs : List (List Int)) (x : List Int) : x ∈ ascL rs ↔ x ∈ rs := by
  have := (foldl_put rs [] List.Pairwise.nil).2 x
  simpa [ascL] using this
theorem asc_unique : ∀ a b : List (List Int), Asc a → Asc b → (∀ x, x ∈ a ↔ x ∈ b) → a = b
  | [], [], _, _, _ => rfl
  | [], y :: b, _, _, h => by have := (h y).2 (by simp); simp at this
  | x :: a, [], _, _, h => by have := (h x).1 (by simp); simp at this
  | x :: a, y :: b, ha, hb, h => by
    have ha' := List.pairwise_cons.1 ha
    have hb' := List.pairwise_cons.1 hb
    have hxy : x = y := by
      have h1 := (h x).1 (by simp)
      have h2 := (h y).2 (by simp)
      rcases List.mem_cons.1 h1 with h1 | h1
      · exact h1
      · rcases List.mem_cons.1 h2 with h2 | h2
        · exact h2.symm
        · have h3 := ha'.1 y h2
          have h4 := hb'.1 x h1
          have := compareI_neg x y
          omega
    subst hxy
    congr 1
    refine asc_unique a b ha'.2 hb'.2 fun z => ?_
    have hz := h z
    simp only [List.mem_cons] at hz
    constructor
    · intro h1
      rcases hz.1 (.inr h1) with h2 | h2
      · subst h2
        have := ha'.1 z h1
        rw [(compareI_zero z z).2 rfl] at this
        omega
      · exact h2
    · intro h1
      rcases hz.2 (.inr h1) with h2 | h2
      · subst h2
        have := hb'.1 z h1
        rw [(compareI_zero z z).2 rfl] at this
        omega
      · exact h2

/-- Of sorted rows, equal neighbours once: ascending, and the same lists. -/
theorem cpt_asc (ps : List Row) (hs : ps.Pairwise (fun p q => compareI p.2 q.2 ≤ 0)) : ∀ m, m ≤ ps.length → Asc ((cpt ps m).map Prod.snd) ∧ (∀ r, r ∈ (cpt ps m).map Prod.snd ↔ r ∈ (ps.take m).map Prod.snd)
  | 0, _ => by simp [cpt, Asc]
  | m + 1, hm => by
    obtain ⟨ih1, ih2⟩ := cpt_asc ps hs m (by omega)
    have hlt : m < ps.length := by omega
    have hle : ∀ r ∈ (ps.take m).map Prod.snd, compareI r (ps[m]).2 ≤ 0 := by
      intro r hr
      obtain ⟨q, hq, rfl⟩ := List.mem_map.1 hr
      obtain ⟨i, hi, rfl⟩ := List.getElem_of_mem hq
      have hi' : i < m := by simp at hi; omega
      rw [List.getElem_take]
      exact List.pairwise_iff_getElem.1 hs i m (by omega) hlt hi'
    rw [take_snocR ps m hlt, getD_lt hlt]
    unfold cpt
    rw [getD_lt hlt]
    split
    · rename_i hk
      have hlast : ∀ r ∈ (cpt ps m).map Prod.snd, compareI r (ps[m]).2 < 0 := by
        intro r hr
        have h1 := hle r ((ih2 r).1 hr)
        rcases Int.lt_or_eq_of_le h1 with h2 | h2
        · exact h2
        · exfalso
          have h3 := (compareI_zero _ _).1 h2
          rcases hk with hk | hk
          · subst hk; simp [cpt] at hr
          · apply hk
            have hm1 : m - 1 < ps.length := by omega
            rcases Nat.eq_zero_or_pos m with h0 | h0
            · subst h0; simp [cpt] at hr
            rw [getD_lt hm1]
            have hr' := (ih2 r).1 hr
            obtain ⟨q, hq, rfl⟩ := List.mem_map.1 hr'
            obtain ⟨i, hi, rfl⟩ := List.getElem_of_mem hq
            have hi' : i < m := by simp at hi; omega
            rw [List.getElem_take] at h3
            have h4 : compareI (ps[i]).2 (ps[m - 1]).2 ≤ 0 := by
              rcases Nat.lt_or_ge i (m - 1) with h5 | h5
              · exact List.pairwise_iff_getElem.1 hs i (m - 1) (by omega) hm1 h5
              · have : i = m - 1 := by omega
                subst this
                rw [(compareI_zero _ _).2 rfl]; omega
            have h6 : compareI (ps[m - 1]).2 (ps[m]).2 ≤ 0 := List.pairwise_iff_getElem.1 hs (m - 1) m hm1 hlt (by omega)
            rw [h3] at h4
            have h7 := compareI_neg (ps[m]).2 (ps[m - 1]).2
            exact ((compareI_zero _ _).1 (show compareI (ps[m]).2 (ps[m - 1]).2 = 0 by omega))
      refine ⟨?_, fun r => ?_⟩
      · rw [List.map_append]
        refine List.pairwise_append.2 ⟨ih1, by simp, fun a ha b hb => ?_⟩
        simp at hb
        rw [hb]
        exact hlast a ha
      · rw [List.map_append, List.map_append, List.mem_append, List.mem_append, ih2 r]
    · rename_i hk
      refine ⟨ih1, fun r => ?_⟩
      rw [List.map_append, List.mem_append, ih2 r]
      constructor
      · exact fun h => .inl h
      · intro h
        rcases h with h | h
        · exact h
        · simp at h
          rw [h]
          simp only [not_or, ne_eq, Decidable.not_not] at hk
          rw [hk.2, getD_lt (show m - 1 < ps.length by omega)]
          refine List.mem_map.2 ⟨ps[m - 1], ?_, rfl⟩
          exact List.mem_take_iff_getElem.2 ⟨m - 1, by omega, rfl⟩

/-- Slices of slices that a call makes out of one of its caller's own. -/
def AscP (base : Nat) (v : Value) (rs : List (List Int)) (w : World) (e : Ending) (w' : World) : Prop :=
  ∃ v' qs, e = .returned v' ∧ OwnP w' base v' qs ∧ qs.map Prod.snd = ascL rs ∧ w.grownBy w' v.ownBlock ∧ ∀ g, v'.ownBlock = some g → v.ownBlock = some g

end Go.Proofs.Ytoaoheblaidhmaa
