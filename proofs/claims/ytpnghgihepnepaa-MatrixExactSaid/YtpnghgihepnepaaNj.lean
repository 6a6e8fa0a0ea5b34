/- Rank, Kernel. -/
import Derived.Test.YtpnghgihepnepaaNi
namespace Go.Proofs.Ytpnghgihepnepaa
open Go.RowKit
set_option linter.unusedVariables false

theorem redStep_piv {c : Nat} {s : RSt} (h : ∀ p ∈ s.2.1, (0 : Int) ≤ p ∧ p < (c : Int)) : ∀ p ∈ (redStep c s).2.1, (0 : Int) ≤ p ∧ p < ((c + 1 : Nat) : Int) := by
  intro p hp
  unfold redStep at hp
  split at hp
  · have := h p hp; omega
  · dsimp only at hp
    rcases List.mem_append.1 hp with hp | hp
    · have := h p hp; omega
    · rw [List.mem_singleton.1 hp]; omega
theorem redN_piv (qs : List Row) (k : Nat) : ∀ p ∈ (redN (qs, [], 1) k).2.1, (0 : Int) ≤ p ∧ p < (k : Int) := by
  induction k with
  | zero => intro p hp; simp [redN] at hp
  | succ k ih => exact redStep_piv ih
theorem redN_inv {qs : List Row} {n m : Nat} (h : RInv n m (qs, [], 1)) (k : Nat) : RInv n m (redN (qs, [], 1) k) := by
  induction k with
  | zero => exact h
  | succ k ih => exact ih.step
/-- All that the numbers of a reduction must keep. -/
def RedFit (ps : List Row) (m : Nat) : Prop := ∀ qs : List Row, qs.map Prod.snd = ps.map Prod.snd → (∀ k, k < m → FitS k (redN (qs, [], 1) k)) ∧
  (-4000000000000000000 ≤ (redN (qs, [], 1) m).2.2 ∧ (redN (qs, [], 1) m).2.2 ≤ 4000000000000000000) ∧ ∀ q ∈ (redN (qs, [], 1) m).1, ∀ x ∈ q.2, -4000000000000000000 ≤ x ∧ x ≤ 4000000000000000000
def RankTo (w : World) (ps : List Row) (m : Nat) (e : Ending) (w' : World) : Prop := ∃ qs : List Row, qs.map Prod.snd = ps.map Prod.snd ∧ e = .returned (.tuple #[.int .i64 ((redN (qs, [], 1) m).2.1.length : Int), .int .i64 0]) ∧ w.grownBy w' none
set_option maxRecDepth 100000 in
set_option maxHeartbeats 2000000 in
theorem Rank_any {w : World} {v : Value} {ps : List Row} {r c : Nat} (h : RowsP w v ps) (hm : MatOkP r c ps) (hf : RedFit ps c) :
    Calls Try.prog 23 #[v] w (RankTo w ps c) := by
  have HM := Lib.hid hm; have H := Lib.hid h; have HF := Lib.hid hf
  obtain ⟨a, cap, rfl, -⟩ : ∃ a cap, v = .slice a ps.length cap ∧ True := by obtain ⟨a, cap, h, -⟩ := h; exact ⟨a, cap, h, trivial⟩
  clear h hm hf
  go_enter Try.func23, Try.ntmps23
  go_wp2_with fail
  refine (Check10_any H.out HM.out).mono ?_
  rintro e w' ⟨rfl, rfl⟩
  go_wp2_with fail
  refine (reduce_any H.out (by have := HM.out.1; have := HM.out.2.1; omega) (by have := HM.out.1; have := HM.out.2.2.1; omega) (fun q hq => (HM.out.2.2.2.2.2.2 q hq).1) HM.out.2.2.2.1 HM.out.2.2.2.2.1 (fun qs hq => (HF.out qs hq).1)).mono ?_
  rintro e w1 ⟨R, v, vp, f, rs, pv, qs0, rfl, hS, hq0, hN⟩
  obtain ⟨ap, cp, rfl⟩ := ownI_sl' hS.piv.1
  have HS := Lib.hid hS; have HQ := Lib.hid hq0; have HN := Lib.hid hN
  have hfd : ∀ w : World, (Instr.field 54 (.agg #[v, .slice ap pv.length cp, .int .i64 f]) 1).run Try.prog w = .ok (.slice ap pv.length cp) w := fun _ => by kernel_rfl
  clear hS hq0 hN
  go_wp2_with fail
  go_ret2
  exact ⟨qs0, HQ.out, by rw [← HN.out]; rfl, HS.out.grow⟩

/-- The basis of the kernel, column by column. -/
def kerN (rows : List (List Int)) (m : Nat) (f : Int) (pv : List Int) : Nat → Nat × List (List Int)
  | 0 => (0, [])
  | c + 1 => if (kerN rows m f pv c).1 < pv.length ∧ pv[(kerN rows m f pv c).1]?.getD 0 = (c : Int) then ((kerN rows m f pv c).1 + 1, (kerN rows m f pv c).2) else ((kerN rows m f pv c).1, (kerN rows m f pv c).2 ++ [solEnd rows c m f pv])
def kerOf (s : RSt) (m : Nat) : List (List Int) := (kerN (s.1.map Prod.snd) m s.2.2 s.2.1 m).2
def KerTo (w : World) (ps : List Row) (m : Nat) (e : Ending) (w' : World) : Prop := ∃ (qs : List Row) (v : Value) (ks : List Row), qs.map Prod.snd = ps.map Prod.snd ∧ e = .returned (.tuple #[v, .int .i64 0]) ∧ MatO w' w.heap.size v ks ∧ ks.map Prod.snd = kerOf (redN (qs, [], 1) m) m ∧ w.grownBy w' none
theorem kerN_small {rows : List (List Int)} {m : Nat} {f : Int} {pv : List Int} (c : Nat) : (kerN rows m f pv c).2.length ≤ c := by
  induction c with
  | zero => simp [kerN]
  | succ c ih => unfold kerN; split <;> simp <;> omega
theorem solEnd_bd {rows : List (List Int)} {c m : Nat} {f : Int} {pv : List Int} (hf : -4000000000000000000 ≤ f ∧ f ≤ 4000000000000000000) (hr : ∀ r ∈ rows, ∀ x ∈ r, -4000000000000000000 ≤ x ∧ x ≤ 4000000000000000000) :
    ∀ x ∈ solEnd rows c m f pv, -9223372036854775808 ≤ x ∧ x ≤ 9223372036854775807 := by
  intro x hx
  unfold solEnd at hx
  obtain ⟨y, hy, rfl⟩ := List.mem_map.1 hx
  have h1 := solV_bd (c := c) (m := m) (pv := pv) hf hr (by decide) _ y hy
  have h2 : (y.tdiv (f.sign * ((solV rows c m f pv pv.length).2 : Int))).natAbs ≤ y.natAbs := by rw [Int.natAbs_tdiv]; exact Nat.div_le_self _ _
  generalize y.tdiv _ = z at *
  omega

set_option maxRecDepth 100000 in
set_option maxHeartbeats 2000000 in
theorem Kernel_any {w : World} {v : Value} {ps : List Row} {r c : Nat} (h : RowsP w v ps) (hm : MatOkP r c ps) (hf : RedFit ps c) :
    Calls Try.prog 21 #[v] w (KerTo w ps c) := by
  have HM := Lib.hid hm; have H := Lib.hid h; have HF := Lib.hid hf
  obtain ⟨a, cap, rfl, -⟩ : ∃ a cap, v = .slice a ps.length cap ∧ True := by obtain ⟨a, cap, h, -⟩ := h; exact ⟨a, cap, h, trivial⟩
  have hn : ps.length ≤ 12 := by have := hm.1; have := hm.2.2.1; omega
  have hn1 : 1 ≤ ps.length := by have := hm.1; have := hm.2.1; omega
  obtain ⟨b, off, a2, c2, rfl, hc0, -, -⟩ := h.row (show 0 < ps.length by omega)
  rw [(hm.2.2.2.2.2.2 _ (List.getElem_mem _)).1, Nat.add_zero] at hc0
  have HC0 := Lib.hid hc0
  have hc12 : c ≤ 12 := hm.2.2.2.2.1
  have e0 : (0 : Int) < (ps.length : Int) := by omega
  clear h hm hf hc0
  go_enter Try.func21, Try.ntmps21
  go_wp2_with fail
  refine (Check10_any H.out HM.out).mono ?_
  rintro e w' ⟨rfl, rfl⟩
  go_wp2_with fail
  refine (reduce_any H.out hn1 hn (fun q hq => (HM.out.2.2.2.2.2.2 q hq).1) HM.out.2.2.2.1 hc12 (fun qs hq => (HF.out qs hq).1)).mono ?_
  rintro e w1 ⟨R, v, vp, f, rs, pv, qs0, rfl, hS, hq0, hN⟩
  obtain ⟨ap, cp, rfl⟩ := ownI_sl' hS.piv.1
  obtain ⟨av, cv, rfl⟩ := hS.mat.slice
  have HI := Lib.hid (redN_inv (n := ps.length) (m := c) (qs := qs0) ⟨by have := congrArg List.length hq0; simpa using this, fun q hq => by
        have : q.2 ∈ ps.map Prod.snd := by rw [← hq0]; exact List.mem_map_of_mem hq
        obtain ⟨p, hp, e⟩ := List.mem_map.1 this
        rw [← e]; exact (HM.out.2.2.2.2.2.2 p hp).1, Nat.zero_le _, Int.one_ne_zero⟩ c)
  have HPV := Lib.hid (redN_piv qs0 c)
  have HFF := Lib.hid (HF.out qs0 hq0)
  rw [← hN] at HI HPV HFF
  have HS := Lib.hid hS; have HQ := Lib.hid hq0; have HN := Lib.hid hN
  have hcw := hS.grow.cell HC0.out (by simp)
  have hbx := cells3 (heap_new (w := w1) (g := w1.heap.size) (.cells #[.slice av rs.length cv, .slice ap pv.length cp, .int .i64 f] 54) rfl)
  have HBX := Lib.hid hbx
  have HW1 := Lib.hid (World.grownBy_alloc w1 (.cells #[.slice av rs.length cv, .slice ap pv.length cp, .int .i64 f] 54) none)
  have hcw2 := HW1.out.cell hcw (by simp)
  clear hS hq0 hN hbx hcw
  go_wp2_with fail
  clear hcw2
  generalize w1.alloc (.cells #[.slice av rs.length cv, .slice ap pv.length cp, .int .i64 f] 54) = w2 at *
  obtain ⟨rows, hrows⟩ : ∃ rows, rs.map Prod.snd = rows := ⟨_, rfl⟩
  have HRW := Lib.hid hrows
  have HRB : Hid (∀ r ∈ rows, ∀ x ∈ r, -4000000000000000000 ≤ x ∧ x ≤ 4000000000000000000) := Lib.hid (by rw [← hrows]; intro r hr; obtain ⟨q, hq, rfl⟩ := List.mem_map.1 hr; exact HFF.out.2.2 q hq)
  clear hrows
  go_loopw [20, 7, 6] (fun i nx o wr => ∃ (k t : Nat) (ks : List Row), i = .int .i64 k ∧ nx = .int .i64 t ∧ k ≤ c ∧ t ≤ k ∧ t ≤ pv.length ∧ Hid ((kerN rows c f pv k).1 = t) ∧ Hid (ks.map Prod.snd = (kerN rows c f pv k).2) ∧ Hid (MatO wr w2.heap.size o ks) ∧ Hid (w2.grownBy wr none)) (fun i _ _ _ => c - (intOf i).toNat)
  case atStart => exact ⟨0, 0, [], rfl, rfl, Nat.zero_le _, Nat.le_refl _, Nat.zero_le _, Lib.hid rfl, Lib.hid rfl, Lib.hid (MatO.nil _ _), Lib.hid (grown_refl _ _)⟩
  case round =>
    obtain ⟨k, t, ks, rfl, rfl, hk, htk, htp, hT, hK, hM, hG⟩ := hrel
    rename World => wk
    by_cases hkb : k < c
    · have h3 : (k : Int) < (c : Int) := by omega
      have i1 : IntKind.i64.wrap ((k : Int) + 1) = (k : Int) + 1 := IntWalk.i64_in _ (by omega)
      have i2 : IntKind.i64.wrap ((t : Int) + 1) = (t : Int) + 1 := IntWalk.i64_in _ (by omega)
      have b1 := hG.out.cell HBX.out.2.1 (by simp)
      have hstep : kerN rows c f pv (k + 1) = if t < pv.length ∧ pv[t]?.getD 0 = (k : Int) then (t + 1, (kerN rows c f pv k).2) else (t, (kerN rows c f pv k).2 ++ [solEnd rows k c f pv]) := by
        show (if (kerN rows c f pv k).1 < pv.length ∧ _ then _ else _) = _
        rw [hT.out]
      have CASE : (t < pv.length ∧ pv[t]?.getD 0 = (k : Int)) ∨ (t < pv.length ∧ ¬ pv[t]?.getD 0 = (k : Int)) ∨ t = pv.length := by omega
      have HSK := Lib.hid (HS.out.same (grown_trans HW1.out hG.out))
      rcases CASE with ⟨q1, q2⟩ | ⟨q1, q2⟩ | q1
      · have h4 : (t : Int) < (pv.length : Int) := by omega
        obtain ⟨pg, pc, hpe, -⟩ : ∃ pg pc, Value.slice ap pv.length cp = .slice (some ⟨pg, 0, none⟩) pv.length pc ∧ True := by
          rcases HS.out.piv.1.2 with ⟨_, h0⟩ | ⟨pg, pc, cur, hv, -⟩
          · omega
          · exact ⟨pg, pc, hv, trivial⟩
        simp only [Value.slice.injEq] at hpe
        obtain ⟨rfl, -, rfl⟩ := hpe
        have hcp := (HSK.out.piv.1.cell t q1).1
        rw [q2] at hcp
        rw [if_pos ⟨q1, q2⟩] at hstep
        have HT1 : Hid ((kerN rows c f pv (k + 1)).1 = t + 1) := Lib.hid (by rw [hstep])
        have HK1 : Hid (ks.map Prod.snd = (kerN rows c f pv (k + 1)).2) := Lib.hid (by rw [hstep]; exact hK.out)
        have k1 : ((k : Int) == (k : Int)) = true := by simp
        clear hstep q2 hT hK
        go_wp2_with fail
        go_roundw
        case rel => exact ⟨k + 1, t + 1, ks, by go_num, by go_num, by omega, by omega, by omega, HT1, HK1, hM, hG⟩
        case measure => simp [intOf]; omega
      · have h4 : (t : Int) < (pv.length : Int) := by omega
        obtain ⟨pg, pc, hpe, -⟩ : ∃ pg pc, Value.slice ap pv.length cp = .slice (some ⟨pg, 0, none⟩) pv.length pc ∧ True := by
          rcases HS.out.piv.1.2 with ⟨_, h0⟩ | ⟨pg, pc, cur, hv, -⟩
          · omega
          · exact ⟨pg, pc, hv, trivial⟩
        simp only [Value.slice.injEq] at hpe
        obtain ⟨rfl, -, rfl⟩ := hpe
        have hcp := (HSK.out.piv.1.cell t q1).1
        rw [if_neg (fun h => q2 h.2)] at hstep
        have HT1 : Hid ((kerN rows c f pv (k + 1)).1 = t) := Lib.hid (by rw [hstep])
        have HK1 : Hid ((kerN rows c f pv (k + 1)).2 = (kerN rows c f pv k).2 ++ [solEnd rows k c f pv]) := Lib.hid (by rw [hstep])
        have k1 : (pv[t]?.getD 0 == (k : Int)) = false := by simpa using q2
        generalize pv[t]?.getD 0 = pt at *
        clear hstep q2 hT
        have b0 := hG.out.cell HBX.out.1 (by simp); have b2 := hG.out.cell HBX.out.2.2 (by simp)
        go_wp2_with fail
        refine (solution_any (m := c) (c := k) HSK.out.mat HSK.out.piv.1 (by rw [show rs.length = ps.length from HI.out.rows]; exact hn1) (by rw [show rs.length = ps.length from HI.out.rows]; exact hn) (by rw [show rs.length = ps.length from HI.out.rows]; exact HI.out.piv) HI.out.wide hc12 hkb HI.out.fac HFF.out.2.1 HFF.out.2.2 HPV.out).mono ?_
        rintro e w9 ⟨v9, rfl, ho9, hg9⟩
        rw [HRW.out] at ho9
        have HB9 := Lib.hid (solEnd_bd (c := k) (m := c) (pv := pv) HFF.out.2.1 HRB.out)
        obtain ⟨xs, hxs⟩ : ∃ xs, solEnd rows k c f pv = xs := ⟨_, rfl⟩
        rw [hxs] at ho9 HB9 HK1
        obtain ⟨a9, c9, rfl⟩ := ownI_sl' ho9
        have HFA := Lib.hid (fun g hg => own_lt_of hM.out (ho9.fresh g hg).1)
        have HM9 := Lib.hid (hM.out.same hg9); have HG9 := Lib.hid (grown_trans hG.out hg9)
        have HO9 := Lib.hid (ho9.mono hG.out.size)
        clear hcp b0 b1 b2 k1 ho9 hg9 hxs hM hG
        go_wp2_with (at_builtin; refine app_row rfl _ _ rfl w2.heap.size u6 ks rfl (HM9.out.own.same (World.grownBy_alloc _ _ none)) w9.heap.size (.slice a9 xs.length c9, xs) rfl (cell_new rfl) ((HO9.out.row HB9.out).same (World.grownBy_alloc _ _ none)) (fun g hg => (HFA.out g hg).1) (by have := congrArg List.length hK.out; rw [List.length_map] at this; have := kerN_small (rows := rows) (m := c) (f := f) (pv := pv) k; omega) (Nat.le_trans HG9.out.size (World.grownBy_alloc _ _ none).size) ?_)
        intro v10 w10 ho10 hg10
        have HM10 := Lib.hid (MatO.push (HM9.out.same (World.grownBy_alloc w9 (  .cells #[.slice a9 xs.length c9] 22) none)) (q := (.slice a9 xs.length c9, xs)) (HO9.out.kept (World.grownBy_alloc _ _ none) (by simp)) HFA.out ho10 hg10)
        have HG10 : Hid (w2.grownBy w10 none) := Lib.hid (grown_then (grown_aft HG9.out) hg10 (fun j hj => .inl (HM9.out.own.fresh j hj).1))
        have HKN : Hid ((ks ++ [(Value.slice a9 xs.length c9, xs)]).map Prod.snd = (kerN rows c f pv (k + 1)).2) := Lib.hid (by rw [List.map_append, hK.out, HK1.out]; rfl)
        clear ho10 hg10
        go_wp2_with fail
        go_roundw
        case rel => exact ⟨k + 1, t, _, by go_num, rfl, by omega, by omega, by omega, HT1, HKN, HM10, HG10⟩
        case measure => simp [intOf]; omega
      · subst q1
        have h4 : ¬ (pv.length : Int) < (pv.length : Int) := by omega
        rw [if_neg (fun h => absurd h.1 (by omega))] at hstep
        have HT1 : Hid ((kerN rows c f pv (k + 1)).1 = pv.length) := Lib.hid (by rw [hstep])
        have HK1 : Hid ((kerN rows c f pv (k + 1)).2 = (kerN rows c f pv k).2 ++ [solEnd rows k c f pv]) := Lib.hid (by rw [hstep])
        clear hstep hT
        have b0 := hG.out.cell HBX.out.1 (by simp); have b2 := hG.out.cell HBX.out.2.2 (by simp)
        go_wp2_with fail
        refine (solution_any (m := c) (c := k) HSK.out.mat HSK.out.piv.1 (by rw [show rs.length = ps.length from HI.out.rows]; exact hn1) (by rw [show rs.length = ps.length from HI.out.rows]; exact hn) (by rw [show rs.length = ps.length from HI.out.rows]; exact HI.out.piv) HI.out.wide hc12 hkb HI.out.fac HFF.out.2.1 HFF.out.2.2 HPV.out).mono ?_
        rintro e w9 ⟨v9, rfl, ho9, hg9⟩
        rw [HRW.out] at ho9
        have HB9 := Lib.hid (solEnd_bd (c := k) (m := c) (pv := pv) HFF.out.2.1 HRB.out)
        obtain ⟨xs, hxs⟩ : ∃ xs, solEnd rows k c f pv = xs := ⟨_, rfl⟩
        rw [hxs] at ho9 HB9 HK1
        obtain ⟨a9, c9, rfl⟩ := ownI_sl' ho9
        have HFA := Lib.hid (fun g hg => own_lt_of hM.out (ho9.fresh g hg).1)
        have HM9 := Lib.hid (hM.out.same hg9); have HG9 := Lib.hid (grown_trans hG.out hg9)
        have HO9 := Lib.hid (ho9.mono hG.out.size)
        clear b0 b1 b2 ho9 hg9 hxs hM hG
        go_wp2_with (at_builtin; refine app_row rfl _ _ rfl w2.heap.size u6 ks rfl (HM9.out.own.same (World.grownBy_alloc _ _ none)) w9.heap.size (.slice a9 xs.length c9, xs) rfl (cell_new rfl) ((HO9.out.row HB9.out).same (World.grownBy_alloc _ _ none)) (fun g hg => (HFA.out g hg).1) (by have := congrArg List.length hK.out; rw [List.length_map] at this; have := kerN_small (rows := rows) (m := c) (f := f) (pv := pv) k; omega) (Nat.le_trans HG9.out.size (World.grownBy_alloc _ _ none).size) ?_)
        intro v10 w10 ho10 hg10
        have HM10 := Lib.hid (MatO.push (HM9.out.same (World.grownBy_alloc w9 (  .cells #[.slice a9 xs.length c9] 22) none)) (q := (.slice a9 xs.length c9, xs)) (HO9.out.kept (World.grownBy_alloc _ _ none) (by simp)) HFA.out ho10 hg10)
        have HG10 : Hid (w2.grownBy w10 none) := Lib.hid (grown_then (grown_aft HG9.out) hg10 (fun j hj => .inl (HM9.out.own.fresh j hj).1))
        have HKN : Hid ((ks ++ [(Value.slice a9 xs.length c9, xs)]).map Prod.snd = (kerN rows c f pv (k + 1)).2) := Lib.hid (by rw [List.map_append, hK.out, HK1.out]; rfl)
        clear ho10 hg10
        go_wp2_with fail
        go_roundw
        case rel => exact ⟨k + 1, pv.length, _, by go_num, rfl, by omega, by omega, by omega, HT1, HKN, HM10, HG10⟩
        case measure => simp [intOf]; omega
    · obtain rfl : k = c := by omega
      have h3 : ¬ (k : Int) < (k : Int) := by omega
      go_wp2_with fail
      go_ret2
      exact ⟨qs0, _, ks, HQ.out, rfl, hM.out.mono (Nat.le_trans HS.out.grow.size HW1.out.size), by rw [hK.out, ← HN.out, ← HRW.out]; rfl, grown_trans (grown_trans HS.out.grow HW1.out) hG.out⟩

end Go.Proofs.Ytpnghgihepnepaa
