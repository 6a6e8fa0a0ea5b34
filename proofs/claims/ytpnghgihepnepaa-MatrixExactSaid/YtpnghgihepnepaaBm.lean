/- The reference's primitive. -/
import Derived.Test.YtpnghgihepnepaaBl
import Derived.StillTailTactics
namespace Go.Proofs.Ytpnghgihepnepaa
open Go.RowKit
set_option linter.unusedVariables false

theorem OwnI.head2 {w : World} {base : Nat} {v : Value} {xs : List Int} (h : OwnI w base v xs) (h1 : 1 ≤ xs.length) : ∃ g cap, v = .slice (some ⟨g, 0, none⟩) xs.length cap ∧ base ≤ g := by
  rcases h.2 with ⟨rfl, h0⟩ | ⟨g, cap, cur, rfl, hg, _⟩
  · omega
  · exact ⟨g, cap, rfl, hg⟩
def primL (row : List Int) : List Int := if 1 < gcdF 0 row then row.map (fun x => x.tdiv (gcdF 0 row : Nat)) else row
theorem primL_len (row : List Int) : (primL row).length = row.length := by unfold primL; split <;> simp
def DivR (g : Int) (row : List Int) (k : Nat) (L : List Int) : Prop := L.length = row.length ∧ ∀ q : Nat, L[q]?.getD 0 = if q < k then (row[q]?.getD 0).tdiv g else row[q]?.getD 0
theorem DivR.put {g : Int} {row L : List Int} {k : Nat} (h : DivR g row k L) (hk : k < row.length) : DivR g row (k + 1) (L.set k ((row[k]?.getD 0).tdiv g)) := by
  refine ⟨by rw [List.length_set]; exact h.1, fun q => ?_⟩
  rw [List.getElem?_set]
  by_cases e : k = q
  · subst e
    rw [if_pos rfl, if_pos (by rw [h.1]; exact hk), if_pos (by omega)]; rfl
  · rw [if_neg e, h.2 q]
    by_cases e2 : q < k
    · rw [if_pos e2, if_pos (by omega)]
    · rw [if_neg e2, if_neg (by omega)]
theorem DivR.full {g : Nat} {row L : List Int} (h : DivR g row row.length L) (hg : g = gcdF 0 row) (h1 : 1 < g) : L = primL row := by
  unfold primL
  rw [← hg, if_pos h1]
  apply List.ext_getElem (by rw [h.1, List.length_map])
  intro q h2 h3
  have h4 := h.2 q
  have h5 : q < row.length := by rw [← h.1]; exact h2
  rw [if_pos h5, List.getElem?_eq_getElem h2, List.getElem?_eq_getElem h5] at h4
  rw [List.getElem_map]
  exact h4
theorem DivR.start (g : Int) (row : List Int) : DivR g row 0 row := ⟨rfl, fun q => by rw [if_neg (by omega)]⟩
set_option maxRecDepth 100000 in
set_option maxHeartbeats 1500000 in
theorem rprim_any (v : Value) (row : List Int) (w : World) (h : Ints w v row) (hl : row.length ≤ 1000) (hb : ∀ x ∈ row, x.natAbs ≤ 9223372036854775807) :
    Calls Try.prog 37 #[v] w fun e w' => ∃ v', e = .returned v' ∧ OwnI w' w.heap.size v' (primL row) ∧ w.grownBy w' none := by
  have H := Lib.hid h; have HB := Lib.hid hb
  obtain ⟨a, cap, rfl, -⟩ := h
  have HG8 := Lib.hid (grown_refl w none)
  clear hb
  go_enter Try.func37, Try.ntmps37
  go_wp2_with fail
  go_loopw [4, 3] (fun i g wr => ∃ k : Nat, i = .int .i64 k ∧ k ≤ row.length ∧ g = .int .i64 ((gcdF 0 (row.take k) : Nat) : Int) ∧ Hid (w.grownBy wr none)) (fun i _ _ => row.length - (intOf i).toNat)
  case atStart => exact ⟨0, rfl, Nat.zero_le _, rfl, HG8⟩
  case round =>
    clear HG8
    obtain ⟨k, rfl, hk, rfl, HG⟩ := hrel
    rename World => wk
    by_cases hkb : k < row.length
    · have h3 : (k : Int) < (row.length : Int) := by omega
      have i1 : IntKind.i64.wrap ((k : Int) + 1) = (k : Int) + 1 := IntWalk.i64_in _ (by omega)
      obtain ⟨_, _, hxv, -, -, hxc⟩ := H.out
      simp only [Value.slice.injEq] at hxv
      obtain ⟨rfl, -, rfl⟩ := hxv
      obtain ⟨bu, ou, rfl, hcu⟩ := Ints.at hxc hkb
      have hcu2 := HG.out.cell hcu (by simp)
      have HS : Hid (gcdF 0 (row.take (k + 1)) = Nat.gcd (row[k]?.getD 0).natAbs (gcdF 0 (row.take k))) := Lib.hid (gcdF_snoc row hkb)
      have HG0 : Hid (gcdF 0 (row.take k) ≤ 9223372036854775807) := Lib.hid (gcdF_bd _ _ (fun x hx => HB.out x (List.mem_of_mem_take hx)) (by omega))
      have HX0 : Hid ((row[k]?.getD 0).natAbs ≤ 9223372036854775807) := Lib.hid (by rw [List.getElem?_eq_getElem hkb]; exact HB.out _ (List.getElem_mem hkb))
      generalize row[k]?.getD 0 = x at *
      generalize gcdF 0 (row.take k) = g at *
      clear hxc hcu
      go_wp2_with fail
      refine (rgcd_any (g : Int) x _ (by rw [Int.natAbs_natCast]; exact HG0.out) HX0.out).mono ?_
      rintro e w2 ⟨rfl, hd⟩
      replace HG := Lib.hid (grown_trans HG.out (hd.grown none))
      have e1 : Nat.gcd (g : Int).natAbs x.natAbs = gcdF 0 (row.take (k + 1)) := by rw [HS.out, Int.natAbs_natCast, Nat.gcd_comm]
      rw [e1]
      clear hd hcu2 e1
      go_wp2_with fail
      go_roundw
      case rel => exact ⟨k + 1, by go_num, by omega, rfl, HG⟩
      case measure => (simp [intOf]; try omega)
    · obtain rfl : k = row.length := by omega
      have h3 : ¬ (row.length : Int) < (row.length : Int) := by omega
      rw [List.take_length]
      obtain ⟨g, hg⟩ : ∃ g, gcdF 0 row = g := ⟨_, rfl⟩
      rw [hg]
      have HGE := Lib.hid hg
      have HGB : Hid (g ≤ 9223372036854775807) := Lib.hid (by rw [← hg]; exact gcdF_bd _ _ HB.out (by omega))
      clear hg
      go_wp2_with (at_builtin; refine app_ints2 rfl _ _ rfl wk.heap.size (.slice none 0 0) [] rfl (OwnI.nil _ _) (.slice a row.length cap) row rfl (H.out.same HG.out) (by simp; omega) (Nat.le_refl _) ?_)
      intro a8 n8 c8 w8 e8 ho hg
      (try simp only [List.nil_append] at e8); (try simp only [List.nil_append] at ho)
      have e9 : row.length = n8 := by rw [e8]
      clear e8
      subst e9
      have HO := Lib.hid ho; have HG2 : Hid (w.grownBy w8 none) := Lib.hid (grown_trans HG.out hg)
      have HZ : Hid (w.heap.size ≤ wk.heap.size) := Lib.hid HG.out.size
      clear ho hg HG
      by_cases hg1 : 1 < g
      · have q1 : (1 : Int) < (g : Int) := by omega
        have q2 : ¬ (g : Int) = 0 := by omega
        have q3 : ((g : Int) == 0) = false := by simp; omega
        have q4 : decide ((1 : Int) < (g : Int)) = true := by simp; omega
        have q5 : decide (1 < g) = true := by simpa using hg1
        by_cases hr0 : row.length = 0
        · have hre : row = [] := List.eq_nil_of_length_eq_zero hr0
          subst hre
          exfalso
          have := HGE.out
          simp [gcdF] at this
          omega
        · obtain ⟨gb, cp, hv, hgb⟩ := HO.out.head2 (by omega)
          simp only [Value.slice.injEq] at hv
          obtain ⟨rfl, -, rfl⟩ := hv
          have HGBB : Hid (w.heap.size ≤ gb) := Lib.hid (Nat.le_trans HZ.out hgb)
          have HL : Hid (∃ L, OwnI w8 wk.heap.size (.slice (some ⟨gb, 0, none⟩) row.length c8) L ∧ DivR g row 0 L) := Lib.hid ⟨row, HO.out, DivR.start _ _⟩
          clear hgb HO hg1 hr0
          go_wp2_with fail
          go_loopw [6] (fun i wr => ∃ k : Nat, i = .int .i64 k ∧ k ≤ row.length ∧ Hid (∃ L, OwnI wr wk.heap.size (.slice (some ⟨gb, 0, none⟩) row.length c8) L ∧ DivR g row k L) ∧ Hid (w.grownBy wr none)) (fun i _ => row.length - (intOf i).toNat)
          case atStart => exact ⟨0, rfl, Nat.zero_le _, HL, HG2⟩
          case round =>
            clear HL HG2
            obtain ⟨k, rfl, hk, HL, HG⟩ := hrel
            rename World => wt
            by_cases hkb : k < row.length
            · have h4 : (k : Int) < (row.length : Int) := by omega
              have h5 : decide ((k : Int) < (row.length : Int)) = true := by simp; omega
              have h6 : decide (k < row.length) = true := by simpa using hkb
              have i1 : IntKind.i64.wrap ((k : Int) + 1) = (k : Int) + 1 := IntWalk.i64_in _ (by omega)
              obtain ⟨L, hO, hD⟩ := HL.out
              have hcz := (hO.cell k (by rw [hD.1]; exact hkb)).1; have hfz := (hO.cell k (by rw [hD.1]; exact hkb)).2
              rw [hD.2 k, if_neg (by omega)] at hcz
              have HX0 : Hid ((row[k]?.getD 0).natAbs ≤ 9223372036854775807) := Lib.hid (by rw [List.getElem?_eq_getElem hkb]; exact HB.out _ (List.getElem_mem hkb))
              have HN : Hid (DivR g row (k + 1) (L.set k ((row[k]?.getD 0).tdiv g))) := Lib.hid (hD.put hkb)
              generalize row[k]?.getD 0 = x at *
              obtain ⟨z, hz⟩ : ∃ z, x.tdiv (g : Int) = z := ⟨_, rfl⟩
              have m1 : IntKind.i64.wrap (x.tdiv (g : Int)) = z := by
                rw [hz]; refine IntWalk.i64_in _ ?_
                have h1 := HX0.out
                have h2 : z.natAbs ≤ x.natAbs := by rw [← hz, Int.natAbs_tdiv]; exact Nat.div_le_self _ _
                omega
              rw [hz] at HN
              have HNN : Hid (∃ L, OwnI (wt.setCell ⟨gb, k, none⟩ (.int .i64 z)) wk.heap.size (.slice (some ⟨gb, 0, none⟩) row.length c8) L ∧ DivR g row (k + 1) L) := Lib.hid ⟨_, hO.stored k z, HN.out⟩
              have HGN : Hid (w.grownBy (wt.setCell ⟨gb, k, none⟩ (.int .i64 z)) none) := Lib.hid (grown_then HG.out (grown_set _ _ _) (by rintro j ⟨⟩; exact .inl HGBB.out))
              clear hO hD HL HG hz
              go_wp2_with fail
              clear hcz hfz m1
              go_roundw
              case rel => exact ⟨k + 1, by go_num, by omega, HNN, HGN⟩
              case measure => (simp [intOf]; try omega)
            · obtain rfl : k = row.length := by omega
              have h4 : ¬ (row.length : Int) < (row.length : Int) := by omega
              obtain ⟨L, hO, hD⟩ := HL.out
              have hL := hD.full HGE.out.symm (by omega)
              subst hL
              have HO := Lib.hid (hO.mono HZ.out)
              clear hO hD HL
              go_wp2_with fail
              go_ret
              exact ⟨_, rfl, HO.out, HG.out⟩
      · have hp : primL row = row := by unfold primL; rw [HGE.out, if_neg hg1]
        have q1 : ¬ (1 : Int) < (g : Int) := by omega
        have q4 : decide ((1 : Int) < (g : Int)) = false := by simp; omega
        have q5 : decide (1 < g) = false := by simpa using hg1
        have HO2 : Hid (OwnI w8 w.heap.size (.slice a8 row.length c8) (primL row)) := Lib.hid (by rw [hp]; exact HO.out.mono HZ.out)
        clear hp hg1 HO
        go_wp2_with fail
        refine wp_loop_rounds 1 ?_
        rw [rounds_succ]
        by_cases hr0 : row.length = 0
        · have h6 : decide (0 < row.length) = false := decide_eq_false (by omega)
          have h7 : ¬ 0 < row.length := by omega
          clear hr0
          go_wp2_with fail
          go_ret
          exact ⟨_, rfl, HO2.out, HG2.out⟩
        · have h6 : decide (0 < row.length) = true := decide_eq_true (by omega)
          have h7 : 0 < row.length := by omega
          clear hr0
          go_wp2_with fail
          go_ret
          exact ⟨_, rfl, HO2.out, HG2.out⟩
end Go.Proofs.Ytpnghgihepnepaa
