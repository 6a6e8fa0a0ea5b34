/- Texts Bm, Bn, Bo in one. -/
import Derived.Test.YtpnghgihepnepaaDoorU23
import Derived.StillTailTactics
namespace Go.Proofs.YtpnghgihepnepaaDoor
open Go.RowKit
set_option linter.unusedVariables false

theorem OwnI.head2 {w : World} {base : Nat} {v : Value} {xs : List Int} (h : OwnI w base v xs) (h1 : 1 ≤ xs.length) : ∃ g cap, v = .slice (some ⟨g, 0, none⟩) xs.length cap ∧ base ≤ g := by
  rcases h.2 with ⟨rfl, h0⟩ | ⟨g, cap, cur, rfl, hg, _⟩
  · omega
  · exact ⟨g, cap, rfl, hg⟩
def primL (row : List Int) : List Int := if 1 < gcdF 0 row then row.map (fun x => x.tdiv (gcdF 0 row : Nat)) else row
theorem primL_len (row : List Int) : (primL row).length = row.length := by unfold primL; split <;> simp
def DivR (g : Int) (row : List Int) (k : Nat) (L : List Int) : Prop := L.length = row.length ∧ ∀ q : Nat, L[q]?.getD 0 = if q < k then (row[q]?.getD 0).tdiv g else row[q]?.getD 0
theorem DivR.put {g : Int} {row L : List Int} {k : Nat} (h : DivR g row k L) (hk : k < row.length) : DivR g row (k + 1) (L.set k ((row[k]?.getD 0).tdiv g)) := by
  refine ⟨by rw [List.length_set]; exact h.1, fun q => ?_⟩
  rw [List.getElem?_set]
  by_cases e : k = q
  · subst e
    rw [if_pos rfl, if_pos (by rw [h.1]; exact hk), if_pos (by omega)]; rfl
  · rw [if_neg e, h.2 q]
    by_cases e2 : q < k
    · rw [if_pos e2, if_pos (by omega)]
    · rw [if_neg e2, if_neg (by omega)]
theorem DivR.full {g : Nat} {row L : List Int} (h : DivR g row row.length L) (hg : g = gcdF 0 row) (h1 : 1 < g) : L = primL row := by
  unfold primL
  rw [← hg, if_pos h1]
  apply List.ext_getElem (by rw [h.1, List.length_map])
  intro q h2 h3
  have h4 := h.2 q
  have h5 : q < row.length := by rw [← h.1]; exact h2
  rw [if_pos h5, List.getElem?_eq_getElem h2, List.getElem?_eq_getElem h5] at h4
  rw [List.getElem_map]
  exact h4
theorem DivR.start (g : Int) (row : List Int) : DivR g row 0 row := ⟨rfl, fun q => by rw [if_neg (by omega)]⟩
set_option maxRecDepth 100000 in
set_option maxHeartbeats 1500000 in
theorem rprim_any (v : Value) (row : List Int) (w : World) (h : Ints w v row) (hl : row.length ≤ 1000) (hb : ∀ x ∈ row, x.natAbs ≤ 9223372036854775807) :
    Calls Tryd.prog 72 #[v] w fun e w' => ∃ v', e = .returned v' ∧ OwnI w' w.heap.size v' (primL row) ∧ w.grownBy w' none := by
  have H := Lib.hid h; have HB := Lib.hid hb
  obtain ⟨a, cap, rfl, -⟩ := h
  have HG8 := Lib.hid (grown_refl w none)
  clear hb
  go_enter Tryd.func72, Tryd.ntmps72
  go_wp2_with fail
  go_loopw [4, 3] (fun i g wr => ∃ k : Nat, i = .int .i64 k ∧ k ≤ row.length ∧ g = .int .i64 ((gcdF 0 (row.take k) : Nat) : Int) ∧ Hid (w.grownBy wr none)) (fun i _ _ => row.length - (intOf i).toNat)
  case atStart => exact ⟨0, rfl, Nat.zero_le _, rfl, HG8⟩
  case round =>
    clear HG8
    obtain ⟨k, rfl, hk, rfl, HG⟩ := hrel
    rename World => wk
    by_cases hkb : k < row.length
    · have h3 : (k : Int) < (row.length : Int) := by omega
      have i1 : IntKind.i64.wrap ((k : Int) + 1) = (k : Int) + 1 := IntWalk.i64_in _ (by omega)
      obtain ⟨_, _, hxv, -, -, hxc⟩ := H.out
      simp only [Value.slice.injEq] at hxv
      obtain ⟨rfl, -, rfl⟩ := hxv
      obtain ⟨bu, ou, rfl, hcu⟩ := Ints.at hxc hkb
      have hcu2 := HG.out.cell hcu (by simp)
      have HS : Hid (gcdF 0 (row.take (k + 1)) = Nat.gcd (row[k]?.getD 0).natAbs (gcdF 0 (row.take k))) := Lib.hid (gcdF_snoc row hkb)
      have HG0 : Hid (gcdF 0 (row.take k) ≤ 9223372036854775807) := Lib.hid (gcdF_bd _ _ (fun x hx => HB.out x (List.mem_of_mem_take hx)) (by omega))
      have HX0 : Hid ((row[k]?.getD 0).natAbs ≤ 9223372036854775807) := Lib.hid (by rw [List.getElem?_eq_getElem hkb]; exact HB.out _ (List.getElem_mem hkb))
      generalize row[k]?.getD 0 = x at *
      generalize gcdF 0 (row.take k) = g at *
      clear hxc hcu
      go_wp2_with fail
      refine (rgcd_any (g : Int) x _ (by rw [Int.natAbs_natCast]; exact HG0.out) HX0.out).mono ?_
      rintro e w2 ⟨rfl, hd⟩
      replace HG := Lib.hid (grown_trans HG.out (hd.grown none))
      have e1 : Nat.gcd (g : Int).natAbs x.natAbs = gcdF 0 (row.take (k + 1)) := by rw [HS.out, Int.natAbs_natCast, Nat.gcd_comm]
      rw [e1]
      clear hd hcu2 e1
      go_wp2_with fail
      go_roundw
      case rel => exact ⟨k + 1, by go_num, by omega, rfl, HG⟩
      case measure => (simp [intOf]; try omega)
    · obtain rfl : k = row.length := by omega
      have h3 : ¬ (row.length : Int) < (row.length : Int) := by omega
      rw [List.take_length]
      obtain ⟨g, hg⟩ : ∃ g, gcdF 0 row = g := ⟨_, rfl⟩
      rw [hg]
      have HGE := Lib.hid hg
      have HGB : Hid (g ≤ 9223372036854775807) := Lib.hid (by rw [← hg]; exact gcdF_bd _ _ HB.out (by omega))
      clear hg
      go_wp2_with (at_builtin; refine app_ints2 rfl _ _ rfl wk.heap.size (.slice none 0 0) [] rfl (OwnI.nil _ _) (.slice a row.length cap) row rfl (H.out.same HG.out) (by simp; omega) (Nat.le_refl _) ?_)
      intro a8 n8 c8 w8 e8 ho hg
      (try simp only [List.nil_append] at e8); (try simp only [List.nil_append] at ho)
      have e9 : row.length = n8 := by rw [e8]
      clear e8
      subst e9
      have HO := Lib.hid ho; have HG2 : Hid (w.grownBy w8 none) := Lib.hid (grown_trans HG.out hg)
      have HZ : Hid (w.heap.size ≤ wk.heap.size) := Lib.hid HG.out.size
      clear ho hg HG
      by_cases hg1 : 1 < g
      · have q1 : (1 : Int) < (g : Int) := by omega
        have q2 : ¬ (g : Int) = 0 := by omega
        have q3 : ((g : Int) == 0) = false := by simp; omega
        have q4 : decide ((1 : Int) < (g : Int)) = true := by simp; omega
        have q5 : decide (1 < g) = true := by simpa using hg1
        by_cases hr0 : row.length = 0
        · have hre : row = [] := List.eq_nil_of_length_eq_zero hr0
          subst hre
          exfalso
          have := HGE.out
          simp [gcdF] at this
          omega
        · obtain ⟨gb, cp, hv, hgb⟩ := HO.out.head2 (by omega)
          simp only [Value.slice.injEq] at hv
          obtain ⟨rfl, -, rfl⟩ := hv
          have HGBB : Hid (w.heap.size ≤ gb) := Lib.hid (Nat.le_trans HZ.out hgb)
          have HL : Hid (∃ L, OwnI w8 wk.heap.size (.slice (some ⟨gb, 0, none⟩) row.length c8) L ∧ DivR g row 0 L) := Lib.hid ⟨row, HO.out, DivR.start _ _⟩
          clear hgb HO hg1 hr0
          go_wp2_with fail
          go_loopw [6] (fun i wr => ∃ k : Nat, i = .int .i64 k ∧ k ≤ row.length ∧ Hid (∃ L, OwnI wr wk.heap.size (.slice (some ⟨gb, 0, none⟩) row.length c8) L ∧ DivR g row k L) ∧ Hid (w.grownBy wr none)) (fun i _ => row.length - (intOf i).toNat)
          case atStart => exact ⟨0, rfl, Nat.zero_le _, HL, HG2⟩
          case round =>
            clear HL HG2
            obtain ⟨k, rfl, hk, HL, HG⟩ := hrel
            rename World => wt
            by_cases hkb : k < row.length
            · have h4 : (k : Int) < (row.length : Int) := by omega
              have h5 : decide ((k : Int) < (row.length : Int)) = true := by simp; omega
              have h6 : decide (k < row.length) = true := by simpa using hkb
              have i1 : IntKind.i64.wrap ((k : Int) + 1) = (k : Int) + 1 := IntWalk.i64_in _ (by omega)
              obtain ⟨L, hO, hD⟩ := HL.out
              have hcz := (hO.cell k (by rw [hD.1]; exact hkb)).1; have hfz := (hO.cell k (by rw [hD.1]; exact hkb)).2
              rw [hD.2 k, if_neg (by omega)] at hcz
              have HX0 : Hid ((row[k]?.getD 0).natAbs ≤ 9223372036854775807) := Lib.hid (by rw [List.getElem?_eq_getElem hkb]; exact HB.out _ (List.getElem_mem hkb))
              have HN : Hid (DivR g row (k + 1) (L.set k ((row[k]?.getD 0).tdiv g))) := Lib.hid (hD.put hkb)
              generalize row[k]?.getD 0 = x at *
              obtain ⟨z, hz⟩ : ∃ z, x.tdiv (g : Int) = z := ⟨_, rfl⟩
              have m1 : IntKind.i64.wrap (x.tdiv (g : Int)) = z := by
                rw [hz]; refine IntWalk.i64_in _ ?_
                have h1 := HX0.out
                have h2 : z.natAbs ≤ x.natAbs := by rw [← hz, Int.natAbs_tdiv]; exact Nat.div_le_self _ _
                omega
              rw [hz] at HN
              have HNN : Hid (∃ L, OwnI (wt.setCell ⟨gb, k, none⟩ (.int .i64 z)) wk.heap.size (.slice (some ⟨gb, 0, none⟩) row.length c8) L ∧ DivR g row (k + 1) L) := Lib.hid ⟨_, hO.stored k z, HN.out⟩
              have HGN : Hid (w.grownBy (wt.setCell ⟨gb, k, none⟩ (.int .i64 z)) none) := Lib.hid (grown_then HG.out (grown_set _ _ _) (by rintro j ⟨⟩; exact .inl HGBB.out))
              clear hO hD HL HG hz
              go_wp2_with fail
              clear hcz hfz m1
              go_roundw
              case rel => exact ⟨k + 1, by go_num, by omega, HNN, HGN⟩
              case measure => (simp [intOf]; try omega)
            · obtain rfl : k = row.length := by omega
              have h4 : ¬ (row.length : Int) < (row.length : Int) := by omega
              obtain ⟨L, hO, hD⟩ := HL.out
              have hL := hD.full HGE.out.symm (by omega)
              subst hL
              have HO := Lib.hid (hO.mono HZ.out)
              clear hO hD HL
              go_wp2_with fail
              go_ret
              exact ⟨_, rfl, HO.out, HG.out⟩
      · have hp : primL row = row := by unfold primL; rw [HGE.out, if_neg hg1]
        have q1 : ¬ (1 : Int) < (g : Int) := by omega
        have q4 : decide ((1 : Int) < (g : Int)) = false := by simp; omega
        have q5 : decide (1 < g) = false := by simpa using hg1
        have HO2 : Hid (OwnI w8 w.heap.size (.slice a8 row.length c8) (primL row)) := Lib.hid (by rw [hp]; exact HO.out.mono HZ.out)
        clear hp hg1 HO
        go_wp2_with fail
        refine wp_loop_rounds 1 ?_
        rw [rounds_succ]
        by_cases hr0 : row.length = 0
        · have h6 : decide (0 < row.length) = false := decide_eq_false (by omega)
          have h7 : ¬ 0 < row.length := by omega
          clear hr0
          go_wp2_with fail
          go_ret
          exact ⟨_, rfl, HO2.out, HG2.out⟩
        · have h6 : decide (0 < row.length) = true := decide_eq_true (by omega)
          have h7 : 0 < row.length := by omega
          clear hr0
          go_wp2_with fail
          go_ret
          exact ⟨_, rfl, HO2.out, HG2.out⟩
end Go.Proofs.YtpnghgihepnepaaDoor

namespace Go.Proofs.YtpnghgihepnepaaDoor
open Go.RowKit
set_option linter.unusedVariables false

theorem gcdF_mul (x : Int) : ∀ (l : List Int) (g : Nat), gcdF (g * x.natAbs) (l.map (fun y => y * x)) = gcdF g l * x.natAbs
  | [], g => rfl
  | y :: l, g => by
    show gcdF (Nat.gcd (y * x).natAbs (g * x.natAbs)) (l.map (fun y => y * x)) = gcdF (Nat.gcd y.natAbs g) l * x.natAbs
    rw [Int.natAbs_mul, Nat.gcd_mul_right, gcdF_mul x l]
theorem gcdF_mul0 (x : Int) (l : List Int) : gcdF 0 (l.map (fun y => y * x)) = gcdF 0 l * x.natAbs := by
  have := gcdF_mul x l 0
  rwa [Nat.zero_mul] at this
theorem gcdF_none {l : List Int} (h : gcdF 0 l = 0) (j : Nat) : l[j]?.getD 0 = 0 := by
  cases e : l[j]? with
  | none => rfl
  | some x =>
    have h1 := ((gcdF_dvd 0 l 0).1 (by rw [h]; exact Nat.dvd_refl 0)).2 x (List.mem_of_getElem? e)
    have := Nat.eq_zero_of_zero_dvd h1
    show x = 0
    omega
theorem prim_fac (u : List Int) : ∃ g : Nat, 1 ≤ g ∧ (∀ j : Nat, u[j]?.getD 0 = (primL u)[j]?.getD 0 * (g : Int)) ∧ gcdF 0 (primL u) ≤ 1 := by
  by_cases h : 1 < gcdF 0 u
  · refine ⟨gcdF 0 u, by omega, fun j => ?_, ?_⟩
    · unfold primL
      rw [if_pos h, List.getElem?_map]
      cases e : u[j]? with
      | none => simp
      | some x =>
        have h1 := ((gcdF_dvd (gcdF 0 u) u 0).1 (Nat.dvd_refl _)).2 x (List.mem_of_getElem? e)
        show x = x.tdiv _ * _
        rw [Int.tdiv_mul_cancel (by rw [← Int.natAbs_dvd_natAbs, Int.natAbs_natCast]; exact h1)]
    · have hu : (primL u).map (fun y => y * ((gcdF 0 u : Nat) : Int)) = u := by
        unfold primL
        rw [if_pos h, List.map_map]
        conv => rhs; rw [← List.map_id u]
        refine List.map_congr_left (fun x hx => ?_)
        have h1 := ((gcdF_dvd (gcdF 0 u) u 0).1 (Nat.dvd_refl _)).2 x hx
        exact Int.tdiv_mul_cancel (by rw [← Int.natAbs_dvd_natAbs, Int.natAbs_natCast]; exact h1)
      have h2 := gcdF_mul0 ((gcdF 0 u : Nat) : Int) (primL u)
      rw [hu, Int.natAbs_natCast] at h2
      have h3 : gcdF 0 (primL u) * gcdF 0 u = 1 * gcdF 0 u := by omega
      have := Nat.eq_of_mul_eq_mul_right (by omega) h3
      omega
  · refine ⟨1, Nat.le_refl _, fun j => ?_, ?_⟩
    · unfold primL; rw [if_neg h]; simp
    · unfold primL; rw [if_neg h]; omega
/-- R is the primitive row of the line of B. -/
structure PropR (R B : List Int) : Prop where
  len : R.length = B.length
  mul : ∃ μ : Int, μ ≠ 0 ∧ ∀ j : Nat, B[j]?.getD 0 = R[j]?.getD 0 * μ
  prim : gcdF 0 R ≤ 1
theorem PropR.zero {R B : List Int} (h : PropR R B) (j : Nat) : R[j]?.getD 0 = 0 ↔ B[j]?.getD 0 = 0 := by
  obtain ⟨μ, h1, h2⟩ := h.mul
  rw [h2 j]
  constructor
  · intro e; rw [e, Int.zero_mul]
  · intro e
    rcases Int.mul_eq_zero.1 e with e | e
    · exact e
    · exact absurd e h1
theorem PropR.bd {R B : List Int} (h : PropR R B) (j : Nat) : (R[j]?.getD 0).natAbs ≤ (B[j]?.getD 0).natAbs := by
  obtain ⟨μ, h1, h2⟩ := h.mul
  rw [h2 j, Int.natAbs_mul]
  exact Nat.le_mul_of_pos_right _ (by omega)
theorem prim_prop {u B : List Int} {s t : Int} (hs : s ≠ 0) (ht : t ≠ 0) (hl : u.length = B.length) (h : ∀ j : Nat, u[j]?.getD 0 * s = B[j]?.getD 0 * t) : PropR (primL u) B := by
  obtain ⟨g, hg1, hg, hp⟩ := prim_fac u
  refine ⟨by rw [primL_len]; exact hl, ?_, hp⟩
  have hR : ∀ j : Nat, (primL u)[j]?.getD 0 * ((g : Int) * s) = B[j]?.getD 0 * t := fun j => by rw [← h j, hg j, Int.mul_assoc]
  generalize primL u = R at *
  have ha : (g : Int) * s ≠ 0 := Int.mul_ne_zero (by omega) hs
  generalize (g : Int) * s = a at *
  by_cases h0 : gcdF 0 R = 0
  · refine ⟨1, by omega, fun j => ?_⟩
    have h1 := gcdF_none h0 j
    have h2 := hR j
    rw [h1, Int.zero_mul] at h2
    rw [h1, Int.zero_mul]
    rcases Int.mul_eq_zero.1 h2.symm with e | e
    · exact e
    · exact absurd e ht
  · have h1 : gcdF 0 R = 1 := by omega
    have hd : t.natAbs ∣ gcdF 0 (R.map (fun y => y * a)) := (gcdF_dvd _ _ _).2 ⟨Nat.dvd_zero _, fun x hx => by
      obtain ⟨y, hy, rfl⟩ := List.mem_map.1 hx
      obtain ⟨j, hj, rfl⟩ := List.mem_iff_getElem.1 hy
      have h2 := hR j
      rw [List.getElem?_eq_getElem hj] at h2
      simp only [Option.getD_some] at h2
      rw [h2, Int.natAbs_mul]
      exact Nat.dvd_mul_left _ _⟩
    rw [gcdF_mul0, h1, Nat.one_mul, Int.natAbs_dvd_natAbs] at hd
    obtain ⟨μ, rfl⟩ := hd
    refine ⟨μ, fun e => ha (by rw [e, Int.mul_zero]), fun j => ?_⟩
    have h2 := hR j
    have h3 : t * (R[j]?.getD 0 * μ) = t * B[j]?.getD 0 := by
      rw [Int.mul_comm t (B[j]?.getD 0), ← h2, Int.mul_left_comm]
    exact (Int.eq_of_mul_eq_mul_left ht h3).symm
theorem prim_same {R : List Int} (h : gcdF 0 R ≤ 1) : primL R = R := by unfold primL; rw [if_neg (by omega)]
/-- What the reference does with a row that is no pivot's. -/
def comboL (x y : Int) (row top : List Int) : List Int := List.zipWith (fun a b => a * x - y * b) row top
theorem comboL_at {x y : Int} {row top : List Int} (h : row.length = top.length) (j : Nat) : (comboL x y row top)[j]?.getD 0 = row[j]?.getD 0 * x - y * top[j]?.getD 0 := by
  unfold comboL
  rw [List.getElem?_zipWith]
  by_cases h1 : j < row.length
  · rw [List.getElem?_eq_getElem h1, List.getElem?_eq_getElem (show j < top.length by omega)]; rfl
  · rw [List.getElem?_eq_none (show row.length ≤ j by omega), List.getElem?_eq_none (show top.length ≤ j by omega)]; simp
def relim (c : Nat) (top row : List Int) : List Int :=
  if row[c]?.getD 0 = 0 then row else primL (comboL ((top[c]?.getD 0).tdiv (Nat.gcd (top[c]?.getD 0).natAbs (row[c]?.getD 0).natAbs : Nat)) ((row[c]?.getD 0).tdiv (Nat.gcd (top[c]?.getD 0).natAbs (row[c]?.getD 0).natAbs : Nat)) row top)
theorem gcd_parts (a b : Int) (hb : b ≠ 0) : ∃ g : Int, 0 < g ∧ g = ((Nat.gcd a.natAbs b.natAbs : Nat) : Int) ∧ a.tdiv g * g = a ∧ b.tdiv g * g = b := by
  refine ⟨((Nat.gcd a.natAbs b.natAbs : Nat) : Int), ?_, rfl, ?_, ?_⟩
  · have : 0 < Nat.gcd a.natAbs b.natAbs := Nat.gcd_pos_of_pos_right _ (by omega)
    omega
  · exact Int.tdiv_mul_cancel (by rw [← Int.natAbs_dvd_natAbs, Int.natAbs_natCast]; exact Nat.gcd_dvd_left _ _)
  · exact Int.tdiv_mul_cancel (by rw [← Int.natAbs_dvd_natAbs, Int.natAbs_natCast]; exact Nat.gcd_dvd_right _ _)
theorem relim_prop {c : Nat} {rt bt row b b' : List Int} {f : Int} (ht : PropR rt bt) (hr : PropR row b) (hl : row.length = rt.length) (hb : b'.length = b.length) (hf : f ≠ 0) (hL : bt[c]?.getD 0 ≠ 0)
    (he : ∀ j : Nat, b'[j]?.getD 0 * f = b[j]?.getD 0 * bt[c]?.getD 0 - b[c]?.getD 0 * bt[j]?.getD 0) : PropR (relim c rt row) b' := by
  obtain ⟨μ, hμ, hμ2⟩ := ht.mul
  obtain ⟨ν, hν, hν2⟩ := hr.mul
  have ht0 : rt[c]?.getD 0 ≠ 0 := fun e => hL ((ht.zero c).1 e)
  unfold relim
  by_cases h0 : row[c]?.getD 0 = 0
  · rw [if_pos h0]
    have hb0 := (hr.zero c).1 h0
    have := prim_prop (u := row) (B := b') (s := ν * bt[c]?.getD 0) (t := f) (Int.mul_ne_zero hν hL) hf (by rw [hb]; exact hr.len) (fun j => by
      rw [he j, hb0, Int.zero_mul, Int.sub_zero, hν2 j, Int.mul_assoc])
    rwa [prim_same hr.prim] at this
  · rw [if_neg h0]
    obtain ⟨g, hg0, hge, hx, hy⟩ := gcd_parts (rt[c]?.getD 0) (row[c]?.getD 0) h0
    rw [← hge]
    refine prim_prop (s := g * (μ * ν)) (t := f) (Int.mul_ne_zero (by omega) (Int.mul_ne_zero hμ hν)) hf (by unfold comboL; rw [List.length_zipWith, hb, ← hr.len]; omega) (fun j => ?_)
    rw [comboL_at hl, he j, hν2 j, hν2 c, hμ2 c, hμ2 j]
    generalize (rt[c]?.getD 0).tdiv g = x at *
    generalize (row[c]?.getD 0).tdiv g = y at *
    generalize rt[c]?.getD 0 = tc at *
    generalize row[c]?.getD 0 = rc at *
    generalize rt[j]?.getD 0 = tj at *
    generalize row[j]?.getD 0 = rj at *
    subst hx
    subst hy
    grind
theorem relim_pos {c p : Nat} {rt row : List Int} (hl : row.length = rt.length) (hc : 0 < rt[c]?.getD 0) (hp : rt[p]?.getD 0 = 0) (hr : 0 < row[p]?.getD 0) : 0 < (relim c rt row)[p]?.getD 0 := by
  unfold relim
  by_cases h0 : row[c]?.getD 0 = 0
  · rw [if_pos h0]; exact hr
  · rw [if_neg h0]
    obtain ⟨g, hg0, hge, hx, hy⟩ := gcd_parts (rt[c]?.getD 0) (row[c]?.getD 0) h0
    rw [← hge]
    obtain ⟨k, hk1, hk, -⟩ := prim_fac (comboL ((rt[c]?.getD 0).tdiv g) ((row[c]?.getD 0).tdiv g) row rt)
    have h1 := hk p
    rw [comboL_at hl, hp, Int.mul_zero, Int.sub_zero] at h1
    have hx0 : 0 < (rt[c]?.getD 0).tdiv g := by
      by_cases e : 0 < (rt[c]?.getD 0).tdiv g
      · exact e
      · have := Int.mul_nonpos_of_nonpos_of_nonneg (show (rt[c]?.getD 0).tdiv g ≤ 0 by omega) (show 0 ≤ g by omega)
        omega
    have h2 := Int.mul_pos hr hx0
    rw [h1] at h2
    by_cases e : 0 < (primL (comboL ((rt[c]?.getD 0).tdiv g) ((row[c]?.getD 0).tdiv g) row rt))[p]?.getD 0
    · exact e
    · have := Int.mul_nonpos_of_nonpos_of_nonneg (show (primL (comboL ((rt[c]?.getD 0).tdiv g) ((row[c]?.getD 0).tdiv g) row rt))[p]?.getD 0 ≤ 0 by omega) (show 0 ≤ (k : Int) by omega)
      omega
/-- A row that is turned round. -/
theorem neg_prop {R B : List Int} (h : PropR R B) : PropR (timesL (-1) R) B := by
  obtain ⟨μ, h1, h2⟩ := h.mul
  refine ⟨by unfold timesL; rw [List.length_map]; exact h.len, ⟨-μ, by omega, fun j => ?_⟩, ?_⟩
  · rw [h2 j]
    unfold timesL
    rw [List.getElem?_map]
    cases R[j]? with
    | none => simp
    | some x => show x * μ = x * -1 * -μ; grind
  · unfold timesL
    rw [gcdF_mul0]
    have := h.prim
    simpa using this
end Go.Proofs.YtpnghgihepnepaaDoor

namespace Go.Proofs.YtpnghgihepnepaaDoor
open Go.RowKit
set_option linter.unusedVariables false

theorem BInv.exact {M : List (List Int)} {m k : Nat} {s : RSt} {os : List (List Int)} {c : Nat → Nat} (h : BInv M m k s os c) (hk : k < m) {t : Nat} (hh : findHit s.1 k (s.1.length - s.2.1.length) s.2.1.length = some t) :
    ∀ i, i < s.1.length → i ≠ s.2.1.length → ∀ j, j < m → ∃ z, ent (swapT s.1 s.2.1.length t) i j * (topOf k t s)[k]?.getD 0 - ent (swapT s.1 s.2.1.length t) i k * (topOf k t s)[j]?.getD 0 = s.2.2 * z := by
  obtain ⟨ps, pv, f⟩ := s
  obtain ⟨hlen, hwide, hmem, hln, hpiv, hple, hasc, hck, hfac, hne, hlow, hhigh, hzero⟩ := h
  dsimp only at *
  obtain ⟨e1, e2, e3⟩ := findHit_some hh
  have hp : pv.length < ps.length := by omega
  have ht : t < ps.length := by omega
  have htop := top_is (c := k) (k := 0) (f := f) hp ht
  have etop : topOf k t (ps, pv, f) = ps[t].2 := by rw [← htop]
  rw [etop]
  generalize hpd : pv.length = p at *
  have hpo : p < os.length := by omega
  have hto : t < os.length := by omega
  have hol : (swapO os p t).length = os.length := by unfold swapO; simp
  have hsl : (swapT ps p t).length = ps.length := swapT_len _ _ _
  have htl : ps[t].2.length = m := hwide _ (List.getElem_mem ht)
  have hsw : ∀ q ∈ swapT ps p t, q.2.length = m := fun q hq => by rw [swapT_eq hp ht] at hq; exact hwide q (swapP_mem hq)
  -- the order of the rows
  have so : ∀ i, i < p → ov (swapO os p t) i = ov os i := fun i hi => by
    unfold ov; funext j; rw [swapO_at hpo hto, if_neg (by omega), if_neg (by omega)]
  have sc : ∀ l, l < p → Bar.upd c p k l = c l := fun l hl => by unfold Bar.upd; rw [if_neg (by omega)]
  have scp : Bar.upd c p k p = k := by unfold Bar.upd; rw [if_pos rfl]
  have ent_s : ∀ i j, ent (swapT ps p t) i j = if i = t then ent ps p j else if i = p then ent ps t j else ent ps i j := fun i j => by
    unfold ent; rw [swapT_at hp ht]
    split
    · rfl
    · split <;> rfl
  have ov_s : ∀ i, ov (swapO os p t) i = if i = t then ov os p else if i = p then ov os t else ov os i := fun i => by
    unfold ov; funext j; rw [swapO_at hpo hto]
    split
    · rfl
    · split <;> rfl
  generalize hO : ov (swapO os p t) = o' at *
  generalize hC : Bar.upd c p k = c' at *
  have hD' : f = Bar.D o' c' p := by rw [hfac]; exact D_congr (fun i hi => (so i hi).symm) (fun l hl => (sc l hl).symm)
  have hlow' : ∀ l, l < p → ∀ j, j < m → ent (swapT ps p t) l j = Bar.X o' c' p l j := fun l hl j hj => by
    rw [ent_s, if_neg (by omega), if_neg (by omega), hlow l hl j hj]
    exact X_congr j (fun i hi => (so i hi).symm) (fun l hl => (sc l hl).symm)
  have yc : ∀ i i' j, ov os i = o' i' → Bar.Y (ov os) c p i j = Bar.Y o' c' p i' j := fun i i' j hi => Y_congr j (fun i hi => (so i hi).symm) (fun l hl => (sc l hl).symm) hi
  have hhigh' : ∀ i, p ≤ i → i < os.length → ∀ j, j < m → ent (swapT ps p t) i j = Bar.Y o' c' p i j := fun i h1 h2 j hj => by
    rw [ent_s]
    by_cases h3 : i = t
    · rw [if_pos h3, hhigh p (Nat.le_refl _) hpo j hj]; exact yc p i j (by rw [ov_s, if_pos h3])
    · rw [if_neg h3]
      by_cases h4 : i = p
      · rw [if_pos h4, hhigh t (by omega) hto j hj]; exact yc t i j (by rw [ov_s, if_neg h3, if_pos h4])
      · rw [if_neg h4, hhigh i h1 h2 j hj]; exact yc i i j (by rw [ov_s, if_neg h3, if_neg h4])
  have hzero' : ∀ i, p ≤ i → i < os.length → ∀ j, j < k → ent (swapT ps p t) i j = 0 := fun i h1 h2 j hj => by
    rw [ent_s]
    split
    · exact hzero p (Nat.le_refl _) hpo j hj
    · split
      · exact hzero t (by omega) hto j hj
      · exact hzero i h1 h2 j hj
  have hlead : ps[t].2[k]?.getD 0 = Bar.D o' c' (p + 1) := by
    rw [Bar.D_new, scp, ← hhigh' p (Nat.le_refl _) hpo k hk, ent_s, ent_row ht]
    by_cases h3 : p = t
    · rw [if_pos h3, ent_row hp]; subst h3; rfl
    · rw [if_neg h3, if_pos rfl]
  have htopj : ∀ j, j < m → ps[t].2[j]?.getD 0 = Bar.Y o' c' p p j := fun j hj => by
    rw [← hhigh' p (Nat.le_refl _) hpo j hj, ent_s, ent_row ht]
    by_cases h3 : p = t
    · rw [if_pos h3, ent_row hp]; subst h3; rfl
    · rw [if_neg h3, if_pos rfl]
  have hlz : Bar.D o' c' (p + 1) ≠ 0 := by
    rw [← hlead]
    unfold hit at e3
    rw [List.getElem?_eq_getElem ht] at e3
    simpa using e3
  have hDz : Bar.D o' c' p ≠ 0 := by rw [← hD']; exact hne
  intro i hi h1 j hj
  have hi2 : i < os.length := by omega
  rw [hlead, htopj j hj]
  by_cases h2 : i < p
  · have h3 := Bar.X_step o' c' j h2 hDz
    rw [scp] at h3
    exact ⟨_, by rw [hlow' i h2 j hj, hlow' i h2 k hk, ← h3, hD']⟩
  · have h3 := Bar.Y_step o' c' i j hDz
    rw [scp] at h3
    exact ⟨_, by rw [hhigh' i (by omega) hi2 j hj, hhigh' i (by omega) hi2 k hk, ← h3, hD']⟩

/-! ### The reference's steps -/
def lhit (R : List (List Int)) (c i : Nat) : Bool := (R[i]?.getD [])[c]?.getD 0 != 0
def lfind (R : List (List Int)) (c : Nat) : Nat → Nat → Option Nat
  | 0, _ => none
  | n + 1, i => if lhit R c i then some i else lfind R c n (i + 1)
def ltop (c : Nat) (row : List Int) : List Int := if row[c]?.getD 0 < 0 then timesL (-1) row else row
abbrev LSt := List (List Int) × List Int
def lstep (c : Nat) (s : LSt) : LSt :=
  match lfind s.1 c (s.1.length - s.2.length) s.2.length with
  | none => s
  | some i => ((swapO s.1 s.2.length i).mapIdx (fun t row => if t = s.2.length then ltop c ((swapO s.1 s.2.length i)[s.2.length]?.getD []) else relim c (ltop c ((swapO s.1 s.2.length i)[s.2.length]?.getD [])) row), s.2 ++ [(c : Int)])
def lredN (s : LSt) : Nat → LSt
  | 0 => s
  | k + 1 => lstep k (lredN s k)
/-- The two reductions side by side. -/
structure RelR (m : Nat) (l : LSt) (s : RSt) : Prop where
  len : l.1.length = s.1.length
  piv : l.2 = s.2.1
  row : ∀ t, t < s.1.length → PropR (l.1[t]?.getD []) (s.1[t]?.getD rowN).2
  pos : ∀ t, t < s.2.1.length → 0 < (l.1[t]?.getD [])[(s.2.1[t]?.getD 0).toNat]?.getD 0
theorem lfind_eq {R : List (List Int)} {ps : List Row} (h : ∀ t, t < ps.length → PropR (R[t]?.getD []) (ps[t]?.getD rowN).2) (c : Nat) : ∀ n i, i + n ≤ ps.length → lfind R c n i = findHit ps c n i
  | 0, i, _ => rfl
  | n + 1, i, hi => by
    unfold lfind findHit
    have h1 : lhit R c i = hit ps c i := by
      unfold lhit hit
      have h2 := (h i (by omega)).zero c
      rw [Bool.eq_iff_iff]
      simp only [bne_iff_ne, ne_eq, h2]
    rw [h1, lfind_eq h c n (i + 1) (by omega)]
theorem ltop_prop {c : Nat} {R B : List Int} (h : PropR R B) (hB : B[c]?.getD 0 ≠ 0) : PropR (ltop c R) B ∧ 0 < (ltop c R)[c]?.getD 0 := by
  have hR : R[c]?.getD 0 ≠ 0 := fun e => hB ((h.zero c).1 e)
  unfold ltop
  by_cases h0 : R[c]?.getD 0 < 0
  · rw [if_pos h0]
    refine ⟨neg_prop h, ?_⟩
    unfold timesL
    rw [List.getElem?_map]
    cases e : R[c]? with
    | none => rw [e] at h0; simp at h0
    | some x => rw [e] at h0; show 0 < x * -1; have : x < 0 := h0; omega
  · rw [if_neg h0]
    exact ⟨h, by omega⟩
theorem RelR.step {M : List (List Int)} {m k : Nat} {l : LSt} {s : RSt} {os : List (List Int)} {c : Nat → Nat} (h : RelR m l s) (hB : BInv M m k s os c) (hk : k < m) : RelR m (lstep k l) (redStep k s) := by
  obtain ⟨R, P⟩ := l
  obtain ⟨ps, pv, f⟩ := s
  obtain ⟨hlen, hpv, hrow, hpos⟩ := h
  dsimp only at hlen hpv hrow hpos
  subst hpv
  have hple : P.length ≤ ps.length := by have := hB.ple; have := hB.len; dsimp only at *; omega
  have hf : lfind R k (R.length - P.length) P.length = findHit ps k (ps.length - P.length) P.length := by
    rw [hlen]; exact lfind_eq hrow k _ _ (by omega)
  cases hh : findHit ps k (ps.length - P.length) P.length with
  | none =>
    have e1 : redStep k (ps, P, f) = (ps, P, f) := by unfold redStep; dsimp only; rw [hh]
    have e2 : lstep k (R, P) = (R, P) := by unfold lstep; dsimp only; rw [hf, hh]
    rw [e1, e2]
    exact ⟨hlen, rfl, hrow, hpos⟩
  | some t =>
    obtain ⟨a1, a2, a3⟩ := findHit_some hh
    have hp : P.length < ps.length := by omega
    have ht : t < ps.length := by omega
    have hpR : P.length < R.length := by omega
    have htR : t < R.length := by omega
    have hex := hB.exact hk hh
    dsimp only at hex
    have etop : topOf k t (ps, P, f) = ps[t].2 := top_is (c := k) (k := 0) hp ht
    rw [etop] at hex
    have e1 : redStep k (ps, P, f) = (elimP (ps[t].2[k]?.getD 0) f k P.length ps[t].2 (swapT ps P.length t), P ++ [(k : Int)], ps[t].2[k]?.getD 0) := by
      unfold redStep; dsimp only; rw [hh]; dsimp only; rw [etop]
    have e2 : lstep k (R, P) = ((swapO R P.length t).mapIdx (fun u row => if u = P.length then ltop k (R[t]?.getD []) else relim k (ltop k (R[t]?.getD [])) row), P ++ [(k : Int)]) := by
      unfold lstep; dsimp only; rw [hf, hh]; dsimp only
      have : (swapO R P.length t)[P.length]?.getD [] = R[t]?.getD [] := by
        rw [swapO_at hpR htR]
        by_cases e : P.length = t
        · rw [if_pos e, e]
        · rw [if_neg e, if_pos rfl]
      rw [this]
    rw [e1, e2]
    have hwide := hB.wide
    dsimp only at hwide
    have htl : ps[t].2.length = m := hwide _ (List.getElem_mem ht)
    have hsw : ∀ q ∈ swapT ps P.length t, q.2.length = m := fun q hq => by rw [swapT_eq hp ht] at hq; exact hwide q (swapP_mem hq)
    have hsl : (swapT ps P.length t).length = ps.length := swapT_len _ _ _
    have hol : (swapO R P.length t).length = R.length := by unfold swapO; simp
    have hL : ps[t].2[k]?.getD 0 ≠ 0 := by
      unfold hit at a3
      rw [List.getElem?_eq_getElem ht] at a3
      simpa using a3
    have hrt := hrow t ht
    rw [List.getElem?_eq_getElem ht] at hrt
    simp only [Option.getD_some] at hrt
    obtain ⟨hT, hTp⟩ := ltop_prop hrt hL
    generalize hTT : ltop k (R[t]?.getD []) = T at *
    have hTl : T.length = m := by rw [hT.len, htl]
    -- rows after the swap
    have hsrow : ∀ u, u < ps.length → PropR ((swapO R P.length t)[u]?.getD []) ((swapT ps P.length t)[u]?.getD rowN).2 := fun u hu => by
      rw [swapO_at hpR htR, swapT_at hp ht]
      split
      · exact hrow _ hp
      · split
        · exact hrow _ ht
        · exact hrow _ hu
    have hfn : f ≠ 0 := hB.ne
    have hLrow : ∀ u, u < ps.length → ((swapO R P.length t).mapIdx (fun u row => if u = P.length then T else relim k T row))[u]?.getD [] = if u = P.length then T else relim k T ((swapO R P.length t)[u]?.getD []) := fun u hu => by
      rw [List.getElem?_mapIdx, List.getElem?_eq_getElem (show u < (swapO R P.length t).length by omega)]; rfl
    have hErow : ∀ u (hu : u < ps.length), ((elimP (ps[t].2[k]?.getD 0) f k P.length ps[t].2 (swapT ps P.length t))[u]?.getD rowN).2.length = m ∧ ∀ j, j < m → ((elimP (ps[t].2[k]?.getD 0) f k P.length ps[t].2 (swapT ps P.length t))[u]?.getD rowN).2[j]?.getD 0 = if u = P.length then ent (swapT ps P.length t) u j else (ent (swapT ps P.length t) u j * ps[t].2[k]?.getD 0 - ent (swapT ps P.length t) u k * ps[t].2[j]?.getD 0).tdiv f := fun u hu => by
      refine ⟨?_, fun j hj => ?_⟩
      · rw [List.getElem?_eq_getElem (by rw [elimP_len, hsl]; exact hu)]
        exact elimP_row htl hsw _ (List.getElem_mem _)
      · have := elimP_ent (lead := ps[t].2[k]?.getD 0) (f := f) (c := k) (k := P.length) htl hsw (i := u) (j := j) (by omega) hj
        rw [← this]; rfl
    have hent : ∀ u j : Nat, ent (swapT ps P.length t) u j = ((swapT ps P.length t)[u]?.getD rowN).2[j]?.getD 0 := fun u j => rfl
    have hswl : ∀ u, u < ps.length → ((swapT ps P.length t)[u]?.getD rowN).2.length = m := fun u hu => by
      rw [List.getElem?_eq_getElem (by omega)]
      exact hsw _ (List.getElem_mem _)
    have out0 : ∀ {xs : List Int} {j : Nat}, xs.length = m → m ≤ j → xs[j]?.getD 0 = 0 := fun h1 h2 => by rw [List.getElem?_eq_none (by omega)]; rfl
    have htop : ∀ j : Nat, ((swapT ps P.length t)[P.length]?.getD rowN).2[j]?.getD 0 = ps[t].2[j]?.getD 0 := fun j => by
      rw [swapT_at hp ht]
      by_cases e : P.length = t
      · rw [if_pos e]; subst e; rw [List.getElem?_eq_getElem hp]; rfl
      · rw [if_neg e, if_pos rfl, List.getElem?_eq_getElem ht]; rfl
    refine ⟨by dsimp only; rw [List.length_mapIdx, elimP_len]; omega, rfl, fun u hu => ?_, fun u hu => ?_⟩
    · dsimp only at hu ⊢
      rw [elimP_len, hsl] at hu
      rw [hLrow u hu]
      obtain ⟨hel, hea⟩ := hErow u hu
      by_cases hup : u = P.length
      · rw [if_pos hup]
        obtain ⟨μ, hμ, hμ2⟩ := hT.mul
        refine ⟨by rw [hTl, hel], ⟨μ, hμ, fun j => ?_⟩, hT.prim⟩
        rw [← hμ2 j]
        by_cases hj : j < m
        · rw [hea j hj, if_pos hup, hent, hup, htop]
        · rw [out0 (j := j) hel (by omega), out0 (j := j) htl (by omega)]
      · rw [if_neg hup]
        refine relim_prop hT (hsrow u hu) (by rw [(hsrow u hu).len, hswl u hu, hTl]) (by rw [hel, hswl u hu]) hfn hL (fun j => ?_)
        by_cases hj : j < m
        · rw [hea j hj, if_neg hup]
          obtain ⟨z, hz⟩ := hex u hu hup j hj
          rw [hz, Int.mul_tdiv_cancel_left _ hfn, Int.mul_comm, ← hz, hent, hent]
        · rw [out0 (j := j) hel (by omega), out0 (j := j) (hswl u hu) (by omega), out0 (j := j) htl (by omega)]; simp
    · dsimp only at hu ⊢
      rw [List.length_append, List.length_singleton] at hu
      rw [hLrow u (by omega)]
      by_cases hup : u = P.length
      · rw [if_pos hup, hup, List.getElem?_append_right (by omega), Nat.sub_self]
        exact hTp
      · rw [if_neg hup, List.getElem?_append_left (by omega)]
        have hu2 : u < P.length := by omega
        have h1 := hpos u hu2
        have hsu : (swapO R P.length t)[u]?.getD [] = R[u]?.getD [] := by rw [swapO_at hpR htR, if_neg (by omega), if_neg (by omega)]
        rw [hsu]
        have hpu := hB.piv u hu2
        have hcu := hB.ck u hu2
        dsimp only at hpu hcu
        rw [hpu] at h1 ⊢
        simp only [Int.toNat_natCast] at h1 ⊢
        refine relim_pos (by rw [(hrow u (by omega)).len, hTl, List.getElem?_eq_getElem (show u < ps.length by omega)]; exact hwide _ (List.getElem_mem _)) hTp ?_ h1
        have h2 := hB.zero t (by dsimp only; omega) (by have := hB.len; dsimp only at this; omega) (c u) hcu
        dsimp only at h2
        rw [ent_row ht] at h2
        exact (hT.zero (c u)).2 h2
theorem RelR.all {M : List (List Int)} {m : Nat} {qs : List Row} {R : List (List Int)} (h : RelR m (R, []) (qs, [], 1)) (hq : qs.map Prod.snd = M) (hm : ∀ r ∈ M, r.length = m) : ∀ k, k ≤ m → RelR m (lredN (R, []) k) (redN (qs, [], 1) k)
  | 0, _ => h
  | k + 1, hk => by
    obtain ⟨os, c, hb⟩ := BInv.all hq hm k (by omega)
    exact (RelR.all h hq hm k (by omega)).step hb (by omega)
theorem RelR.start {m : Nat} (qs : List Row) : RelR m (qs.map (fun q => primL q.2), []) (qs, [], 1) := by
  refine ⟨by rw [List.length_map], rfl, fun t ht => ?_, fun t ht => by simp at ht⟩
  dsimp only at ht ⊢
  rw [List.getElem?_map, List.getElem?_eq_getElem ht]
  exact prim_prop (s := 1) (t := 1) (by decide) (by decide) rfl (fun j => rfl)
end Go.Proofs.YtpnghgihepnepaaDoor
