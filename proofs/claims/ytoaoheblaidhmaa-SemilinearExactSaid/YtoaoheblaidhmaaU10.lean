/- Texts Vc, Vd in one. -/
import Derived.Test.YtoaoheblaidhmaaU9
namespace Go.Proofs.Ytoaoheblaidhmaa
open Go.RowKit
set_option linter.unusedVariables false

theorem all_snoc1 (P : Int → Bool) (xs : List Int) (k : Nat) (h : k < xs.length) : (xs.take (k + 1)).all P = ((xs.take k).all P && P (xs[k]?.getD 0)) := by
  rw [take_snoc' xs k h, List.all_append]; simp
theorem all_no {P : Int → Bool} {xs : List Int} {k : Nat} (h : k < xs.length) (hp : P (xs[k]?.getD 0) = false) : xs.all P = false := by
  cases h2 : xs.all P with
  | false => rfl
  | true =>
    rw [List.all_eq_true] at h2
    have := h2 xs[k] (List.getElem_mem h)
    rw [List.getElem?_eq_getElem h] at hp
    rw [show (some xs[k]).getD 0 = xs[k] from rfl, this] at hp
    cases hp
theorem rnumbers_is (v : Value) (xs : List Int) (most : Int) (w : World) (h : Ints w v xs) :
    Calls Try.prog 40 #[v, .int .i64 most] w fun e w' => e = .returned (.bool (withB most xs)) ∧ w' = w := by
  obtain ⟨a, cap, rfl, hl, -, hc⟩ := h
  unfold maxLen at hl
  unfold withB
  have HC := Lib.hid hc
  clear hc
  go_enter Try.func40, Try.ntmps40
  go_wp2_with fail
  go_loop [5] (fun i => ∃ k : Nat, i = .int .i64 k ∧ k ≤ xs.length ∧ Hid ((xs.take k).all (fun x => decide (0 ≤ x) && decide (x ≤ most)) = true)) (fun i => xs.length - (intOf i).toNat)
  case atStart => exact ⟨0, rfl, Nat.zero_le _, Lib.hid rfl⟩
  case round =>
    obtain ⟨k, rfl, hk, HA⟩ := hrel
    by_cases hkb : k < xs.length
    · have h1 : (k : Int) < (xs.length : Int) := by omega
      have i1 : IntKind.i64.wrap ((k : Int) + 1) = (k : Int) + 1 := IntWalk.i64_in _ (by omega)
      obtain ⟨b, off, rfl, hx⟩ := Ints.at HC.out hkb
      have HN := Lib.hid (all_no (P := fun x => decide (0 ≤ x) && decide (x ≤ most)) hkb)
      have HS := Lib.hid (all_snoc1 (fun x => decide (0 ≤ x) && decide (x ≤ most)) xs k hkb)
      generalize xs[k]?.getD 0 = x at *
      by_cases f1 : x < 0
      · have HB := Lib.hid (HN.out (by simp; omega))
        go_wp2_with fail
        go_ret
        exact ⟨ret_bool HB.out.symm, rfl⟩
      · by_cases f2 : most < x
        · have HB := Lib.hid (HN.out (by simp; omega))
          go_wp2_with fail
          go_ret
          exact ⟨ret_bool HB.out.symm, rfl⟩
        · have HA2 := Lib.hid (show (xs.take (k + 1)).all (fun x => decide (0 ≤ x) && decide (x ≤ most)) = true by rw [HS.out, HA.out]; simp; omega)
          go_wp2_with fail
          go_round
          case rel => exact ⟨k + 1, by go_num, by omega, HA2⟩
          case measure => simp [intOf]; omega
    · obtain rfl : k = xs.length := by omega
      have h1 : ¬ (xs.length : Int) < (xs.length : Int) := by omega
      go_wp2_with fail
      go_ret
      exact ⟨ret_bool (by have := HA.out; rw [List.take_length] at this; rw [this]), rfl⟩
theorem withB_zero (xs : List Int) : withB 0 xs = zeroB xs := by
  unfold withB zeroB
  congr 1
  funext x
  rw [Bool.eq_iff_iff]
  simp
  omega
theorem rzero_is (v : Value) (xs : List Int) (w : World) (h : Ints w v xs) :
    Calls Try.prog 59 #[v] w fun e w' => e = .returned (.bool (zeroB xs)) ∧ w' = w := by
  rw [← withB_zero]
  have H := Lib.hid h
  obtain ⟨a, cap, rfl, -⟩ := h
  go_enter Try.func59, Try.ntmps59
  go_wp2_with fail
  refine (rnumbers_is _ _ _ _ H.out).mono ?_
  rintro e w' ⟨rfl, hw⟩
  subst hw
  go_wp2_with fail
  go_ret
  exact ⟨rfl, rfl⟩
set_option maxRecDepth 100000 in
set_option maxHeartbeats 3000000 in
theorem rfault_is (n : Nat) (hn1 : 1 ≤ n) (hn4 : n ≤ 4) (v : Value) (b : List Int) (qs : List Row) (w : World) (h : LinX w v b qs) (hq20 : qs.length ≤ 20) :
    Calls Try.prog 36 #[.int .i64 (n : Int), v] w (FaultIs n b qs w) := by
  obtain ⟨vb, vp, rfl, hb, hr, -⟩ := h
  have HB := Lib.hid hb; have HR := Lib.hid hr
  clear hb hr
  obtain ⟨⟨ab, cb, hvb, hbm, -, -⟩, -, -⟩ := HB.out
  dsimp only at hvb
  unfold maxLen at hbm
  subst hvb
  obtain ⟨ap, cp, rfl, -, -, -⟩ := HR.out
  have G0 := Lib.hid (World.grownBy_alloc w (.cells #[.slice ab b.length cb, .slice ap qs.length cp] 26) none)
  have HB1 := Lib.hid (HB.out.same G0.out)
  have HR1 := Lib.hid (HR.out.same G0.out)
  go_enter Try.func36, Try.ntmps36
  by_cases hbl : b.length = n
  case neg =>
    have q1 : ((b.length : Int) != (n : Int)) = true := by simp; omega
    have HNL : Hid (¬ LenP n b qs) := Lib.hid (fun h => hbl h.1)
    clear hbl
    go_wp2_with fail
    go_ret
    exact ⟨3, rfl, .len HNL.out, G0.out⟩
  have HBL := Lib.hid hbl
  have q1 : ((b.length : Int) != (n : Int)) = false := by simp; omega
  clear hbl
  go_wp2_with fail
  generalize hwb : w.alloc (.cells #[.slice ab b.length cb, .slice ap qs.length cp] 26) = wb at *
  have hc0 : wb.cell? ⟨w.heap.size, 0, none⟩ = some (.slice ab b.length cb) := by rw [← hwb, World.cell?, heap_new _ rfl]; rfl
  have hc1 : wb.cell? ⟨w.heap.size, 1, none⟩ = some (.slice ap qs.length cp) := by rw [← hwb, World.cell?, heap_new _ rfl]; rfl
  clear hwb q1
  go_loop [5] (fun i => ∃ k : Nat, i = .int .i64 k ∧ k ≤ qs.length ∧ Hid (∀ j (hj : j < qs.length), j < k → qs[j].2.length = n)) (fun i => qs.length - (intOf i).toNat)
  case atStart => exact ⟨0, rfl, Nat.zero_le _, Lib.hid (fun j hj h => by omega)⟩
  case round =>
    obtain ⟨k, rfl, hk, HA⟩ := hrel
    by_cases hlt : k < qs.length
    · obtain ⟨b', off', ak, ck, rfl, hx, -⟩ := HR1.out.row hlt
      have h1 : (k : Int) < (qs.length : Int) := by omega
      have i1 : IntKind.i64.wrap ((k : Int) + 1) = (k : Int) + 1 := IntWalk.i64_in _ (by omega)
      have HAK : Hid (qs[k].2.length = n → ∀ j (hj : j < qs.length), j < k + 1 → qs[j].2.length = n) := Lib.hid (fun h j hj hjk => by
        by_cases e : j = k
        · subst e; exact h
        · exact HA.out j hj (by omega))
      have HNO : Hid (qs[k].2.length ≠ n → ¬ LenP n b qs) := Lib.hid (fun h hl => h (hl.2 _ (List.getElem_mem hlt)))
      generalize qs[k].2.length = m at *
      by_cases hm : m = n
      · subst hm
        have q1 : ((m : Int) != (m : Int)) = false := by simp
        have HA2 := Lib.hid (HAK.out rfl)
        go_wp2_with fail
        go_round
        case rel => exact ⟨k + 1, by go_num, by omega, HA2⟩
        case measure => simp [intOf]; omega
      · have q1 : ((m : Int) != (n : Int)) = true := by simp; omega
        have HNL := Lib.hid (HNO.out hm)
        clear hm
        go_wp2_with fail
        go_ret
        exact ⟨3, rfl, .len HNL.out, G0.out⟩
    · have h1 : ¬ (k : Int) < (qs.length : Int) := by omega
      have HLP : Hid (LenP n b qs) := Lib.hid ⟨HBL.out, fun q hq => by
        obtain ⟨j, hj, rfl⟩ := List.getElem_of_mem hq
        exact HA.out j hj (by omega)⟩
      clear HA
      go_wp2_with fail
      refine (rnumbers_is _ _ _ _ HB1.out.1).mono ?_
      rintro e w' ⟨rfl, hw⟩
      subst hw
      cases hwb : withB 16 b with
      | false =>
        have HNR : Hid (¬ RngP b qs) := Lib.hid (fun h => by have h1 := h.1; rw [hwb] at h1; cases h1)
        clear hwb
        go_wp2_with fail
        go_ret
        exact ⟨2, rfl, .rng HLP.out HNR.out, G0.out⟩
      | true =>
      have HWB := Lib.hid hwb
      clear hwb
      go_wp2_with fail
      go_loop [6] (fun i => ∃ k : Nat, i = .int .i64 k ∧ k ≤ qs.length ∧ Hid (∀ j (hj : j < qs.length), j < k → withB 16 qs[j].2 = true ∧ zeroB qs[j].2 = false)) (fun i => qs.length - (intOf i).toNat)
      case atStart => exact ⟨0, rfl, Nat.zero_le _, Lib.hid (fun j hj h => by omega)⟩
      case round =>
        clear h1 hlt hk
        obtain ⟨k, rfl, hk, HA⟩ := hrel
        by_cases hlt : k < qs.length
        · obtain ⟨b', off', ak, ck, rfl, hx, hri⟩ := HR1.out.row hlt
          have HRK := Lib.hid hri
          have h1 : (k : Int) < (qs.length : Int) := by omega
          have i1 : IntKind.i64.wrap ((k : Int) + 1) = (k : Int) + 1 := IntWalk.i64_in _ (by omega)
          have HAK : Hid (withB 16 qs[k].2 = true → zeroB qs[k].2 = false → ∀ j (hj : j < qs.length), j < k + 1 → withB 16 qs[j].2 = true ∧ zeroB qs[j].2 = false) := Lib.hid (fun h h' j hj hjk => by
            by_cases e : j = k
            · subst e; exact ⟨h, h'⟩
            · exact HA.out j hj (by omega))
          have HNO : Hid (¬ (withB 16 qs[k].2 = true ∧ zeroB qs[k].2 = false) → ¬ RngP b qs) := Lib.hid (fun h hl => h (hl.2 _ (List.getElem_mem hlt)))
          clear hri
          generalize qs[k].2 = q at *
          cases hw : withB 16 q with
          | false =>
            have HW := Lib.hid hw
            have HNR : Hid (¬ RngP b qs) := Lib.hid (HNO.out (fun h => by rw [hw] at h; cases h.1))
            clear hw
            go_wp2_with fail
            refine (rnumbers_is _ _ _ _ HRK.out).mono ?_
            rintro e w2 ⟨rfl, hw⟩
            subst hw
            rw [HW.out]
            go_wp2_with fail
            go_ret
            exact ⟨2, rfl, .rng HLP.out HNR.out, G0.out⟩
          | true =>
            have HW := Lib.hid hw
            clear hw
            go_wp2_with fail
            refine (rnumbers_is _ _ _ _ HRK.out).mono ?_
            rintro e w2 ⟨rfl, hw⟩
            subst hw
            rw [HW.out]
            go_wp2_with fail
            refine (rzero_is _ _ _ HRK.out).mono ?_
            rintro e w3 ⟨rfl, hw⟩
            subst hw
            cases hz : zeroB q with
            | false =>
              have HA2 := Lib.hid (HAK.out HW.out hz)
              clear hz
              go_wp2_with fail
              go_round
              case rel => exact ⟨k + 1, by go_num, by omega, HA2⟩
              case measure => simp [intOf]; omega
            | true =>
              have HNR : Hid (¬ RngP b qs) := Lib.hid (HNO.out (fun h => by rw [hz] at h; have := h.2; cases this))
              clear hz
              go_wp2_with fail
              go_ret
              exact ⟨2, rfl, .rng HLP.out HNR.out, G0.out⟩
        · have h1 : ¬ (k : Int) < (qs.length : Int) := by omega
          have HRP : Hid (RngP b qs) := Lib.hid ⟨HWB.out, fun q hq => by
            obtain ⟨j, hj, rfl⟩ := List.getElem_of_mem hq
            exact HA.out j hj (by omega)⟩
          clear HA
          by_cases hq3 : (3 : Int) < (qs.length : Int)
          · go_wp2_with fail
            go_ret
            exact ⟨1, rfl, .many HLP.out HRP.out (by omega), G0.out⟩
          have hq3n : qs.length ≤ 3 := by omega
          go_wp2_with fail
          go_loopw [7] (fun i wr => ∃ (k : Nat), i = .int .i64 k ∧ 1 ≤ k ∧ k ≤ max 1 qs.length ∧ Hid (w'.grownBy wr none) ∧ Hid (∀ j (hj : j + 1 < qs.length), j + 1 < k → compareI (qs[j]'(by omega)).2 qs[j + 1].2 < 0)) (fun i _ => qs.length - (intOf i).toNat)
          case atStart => exact ⟨1, rfl, Nat.le_refl _, by omega, Lib.hid (grown_refl _ _), Lib.hid (fun j hj h => by omega)⟩
          case round =>
            obtain ⟨k, rfl, hk1, hk, HG, HC⟩ := hrel
            rename World => wk
            have c1 := HG.out.cell hc1 (by simp)
            by_cases hlt : k < qs.length
            · obtain ⟨b', off', ak, ck, hb', hx, hri1⟩ := (HR1.out.same HG.out).row hlt
              obtain ⟨b2, off2, ak0, ck0, hb2, hx0, hri0⟩ := (HR1.out.same HG.out).row (show k - 1 < qs.length by omega)
              subst hb'
              simp only [Option.some.injEq, Addr.mk.injEq, and_true] at hb2
              obtain ⟨rfl, rfl⟩ := hb2
              have HI1 := Lib.hid hri1; have HI0 := Lib.hid hri0
              have HAK : Hid (compareI (qs[k - 1]'(by omega)).2 qs[k].2 < 0 → ∀ j (hj : j + 1 < qs.length), j + 1 < k + 1 → compareI (qs[j]'(by omega)).2 qs[j + 1].2 < 0) := Lib.hid (fun h j hj hjk => by
                by_cases e : j + 1 = k
                · subst e; exact h
                · exact HC.out j hj (by omega))
              have HNO : Hid (¬ compareI (qs[k - 1]'(by omega)).2 qs[k].2 < 0 → ¬ Asc (qs.map Prod.snd)) := Lib.hid (fun h ha => h (by
                have := adj_of_asc ha (k - 1) (by rw [List.length_map]; omega)
                have e : k - 1 + 1 = k := by omega
                simp only [List.getElem_map, e] at this
                exact this))
              clear hri1 hri0
              generalize qs[k].2 = p1 at *
              generalize (qs[k - 1]'(by omega)).2 = p0 at *
              have h1 : (k : Int) < (qs.length : Int) := by omega
              have i1 : IntKind.i64.wrap ((k : Int) + 1) = (k : Int) + 1 := IntWalk.i64_in _ (by omega)
              have g1 : IntKind.i64.wrap ((k : Int) - 1) = (k : Int) - 1 := IntWalk.i64_in _ (by omega)
              have g2 : (0 : Int) ≤ (k : Int) - 1 := by omega
              have g3 : ((k : Int) - 1).toNat = k - 1 := by omega
              have g4 : (k : Int) - 1 < (qs.length : Int) := by omega
              by_cases hle : (0 : Int) ≤ compareI p0 p1
              · have HNA := Lib.hid (HNO.out (by omega))
                go_wp2_with fail
                go_big_quiet ((go_at_call 32; exact (rcompare_any _ _ _ _ _ (HI0.out.same (grown_drewN _ _ none)) (HI1.out.same (grown_drewN _ _ none))).mono (fun _ _ ⟨he, hd⟩ => ⟨he, by obtain ⟨m, rfl⟩ := hd; exact ⟨_ + m, by simp; rfl⟩⟩)))
                have HGN := Lib.hid (grown_trans HG.out (grown_drewN wk nq none))
                generalize wk.drewN nq = wd at *
                go_wp2_with fail
                go_ret
                exact ⟨4, rfl, .ord HLP.out HRP.out hq3n HNA.out, grown_trans G0.out HGN.out⟩
              · have HA2 := Lib.hid (HAK.out (by omega))
                go_wp2_with fail
                go_big_quiet ((go_at_call 32; exact (rcompare_any _ _ _ _ _ (HI0.out.same (grown_drewN _ _ none)) (HI1.out.same (grown_drewN _ _ none))).mono (fun _ _ ⟨he, hd⟩ => ⟨he, by obtain ⟨m, rfl⟩ := hd; exact ⟨_ + m, by simp; rfl⟩⟩)))
                have HGN := Lib.hid (grown_trans HG.out (grown_drewN wk nq none))
                clear c1 hx hx0
                generalize wk.drewN nq = wd at *
                go_wp2_with fail
                go_roundw
                case rel => exact ⟨k + 1, by go_num, by omega, by omega, HGN, HA2⟩
                case measure => (simp [intOf]; try omega)
            · have h1 : ¬ (k : Int) < (qs.length : Int) := by omega
              have HAS : Hid (Asc (qs.map Prod.snd)) := Lib.hid (asc_of_adj _ (fun j hj => by
                have hj' : j + 1 < qs.length := by rw [List.length_map] at hj; exact hj
                simp only [List.getElem_map]
                exact HC.out j hj' (by omega)))
              go_wp2_with fail
              go_ret
              exact ⟨0, rfl, .ok HLP.out HRP.out hq3n HAS.out, grown_trans G0.out HG.out⟩
end Go.Proofs.Ytoaoheblaidhmaa

namespace Go.Proofs.Ytoaoheblaidhmaa
open Go.RowKit
set_option linter.unusedVariables false

/-- A set in a list: its cells, and what they read as. -/
abbrev SetR := (Value × Value) × (List Int × List Row)
def SetsX (w : World) (v : Value) (us : List SetR) : Prop :=
  ∃ a cap, v = .slice a us.length cap ∧ us.length ≤ 20 ∧ (us = [] ∨ ∃ b off, a = some ⟨b, off, none⟩ ∧ CellsS w b off (us.map Prod.fst)) ∧ ∀ u ∈ us, LinX w (.agg #[u.1.1, u.1.2]) u.2.1 u.2.2 ∧ u.2.2.length ≤ 20
theorem SetsX.same {w w' : World} {v : Value} {us : List SetR} (h : SetsX w v us) (g : w.grownBy w' none) : SetsX w' v us := by
  obtain ⟨a, cap, h1, h2, h3, h4⟩ := h
  refine ⟨a, cap, h1, h2, ?_, fun u hu => ⟨(h4 u hu).1.same g, (h4 u hu).2⟩⟩
  rcases h3 with h3 | ⟨b, off, h5, h6⟩
  · exact .inl h3
  · exact .inr ⟨b, off, h5, h6.same g⟩
theorem SetsX.at {w : World} {a : Option Addr} {n cap : Nat} {us : List SetR} (h : SetsX w (.slice a n cap) us) {k : Nat} (hk : k < us.length) :
    ∃ b off, a = some ⟨b, off, none⟩ ∧ w.cell? ⟨b, off + k * 2, none⟩ = some us[k].1.1 ∧ w.cell? ⟨b, off + k * 2 + 1, none⟩ = some us[k].1.2 ∧ LinX w (.agg #[us[k].1.1, us[k].1.2]) us[k].2.1 us[k].2.2 ∧ us[k].2.2.length ≤ 20 := by
  obtain ⟨a', cap', hv, -, hc, hr⟩ := h
  simp only [Value.slice.injEq] at hv
  obtain ⟨rfl, -, rfl⟩ := hv
  rcases hc with hc | ⟨b, off, rfl, hc⟩
  · rw [hc] at hk; simp at hk
  · have h1 := hc k (by rw [List.length_map]; exact hk)
    simp only [List.getElem_map] at h1
    have h2 := hr _ (List.getElem_mem hk)
    exact ⟨b, off, rfl, h1.1, h1.2, h2.1, h2.2⟩
/-- The first error of sets. -/
inductive CheckF (n : Int) (us : List SetR) : Int → Prop
  | dim : (n < 1 ∨ 4 < n) → CheckF n us 2
  | many : 1 ≤ n → n ≤ 4 → 8 < us.length → CheckF n us 1
  | bad (k : Nat) (err : Int) (hk : k < us.length) : 1 ≤ n → n ≤ 4 → us.length ≤ 8 → (∀ j (hj : j < us.length), j < k → Fault n.toNat us[j].2.1 us[j].2.2 0) → Fault n.toNat us[k].2.1 us[k].2.2 err → err ≠ 0 → CheckF n us err
  | ok : 1 ≤ n → n ≤ 4 → us.length ≤ 8 → (∀ j (hj : j < us.length), Fault n.toNat us[j].2.1 us[j].2.2 0) → CheckF n us 0
theorem CheckF.one {n : Int} {us : List SetR} {x y : Int} (h : CheckF n us x) (g : CheckF n us y) : x = y := by
  cases h with
  | dim h => cases g with
    | dim _ => rfl
    | many _ _ _ => omega
    | bad _ _ _ _ _ => omega
    | ok _ _ => omega
  | many h1 h2 h3 => cases g with
    | dim _ => omega
    | many _ _ _ => rfl
    | bad _ _ _ _ _ => omega
    | ok _ _ => omega
  | bad k err hk h1 h2 h3 h4 h5 h6 => cases g with
    | dim _ => omega
    | many _ _ _ => omega
    | bad k' err' hk' g1 g2 g3 g4 g5 g6 =>
      rcases Nat.lt_trichotomy k k' with hl | hl | hl
      · exact absurd (h5.one (g4 k hk hl)) h6
      · subst hl; exact h5.one g5
      · exact absurd (g5.one (h4 k' hk' hl)) g6
    | ok _ _ _ g4 => exact absurd (h5.one (g4 k hk)) h6
  | ok h1 h2 h3 h4 => cases g with
    | dim _ => omega
    | many _ _ _ => omega
    | bad k' err' hk' g1 g2 g3 g4 g5 g6 => exact absurd (g5.one (h4 k' hk')) g6
    | ok _ _ => rfl
def CheckIs (n : Int) (us : List SetR) (w : World) (e : Ending) (w' : World) : Prop := ∃ err : Int, e = .returned (.int .i64 err) ∧ CheckF n us err ∧ w.grownBy w' none
set_option maxRecDepth 100000 in
set_option maxHeartbeats 2000000 in
theorem check_is (n : Int) (v : Value) (us : List SetR) (w : World) (h : SetsX w v us) :
    Calls Try.prog 14 #[.int .i64 n, v] w (CheckIs n us w) := by
  obtain ⟨a, cap, rfl, hl20, -⟩ := id h
  have H := Lib.hid h
  have G0 := Lib.hid (grown_refl w none)
  clear h
  by_cases h1 : n < 1
  · have d1 : decide (n < 1) = true := by simpa using h1
    go_enter Try.func14, Try.ntmps14
    go_wp2_with fail
    go_ret
    exact ⟨2, rfl, .dim (.inl h1), G0.out⟩
  by_cases h4 : 4 < n
  · have d1 : decide (n < 1) = false := by simpa using h1
    have d4 : decide (4 < n) = true := by simpa using h4
    go_enter Try.func14, Try.ntmps14
    go_wp2_with fail
    go_ret
    exact ⟨2, rfl, .dim (.inr h4), G0.out⟩
  have d1 : decide (n < 1) = false := by simpa using h1
  have d4 : decide (4 < n) = false := by simpa using h4
  obtain ⟨N, rfl⟩ : ∃ N : Nat, n = (N : Int) := ⟨n.toNat, by omega⟩
  have hN1 : 1 ≤ N := by omega
  have hN4 : N ≤ 4 := by omega
  have HNT : Hid (((N : Int)).toNat = N) := Lib.hid (by omega)
  by_cases h8 : (8 : Int) < (us.length : Int)
  ·
    go_enter Try.func14, Try.ntmps14
    go_wp2_with fail
    go_ret
    exact ⟨1, rfl, .many (by omega) (by omega) (by omega), G0.out⟩
  go_enter Try.func14, Try.ntmps14
  go_wp2_with fail
  go_loopw [6, 19] (fun _ i wr => ∃ k : Nat, i = .int .i64 k ∧ k ≤ us.length ∧ Hid (∀ j (hj : j < us.length), j < k → Fault N us[j].2.1 us[j].2.2 0) ∧ Hid (w.grownBy wr none)) (fun _ i _ => us.length - (intOf i).toNat)
  case atStart => exact ⟨0, rfl, Nat.zero_le _, Lib.hid (fun j hj h => by omega), G0⟩
  case round =>
    clear G0
    obtain ⟨k, rfl, hk, HA, HG⟩ := hrel
    rename World => wk
    by_cases hlt : k < us.length
    · have h2 : (k : Int) < (us.length : Int) := by omega
      have i1 : IntKind.i64.wrap ((k : Int) + 1) = (k : Int) + 1 := IntWalk.i64_in _ (by omega)
      obtain ⟨b, off, rfl, c1, c2, hS, h20⟩ := (H.out.same HG.out).at hlt
      have HS := Lib.hid hS; have H20 := Lib.hid h20
      have HAK : Hid (Fault N us[k].2.1 us[k].2.2 0 → ∀ j (hj : j < us.length), j < k + 1 → Fault N us[j].2.1 us[j].2.2 0) := Lib.hid (fun h j hj hjk => by
        by_cases e : j = k
        · subst e; exact h
        · exact HA.out j hj (by omega))
      have HBD : Hid (∀ err, Fault N us[k].2.1 us[k].2.2 err → err ≠ 0 → CheckF (N : Int) us err) := Lib.hid (fun err h h' => .bad k err hlt (by omega) (by omega) (by omega) (by rw [HNT.out]; exact HA.out) (by rw [HNT.out]; exact h) h')
      clear hS h20
      generalize us[k] = u at *
      obtain ⟨vb, vp, he, ⟨⟨ab, cb, hvb, -⟩, -, -⟩, ⟨ap, cp, hvp, -⟩, -⟩ := id HS.out
      simp only [Value.agg.injEq, Array.mk.injEq, List.cons.injEq, and_true] at he
      obtain ⟨e1, e2⟩ := he
      dsimp only at hvb
      rw [← e1] at hvb
      rw [← e2] at hvp
      rw [hvb] at c1 HS
      rw [hvp] at c2 HS
      clear e1 e2 hvb hvp
      have HS2 := Lib.hid (HS.out.same (World.grownBy_alloc wk (.cells #[.slice ab u.2.1.length cb, .slice ap u.2.2.length cp] 26) none))
      have HGA : Hid (w.grownBy (wk.alloc (.cells #[.slice ab u.2.1.length cb, .slice ap u.2.2.length cp] 26)) none) := Lib.hid (grown_trans HG.out (World.grownBy_alloc _ _ none))
      go_wp2_with fail
      refine (checkSet_is N hN1 hN4 _ u.2.1 u.2.2 _ HS2.out H20.out).mono ?_
      rintro e w3 ⟨err, rfl, hf, hg3⟩
      have HFT := Lib.hid hf
      have G3 := Lib.hid (grown_trans HGA.out hg3)
      clear hf hg3 c1 c2
      by_cases he : err = 0
      · subst he
        have HA2 := Lib.hid (HAK.out HFT.out)
        go_wp2_with fail
        go_roundw
        case rel => exact ⟨k + 1, by go_num, by omega, HA2, G3⟩
        case measure => (simp [intOf]; try omega)
      · have q1 : (err != 0) = true := by simpa using he
        have HB := Lib.hid (HBD.out err HFT.out he)
        go_wp2_with fail
        go_ret
        exact ⟨err, rfl, HB.out, G3.out⟩
    · have h2 : ¬ (k : Int) < (us.length : Int) := by omega
      go_wp2_with fail
      go_ret
      exact ⟨0, rfl, .ok (by omega) (by omega) (by omega) (by rw [HNT.out]; exact fun j hj => HA.out j hj (by omega)), HG.out⟩
set_option maxRecDepth 100000 in
set_option maxHeartbeats 2000000 in
theorem rcheck13_is (n : Int) (v : Value) (us : List SetR) (w : World) (h : SetsX w v us) :
    Calls Try.prog 15 #[.int .i64 n, v] w (CheckIs n us w) := by
  obtain ⟨a, cap, rfl, hl20, -⟩ := id h
  have H := Lib.hid h
  have G0 := Lib.hid (grown_refl w none)
  clear h
  by_cases h1 : n < 1
  · have d1 : decide (n < 1) = true := by simpa using h1
    go_enter Try.func15, Try.ntmps15
    go_wp2_with fail
    go_ret
    exact ⟨2, rfl, .dim (.inl h1), G0.out⟩
  by_cases h4 : 4 < n
  · have d1 : decide (n < 1) = false := by simpa using h1
    have d4 : decide (4 < n) = true := by simpa using h4
    go_enter Try.func15, Try.ntmps15
    go_wp2_with fail
    go_ret
    exact ⟨2, rfl, .dim (.inr h4), G0.out⟩
  have d1 : decide (n < 1) = false := by simpa using h1
  have d4 : decide (4 < n) = false := by simpa using h4
  obtain ⟨N, rfl⟩ : ∃ N : Nat, n = (N : Int) := ⟨n.toNat, by omega⟩
  have hN1 : 1 ≤ N := by omega
  have hN4 : N ≤ 4 := by omega
  have HNT : Hid (((N : Int)).toNat = N) := Lib.hid (by omega)
  by_cases h8 : (8 : Int) < (us.length : Int)
  ·
    go_enter Try.func15, Try.ntmps15
    go_wp2_with fail
    go_ret
    exact ⟨1, rfl, .many (by omega) (by omega) (by omega), G0.out⟩
  go_enter Try.func15, Try.ntmps15
  go_wp2_with fail
  go_loopw [5] (fun i wr => ∃ k : Nat, i = .int .i64 k ∧ k ≤ us.length ∧ Hid (∀ j (hj : j < us.length), j < k → Fault N us[j].2.1 us[j].2.2 0) ∧ Hid (w.grownBy wr none)) (fun i _ => us.length - (intOf i).toNat)
  case atStart => exact ⟨0, rfl, Nat.zero_le _, Lib.hid (fun j hj h => by omega), G0⟩
  case round =>
    clear G0
    obtain ⟨k, rfl, hk, HA, HG⟩ := hrel
    rename World => wk
    by_cases hlt : k < us.length
    · have h2 : (k : Int) < (us.length : Int) := by omega
      have i1 : IntKind.i64.wrap ((k : Int) + 1) = (k : Int) + 1 := IntWalk.i64_in _ (by omega)
      obtain ⟨b, off, rfl, c1, c2, hS, h20⟩ := (H.out.same HG.out).at hlt
      have HS := Lib.hid hS; have H20 := Lib.hid h20
      have HAK : Hid (Fault N us[k].2.1 us[k].2.2 0 → ∀ j (hj : j < us.length), j < k + 1 → Fault N us[j].2.1 us[j].2.2 0) := Lib.hid (fun h j hj hjk => by
        by_cases e : j = k
        · subst e; exact h
        · exact HA.out j hj (by omega))
      have HBD : Hid (∀ err, Fault N us[k].2.1 us[k].2.2 err → err ≠ 0 → CheckF (N : Int) us err) := Lib.hid (fun err h h' => .bad k err hlt (by omega) (by omega) (by omega) (by rw [HNT.out]; exact HA.out) (by rw [HNT.out]; exact h) h')
      clear hS h20
      generalize us[k] = u at *
      obtain ⟨vb, vp, he, ⟨⟨ab, cb, hvb, -⟩, -, -⟩, ⟨ap, cp, hvp, -⟩, -⟩ := id HS.out
      simp only [Value.agg.injEq, Array.mk.injEq, List.cons.injEq, and_true] at he
      obtain ⟨e1, e2⟩ := he
      dsimp only at hvb
      rw [← e1] at hvb
      rw [← e2] at hvp
      rw [hvb] at c1 HS
      rw [hvp] at c2 HS
      clear e1 e2 hvb hvp
      have HS2 := Lib.hid HS.out
      have HGA := Lib.hid HG.out
      go_wp2_with fail
      refine (rfault_is N hN1 hN4 _ u.2.1 u.2.2 _ HS2.out H20.out).mono ?_
      rintro e w3 ⟨err, rfl, hf, hg3⟩
      have HFT := Lib.hid hf
      have G3 := Lib.hid (grown_trans HGA.out hg3)
      clear hf hg3 c1 c2
      by_cases he : err = 0
      · subst he
        have HA2 := Lib.hid (HAK.out HFT.out)
        go_wp2_with fail
        go_roundw
        case rel => exact ⟨k + 1, by go_num, by omega, HA2, G3⟩
        case measure => (simp [intOf]; try omega)
      · have q1 : (err != 0) = true := by simpa using he
        have HB := Lib.hid (HBD.out err HFT.out he)
        go_wp2_with fail
        go_ret
        exact ⟨err, rfl, HB.out, G3.out⟩
    · have h2 : ¬ (k : Int) < (us.length : Int) := by omega
      go_wp2_with fail
      go_ret
      exact ⟨0, rfl, .ok (by omega) (by omega) (by omega) (by rw [HNT.out]; exact fun j hj => HA.out j hj (by omega)), HG.out⟩
end Go.Proofs.Ytoaoheblaidhmaa
