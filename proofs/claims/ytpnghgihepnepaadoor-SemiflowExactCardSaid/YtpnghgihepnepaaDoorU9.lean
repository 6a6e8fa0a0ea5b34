/- Texts Ni, Nj in one. -/
import Derived.Test.YtpnghgihepnepaaDoorU8
namespace Go.Proofs.YtpnghgihepnepaaDoor
open Go.RowKit
set_option linter.unusedVariables false

theorem tmod_lt (x : Int) {y : Int} (h : y ≠ 0) : (x.tmod y).natAbs < y.natAbs := by rw [Int.natAbs_tmod]; exact Nat.mod_lt _ (by omega)
theorem tmod_bd {x y : Int} (h : y ≠ 0) (hy : -4000000000000000000 ≤ y ∧ y ≤ 4000000000000000000) : -4000000000000000000 ≤ x.tmod y ∧ x.tmod y ≤ 4000000000000000000 := by
  have := tmod_lt x h
  generalize x.tmod y = z at *
  omega
def ComTo (w : World) (a b : Int) (e : Ending) (w' : World) : Prop := ∃ g : Int, e = .returned (.int .i64 g) ∧ g.natAbs = Int.gcd a b ∧ w.grownBy w' none
set_option maxRecDepth 100000 in
set_option maxHeartbeats 2000000 in
theorem common_any {w : World} (a b : Int) (ha : -4000000000000000000 ≤ a ∧ a ≤ 4000000000000000000) (hb : -4000000000000000000 ≤ b ∧ b ≤ 4000000000000000000) :
    Calls Tryd.prog 74 #[.int .i64 a, .int .i64 b] w (ComTo w a b) := by
  go_enter Tryd.func74, Tryd.ntmps74
  go_wp2_with fail
  go_loopw [0, 1] (fun u v wr => ∃ x y : Int, u = .int .i64 x ∧ v = .int .i64 y ∧ (-4000000000000000000 ≤ x ∧ x ≤ 4000000000000000000) ∧ (-4000000000000000000 ≤ y ∧ y ≤ 4000000000000000000) ∧ Hid (Int.gcd x y = Int.gcd a b) ∧ Hid (w.grownBy wr none)) (fun _ v _ => (intOf v).natAbs)
  case atStart => exact ⟨a, b, rfl, rfl, ha, hb, Lib.hid rfl, Lib.hid (grown_refl _ _)⟩
  case round =>
    obtain ⟨x, y, rfl, rfl, hx, hy, hg, hw⟩ := hrel
    by_cases h0 : y = 0
    · subst h0
      have q0 : ((0 : Int) != 0) = false := by decide
      go_wp2_with fail
      go_ret
      exact ⟨x, rfl, by rw [← hg.out]; simp, hw.out⟩
    · have q0 : (y != 0) = true := by simpa using h0
      have q1 : (y == 0) = false := by simpa using h0
      have hr := tmod_bd (x := x) h0 hy
      have HMS := Lib.hid (tmod_lt x h0)
      have i1 : IntKind.i64.wrap (x.tmod y) = x.tmod y := IntWalk.i64_in _ (by omega)
      have HG : Hid (Int.gcd y (x.tmod y) = Int.gcd a b) := Lib.hid (by
        rw [← hg.out]
        unfold Int.gcd
        rw [Int.natAbs_tmod, Nat.gcd_comm, ← Nat.gcd_rec, Nat.gcd_comm])
      go_wp2_with fail
      go_big_quiet (fail)
      have HW := Lib.hid (grown_trans hw.out (grown_drewN wr nq none))
      generalize wr.drewN nq = wd at *
      go_wp2_with fail
      go_roundw
      case rel => exact ⟨y, x.tmod y, rfl, rfl, hy, hr, HG, HW⟩
      case measure => exact HMS.out

/-- What solution makes, before it divides: the vector and the divisor's size. -/
def solV (rows : List (List Int)) (c m : Nat) (f : Int) (pv : List Int) : Nat → List Int × Nat
  | 0 => ((List.replicate m 0).set c f, f.natAbs)
  | i + 1 => ((solV rows c m f pv i).1.set (pv[i]?.getD 0).toNat (-((rows[i]?.getD [])[c]?.getD 0)), Nat.gcd (solV rows c m f pv i).2 (-((rows[i]?.getD [])[c]?.getD 0)).natAbs)
def solEnd (rows : List (List Int)) (c m : Nat) (f : Int) (pv : List Int) : List Int := (solV rows c m f pv pv.length).1.map (fun x => x.tdiv (f.sign * ((solV rows c m f pv pv.length).2 : Int)))
theorem solV_len (rows : List (List Int)) (c m : Nat) (f : Int) (pv : List Int) (i : Nat) : (solV rows c m f pv i).1.length = m := by
  induction i with
  | zero => simp [solV]
  | succ i ih => unfold solV; rw [List.length_set, ih]
theorem solV_div (rows : List (List Int)) (c m : Nat) (f : Int) (pv : List Int) (i : Nat) : (solV rows c m f pv i).2 ∣ f.natAbs := by
  induction i with
  | zero => exact Nat.dvd_refl _
  | succ i ih => unfold solV; exact Nat.dvd_trans (Nat.gcd_dvd_left _ _) ih
theorem solV_bd {rows : List (List Int)} {c m : Nat} {f : Int} {pv : List Int} {B : Int} (hf : -B ≤ f ∧ f ≤ B) (hr : ∀ r ∈ rows, ∀ x ∈ r, -B ≤ x ∧ x ≤ B) (hB : 0 ≤ B) (i : Nat) : ∀ x ∈ (solV rows c m f pv i).1, -B ≤ x ∧ x ≤ B := by
  induction i with
  | zero =>
    intro x hx
    unfold solV at hx
    rcases List.mem_or_eq_of_mem_set hx with h | rfl
    · rw [List.eq_of_mem_replicate h]; omega
    · exact hf
  | succ i ih =>
    intro x hx
    unfold solV at hx
    rcases List.mem_or_eq_of_mem_set hx with h | rfl
    · exact ih x h
    · have : ∀ y : Int, (y ∈ rows[i]?.getD [] ∨ y = 0) → -B ≤ -y ∧ -y ≤ B := by
        intro y hy
        rcases hy with hy | rfl
        · cases h : rows[i]? with
          | none => rw [h] at hy; simp at hy
          | some r => rw [h] at hy; have := hr r (List.mem_of_getElem? h) y hy; omega
        · omega
      refine this _ ?_
      cases h : (rows[i]?.getD [])[c]? with
      | none => right; rfl
      | some y => left; exact List.mem_of_getElem? h

set_option maxRecDepth 100000 in
set_option maxHeartbeats 2000000 in
theorem solution_any {w : World} {B0 B1 : Nat} {v vp : Value} {ps : List Row} {pv : List Int} {f : Int} {m c : Nat} (hM : MatO w B0 v ps) (hP : OwnI w B1 vp pv) (h1 : 1 ≤ ps.length) (hn : ps.length ≤ 12) (hpn : pv.length ≤ ps.length) (hm : ∀ q ∈ ps, q.2.length = m) (hm12 : m ≤ 12) (hc : c < m)
    (hf0 : f ≠ 0) (hf : -4000000000000000000 ≤ f ∧ f ≤ 4000000000000000000) (hb : ∀ q ∈ ps, ∀ x ∈ q.2, -4000000000000000000 ≤ x ∧ x ≤ 4000000000000000000) (hpv : ∀ p ∈ pv, 0 ≤ p ∧ p < m) :
    Calls Tryd.prog 55 #[.agg #[v, vp, .int .i64 f], .int .i64 (c : Int)] w (Made (solEnd (ps.map Prod.snd) c m f pv) w) := by
  obtain ⟨g, cv, rfl, -⟩ := hM.head h1
  obtain ⟨ap, cp, rfl⟩ := ownI_sl' hP
  obtain ⟨r0, rc, hr0, -⟩ := hM.row (i := 0) h1 (by rw [hm _ (List.getElem_mem _)]; omega)
  rw [hm _ (List.getElem_mem _)] at hr0
  have hc0 := (hM.own.cell 0 h1).1
  rw [hr0] at hc0
  have e0 : (0 : Int) < (ps.length : Int) := by omega
  have e1 : (c : Int) < (m : Int) := by omega
  have hbox := cells3 (heap_new (w := w) (g := w.heap.size) (.cells #[.slice (some ⟨g, 0, none⟩) ps.length cv, .slice ap pv.length cp, .int .i64 f] 66) rfl)
  have hw1 := World.grownBy_alloc w (.cells #[.slice (some ⟨g, 0, none⟩) ps.length cv, .slice ap pv.length cp, .int .i64 f] 66) none
  have hs1 : (w.alloc (.cells #[.slice (some ⟨g, 0, none⟩) ps.length cv, .slice ap pv.length cp, .int .i64 f] 66)).heap.size = w.heap.size + 1 := by show (w.heap.push _).size = _; simp
  have hc1 := hw1.cell hc0 (by simp)
  have HB1 := hbox.1; have HB2 := hbox.2.1; have HB3 := hbox.2.2
  have HM := Lib.hid hM; have HP := Lib.hid hP; have HML := Lib.hid hm; have HBD := Lib.hid hb; have HPV := Lib.hid hpv; have HBX := Lib.hid hbox; have HW1 := Lib.hid hw1; have HS1 := Lib.hid hs1
  clear hM hP hr0 hm hb hpv hbox hw1 hs1 hc0
  go_enter Tryd.func55, Tryd.ntmps55
  generalize hgw : w.alloc (.cells #[.slice (some ⟨g, 0, none⟩) ps.length cv, .slice ap pv.length cp, .int .i64 f] 66) = w1 at *
  go_wp2_with (at_make; refine make_int rfl _ _ rfl m rfl rfl (by omega) ?_)
  intro w2 ho hg
  have HO := Lib.hid ho; have HG := Lib.hid hg
  have c1 := (ho.cell c (by simpa using hc)).1; have c2 := (ho.cell c (by simpa using hc)).2
  have b3 := hg.cell HB3 (by simp)
  have HO3 := Lib.hid (ho.stored c f)
  have HG3 : Hid (w1.grownBy (w2.setCell ⟨w1.heap.size, c, none⟩ (.int .i64 f)) none) := Lib.hid (grown_then hg (grown_set w2 ⟨w1.heap.size, c, none⟩ (.int .i64 f)) (fun j hj => .inl (by cases hj; exact Nat.le_refl _)))
  have d2 := HG3.out.cell HB2 (by simp); have d3 := HG3.out.cell HB3 (by simp)
  clear ho hg HB1 HB2 HB3 hc1
  go_wp2_with fail
  clear c1 c2 b3 d2 d3
  clear hgw HO HG
  obtain ⟨rows, hrows⟩ : ∃ rows, ps.map Prod.snd = rows := ⟨_, rfl⟩
  rw [hrows]
  have HRW := Lib.hid hrows
  have HVB : Hid (∀ i, ∀ x ∈ (solV rows c m f pv i).1, -4000000000000000000 ≤ x ∧ x ≤ 4000000000000000000) := Lib.hid (fun i => solV_bd hf (by rw [← hrows]; intro r hr; obtain ⟨q, hq, rfl⟩ := List.mem_map.1 hr; exact HBD.out q hq) (by decide) i)
  clear hrows
  go_loopw [26, 6] (fun i d wr => ∃ (k : Nat) (z : Int), i = .int .i64 k ∧ d = .int .i64 z ∧ k ≤ pv.length ∧ Hid (z.natAbs = (solV rows c m f pv k).2) ∧ Hid (OwnI wr w1.heap.size (.slice (some ⟨w1.heap.size, 0, none⟩) m m) (solV rows c m f pv k).1) ∧ Hid (w1.grownBy wr none)) (fun i _ _ => pv.length - (intOf i).toNat)
  case atStart => exact ⟨0, f, rfl, rfl, Nat.zero_le _, Lib.hid rfl, HO3, HG3⟩
  case round =>
    clear HO3 HG3
    obtain ⟨k, z, rfl, rfl, hk, hz, hO, hG⟩ := hrel
    rename World => wk
    have hzd := solV_div rows c m f pv k
    rw [← hz.out] at hzd
    have hzb := Nat.le_of_dvd (by omega) hzd
    by_cases hkb : k < pv.length
    · have h3 : (k : Int) < (pv.length : Int) := by omega
      have i1 : IntKind.i64.wrap ((k : Int) + 1) = (k : Int) + 1 := IntWalk.i64_in _ (by omega)
      obtain ⟨pg, pc, hpe, -⟩ : ∃ pg pc, Value.slice ap pv.length cp = .slice (some ⟨pg, 0, none⟩) pv.length pc ∧ True := by
        rcases HP.out.2 with ⟨_, h0⟩ | ⟨pg, pc, cur, hv, -⟩
        · omega
        · exact ⟨pg, pc, hv, trivial⟩
      simp only [Value.slice.injEq] at hpe
      obtain ⟨rfl, -, rfl⟩ := hpe
      have GK := Lib.hid (grown_trans HW1.out hG.out)
      have hcp := GK.out.cell (HP.out.cell k hkb).1 (by simp)
      have hpb := HPV.out pv[k] (List.getElem_mem hkb)
      rw [List.getElem?_eq_getElem hkb, Option.getD_some] at hcp
      obtain ⟨p, hp⟩ : ∃ p : Nat, pv[k] = (p : Int) := ⟨pv[k].toNat, by omega⟩
      rw [hp] at hcp hpb
      have HPE : Hid ((pv[k]?.getD 0).toNat = p) := Lib.hid (by rw [List.getElem?_eq_getElem hkb, Option.getD_some, hp]; rfl)
      have hkr : k < ps.length := by omega
      obtain ⟨rb, rc2, hrk, -⟩ := HM.out.row hkr (by rw [HML.out _ (List.getElem_mem hkr)]; omega)
      rw [HML.out _ (List.getElem_mem hkr)] at hrk
      have hct := GK.out.cell (HM.out.own.cell k hkr).1 (by simp)
      rw [hrk] at hct
      have hcl := GK.out.cell (HM.out.cell hkr hrk (k := c) (by rw [HML.out _ (List.getElem_mem hkr)]; exact hc)).1 (by simp)
      have hxb := Ints.bd (k := c) (xs := ps[k].2) (fun x hx => by have := HBD.out _ (List.getElem_mem hkr) x hx; omega) (by rw [HML.out _ (List.getElem_mem hkr)]; exact hc)
      have hxb4 : -4000000000000000000 ≤ ps[k].2[c]?.getD 0 ∧ ps[k].2[c]?.getD 0 ≤ 4000000000000000000 := by
        have hcl2 : c < ps[k].2.length := by rw [HML.out _ (List.getElem_mem hkr)]; exact hc
        rw [List.getElem?_eq_getElem hcl2]; exact HBD.out _ (List.getElem_mem hkr) _ (List.getElem_mem hcl2)
      have HX : Hid ((rows[k]?.getD [])[c]?.getD 0 = ps[k].2[c]?.getD 0) := Lib.hid (by rw [← HRW.out, List.getElem?_map, List.getElem?_eq_getElem hkr]; rfl)
      generalize ps[k].2[c]?.getD 0 = x at *
      have h4 : (k : Int) < (ps.length : Int) := by omega
      have h5 : (p : Int) < (m : Int) := by omega
      have i2 : IntKind.i64.wrap (-x) = -x := IntWalk.i64_in _ (by omega)
      have b1 := hG.out.cell HBX.out.1 (by simp)
      have c1 := (hO.out.cell p (by rw [solV_len]; omega)).1; have c2 := (hO.out.cell p (by rw [solV_len]; omega)).2
      have HON := Lib.hid (hO.out.stored p (-x))
      have c3 := (HON.out.cell p (by rw [List.length_set, solV_len]; omega)).1
      rw [List.getElem?_set_self (by rw [solV_len]; omega), Option.getD_some] at c3
      have HGN : Hid (w1.grownBy (wk.setCell ⟨w1.heap.size, p, none⟩ (.int .i64 (-x))) none) := Lib.hid (grown_then hG.out (grown_set wk ⟨w1.heap.size, p, none⟩ (.int .i64 (-x))) (fun j hj => .inl (by cases hj; exact Nat.le_refl _)))
      have HN : Hid (solV rows c m f pv (k + 1) = ((solV rows c m f pv k).1.set p (-x), Nat.gcd z.natAbs (-x).natAbs)) := Lib.hid (by
        show ((solV rows c m f pv k).1.set _ _, Nat.gcd (solV rows c m f pv k).2 _) = _
        rw [HPE.out, HX.out, hz.out])
      clear hpb hp hrk hxb hzd hz hO hG
      go_wp2_with fail
      clear hcp hct hcl b1 c1 c2 c3
      generalize wk.setCell ⟨w1.heap.size, p, none⟩ (.int .i64 (-x)) = wn at *
      refine (common_any z (-x) (by omega) (by omega)).mono ?_
      rintro e w9 ⟨z9, rfl, hz9, hg9⟩
      have HZ9 : Hid (z9.natAbs = (solV rows c m f pv (k + 1)).2) := Lib.hid (by rw [HN.out]; exact hz9)
      have HO9 : Hid (OwnI w9 w1.heap.size (.slice (some ⟨w1.heap.size, 0, none⟩) m m) (solV rows c m f pv (k + 1)).1) := Lib.hid (by rw [HN.out]; exact HON.out.kept hg9 (by simp))
      have HG9 := Lib.hid (grown_trans HGN.out hg9)
      clear hz9 hg9 HON HGN HN
      go_wp2_with fail
      go_roundw
      case rel => exact ⟨k + 1, z9, by go_num, rfl, by omega, HZ9, HO9, HG9⟩
      case measure => simp [intOf]; omega
    · obtain rfl : k = pv.length := by omega
      have h3 : ¬ (pv.length : Int) < (pv.length : Int) := by omega
      have hgpos : (solV rows c m f pv pv.length).2 ≠ 0 := by
        intro h
        have := solV_div rows c m f pv pv.length
        rw [h, Nat.zero_dvd] at this
        omega
      have hz0 : z ≠ 0 := by have := hz.out; omega
      have b3 := hG.out.cell HBX.out.2.2 (by simp)
      obtain ⟨old, hold⟩ : ∃ old, (solV rows c m f pv pv.length).1 = old := ⟨_, rfl⟩
      have hol : old.length = m := by rw [← hold]; exact solV_len _ _ _ _ _ _
      have HOB : Hid (∀ x ∈ old, -4000000000000000000 ≤ x ∧ x ≤ 4000000000000000000) := Lib.hid (by rw [← hold]; exact HVB.out _)
      rw [hold] at hO
      have HEND : Hid (∀ dd : Int, dd.natAbs = z.natAbs → (dd < 0 ↔ f < 0) → solEnd rows c m f pv = old.map (fun x => x.tdiv dd)) := Lib.hid (fun dd h1 h2 => by
        unfold solEnd
        rw [hold, ← hz.out, ← h1]
        have : f.sign * (dd.natAbs : Int) = dd := by
          by_cases h3 : f < 0
          · rw [Int.sign_eq_neg_one_of_neg h3]; have := h2.2 h3; omega
          · have h4 : ¬ dd < 0 := fun h => h3 (h2.1 h)
            rw [Int.sign_eq_one_of_pos (by omega)]; omega
        rw [this])
      have HOL := Lib.hid hol
      have i3 : IntKind.i64.wrap (-z) = -z := IntWalk.i64_in _ (by omega)
      clear hz hgpos hold hol HVB hzd
      obtain ⟨s1, s2⟩ | ⟨s1, s2⟩ | ⟨s1, s2⟩ | ⟨s1, s2⟩ : (z < 0 ∧ f < 0) ∨ (¬ z < 0 ∧ ¬ f < 0) ∨ (z < 0 ∧ ¬ f < 0) ∨ (¬ z < 0 ∧ f < 0) := by omega
      all_goals
        have hzz : (-z).natAbs ≤ f.natAbs := by omega
        have hzn : -z ≠ 0 := by omega
        first
          | (have HD := Lib.hid (HEND.out z rfl (by omega)); clear HEND; go_wp2_with fail; clear b3 i3 hzz hzn s1; generalize z = dd at *)
          | (have HD := Lib.hid (HEND.out (-z) (by omega) (by omega)); clear HEND hz0 hzb; go_wp2_with fail; clear b3 i3 s1; generalize -z = dd at *; rename dd ≠ 0 => hz0; rename dd.natAbs ≤ f.natAbs => hzb)
        go_loopw [60] (fun i wr => ∃ j : Nat, i = .int .i64 j ∧ j ≤ m ∧ Hid (OwnI wr w1.heap.size (.slice (some ⟨w1.heap.size, 0, none⟩) m m) (half (old.map (fun x => x.tdiv dd)) old j)) ∧ Hid (w1.grownBy wr none)) (fun i _ => m - (intOf i).toNat)
        case atStart => exact ⟨0, rfl, Nat.zero_le _, Lib.hid (by rw [half_zero]; exact hO.out), hG⟩
        case round =>
          clear hO hG
          obtain ⟨j, rfl, hj, hO, hG⟩ := hrel
          rename World => wj
          have HHL : Hid (∀ j, j ≤ m → (half (old.map (fun x => x.tdiv dd)) old j).length = m) := Lib.hid (fun j hj => by rw [half_len (by rw [List.length_map]) (by rw [HOL.out]; exact hj), HOL.out])
          by_cases hjb : j < m
          · have h5 : (j : Int) < (m : Int) := by omega
            have i2 : IntKind.i64.wrap ((j : Int) + 1) = (j : Int) + 1 := IntWalk.i64_in _ (by omega)
            have c1 := (hO.out.cell j (by rw [HHL.out j hj]; exact hjb)).1; have c2 := (hO.out.cell j (by rw [HHL.out j hj]; exact hjb)).2
            have hjo : j < old.length := by rw [HOL.out]; exact hjb
            rw [half_at (by rw [List.length_map]) hjo] at c1
            have hx : -4000000000000000000 ≤ old[j]?.getD 0 ∧ old[j]?.getD 0 ≤ 4000000000000000000 := by rw [List.getElem?_eq_getElem hjo]; exact HOB.out _ (List.getElem_mem hjo)
            have hnx := half_next (new := old.map (fun x => x.tdiv dd)) (old := old) (by rw [List.length_map]) hjo
            have hmx : (old.map (fun x => x.tdiv dd))[j]?.getD 0 = (old[j]?.getD 0).tdiv dd := by rw [List.getElem?_map, List.getElem?_eq_getElem hjo]; rfl
            rw [hmx] at hnx
            generalize old[j]?.getD 0 = x at *
            have hqb : (x.tdiv dd).natAbs ≤ x.natAbs := by rw [Int.natAbs_tdiv]; exact Nat.div_le_self _ _
            have i4 : IntKind.i64.wrap (x.tdiv dd) = x.tdiv dd := IntWalk.i64_in _ (by omega)
            have d0 : (dd == 0) = false := by simpa using hz0
            have HON : Hid (OwnI (wj.setCell ⟨w1.heap.size, j, none⟩ (.int .i64 (x.tdiv dd))) w1.heap.size (.slice (some ⟨w1.heap.size, 0, none⟩) m m) (half (old.map (fun x => x.tdiv dd)) old (j + 1))) := Lib.hid (by rw [← hnx]; exact hO.out.stored j _)
            have HGN : Hid (w1.grownBy (wj.setCell ⟨w1.heap.size, j, none⟩ (.int .i64 (x.tdiv dd))) none) := Lib.hid (grown_then hG.out (grown_set wj ⟨w1.heap.size, j, none⟩ _) (fun j hj => .inl (by cases hj; exact Nat.le_refl _)))
            clear hnx hmx hqb hx hjo hO hG
            go_wp2_with fail
            go_roundw
            case rel => exact ⟨j + 1, by go_num, by omega, HON, HGN⟩
            case measure => simp [intOf]; omega
          · obtain rfl : j = m := by omega
            have h5 : ¬ (j : Int) < (j : Int) := by omega
            have HON := hO.out
            rw [show j = old.length from HOL.out.symm, half_full (by rw [List.length_map]), ← HD.out] at HON
            have HFI : Hid (Made (solEnd rows c j f pv) w (.returned (.slice (some ⟨w1.heap.size, 0, none⟩) j j)) wj) := Lib.hid ⟨_, rfl, by rw [HOL.out] at HON; exact HON.mono (by have := HS1.out; omega), grown_trans HW1.out hG.out⟩
            go_wp2_with fail
            go_ret
            rw [HRW.out]
            exact HFI.out

end Go.Proofs.YtpnghgihepnepaaDoor

namespace Go.Proofs.YtpnghgihepnepaaDoor
open Go.RowKit
set_option linter.unusedVariables false

theorem redStep_piv {c : Nat} {s : RSt} (h : ∀ p ∈ s.2.1, (0 : Int) ≤ p ∧ p < (c : Int)) : ∀ p ∈ (redStep c s).2.1, (0 : Int) ≤ p ∧ p < ((c + 1 : Nat) : Int) := by
  intro p hp
  unfold redStep at hp
  split at hp
  · have := h p hp; omega
  · dsimp only at hp
    rcases List.mem_append.1 hp with hp | hp
    · have := h p hp; omega
    · rw [List.mem_singleton.1 hp]; omega
theorem redN_piv (qs : List Row) (k : Nat) : ∀ p ∈ (redN (qs, [], 1) k).2.1, (0 : Int) ≤ p ∧ p < (k : Int) := by
  induction k with
  | zero => intro p hp; simp [redN] at hp
  | succ k ih => exact redStep_piv ih
theorem redN_inv {qs : List Row} {n m : Nat} (h : RInv n m (qs, [], 1)) (k : Nat) : RInv n m (redN (qs, [], 1) k) := by
  induction k with
  | zero => exact h
  | succ k ih => exact ih.step
/-- All that the numbers of a reduction must keep. -/
def RedFit (ps : List Row) (m : Nat) : Prop := ∀ qs : List Row, qs.map Prod.snd = ps.map Prod.snd → (∀ k, k < m → FitS k (redN (qs, [], 1) k)) ∧
  (-4000000000000000000 ≤ (redN (qs, [], 1) m).2.2 ∧ (redN (qs, [], 1) m).2.2 ≤ 4000000000000000000) ∧ ∀ q ∈ (redN (qs, [], 1) m).1, ∀ x ∈ q.2, -4000000000000000000 ≤ x ∧ x ≤ 4000000000000000000
def RankTo (w : World) (ps : List Row) (m : Nat) (e : Ending) (w' : World) : Prop := ∃ qs : List Row, qs.map Prod.snd = ps.map Prod.snd ∧ e = .returned (.tuple #[.int .i64 ((redN (qs, [], 1) m).2.1.length : Int), .int .i64 0]) ∧ w.grownBy w' none
/-- The basis of the kernel, column by column. -/
def kerN (rows : List (List Int)) (m : Nat) (f : Int) (pv : List Int) : Nat → Nat × List (List Int)
  | 0 => (0, [])
  | c + 1 => if (kerN rows m f pv c).1 < pv.length ∧ pv[(kerN rows m f pv c).1]?.getD 0 = (c : Int) then ((kerN rows m f pv c).1 + 1, (kerN rows m f pv c).2) else ((kerN rows m f pv c).1, (kerN rows m f pv c).2 ++ [solEnd rows c m f pv])
def kerOf (s : RSt) (m : Nat) : List (List Int) := (kerN (s.1.map Prod.snd) m s.2.2 s.2.1 m).2
def KerTo (w : World) (ps : List Row) (m : Nat) (e : Ending) (w' : World) : Prop := ∃ (qs : List Row) (v : Value) (ks : List Row), qs.map Prod.snd = ps.map Prod.snd ∧ e = .returned (.tuple #[v, .int .i64 0]) ∧ MatO w' w.heap.size v ks ∧ ks.map Prod.snd = kerOf (redN (qs, [], 1) m) m ∧ w.grownBy w' none
theorem kerN_small {rows : List (List Int)} {m : Nat} {f : Int} {pv : List Int} (c : Nat) : (kerN rows m f pv c).2.length ≤ c := by
  induction c with
  | zero => simp [kerN]
  | succ c ih => unfold kerN; split <;> simp <;> omega
theorem solEnd_bd {rows : List (List Int)} {c m : Nat} {f : Int} {pv : List Int} (hf : -4000000000000000000 ≤ f ∧ f ≤ 4000000000000000000) (hr : ∀ r ∈ rows, ∀ x ∈ r, -4000000000000000000 ≤ x ∧ x ≤ 4000000000000000000) :
    ∀ x ∈ solEnd rows c m f pv, -9223372036854775808 ≤ x ∧ x ≤ 9223372036854775807 := by
  intro x hx
  unfold solEnd at hx
  obtain ⟨y, hy, rfl⟩ := List.mem_map.1 hx
  have h1 := solV_bd (c := c) (m := m) (pv := pv) hf hr (by decide) _ y hy
  have h2 : (y.tdiv (f.sign * ((solV rows c m f pv pv.length).2 : Int))).natAbs ≤ y.natAbs := by rw [Int.natAbs_tdiv]; exact Nat.div_le_self _ _
  generalize y.tdiv _ = z at *
  omega

set_option maxRecDepth 100000 in
set_option maxHeartbeats 2000000 in
theorem Kernel_any {w : World} {v : Value} {ps : List Row} {r c : Nat} (h : RowsP w v ps) (hm : MatOkP r c ps) (hf : RedFit ps c) :
    Calls Tryd.prog 45 #[v] w (KerTo w ps c) := by
  have HM := Lib.hid hm; have H := Lib.hid h; have HF := Lib.hid hf
  obtain ⟨a, cap, rfl, -⟩ : ∃ a cap, v = .slice a ps.length cap ∧ True := by obtain ⟨a, cap, h, -⟩ := h; exact ⟨a, cap, h, trivial⟩
  have hn : ps.length ≤ 12 := by have := hm.1; have := hm.2.2.1; omega
  have hn1 : 1 ≤ ps.length := by have := hm.1; have := hm.2.1; omega
  obtain ⟨b, off, a2, c2, rfl, hc0, -, -⟩ := h.row (show 0 < ps.length by omega)
  rw [(hm.2.2.2.2.2.2 _ (List.getElem_mem _)).1, Nat.add_zero] at hc0
  have HC0 := Lib.hid hc0
  have hc12 : c ≤ 12 := hm.2.2.2.2.1
  have e0 : (0 : Int) < (ps.length : Int) := by omega
  clear h hm hf hc0
  go_enter Tryd.func45, Tryd.ntmps45
  go_wp2_with fail
  refine (Check10_any H.out HM.out).mono ?_
  rintro e w' ⟨rfl, rfl⟩
  go_wp2_with fail
  refine (reduce_any H.out hn1 hn (fun q hq => (HM.out.2.2.2.2.2.2 q hq).1) HM.out.2.2.2.1 hc12 (fun qs hq => (HF.out qs hq).1)).mono ?_
  rintro e w1 ⟨R, v, vp, f, rs, pv, qs0, rfl, hS, hq0, hN⟩
  obtain ⟨ap, cp, rfl⟩ := ownI_sl' hS.piv.1
  obtain ⟨av, cv, rfl⟩ := hS.mat.slice
  have HI := Lib.hid (redN_inv (n := ps.length) (m := c) (qs := qs0) ⟨by have := congrArg List.length hq0; simpa using this, fun q hq => by
        have : q.2 ∈ ps.map Prod.snd := by rw [← hq0]; exact List.mem_map_of_mem hq
        obtain ⟨p, hp, e⟩ := List.mem_map.1 this
        rw [← e]; exact (HM.out.2.2.2.2.2.2 p hp).1, Nat.zero_le _, Int.one_ne_zero⟩ c)
  have HPV := Lib.hid (redN_piv qs0 c)
  have HFF := Lib.hid (HF.out qs0 hq0)
  rw [← hN] at HI HPV HFF
  have HS := Lib.hid hS; have HQ := Lib.hid hq0; have HN := Lib.hid hN
  have hcw := hS.grow.cell HC0.out (by simp)
  have hbx := cells3 (heap_new (w := w1) (g := w1.heap.size) (.cells #[.slice av rs.length cv, .slice ap pv.length cp, .int .i64 f] 66) rfl)
  have HBX := Lib.hid hbx
  have HW1 := Lib.hid (World.grownBy_alloc w1 (.cells #[.slice av rs.length cv, .slice ap pv.length cp, .int .i64 f] 66) none)
  have hcw2 := HW1.out.cell hcw (by simp)
  clear hS hq0 hN hbx hcw
  go_wp2_with fail
  clear hcw2
  generalize w1.alloc (.cells #[.slice av rs.length cv, .slice ap pv.length cp, .int .i64 f] 66) = w2 at *
  obtain ⟨rows, hrows⟩ : ∃ rows, rs.map Prod.snd = rows := ⟨_, rfl⟩
  have HRW := Lib.hid hrows
  have HRB : Hid (∀ r ∈ rows, ∀ x ∈ r, -4000000000000000000 ≤ x ∧ x ≤ 4000000000000000000) := Lib.hid (by rw [← hrows]; intro r hr; obtain ⟨q, hq, rfl⟩ := List.mem_map.1 hr; exact HFF.out.2.2 q hq)
  clear hrows
  go_loopw [20, 7, 6] (fun i nx o wr => ∃ (k t : Nat) (ks : List Row), i = .int .i64 k ∧ nx = .int .i64 t ∧ k ≤ c ∧ t ≤ k ∧ t ≤ pv.length ∧ Hid ((kerN rows c f pv k).1 = t) ∧ Hid (ks.map Prod.snd = (kerN rows c f pv k).2) ∧ Hid (MatO wr w2.heap.size o ks) ∧ Hid (w2.grownBy wr none)) (fun i _ _ _ => c - (intOf i).toNat)
  case atStart => exact ⟨0, 0, [], rfl, rfl, Nat.zero_le _, Nat.le_refl _, Nat.zero_le _, Lib.hid rfl, Lib.hid rfl, Lib.hid (MatO.nil _ _), Lib.hid (grown_refl _ _)⟩
  case round =>
    obtain ⟨k, t, ks, rfl, rfl, hk, htk, htp, hT, hK, hM, hG⟩ := hrel
    rename World => wk
    by_cases hkb : k < c
    · have h3 : (k : Int) < (c : Int) := by omega
      have i1 : IntKind.i64.wrap ((k : Int) + 1) = (k : Int) + 1 := IntWalk.i64_in _ (by omega)
      have i2 : IntKind.i64.wrap ((t : Int) + 1) = (t : Int) + 1 := IntWalk.i64_in _ (by omega)
      have b1 := hG.out.cell HBX.out.2.1 (by simp)
      have hstep : kerN rows c f pv (k + 1) = if t < pv.length ∧ pv[t]?.getD 0 = (k : Int) then (t + 1, (kerN rows c f pv k).2) else (t, (kerN rows c f pv k).2 ++ [solEnd rows k c f pv]) := by
        show (if (kerN rows c f pv k).1 < pv.length ∧ _ then _ else _) = _
        rw [hT.out]
      have CASE : (t < pv.length ∧ pv[t]?.getD 0 = (k : Int)) ∨ (t < pv.length ∧ ¬ pv[t]?.getD 0 = (k : Int)) ∨ t = pv.length := by omega
      have HSK := Lib.hid (HS.out.same (grown_trans HW1.out hG.out))
      rcases CASE with ⟨q1, q2⟩ | ⟨q1, q2⟩ | q1
      · have h4 : (t : Int) < (pv.length : Int) := by omega
        obtain ⟨pg, pc, hpe, -⟩ : ∃ pg pc, Value.slice ap pv.length cp = .slice (some ⟨pg, 0, none⟩) pv.length pc ∧ True := by
          rcases HS.out.piv.1.2 with ⟨_, h0⟩ | ⟨pg, pc, cur, hv, -⟩
          · omega
          · exact ⟨pg, pc, hv, trivial⟩
        simp only [Value.slice.injEq] at hpe
        obtain ⟨rfl, -, rfl⟩ := hpe
        have hcp := (HSK.out.piv.1.cell t q1).1
        rw [q2] at hcp
        rw [if_pos ⟨q1, q2⟩] at hstep
        have HT1 : Hid ((kerN rows c f pv (k + 1)).1 = t + 1) := Lib.hid (by rw [hstep])
        have HK1 : Hid (ks.map Prod.snd = (kerN rows c f pv (k + 1)).2) := Lib.hid (by rw [hstep]; exact hK.out)
        have k1 : ((k : Int) == (k : Int)) = true := by simp
        clear hstep q2 hT hK
        go_wp2_with fail
        go_roundw
        case rel => exact ⟨k + 1, t + 1, ks, by go_num, by go_num, by omega, by omega, by omega, HT1, HK1, hM, hG⟩
        case measure => simp [intOf]; omega
      · have h4 : (t : Int) < (pv.length : Int) := by omega
        obtain ⟨pg, pc, hpe, -⟩ : ∃ pg pc, Value.slice ap pv.length cp = .slice (some ⟨pg, 0, none⟩) pv.length pc ∧ True := by
          rcases HS.out.piv.1.2 with ⟨_, h0⟩ | ⟨pg, pc, cur, hv, -⟩
          · omega
          · exact ⟨pg, pc, hv, trivial⟩
        simp only [Value.slice.injEq] at hpe
        obtain ⟨rfl, -, rfl⟩ := hpe
        have hcp := (HSK.out.piv.1.cell t q1).1
        rw [if_neg (fun h => q2 h.2)] at hstep
        have HT1 : Hid ((kerN rows c f pv (k + 1)).1 = t) := Lib.hid (by rw [hstep])
        have HK1 : Hid ((kerN rows c f pv (k + 1)).2 = (kerN rows c f pv k).2 ++ [solEnd rows k c f pv]) := Lib.hid (by rw [hstep])
        have k1 : (pv[t]?.getD 0 == (k : Int)) = false := by simpa using q2
        generalize pv[t]?.getD 0 = pt at *
        clear hstep q2 hT
        have b0 := hG.out.cell HBX.out.1 (by simp); have b2 := hG.out.cell HBX.out.2.2 (by simp)
        go_wp2_with fail
        refine (solution_any (m := c) (c := k) HSK.out.mat HSK.out.piv.1 (by rw [show rs.length = ps.length from HI.out.rows]; exact hn1) (by rw [show rs.length = ps.length from HI.out.rows]; exact hn) (by rw [show rs.length = ps.length from HI.out.rows]; exact HI.out.piv) HI.out.wide hc12 hkb HI.out.fac HFF.out.2.1 HFF.out.2.2 HPV.out).mono ?_
        rintro e w9 ⟨v9, rfl, ho9, hg9⟩
        rw [HRW.out] at ho9
        have HB9 := Lib.hid (solEnd_bd (c := k) (m := c) (pv := pv) HFF.out.2.1 HRB.out)
        obtain ⟨xs, hxs⟩ : ∃ xs, solEnd rows k c f pv = xs := ⟨_, rfl⟩
        rw [hxs] at ho9 HB9 HK1
        obtain ⟨a9, c9, rfl⟩ := ownI_sl' ho9
        have HFA := Lib.hid (fun g hg => own_lt_of hM.out (ho9.fresh g hg).1)
        have HM9 := Lib.hid (hM.out.same hg9); have HG9 := Lib.hid (grown_trans hG.out hg9)
        have HO9 := Lib.hid (ho9.mono hG.out.size)
        clear hcp b0 b1 b2 k1 ho9 hg9 hxs hM hG
        go_wp2_with (at_builtin; refine app_row rfl _ _ rfl w2.heap.size u6 ks rfl (HM9.out.own.same (World.grownBy_alloc _ _ none)) w9.heap.size (.slice a9 xs.length c9, xs) rfl (cell_new rfl) ((HO9.out.row HB9.out).same (World.grownBy_alloc _ _ none)) (fun g hg => (HFA.out g hg).1) (by have := congrArg List.length hK.out; rw [List.length_map] at this; have := kerN_small (rows := rows) (m := c) (f := f) (pv := pv) k; omega) (Nat.le_trans HG9.out.size (World.grownBy_alloc _ _ none).size) ?_)
        intro v10 w10 ho10 hg10
        have HM10 := Lib.hid (MatO.push (HM9.out.same (World.grownBy_alloc w9 (  .cells #[.slice a9 xs.length c9] 22) none)) (q := (.slice a9 xs.length c9, xs)) (HO9.out.kept (World.grownBy_alloc _ _ none) (by simp)) HFA.out ho10 hg10)
        have HG10 : Hid (w2.grownBy w10 none) := Lib.hid (grown_then (grown_aft HG9.out) hg10 (fun j hj => .inl (HM9.out.own.fresh j hj).1))
        have HKN : Hid ((ks ++ [(Value.slice a9 xs.length c9, xs)]).map Prod.snd = (kerN rows c f pv (k + 1)).2) := Lib.hid (by rw [List.map_append, hK.out, HK1.out]; rfl)
        clear ho10 hg10
        go_wp2_with fail
        go_roundw
        case rel => exact ⟨k + 1, t, _, by go_num, rfl, by omega, by omega, by omega, HT1, HKN, HM10, HG10⟩
        case measure => simp [intOf]; omega
      · subst q1
        have h4 : ¬ (pv.length : Int) < (pv.length : Int) := by omega
        rw [if_neg (fun h => absurd h.1 (by omega))] at hstep
        have HT1 : Hid ((kerN rows c f pv (k + 1)).1 = pv.length) := Lib.hid (by rw [hstep])
        have HK1 : Hid ((kerN rows c f pv (k + 1)).2 = (kerN rows c f pv k).2 ++ [solEnd rows k c f pv]) := Lib.hid (by rw [hstep])
        clear hstep hT
        have b0 := hG.out.cell HBX.out.1 (by simp); have b2 := hG.out.cell HBX.out.2.2 (by simp)
        go_wp2_with fail
        refine (solution_any (m := c) (c := k) HSK.out.mat HSK.out.piv.1 (by rw [show rs.length = ps.length from HI.out.rows]; exact hn1) (by rw [show rs.length = ps.length from HI.out.rows]; exact hn) (by rw [show rs.length = ps.length from HI.out.rows]; exact HI.out.piv) HI.out.wide hc12 hkb HI.out.fac HFF.out.2.1 HFF.out.2.2 HPV.out).mono ?_
        rintro e w9 ⟨v9, rfl, ho9, hg9⟩
        rw [HRW.out] at ho9
        have HB9 := Lib.hid (solEnd_bd (c := k) (m := c) (pv := pv) HFF.out.2.1 HRB.out)
        obtain ⟨xs, hxs⟩ : ∃ xs, solEnd rows k c f pv = xs := ⟨_, rfl⟩
        rw [hxs] at ho9 HB9 HK1
        obtain ⟨a9, c9, rfl⟩ := ownI_sl' ho9
        have HFA := Lib.hid (fun g hg => own_lt_of hM.out (ho9.fresh g hg).1)
        have HM9 := Lib.hid (hM.out.same hg9); have HG9 := Lib.hid (grown_trans hG.out hg9)
        have HO9 := Lib.hid (ho9.mono hG.out.size)
        clear b0 b1 b2 ho9 hg9 hxs hM hG
        go_wp2_with (at_builtin; refine app_row rfl _ _ rfl w2.heap.size u6 ks rfl (HM9.out.own.same (World.grownBy_alloc _ _ none)) w9.heap.size (.slice a9 xs.length c9, xs) rfl (cell_new rfl) ((HO9.out.row HB9.out).same (World.grownBy_alloc _ _ none)) (fun g hg => (HFA.out g hg).1) (by have := congrArg List.length hK.out; rw [List.length_map] at this; have := kerN_small (rows := rows) (m := c) (f := f) (pv := pv) k; omega) (Nat.le_trans HG9.out.size (World.grownBy_alloc _ _ none).size) ?_)
        intro v10 w10 ho10 hg10
        have HM10 := Lib.hid (MatO.push (HM9.out.same (World.grownBy_alloc w9 (  .cells #[.slice a9 xs.length c9] 22) none)) (q := (.slice a9 xs.length c9, xs)) (HO9.out.kept (World.grownBy_alloc _ _ none) (by simp)) HFA.out ho10 hg10)
        have HG10 : Hid (w2.grownBy w10 none) := Lib.hid (grown_then (grown_aft HG9.out) hg10 (fun j hj => .inl (HM9.out.own.fresh j hj).1))
        have HKN : Hid ((ks ++ [(Value.slice a9 xs.length c9, xs)]).map Prod.snd = (kerN rows c f pv (k + 1)).2) := Lib.hid (by rw [List.map_append, hK.out, HK1.out]; rfl)
        clear ho10 hg10
        go_wp2_with fail
        go_roundw
        case rel => exact ⟨k + 1, pv.length, _, by go_num, rfl, by omega, by omega, by omega, HT1, HKN, HM10, HG10⟩
        case measure => simp [intOf]; omega
    · obtain rfl : k = c := by omega
      have h3 : ¬ (k : Int) < (k : Int) := by omega
      go_wp2_with fail
      go_ret2
      exact ⟨qs0, _, ks, HQ.out, rfl, hM.out.mono (Nat.le_trans HS.out.grow.size HW1.out.size), by rw [hK.out, ← HN.out, ← HRW.out]; rfl, grown_trans (grown_trans HS.out.grow HW1.out) hG.out⟩

end Go.Proofs.YtpnghgihepnepaaDoor
