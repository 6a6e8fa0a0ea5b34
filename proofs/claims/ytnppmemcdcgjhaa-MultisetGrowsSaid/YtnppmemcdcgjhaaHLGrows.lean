/- MultisetGrows: for every input it answers true. -/
import Derived.Test.YtnppmemcdcgjhaaHn
import Derived.Deep.RegionHeld3
namespace Go.Proofs.Ytnppmemcdcgjhaa
open Go.ChangeShapes Go.WideShapes Go.ChangeAt Go.RowKit
set_option linter.unusedVariables false

def setT (T : List (List Bool)) (i j : Nat) : List (List Bool) := T.set i ((T[i]?.getD []).set j true)
theorem tb_setT {T : List (List Bool)} {i j : Nat} (hi : i < T.length) (hj : j < (T[i]).length) (r k : Nat) : tb (T.set i ((T[i]).set j true)) r k = (tb T r k || (r == i && k == j)) := by
  unfold tb
  by_cases e : r = i
  · subst e
    rw [List.getElem?_set_self hi, List.getElem?_eq_getElem hi]
    simp only [Option.getD_some, beq_self_eq_true, Bool.true_and]
    by_cases ej : k = j
    · subst ej; simp [hj]
    · rw [List.getElem?_set_ne (Ne.symm ej)]; simp [ej]
  · rw [List.getElem?_set_ne (Ne.symm e)]; simp [e]
theorem tb_wide {T T' : List (List Bool)} {c : Nat} (hl : T'.length = T.length) (h : ∀ i (h1 : i < T'.length) (h2 : i < T.length), ∃ b, T'[i] = T[i] ++ [b]) (hc : ∀ r ∈ T, r.length = c) : (∀ r j, tb T r j = true → tb T' r j = true) ∧ ∀ r j, tb T' r j = true → tb T r j = true ∨ j = c := by
  constructor
  · intro r j hj
    obtain ⟨h1, h2⟩ := tb_lt hj
    obtain ⟨b, hb⟩ := h r (by omega) h1
    rw [tb_row (by omega), hb, List.getElem?_append_left h2]
    rw [tb_row h1] at hj; exact hj
  · intro r j hj
    obtain ⟨h1, h2⟩ := tb_lt hj
    have h3 : r < T.length := by omega
    obtain ⟨b, hb⟩ := h r h1 h3
    rw [tb_row h1, hb] at hj
    rw [hb, List.length_append, List.length_singleton] at h2
    have hcr := hc _ (List.getElem_mem h3)
    by_cases e : j < (T[r]).length
    · rw [List.getElem?_append_left e] at hj
      exact .inl (by rw [tb_row h3]; exact hj)
    · right; omega
theorem OwnT.deal {w w' : World} {base d : Nat} {v : Value} {qs : List BRow} (h : OwnT w base v qs) (hd : d < base) (g : w.grownBy w' (some d)) : OwnT w' base v qs := by
  have hb : ∀ q ∈ qs, OwnB w' base q.1 q.2 := fun q hq => (h.2.1 q hq).kept g (by rintro k ⟨⟩; exact hd)
  refine ⟨⟨World.ownsRow.kept h.1.1 g ?_, fun q hq => ⟨(hb q hq).row, (h.1.2 q hq).2⟩⟩, hb, h.2.2⟩
  cases hv : v.ownBlock with
  | none => exact .inl rfl
  | some k =>
    refine .inr (fun e => ?_)
    cases e
    have := (h.1.fresh _ hv).1
    omega
/-- The cell of a row of an own table. -/
theorem own_cell {w : World} {base g n cap k c : Nat} {qs : List BRow} (h : OwnT w base (.slice (some ⟨g, 0, none⟩) n cap) qs) (hk : k < qs.length) (hc : ∀ q ∈ qs, q.2.length = c) (h1 : 1 ≤ c) :
    ∃ b cp, ∃ hR : True, ∃ R, ∃ e : qs[k] = (.slice (some ⟨b, 0, none⟩) c cp, R), w.cell? ⟨g, k, none⟩ = some (.slice (some ⟨b, 0, none⟩) c cp) ∧ R.length = c := by
  have hl := hc _ (List.getElem_mem hk)
  obtain ⟨b, cp, hv, -, -⟩ := ownB_own (h.2.1 _ (List.getElem_mem hk)) (by rw [hl]; exact h1)
  rw [hl] at hv
  have e : qs[k] = (.slice (some ⟨b, 0, none⟩) c cp, (qs[k]).2) := by rw [← hv]
  refine ⟨b, cp, trivial, (qs[k]).2, e, ?_, hl⟩
  rw [(h.1.cell k hk).1, hv]
theorem own_store {w : World} {base g n cap k c b cp j : Nat} {R : List Bool} {qs : List BRow} (h : OwnT w base (.slice (some ⟨g, 0, none⟩) n cap) qs) (hk : k < qs.length) (e : qs[k] = (.slice (some ⟨b, 0, none⟩) c cp, R)) (hj : j < R.length) :
    w.cell? ⟨b, j, none⟩ = some (.bool (R[j]?.getD false)) ∧ w.frozen? ⟨b, j, none⟩ = false := by
  have := h.2.1 _ (List.getElem_mem hk)
  rw [e] at this
  exact this.cell j hj
/-- A further row of an own table. -/
theorem fill_row {w w2 : World} {M n k : Nat} {v : Value} {R : List Bool} {os : List BRow} (hk : os.length = k) (hkn : k < n) (hO : OwnBP w M (.slice (some ⟨M, 0, none⟩) n n) (os ++ List.replicate (n - k) nilB)) (hown : ∀ q ∈ os, OwnB w M q.1 q.2)
    (hpw : os.Pairwise (fun p q => ∀ g, p.1.ownBlock = some g → q.1.ownBlock ≠ some g)) (hv : OwnB w2 w.heap.size v R) (hg : w.grownBy w2 none) (hM : M < w.heap.size) :
    OwnBP (w2.setCell ⟨M, k, none⟩ v) M (.slice (some ⟨M, 0, none⟩) n n) ((os ++ [(v, R)]) ++ List.replicate (n - (k + 1)) nilB) ∧ (∀ q ∈ os ++ [(v, R)], OwnB (w2.setCell ⟨M, k, none⟩ v) M q.1 q.2) ∧ (os ++ [(v, R)]).Pairwise (fun p q => ∀ g, p.1.ownBlock = some g → q.1.ownBlock ≠ some g) := by
  have hO2 := hO.same hg
  have hne : ∀ g, v.ownBlock = some g → g ≠ M := fun g hg => by have := (hv.fresh g hg).1; omega
  have h1 := hO2.stored k (v, R) hv.row hne
  have e1 : (os ++ List.replicate (n - k) nilB).set k (v, R) = (os ++ [(v, R)]) ++ List.replicate (n - (k + 1)) nilB := by
    rw [show n - k = (n - (k + 1)) + 1 by omega, ← hk, set_rep]
  rw [e1] at h1
  have hs : w2.grownBy (w2.setCell ⟨M, k, none⟩ v) (some M) := grown_set w2 _ _
  refine ⟨h1, fun q hq => ?_, List.pairwise_append.2 ⟨hpw, by simp, fun p hp q hq j hj e => ?_⟩⟩
  · rcases List.mem_append.1 hq with hq | hq
    · refine World.ownsRow.kept (World.ownsRow.kept (hown q hq) hg ?_) hs (.inr (fun e => ?_))
      · cases q.1.ownBlock
        · exact .inl rfl
        · exact .inr (by simp)
      · exact (hO.2 q (by simp [hq])).2 _ e rfl
    · rw [List.mem_singleton.1 hq]
      refine (World.ownsRow.kept (OwnB.mono hv (Nat.le_of_lt hM)) hs ?_ : OwnB _ M v R)
      cases hv' : v.ownBlock with
      | none => exact .inl rfl
      | some k => exact .inr (fun e => by cases e; exact hne _ hv' rfl)
  · rw [List.mem_singleton.1 hq] at e
    have := ((hown p hp).fresh j hj).2
    have := (hv.fresh j e).1
    omega
set_option maxRecDepth 100000 in
set_option maxHeartbeats 3000000 in
theorem walkMultisetGrows (a0 : Option Addr) (len0 cap0 : Nat) (z0 : List Int) (w : World) (w0 : IsRow .i64 w a0 len0 cap0 z0) :
    Calls Try.prog 5 #[.slice a0 len0 cap0] w fun e w' => e = .returned (.bool true) ∧ Below w.heap.size w w' := by
  obtain ⟨hI, hlen⟩ := w0.ints
  generalize z0.take len0 = zs at hI hlen
  subst hlen
  have HI := Lib.hid hI
  clear hI w0
  by_cases hfew : (zs.length : Int) ≤ 400
  · go_enter Try.func5, Try.ntmps5
    go_wp2_with fail
    refine (awake03_any _).mono ?_
    rintro e w1 ⟨rfl, hg⟩
    have HG := Lib.hid hg
    clear hg
    go_wp2_with fail
    refine (few_any _ _ _ _).mono ?_
    rintro e w2 ⟨rfl, rfl⟩
    rw [decide_eq_true hfew]
    go_wp2_with fail
    refine (new_st (HI.out.same HG.out) HG.out).mono ?_
    rintro e w3 ⟨p, d, rfl, hs⟩
    have HS := Lib.hid hs
    clear hs HG HI
    go_wp2_with fail
    refine (next_st HS.out _ (by omega) (by omega)).mono ?_
    rintro e w4 ⟨y, rfl, hy0, hy1, hs, hg⟩
    obtain ⟨r, hr⟩ : ∃ r : Nat, 1 + y = (r : Int) := ⟨(1 + y).toNat, by omega⟩
    have i1 : IntKind.i64.wrap (1 + y) = (r : Int) := by rw [IntWalk.i64_in _ (by omega)]; exact hr
    have hr1 : 1 ≤ r := by omega
    have hr2 : r ≤ 6 := by omega
    replace HS := Lib.hid hs
    clear hs hg hr hy0 hy1
    go_wp2_with fail
    refine (next_st HS.out _ (by omega) (by omega)).mono ?_
    rintro e w5 ⟨y2, rfl, hy0, hy1, hs, hg⟩
    obtain ⟨c, hc⟩ : ∃ c : Nat, 1 + y2 = (c : Int) := ⟨(1 + y2).toNat, by omega⟩
    have i2 : IntKind.i64.wrap (1 + y2) = (c : Int) := by rw [IntWalk.i64_in _ (by omega)]; exact hc
    have hc1 : 1 ≤ c := by omega
    have hc2 : c ≤ 6 := by omega
    replace HS := Lib.hid hs
    clear hs hg hc hy0 hy1
    go_wp2_with fail
    refine (table_st HS.out r c (by omega) (by omega)).mono ?_
    rintro e w6 ⟨v, ps, rfl, htd, hpl, hpc, hs, hg⟩
    obtain ⟨av, cv, rfl⟩ := htd.open
    obtain rfl : ps.length = r := hpl
    replace HS := Lib.hid hs; have V := Lib.hid htd; have HPC := Lib.hid hpc
    have HVL : Hid (validT (ps.map Prod.snd) = true) := Lib.hid (valid_tab (by omega) hpc (by omega))
    have HTL : Hid ((ps.map Prod.snd).length = ps.length) := Lib.hid (by simp)
    have HDM : Hid (d < w6.heap.size) := Lib.hid hs.lt
    clear hs hg htd hpc i1 i2
    
    go_wp2_with (at_make; refine make_brows rfl _ _ rfl ps.length rfl rfl (by omega) ?_)
    intro w20 ho hg
    have HO := Lib.hid ho; have HG := Lib.hid hg
    have HS2 := Lib.hid (HS.out.step hg)
    clear ho hg
    obtain ⟨M, hMM⟩ : ∃ M, w6.heap.size = M := ⟨_, rfl⟩
    rw [hMM] at HO HDM ⊢
    have HMM := Lib.hid hMM
    clear hMM
    go_wp2_with fail
    go_loopw [41] (fun i wr => ∃ (k : Nat) (os : List BRow), i = .int .i64 k ∧ k ≤ ps.length ∧ Hid (os.length = k) ∧ Hid (OwnBP wr M (.slice (some ⟨M, 0, none⟩) ps.length ps.length) (os ++ List.replicate (ps.length - k) nilB)) ∧ Hid (os.map Prod.snd = (ps.take k).map Prod.snd) ∧ Hid (∀ q ∈ os, OwnB wr M q.1 q.2) ∧ Hid (os.Pairwise (fun p q => ∀ g, p.1.ownBlock = some g → q.1.ownBlock ≠ some g)) ∧ Hid (w6.grownBy wr none)) (fun i _ => ps.length - (intOf i).toNat)
    case atStart => exact ⟨0, [], rfl, Nat.zero_le _, Lib.hid rfl, HO, Lib.hid rfl, Lib.hid (by simp), Lib.hid List.Pairwise.nil, HG⟩
    case round =>
      obtain ⟨k, os, rfl, hk, hol, hO, hsn, hown, hpw, hG⟩ := hrel
      by_cases hkb : k < ps.length
      · have h2 : (k : Int) < (ps.length : Int) := by omega
        have i1 : IntKind.i64.wrap ((k : Int) + 1) = (k : Int) + 1 := IntWalk.i64_in _ (by omega)
        have VR := Lib.hid (V.out.step hG.out)
        obtain ⟨a1, c1, hv1, -, hct, hrs⟩ := VR.out.1
        simp only [Value.slice.injEq] at hv1
        obtain ⟨rfl, -, rfl⟩ := hv1
        obtain ⟨b, off, rfl, hc0⟩ := BRowsP.at hct hkb
        have HBR := Lib.hid (hrs _ (List.getElem_mem hkb)); have HRC := Lib.hid (HPC.out _ (List.getElem_mem hkb))
        have HTK : Hid ((ps.take (k + 1)).map Prod.snd = (ps.take k).map Prod.snd ++ [(ps[k]).2]) := Lib.hid (by rw [List.take_add_one, List.getElem?_eq_getElem hkb, List.map_append]; rfl)
        generalize ps[k] = R at *
        obtain ⟨rv, R⟩ := R
        obtain ⟨⟨ra, rc, hrv, -, -⟩, -⟩ := HBR.out
        dsimp only at hrv hc0 HRC HTK
        subst hrv
        have hR12 : R.length ≤ 12 := by have := HRC.out; omega
        have HML : Hid (M < wr.heap.size) := Lib.hid (hO.out.fresh M rfl).2
        have HLEN : Hid ((os ++ List.replicate (ps.length - k) nilB).length = ps.length) := Lib.hid (by rw [List.length_append, List.length_replicate, hol.out]; omega)
        clear hct hrs
        go_wp2_with (at_builtin; refine app_bools rfl _ _ rfl wr.heap.size (.slice none 0 0) [] rfl (OwnB.nil _ _) _ R rfl HBR.out.1 HBR.out.2.1 (by simp; omega) (Nat.le_refl _) ?_)
        intro v2 w21 ho2 hg2
        replace ho2 : OwnB w21 wr.heap.size v2 R := ho2
        obtain ⟨a2, c2, rfl⟩ := ownB_open ho2
        have HO2 := Lib.hid ho2; have HG2 : Hid (wr.grownBy w21 none) := Lib.hid hg2
        have OE := Lib.hid (hO.out.same hg2)
        obtain ⟨hcc, hfz⟩ := OE.out.cell k (by rw [HLEN.out]; exact hkb)
        have HF3 := Lib.hid (fill_row hol.out hkb hO.out hown.out hpw.out ho2 hg2 HML.out)
        have HMW : Hid (w6.heap.size ≤ M) := Lib.hid (Nat.le_of_eq HMM.out)
        have HG3 := Lib.hid (grown_then (grown_trans hG.out hg2) (grown_set w21 ⟨M, k, none⟩ (.slice a2 R.length c2)) (by rintro j ⟨⟩; exact .inl HMW.out))
        clear ho2 hg2 hc0
        go_wp2_with fail
        go_roundw
        case rel => exact ⟨k + 1, _, by go_num, by omega, Lib.hid (by rw [List.length_append, hol.out]; rfl), Lib.hid HF3.out.1, Lib.hid (by rw [List.map_append, hsn.out, HTK.out]; rfl), Lib.hid HF3.out.2.1, Lib.hid HF3.out.2.2, HG3⟩
        case measure => simp [intOf]; omega
      · obtain rfl : k = ps.length := by omega
        have h2 : ¬ (ps.length : Int) < (ps.length : Int) := by omega
        have e0 : os ++ List.replicate (ps.length - ps.length) nilB = os := by simp
        rw [e0] at hO
        have HOT : Hid (OwnT wr M (.slice (some ⟨M, 0, none⟩) ps.length ps.length) os) := Lib.hid ⟨hO.out, hown.out, hpw.out⟩
        have HOS : Hid (os.map Prod.snd = ps.map Prod.snd) := Lib.hid (by rw [hsn.out, List.take_length])
        have HSR := Lib.hid (HS.out.step hG.out)
        clear hO hown hpw hsn e0 HO HG HS2
        have G : Hid (wr.grownBy wr.drew none) := Lib.hid (grown_drew _ none)
        have HOL : Hid (os.length = ps.length) := Lib.hid (by have := congrArg List.length HOS.out; rwa [List.length_map, List.length_map] at this)
        have HOC : Hid (∀ q ∈ os, q.2.length = c) := Lib.hid (fun q hq => by
          have : q.2 ∈ ps.map Prod.snd := HOS.out ▸ List.mem_map_of_mem hq
          obtain ⟨p', hp', e⟩ := List.mem_map.1 this
          rw [← e]; exact HPC.out p' hp')
        go_wp2_with fail
        go_region_law (first
          | (refine step_call 56 17 _ _ _ _ _ Try.f17 _ Try.func17 (by kernel_rfl) rfl [p, .int .i64 (ps.length : Int)] (by kernel_rfl) _ (next_st (HSR.out.step G.out) (ps.length : Int) (by omega) (by omega)) ?_; rintro e w56 ⟨y3, rfl, h0, h1, hs, hg⟩; obtain ⟨k1, rfl⟩ : ∃ k1 : Nat, y3 = (k1 : Int) := ⟨y3.toNat, by omega⟩; have hk1 : (k1 : Int) < (ps.length : Int) := h1; have G56 : Hid (wr.grownBy w56 (some d)) := Lib.hid (grown_then (grown_drew _ _) hg (fun g e => .inr e)); have HS6 := Lib.hid hs; have HO6 := Lib.hid (HOT.out.deal HDM.out G56.out); have HK1 : Hid (k1 < os.length) := Lib.hid (by rw [HOL.out]; omega); obtain ⟨b1, c1, -, R1, hR1, hc56, hv1⟩ := own_cell HO6.out HK1.out HOC.out hc1; clear hs hg h0 h1; refine ⟨_, rfl, ?_⟩)
          | (refine step_call 61 17 _ _ _ _ _ Try.f17 _ Try.func17 (by kernel_rfl) rfl [p, .int .i64 (c : Int)] (by kernel_rfl) _ (next_st HS6.out (c : Int) (by omega) (by omega)) ?_; rintro e w61 ⟨y4, rfl, h0, h1, hs, hg⟩; obtain ⟨k2, rfl⟩ : ∃ k2 : Nat, y4 = (k2 : Int) := ⟨y4.toNat, by omega⟩; have hk2 : (k2 : Int) < (c : Int) := h1; have HK2 : Hid (k2 < c) := Lib.hid (by omega); have G61 : Hid (wr.grownBy w61 (some d)) := Lib.hid (grown_then G56.out hg (fun g e => .inr e)); have HS7 := Lib.hid hs; have HO7 := Lib.hid (HOT.out.deal HDM.out G61.out); have hc61 := (HO7.out.1.cell k1 HK1.out).1; rw [hR1] at hc61; obtain ⟨hs1, hs2⟩ := own_store HO7.out HK1.out hR1 (by rw [hv1]; exact HK2.out); clear hs hg h0 h1; refine ⟨_, rfl, ?_⟩))
        all_goals
          have HO8 := Lib.hid (HO7.out.stored (col := k2) HK1.out hR1 true)
          have HMB : Hid (M ≤ b1) := Lib.hid (by
            have := (HO7.out.2.1 _ (List.getElem_mem HK1.out)).fresh b1 (by rw [hR1]; rfl)
            exact this.1)
          have HQT : Hid ((os.set k1 (.slice (some ⟨b1, 0, none⟩) c c1, R1.set k2 true)).map Prod.snd = (ps.map Prod.snd).set k1 (R1.set k2 true)) := Lib.hid (by rw [List.map_set, HOS.out])
          have HRT : Hid (∃ h : k1 < (ps.map Prod.snd).length, (ps.map Prod.snd)[k1] = R1) := Lib.hid ⟨by rw [List.length_map, ← HOL.out]; exact HK1.out, by
            have e : (os.map Prod.snd)[k1]'(by rw [List.length_map]; exact HK1.out) = R1 := by rw [List.getElem_map, hR1]
            simpa only [HOS.out] using e⟩
          have HQC : Hid (∀ q ∈ os.set k1 (.slice (some ⟨b1, 0, none⟩) c c1, R1.set k2 true), q.2.length = c) := Lib.hid (fun q hq => by
            rcases List.mem_or_eq_of_mem_set hq with hq | rfl
            · exact HOC.out q hq
            · rw [List.length_set]; exact hv1)
          have HQL : Hid ((os.set k1 (.slice (some ⟨b1, 0, none⟩) c c1, R1.set k2 true)).length = ps.length) := Lib.hid (by rw [List.length_set]; exact HOL.out)
          have GQ : Hid (w6.grownBy (w61.setCell ⟨b1, k2, none⟩ (.bool true)) (some d)) := Lib.hid (grown_then (grown_then (grown_then (grown_refl _ _) hG.out (by simp)) G61.out (fun g e => .inr e)) (grown_set w61 _ _) (by rintro j ⟨⟩; exact .inl (Nat.le_trans (Nat.le_of_eq HMM.out) HMB.out)))
          have HSQ := Lib.hid (HS7.out.out (grown_set w61 ⟨b1, k2, none⟩ (.bool true)) (by rintro j ⟨⟩; exact Nat.lt_of_lt_of_le HDM.out HMB.out))
          have HV1 : Hid (R1.length = c) := Lib.hid hv1
          generalize hqs : os.set k1 (.slice (some ⟨b1, 0, none⟩) c c1, R1.set k2 true) = qs at *
          generalize hwq : w61.setCell ⟨b1, k2, none⟩ (.bool true) = wq at *
          have VM := Lib.hid (HO8.out.tabD HDM.out)
          have VQ := Lib.hid (V.out.deal GQ.out)
          clear hqs hwq hc56 hc61 hs1 hs2 hv1 HO6 HO7 HO8 HOT HSR HS6 HS7
          go_wp2_with fail
          go_loopw [9, 65] (fun ov i wr => ∃ (k : Nat) (os2 : List BRow), i = .int .i64 k ∧ k ≤ ps.length ∧ Hid (os2.length = k) ∧ Hid (DealB wr d wq.heap.size ov os2) ∧ Hid (∀ i (h1 : i < os2.length) (h2 : i < ps.length), ∃ b, (os2[i]).2 = (ps[i]).2 ++ [b]) ∧ Hid (St w wr p d) ∧ Hid (wq.grownBy wr (some d))) (fun _ i _ => ps.length - (intOf i).toNat)
          case atStart => exact ⟨0, [], rfl, Nat.zero_le _, Lib.hid rfl, Lib.hid ⟨OwnBP.nil _ _, HSQ.out.lt, by simp⟩, Lib.hid (by intro i h; simp at h), HSQ, Lib.hid (grown_refl _ _)⟩
          case round =>
            obtain ⟨k, os2, rfl, hk, hol, hD, hE, hS, hG2⟩ := hrel
            rename World => wk
            by_cases hkb : k < ps.length
            · have h2 : (k : Int) < (ps.length : Int) := by omega
              have i1 : IntKind.i64.wrap ((k : Int) + 1) = (k : Int) + 1 := IntWalk.i64_in _ (by omega)
              have VR := Lib.hid (VQ.out.deal hG2.out)
              obtain ⟨a1, cc1, hv1, -, hct, hrs⟩ := VR.out.1
              simp only [Value.slice.injEq] at hv1
              obtain ⟨e1, -, -⟩ := hv1
              obtain ⟨b2, off2, rfl, hc0⟩ := BRowsP.at hct hkb
              subst e1
              have HBR := Lib.hid (hrs _ (List.getElem_mem hkb)); have HRC := Lib.hid (HPC.out _ (List.getElem_mem hkb))
              have HPK : Hid (∀ R, ps[k] = R → (ps[k]).2 = R.2) := Lib.hid (fun R h => by rw [h])
              generalize hRR : ps[k] = R at *
              have HRR := Lib.hid hRR
              clear hRR HPK
              obtain ⟨rv, R⟩ := R
              obtain ⟨⟨ra, rc, hrv, -, -⟩, -⟩ := HBR.out
              dsimp only at hrv hc0 HRC
              subst hrv
              have hR12 : R.length ≤ 12 := by have := HRC.out; omega
              have hbq : wq.heap.size ≤ wk.heap.size := hG2.out.size
              have hdq : d < wq.heap.size := HSQ.out.lt
              clear hct hrs
              go_wp2_with (at_builtin; refine app_bools rfl _ _ rfl wk.heap.size (.slice none 0 0) [] rfl (OwnB.nil _ _) _ R rfl HBR.out.1 HBR.out.2.1 (by simp; omega) (Nat.le_refl _) ?_)
              intro v3 w71 ho3 hg3
              replace ho3 : OwnB w71 wk.heap.size v3 R := ho3
              have HO3 := Lib.hid ho3; have HG3 : Hid (wk.grownBy w71 none) := Lib.hid hg3
              have HS3 := Lib.hid (hS.out.step hg3)
              clear ho3 hg3 hc0
              go_wp2_with fail
              refine (one_any p d 2 _ HS3.out.1 (by omega) (by omega)).mono ?_
              rintro e w72 ⟨yb, rfl, hd, hg⟩
              have HS4 := Lib.hid (HS3.out.deal hd hg)
              have HO4 := Lib.hid (HO3.out.kept hg (by rintro j ⟨⟩; omega))
              have HG4 : Hid (wk.grownBy w72 (some d)) := Lib.hid (grown_then (grown_then (grown_refl _ _) HG3.out (by simp)) hg (fun g e => .inr e))
              have hs4 := HG4.out.size
              clear hd hg
              go_wp2_with (at_builtin; refine app_bool rfl _ _ rfl wk.heap.size _ R rfl (HO4.out.kept (World.grownBy_alloc _ _ none) (by simp)) w72.heap.size yb rfl (by simp) (by omega) (by simp; omega) ?_)
              intro v4 w73 ho4 hg4
              have hfr : ∀ g, v3.ownBlock = some g → wk.heap.size ≤ g := fun g hg => (HO4.out.fresh g hg).1
              have HG5 : Hid (wk.grownBy w73 (some d)) := Lib.hid (grown_then (grown_trans HG4.out (World.grownBy_alloc _ _ _)) hg4 (fun j hj => .inl (hfr j hj)))
              have HS5 := Lib.hid ((HS4.out.step (World.grownBy_alloc _ _ none)).out hg4 (fun j hj => by have := hfr j hj; omega))
              obtain ⟨R2, hR2⟩ : ∃ R2, R2 = R ++ [yb] := ⟨_, rfl⟩
              rw [← hR2] at ho4
              have HR2 := Lib.hid hR2
              clear hR2 hg4 hfr
              obtain ⟨a4, c4, rfl⟩ := ownB_open ho4
              have HO5 := Lib.hid ho4; have HD5 := Lib.hid (hD.out.deal HG5.out)
              have HOR := Lib.hid ho4.row
              have hs5 := HG5.out.size
              have hol2 : os2.length ≤ 1000 := by have := hol.out; omega
              clear ho4
              go_wp2_with (at_builtin; refine app_brow rfl _ _ rfl wq.heap.size _ os2 rfl (HD5.out.step (World.grownBy_alloc _ _ none)).1 w73.heap.size (.slice a4 R2.length c4, R2) rfl (by simp) (HOR.out.same (World.grownBy_alloc _ _ none)) (by intro g hg e; have := (HO5.out.fresh g hg).1; have := (hD.out.1.fresh g e).2; omega) (by omega) (by simp; omega) ?_)
              intro v6 w74 ho6 hg6
              have hfr : ∀ g, Value.ownBlock _ = some g → wq.heap.size ≤ g := fun g hg => (HD5.out.1.fresh g hg).1
              have HD6 := Lib.hid (HD5.out.own (q := (Value.slice a4 R2.length c4, R2)) ho6 (fun g hg => Nat.le_trans hbq (HO5.out.fresh g hg).1))
              have HG6 := Lib.hid (grown_then (grown_trans (grown_then hG2.out HG5.out (fun g e => .inr e)) (World.grownBy_alloc _ _ _)) hg6 (fun j hj => .inl (hfr j hj)))
              have HS6 := Lib.hid ((HS5.out.step (World.grownBy_alloc _ _ none)).out hg6 (fun j hj => by have := hfr j hj; omega))
              have HE6 : Hid (∀ i (h1 : i < (os2 ++ [((Value.slice a4 R2.length c4, R2) : BRow)]).length) (h2 : i < ps.length), ∃ b, ((os2 ++ [((Value.slice a4 R2.length c4, R2) : BRow)])[i]).2 = (ps[i]).2 ++ [b]) := Lib.hid (fun i h1 h2 => by
                by_cases e : i < os2.length
                · rw [List.getElem_append_left e]; exact hE.out i e h2
                · rw [List.length_append, List.length_singleton] at h1
                  obtain rfl : i = k := by have := hol.out; omega
                  refine ⟨yb, ?_⟩
                  rw [List.getElem_append_right (by omega), HRR.out]
                  simp [HR2.out])
              clear ho6 hg6 hfr
              go_wp2_with fail
              go_roundw
              case rel => exact ⟨k + 1, _, by go_num, by omega, Lib.hid (by rw [List.length_append, hol.out]; rfl), HD6, HE6, HS6, HG6⟩
              case measure => simp [intOf]; omega
            · obtain rfl : k = ps.length := by omega
              have h2 : ¬ (ps.length : Int) < (ps.length : Int) := by omega
              have VT := Lib.hid (VQ.out.deal hG2.out); have VMT := Lib.hid (VM.out.deal hG2.out)
              have HWC : Hid (∀ q ∈ os2, q.2.length = c + 1) := Lib.hid (fun q hq => by
                obtain ⟨i, hi, rfl⟩ := List.getElem_of_mem hq
                obtain ⟨b, hb⟩ := hE.out i hi (by rw [← hol.out]; exact hi)
                rw [hb, List.length_append, HPC.out _ (List.getElem_mem _)]; rfl)
              have HWV : Hid (validT (os2.map Prod.snd) = true) := Lib.hid (valid_tab (by rw [hol.out]; omega) HWC.out (by omega))
              have HQV : Hid (validT (qs.map Prod.snd) = true) := Lib.hid (valid_tab (by rw [HQL.out]; omega) HQC.out (by omega))
              go_wp2_with fail
              refine (Most_any _ ps _ VT.out.1 HVL.out).mono ?_
              rintro e w81 ⟨n1, rfl, hn1, hg⟩
              have HN1 := Lib.hid hn1; have VM1 := Lib.hid (VMT.out.step hg); have HD1 := Lib.hid (hD.out.step hg); have HS1 := Lib.hid (hS.out.step hg)
              clear hn1 hg
              go_wp2_with fail
              refine (Most_any _ qs _ VM1.out.1 HQV.out).mono ?_
              rintro e w82 ⟨n2, rfl, hn2, hg⟩
              have HN2 := Lib.hid hn2; have HD2 := Lib.hid (HD1.out.step hg); have HS2 := Lib.hid (HS1.out.step hg)
              clear hn2 hg
              go_wp2_with fail
              refine (Most_any _ os2 _ HD2.out.1.rows HWV.out).mono ?_
              rintro e w83 ⟨n3, rfl, hn3, hg⟩
              have HN3 := Lib.hid hn3; have HS3 := Lib.hid (HS2.out.step hg)
              clear hn3 hg
              obtain ⟨hkT, hRT⟩ := HRT.out
              have tm := tb_setT hkT (j := k2) (by rw [hRT, HV1.out]; exact HK2.out)
              rw [hRT, ← HQT.out] at tm
              obtain ⟨tw1, tw2⟩ := tb_wide (T := ps.map Prod.snd) (T' := os2.map Prod.snd) (c := c) (by rw [List.length_map, List.length_map, hol.out]) (fun i h1 h2 => by
                rw [List.length_map] at h1 h2
                obtain ⟨b, hb⟩ := hE.out i h1 h2
                exact ⟨b, by rw [List.getElem_map, List.getElem_map]; exact hb⟩) (fun q hq => by
                obtain ⟨p', hp', rfl⟩ := List.mem_map.1 hq
                exact HPC.out p' hp')
              have m1 : n1 ≤ n2 := nu_mono (fun r j h => by rw [tm, h]; rfl) HN1.out HN2.out
              have m2 : n2 ≤ n1 + 1 := nu_one (c0 := k2) (fun r j h => by
                rw [tm] at h
                cases e : tb (ps.map Prod.snd) r j
                · rw [e] at h; simp at h; exact .inr h.2
                · exact .inl rfl) HN1.out HN2.out
              have m3 : n1 ≤ n3 := nu_mono tw1 HN1.out HN3.out
              have m4 : n3 ≤ n1 + 1 := nu_one tw2 HN1.out HN3.out
              have m5 : n1 ≤ ps.length := by have := HN1.out.le; rwa [HTL.out] at this
              have m6 : n1 ≤ c := nu_cols (fun r j h => by
                obtain ⟨h1, h2⟩ := tb_lt h
                rw [List.getElem_map] at h2
                rw [HPC.out _ (List.getElem_mem _)] at h2
                exact h2) HN1.out
              have i9 : IntKind.i64.wrap ((n1 : Int) + 1) = (n1 : Int) + 1 := IntWalk.i64_in _ (by omega)
              have k1' : (n1 : Int) ≤ (n2 : Int) := by omega
              have k2' : (n2 : Int) ≤ (n1 : Int) + 1 := by omega
              have k3' : (n1 : Int) ≤ (n3 : Int) := by omega
              have k4' : (n3 : Int) ≤ (n1 : Int) + 1 := by omega
              have k5' : (n1 : Int) ≤ min (ps.length : Int) (c : Int) := by omega
              clear tm tw1 tw2 m1 m2 m3 m4 m5 m6
              go_wp2_with fail
              go_ret
              exact ⟨rfl, HS3.out.below⟩
  · go_enter Try.func5, Try.ntmps5
    go_wp2_with fail
    refine (awake03_any _).mono ?_
    rintro e w1 ⟨rfl, hg⟩
    have HG := Lib.hid hg
    clear hg
    go_wp2_with fail
    refine (few_any _ _ _ _).mono ?_
    rintro e w2 ⟨rfl, rfl⟩
    rw [decide_eq_false (by omega)]
    go_wp2_with fail
    refine (awake03_any _).mono ?_
    rintro e w3 ⟨rfl, hg⟩
    have HG := Lib.hid (grown_trans HG.out hg)
    clear hg
    go_wp2_with fail
    go_ret
    exact ⟨rfl, below_of HG.out⟩

/-! ### MultisetGrows: the statement, from its walk -/
set_option maxRecDepth 100000 in
theorem liftedMultisetGrows (os : Os) (started : os.Started) (H : Type) (enc : TypeId × Value → H) :
    ReturnsInHanded {} Try.checked os 5 .any (Rows.multisetGrowsSpec.pre6 enc Try.prog Try.f5 Rows.multisetGrowsRow.domain false) (Rows.multisetGrowsSpec.post enc Try.prog Try.f5 false true false false) := by
  refine returnsInHanded_of_change (C := Try.checked) own started (by kernel_rfl) Try.func5
    (ChangeSpec.witness6 (enc := enc) (C := Try.checked) false ⟨#[], #[.slice none 0 0], []⟩ 8 (by kernel_rfl) (by kernel_rfl) (by kernel_rfl) (by kernel_rfl)) ?_
  intro W base args ds gs before hval0 hW hcnd _
  have hval : ∀ (j : Nat) t v, Try.f5.params[j]? = some t → args[j]? = some v → Value.okWide Try.prog W .any base t v := hval0
  have hW' := hW
  obtain ⟨p, q, hA0, hV, rfl, hfz, hnd⟩ := hW
  have hA : DataW.TrodAll enc Try.prog W 0 (fun _ => true) true Try.f5.params.toList args.toList ds p := hA0
  rw [Try.params5] at hA hval
  obtain ⟨v0, vs0, d0, ds0, p0, q0, hargs, rfl, rfl, h0, r0⟩ := trodAll_cons hA
  obtain ⟨rfl, rfl, rfl⟩ := trodAll_nil r0
  obtain rfl : args = #[v0] := by cases args; simp_all
  obtain ⟨rfl, rfl⟩ := trodVars_none hV
  obtain ⟨a0, len0, cap0, rfl⟩ := okWide_slice Try.underlying22 (hval 0 22 v0 rfl rfl)
  have k0 := h0
  have lt0 : ∀ x ∈ p0, x.block < W.heap.size := by obtain ⟨m, hm⟩ := k0; exact DataW.trod_lt m _ _ _ hm
  obtain ⟨z0, w0⟩ : ∃ zs, IsRow .i64 W a0 len0 cap0 zs := by
    obtain ⟨fuel, hf⟩ := h0
    rcases open_ints Try.underlying22 Try.underlying3 (by kernel_rfl) hf with ⟨hcs, _⟩ | ⟨x, l, c, zs, hcs, _, hl, hm, hz, _, hcell, hwz⟩
    · simp [Value.cells] at hcs
      obtain ⟨rfl, rfl, rfl⟩ := hcs
      exact ⟨[], .inl ⟨rfl, rfl, rfl, rfl⟩⟩
    · simp [Value.cells] at hcs
      obtain ⟨rfl, rfl, rfl⟩ := hcs
      exact ⟨zs, .inr ⟨_, rfl, hl, hm, by simpa using hz, hcell, hwz⟩⟩
  clear hA0 hval0
  refine (walkMultisetGrows a0 len0 cap0 z0 W w0).mono fun e W' ⟨he, bel⟩ => ?_
  subst he
  exact ⟨_, rfl, _, _, _, [], _, [], hW', trodAll_mk1 (shut_bool Try.underlying4 _), (trodAll_cons_mk (Below.trod laidOut (by kernel_rfl) (of_decide_eq_true (by kernel_rfl)) k0 bel lt0) trodAll_mk0), rfl, bel.frame _, fun h => by cases h⟩

theorem multisetGrows_holds : Rows.MultisetGrowsSaid :=
  OpenClaim.holds_of_wide 5 Try.f5 rfl rfl rfl rfl rfl rfl rfl ⟨rfl, rfl, rfl, rfl, rfl⟩ rfl rfl rfl rfl rfl (by kernel_rfl) Try.func5 (by kernel_rfl)
    (of_decide_eq_true (by kernel_rfl)) (by unfold Func.isWrapper; first | (rw [if_pos (by decide +kernel)]; kernel_rfl) | (rw [if_neg (by decide +kernel)]; exact ⟨rfl, rfl⟩))
    (fun os started H enc _ => liftedMultisetGrows os started H enc)
#print axioms multisetGrows_holds
end Go.Proofs.Ytnppmemcdcgjhaa
