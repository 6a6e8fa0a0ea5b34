/- Match: the least matching of all rows. -/
import Derived.Test.YtnppmemcdcgjhaaHh
namespace Go.Proofs.Ytnppmemcdcgjhaa
open Go.RowKit
set_option linter.unusedVariables false

theorem MatchI.try_ {T W W' : List (List Bool)} {c : List Nat} {j : Nat} (h : MatchI T W c) (hj : tb W c.length j = true) (hW : W'.length = W.length) (htb : ∀ x, c.length < x → ∀ k, tb W' x k = (tb W x k && !(k == j))) : Left T W' (c ++ [j]) ∧ Beg T (c ++ [j]) := by
  have hlt : c.length < T.length := by rw [← h.left.len]; exact tb_lt0 hj
  have hj' := hj
  rw [h.left.tb_ _ (Nat.le_refl _)] at hj'
  have h1 : tb T c.length j = true ∧ j ∉ c := by simpa using hj'
  refine ⟨⟨by rw [hW, h.left.len], by rw [List.length_append, List.length_singleton]; omega, fun x hx k => ?_⟩, ⟨fun i hi => ?_, List.nodup_append.2 ⟨h.beg.nd, by simp, fun a ha b hb => ?_⟩⟩⟩
  · rw [List.length_append, List.length_singleton] at hx
    rw [htb x (by omega) k, h.left.tb_ x (by omega) k, Bool.and_assoc]
    congr 1
    rw [← Bool.not_or]
    congr 1
    rw [Bool.eq_iff_iff]
    simp
  · rw [List.length_append, List.length_singleton] at hi
    by_cases hi' : i < c.length
    · rw [cl_app1 hi']; exact h.beg.edge i hi'
    · obtain rfl : i = c.length := by omega
      rw [cl_app2 (Nat.le_refl _), Nat.sub_self]
      exact h1.1
  · rw [List.mem_singleton.1 hb]
    rintro rfl
    exact h1.2 ha
theorem MatchI.ok_iff {T W W' : List (List Bool)} {c : List Nat} {j n : Nat} (h : MatchI T W c) (hj : tb W c.length j = true) (hW : W'.length = W.length) (htb : ∀ x, c.length < x → ∀ k, tb W' x k = (tb W x k && !(k == j))) (hn : Nu (W'.drop (c.length + 1)) n) : n = T.length - c.length - 1 ↔ OkAt T c j := by
  obtain ⟨hl, hb⟩ := h.try_ hj hW htb
  have e : (c ++ [j]).length = c.length + 1 := by simp
  have hd : (W'.drop (c.length + 1)).length = T.length - c.length - 1 := by rw [List.length_drop, hW, h.left.len]; omega
  have hp : ∀ m, PM (W'.drop (c.length + 1)) m ↔ PM T (c ++ j :: m) := fun m => by
    have := hl.pm (m := m) hb
    rw [e] at this
    rw [this, show (c ++ [j]) ++ m = c ++ j :: m by simp]
  constructor
  · intro hx
    obtain ⟨m, hm⟩ := Nu.full (T := W'.drop (c.length + 1)) (by rw [hd, ← hx]; exact hn)
    exact ⟨m, (hp m).1 hm⟩
  · rintro ⟨m, hm⟩
    rw [((hp m).2 hm).nu hn, hd]
theorem matchI_start {T : List (List Bool)} (h : Nu T T.length) : MatchI T T [] :=
  ⟨⟨rfl, Nat.zero_le _, fun x _ j => by simp⟩, ⟨fun i hi => by simp at hi, List.nodup_nil⟩, by
    obtain ⟨m, hm⟩ := h.full
    exact ⟨m, hm⟩, fun m _ => .inl (by simp)⟩
theorem MatchI.done {T W : List (List Bool)} {c : List Nat} (h : MatchI T W c) (hl : c.length = T.length) : PM T c ∧ ∀ m, PM T m → LexLe c m := by
  obtain ⟨m, hm⟩ := h.some
  have h1 := hm.len
  rw [List.length_append] at h1
  have : m = [] := List.eq_nil_of_length_eq_zero (by omega)
  subst this
  rw [List.append_nil] at hm
  refine ⟨hm, fun m' hm' => ?_⟩
  have := h.least m' hm'
  rwa [List.take_of_length_le (by rw [hm'.len, hl]; exact Nat.le_refl _)] at this
theorem set_repl {α : Type} (os : List α) (m : Nat) (z r : α) : (os ++ List.replicate (m + 1) z).set os.length r = (os ++ [r]) ++ List.replicate m z := by
  rw [List.set_append_right (h := Nat.le_refl _), Nat.sub_self, List.replicate_succ, List.set_cons_zero, List.append_assoc]
  rfl
theorem OwnT.tabD {w : World} {base d : Nat} {v : Value} {qs : List BRow} (h : OwnT w base v qs) (hd : d < base) : TabD w d v qs :=
  ⟨h.1.rows, h.1.good, fun g hg => Nat.lt_of_lt_of_le hd (h.1.fresh g hg).1, fun q hq g hg => Nat.lt_of_lt_of_le hd ((h.2.1 q hq).fresh g hg).1⟩
theorem TakenP.rule {qs qs' : List BRow} {r c : Nat} (h : TakenP qs r c qs.length qs') : (qs'.map Prod.snd).length = (qs.map Prod.snd).length ∧ ∀ x, r < x → ∀ k, tb (qs'.map Prod.snd) x k = (tb (qs.map Prod.snd) x k && !(k == c)) := by
  refine ⟨by rw [List.length_map, List.length_map, h.len], fun x hx k => ?_⟩
  rw [h.tb_ x k]
  by_cases hl : x < qs.length
  · simp [hx, hl]
  · have : tb (qs.map Prod.snd) x k = false := by
      cases e : tb (qs.map Prod.snd) x k
      · rfl
      · have := tb_lt0 e; rw [List.length_map] at this; omega
    rw [this]; simp
theorem lens_mem {qs qs' : List BRow} (h : qs'.map (fun q => q.2.length) = qs.map (fun q => q.2.length)) {P : Nat → Prop} (hp : ∀ q ∈ qs, P q.2.length) : ∀ q ∈ qs', P q.2.length := fun q hq => by
  have : q.2.length ∈ qs'.map (fun q => q.2.length) := List.mem_map_of_mem hq
  rw [h] at this
  obtain ⟨p, hp', e⟩ := List.mem_map.1 this
  rw [← e]; exact hp p hp'
theorem lens_snd {qs ps : List BRow} (h : qs.map Prod.snd = ps.map Prod.snd) : qs.map (fun q => q.2.length) = ps.map (fun q => q.2.length) := by
  have := congrArg (List.map List.length) h
  simpa [List.map_map, Function.comp_def] using this

theorem OwnI.sameN {w w' : World} {base : Nat} {v : Value} {xs : List Int} (h : OwnI w base v xs) (g : w.grownBy w' none) : OwnI w' base v xs := h.kept g (by simp)
def MatchTo (T : List (List Bool)) (w : World) (e : Ending) (w' : World) : Prop :=
  ∃ n, Nu T n ∧ w.grownBy w' none ∧ ((n < T.length ∧ e = .returned (.tuple #[.slice none 0 0, .bool false])) ∨
    (n = T.length ∧ ∃ v m, e = .returned (.tuple #[v, .bool true]) ∧ OwnI w' w.heap.size v (m.map Int.ofNat) ∧ PM T m ∧ ∀ m', PM T m' → LexLe m m'))

set_option maxRecDepth 100000 in
set_option maxHeartbeats 2000000 in
theorem Match_any (vt : Value) (ps : List BRow) (w : World) (ht : BRowsP w vt ps) (hv : validT (ps.map Prod.snd) = true) (h1 : ∀ p ∈ ps, 1 ≤ p.2.length) :
    Calls Try.prog 18 #[vt] w (MatchTo (ps.map Prod.snd) w) := by
  have HT := Lib.hid ht; have HV := Lib.hid hv
  have HF := Lib.hid (validT_few hv)
  obtain ⟨L, HLN⟩ : ∃ L, Hid (∀ p ∈ ps, p.2.length = L ∧ 1 ≤ p.2.length ∧ p.2.length ≤ 12) := ⟨((ps.map Prod.snd)[0]?.getD []).length, Lib.hid (fun p hp => ⟨((validT_iff.1 hv).2 _ (List.mem_map_of_mem hp)).2, h1 p hp, HF.out.2 p hp⟩)⟩
  have HTL : Hid ((ps.map Prod.snd).length = ps.length) := Lib.hid (by simp)
  have hl12 : ps.length ≤ 12 := HF.out.1
  obtain ⟨a, cap, rfl, -, -, -⟩ := ht
  clear hv h1
  generalize hT : ps.map Prod.snd = T at *
  have HTT := Lib.hid hT
  clear hT
  go_enter Try.func18, Try.ntmps18
  go_wp2_with fail
  refine (Valid_any _ ps _ HT.out).mono ?_
  rintro e w1 ⟨rfl, hw1⟩
  rw [hw1, HTT.out, HV.out]
  clear hw1 w1
  go_wp2_with fail
  refine (most_any _ ps _ HT.out HF.out).mono ?_
  rintro e w2 ⟨n, rfl, hn, hg⟩
  rw [HTT.out] at hn
  have HN := Lib.hid hn; have G2 := Lib.hid hg
  have HNL : Hid (n ≤ ps.length) := Lib.hid (by have := hn.le; rw [HTL.out] at this; exact this)
  clear hn hg
  by_cases hlt : n < ps.length
  · have k1 : (n : Int) < (ps.length : Int) := by omega
    go_wp2_with fail
    go_ret2
    exact ⟨n, HN.out, G2.out, .inl ⟨by rw [HTL.out]; exact hlt, rfl⟩⟩
  · have HNE : Hid (n = ps.length) := Lib.hid (by have := HNL.out; omega)
    have k1 : ¬ (n : Int) < (ps.length : Int) := by omega
    have HN2 : Hid (Nu T T.length) := Lib.hid (by rw [HTL.out, ← HNE.out]; exact HN.out)
    clear hlt
    go_wp2_with (at_make; refine make_int rfl _ _ rfl ps.length rfl rfl (by omega) ?_)
    intro w3 ho hg3
    have HM := Lib.hid ho; have G3 := Lib.hid hg3
    clear ho hg3
    go_wp2_with fail
    refine (table_any _ ps _ (HT.out.same (grown_trans G2.out G3.out)) (by omega) (fun p hp => by have := HLN.out p hp; omega)).mono ?_
    rintro e w4 ⟨g4, qs4, rfl, hT4, hsn4, hg4⟩
    have hql : qs4.length = ps.length := by have := congrArg List.length hsn4; simpa using this
    rw [hql] at hT4 ⊢
    have hMlt : w2.heap.size < w3.heap.size := (HM.out.fresh _ rfl).2
    have HD4 := Lib.hid (hT4.tabD (d := w2.heap.size) hMlt)
    have HQ4 := Lib.hid hql
    have HL4 : Hid (∀ q ∈ qs4, q.2.length = L ∧ 1 ≤ q.2.length ∧ q.2.length ≤ 12) := Lib.hid (lens_mem (P := fun l => l = L ∧ 1 ≤ l ∧ l ≤ 12) (lens_snd hsn4) HLN.out)
    have HS4 := Lib.hid (hsn4.trans HTT.out)
    have G4 := Lib.hid (grown_trans (grown_trans G2.out G3.out) hg4)
    replace HM := Lib.hid (HM.out.sameN hg4)
    have HWM : Hid (w.heap.size ≤ w2.heap.size) := Lib.hid G2.out.size
    generalize w2.heap.size = M at *
    clear hT4 hsn4 hg4 hql hMlt HT
    have HMI : Hid (MatchI T (qs4.map Prod.snd) []) := Lib.hid (by rw [HS4.out]; exact matchI_start HN2.out)
    go_wp2_with fail
    go_loopw [5, 27] (fun rv i wr => ∃ (k g' : Nat) (qs : List BRow) (c : List Nat), rv = .slice (some ⟨g', 0, none⟩) ps.length ps.length ∧ i = .int .i64 k ∧ k ≤ ps.length ∧ Hid (c.length = k) ∧ Hid (qs.length = ps.length) ∧ Hid (TabD wr M (.slice (some ⟨g', 0, none⟩) ps.length ps.length) qs) ∧ Hid (MatchI T (qs.map Prod.snd) c) ∧ Hid (∀ q ∈ qs, q.2.length = L ∧ 1 ≤ q.2.length ∧ q.2.length ≤ 12) ∧ Hid (OwnI wr M (.slice (some ⟨M, 0, none⟩) ps.length ps.length) (c.map Int.ofNat ++ List.replicate (ps.length - k) 0)) ∧ Hid (w.grownBy wr none)) (fun _ i _ => ps.length - (intOf i).toNat)
    case atStart => exact ⟨0, g4, qs4, [], rfl, rfl, Nat.zero_le _, Lib.hid rfl, HQ4, HD4, HMI, HL4, HM, G4⟩
    case round =>
      obtain ⟨k, g', qs, c, rfl, rfl, hk, hcl, hql, hD, hI, hL, hM, hG⟩ := hrel
      rename World => wk
      by_cases hkb : k < ps.length
      · have h2 : (k : Int) < (ps.length : Int) := by omega
        have i1 : IntKind.i64.wrap ((k : Int) + 1) = (k : Int) + 1 := IntWalk.i64_in _ (by omega)
        have i3 : IntKind.i64.wrap ((ps.length : Int) - (k : Int)) = (ps.length : Int) - (k : Int) := IntWalk.i64_in _ (by omega)
        have i4 : IntKind.i64.wrap ((ps.length : Int) - (k : Int) - 1) = (ps.length : Int) - (k : Int) - 1 := IntWalk.i64_in _ (by omega)
        have HKQ : Hid (k < qs.length) := Lib.hid (by rw [hql.out]; exact hkb)
        obtain ⟨a1, cap1, hv1, -, hct1, hrs1⟩ := hD.out.1
        simp only [Value.slice.injEq] at hv1
        obtain ⟨e1, -, -⟩ := hv1
        obtain ⟨b1, o1, hb1, hcell1⟩ := BRowsP.at hct1 HKQ.out
        rw [← e1] at hb1
        simp only [Option.some.injEq, Addr.mk.injEq, and_true] at hb1
        obtain ⟨rfl, rfl⟩ := hb1
        rw [Nat.zero_add] at hcell1
        have HRW := Lib.hid (hrs1 _ (List.getElem_mem HKQ.out)); have HR1 := Lib.hid (hL.out _ (List.getElem_mem HKQ.out))
        have HTB : Hid (∀ j, tb (qs.map Prod.snd) k j = (qs[k]'HKQ.out).2[j]?.getD false) := Lib.hid (fun j => by rw [tb_row (by rw [List.length_map]; exact HKQ.out)]; simp)
        clear e1 hct1 hrs1
        generalize qs[k]'HKQ.out = R at *
        obtain ⟨rv, R⟩ := R
        obtain ⟨⟨ra, rc, hrv, -, hrc⟩, -⟩ := HRW.out
        dsimp only at hrv hcell1 HR1 HTB
        subst hrv
        have HRC := Lib.hid hrc
        have HRL : Hid (R.length = L ∧ R.length ≤ 12) := Lib.hid ⟨HR1.out.1, HR1.out.2.2⟩
        clear hrc HRW HR1
        go_wp2_with fail
        clear hcell1
        go_loopw [5, 35] (fun rv j wr => ∃ j' : Nat, rv = .slice (some ⟨g', 0, none⟩) ps.length ps.length ∧ j = .int .i64 j' ∧ j' ≤ R.length ∧ Hid (∀ x, x < j' → ¬ OkAt T c x) ∧ Hid (wk.grownBy wr none)) (fun _ j _ => R.length - (intOf j).toNat)
        case atStart => exact ⟨0, rfl, rfl, Nat.zero_le _, Lib.hid (by omega), Lib.hid (grown_refl _ _)⟩
        case round =>
          obtain ⟨j, rfl, rfl, hj, hno, hgr⟩ := hrel
          by_cases hjb : j < R.length
          · have h3 : (j : Int) < (R.length : Int) := by omega
            have i2 : IntKind.i64.wrap ((j : Int) + 1) = (j : Int) + 1 := IntWalk.i64_in _ (by have := HRL.out; omega)
            obtain ⟨rb, ro, rfl, hbit0⟩ := Bools.at HRC.out hjb
            have hbit := hgr.out.cell hbit0 (by simp)
            have TBJ := Lib.hid (HTB.out j)
            clear hbit0
            generalize R[j]?.getD false = fits at *
            cases fits with
            | false =>
              have HNO : Hid (∀ x, x < j + 1 → ¬ OkAt T c x) := Lib.hid (fun x hx ho => by
                by_cases e : x = j
                · subst e
                  have := OkAt.tb hI.out ho
                  rw [hcl.out, TBJ.out] at this
                  cases this
                · exact hno.out x (by omega) ho)
              go_wp2_with fail
              go_roundw
              case rel => exact ⟨j + 1, rfl, by go_num, by omega, HNO, hgr⟩
              case measure => simp [intOf]; omega
            | true =>
              go_wp2_with fail
              refine (table_any _ qs _ (hD.out.1.same hgr.out) (by rw [hql.out]; omega) (fun q hq => by have := hL.out q hq; omega)).mono ?_
              rintro e w5 ⟨g5, qs5, rfl, hT5, hsn5, hg5⟩
              have HT5 := Lib.hid hT5; have HS5 := Lib.hid hsn5; have G5 := Lib.hid hg5
              have HQ5 : Hid (qs5.length = ps.length) := Lib.hid (by have := congrArg List.length hsn5; rw [List.length_map, List.length_map, hql.out] at this; exact this)
              have HL5 : Hid (∀ q ∈ qs5, q.2.length = L ∧ 1 ≤ q.2.length ∧ q.2.length ≤ 12) := Lib.hid (lens_mem (P := fun l => l = L ∧ 1 ≤ l ∧ l ≤ 12) (lens_snd hsn5) hL.out)
              have HC5 : Hid (∀ q ∈ qs5, j < q.2.length ∧ q.2.length ≤ 1000) := Lib.hid (fun q hq => by have := HL5.out q hq; have := HRL.out; omega)
              clear hT5 hsn5 hg5
              go_wp2_with fail
              refine (taken_any wr w5 g5 qs5.length qs5 k j G5.out HT5.out (by rw [HQ5.out]; exact hkb) (by rw [HQ5.out]; omega) HC5.out).mono ?_
              rintro e w6 ⟨qs6, rfl, hT6, hg6, hP6⟩
              have HP6 := Lib.hid hP6; have G6 := Lib.hid hg6; have HT6 := Lib.hid hT6
              have HQ6 : Hid (qs6.length = ps.length) := Lib.hid (by rw [hP6.len, HQ5.out])
              have HL6 : Hid (∀ q ∈ qs6, q.2.length = L ∧ 1 ≤ q.2.length ∧ q.2.length ≤ 12) := Lib.hid (lens_mem (P := fun l => l = L ∧ 1 ≤ l ∧ l ≤ 12) hP6.lens HL5.out)
              obtain ⟨ta, tc, hrun, hTR, hTG⟩ := brows_tail (k := k + 1) hT6.1.rows hT6.1.good (by rw [HQ6.out]; omega)
              have hrun1 : ∀ w', (Instr.slice 23 (.slice (some ⟨g5, 0, none⟩) qs5.length qs5.length) (some (.int .i64 ((k : Int) + 1))) none none).run Try.prog w' = .ok (.slice ta (qs5.length - (k + 1)) tc) w' := by
                intro w'
                have := hrun w'
                rwa [show ((k + 1 : Nat) : Int) = (k : Int) + 1 by omega] at this
              have HTR := Lib.hid hTR
              have HF6 : Hid (Few12 (qs6.drop (k + 1))) := Lib.hid ⟨by rw [List.length_drop, HQ6.out]; omega, fun q hq => (HL6.out q (List.mem_of_mem_drop hq)).2.2⟩
              obtain ⟨hru1, hru2⟩ := hP6.rule
              rw [HS5.out] at hru1 hru2
              have HRU : Hid ((qs6.map Prod.snd).length = (qs.map Prod.snd).length ∧ ∀ x, c.length < x → ∀ k', tb (qs6.map Prod.snd) x k' = (tb (qs.map Prod.snd) x k' && !(k' == j))) := Lib.hid ⟨hru1, by rw [hcl.out]; exact hru2⟩
              have HTBJ : Hid (tb (qs.map Prod.snd) c.length j = true) := Lib.hid (by rw [hcl.out]; exact TBJ.out)
              clear hrun hTR hTG hT6 hg6 hP6 hru1 hru2
              go_wp2_with fail
              refine (most_any _ (qs6.drop (k + 1)) _ HTR.out HF6.out).mono ?_
              rintro e w7 ⟨n7, rfl, hn7, hg7⟩
              rw [List.map_drop] at hn7
              have HOK : Hid (n7 = ps.length - k - 1 ↔ OkAt T c j) := Lib.hid (by
                rw [← hcl.out] at hn7
                have := hI.out.ok_iff HTBJ.out HRU.out.1 HRU.out.2 hn7
                rwa [HTL.out, hcl.out] at this)
              have HN7 : Hid (n7 ≤ ps.length - k - 1) := Lib.hid (by
                have := hn7.le
                rw [List.length_drop, List.length_map, HQ6.out] at this
                omega)
              have G7 := Lib.hid (grown_trans hgr.out (grown_trans G6.out hg7))
              have HD7 := Lib.hid (((HT6.out.tabD (d := M) (Nat.lt_of_lt_of_le (hM.out.fresh M rfl).2 hgr.out.size)).step hg7))
              clear hn7 hg7
              by_cases hq : n7 = ps.length - k - 1
              · have HOJ := Lib.hid (HOK.out.1 hq)
                have hqb : (((n7 : Nat) : Int) == (ps.length : Int) - (k : Int) - 1) = true := by simp; omega
                clear hq
                have HM7 := Lib.hid (hM.out.sameN G7.out)
                have HLX : Hid ((c.map Int.ofNat ++ List.replicate (ps.length - k) 0).length = ps.length) := Lib.hid (by rw [List.length_append, List.length_map, List.length_replicate, hcl.out]; omega)
                obtain ⟨hmc, hmf⟩ := HM7.out.cell k (by rw [HLX.out]; exact hkb)
                have HMN : Hid (MatchI T (qs6.map Prod.snd) (c ++ [j])) := Lib.hid (hI.out.next HOJ.out hno.out HRU.out.1 HRU.out.2)
                have HM8 : Hid (OwnI (w7.setCell ⟨M, k, none⟩ (.int .i64 (j : Int))) M (.slice (some ⟨M, 0, none⟩) ps.length ps.length) ((c ++ [j]).map Int.ofNat ++ List.replicate (ps.length - (k + 1)) 0)) := Lib.hid (by
                  have := HM7.out.stored k (j : Int)
                  rw [show ps.length - k = (ps.length - (k + 1)) + 1 by omega] at this
                  have e2 := set_repl (c.map Int.ofNat) (ps.length - (k + 1)) (0 : Int) (j : Int)
                  rw [List.length_map, hcl.out] at e2
                  rw [e2] at this
                  rw [List.map_append]
                  exact this)
                have HD8 := Lib.hid (HD7.out.deal (grown_set w7 ⟨M, k, none⟩ (.int .i64 (j : Int))))
                have HG8 := Lib.hid (grown_then (grown_trans hG.out G7.out) (grown_set w7 ⟨M, k, none⟩ (.int .i64 (j : Int))) (by rintro b ⟨⟩; exact .inl HWM.out))
                rw [HQ5.out] at HD8
                go_wp2_with fail
                go_roundw
                case rel => exact ⟨k + 1, g5, qs6, c ++ [j], by rw [HQ5.out], by go_num, by omega, Lib.hid (by rw [List.length_append, hcl.out]; rfl), HQ6, HD8, HMN, HL6, HM8, HG8⟩
                case measure => simp [intOf]; omega
              · have HNJ : Hid (¬ OkAt T c j) := Lib.hid (fun ho => hq (HOK.out.2 ho))
                have hqb : (((n7 : Nat) : Int) == (ps.length : Int) - (k : Int) - 1) = false := by simp; omega
                clear hq
                have HNO : Hid (∀ x, x < j + 1 → ¬ OkAt T c x) := Lib.hid (fun x hx ho => by
                  by_cases e : x = j
                  · subst e; exact HNJ.out ho
                  · exact hno.out x (by omega) ho)
                go_wp2_with fail
                go_roundw
                case rel => exact ⟨j + 1, rfl, by go_num, by omega, HNO, G7⟩
                case measure => simp [intOf]; omega
          · exfalso
            obtain ⟨j', h4, h5⟩ := hI.out.at_ (by rw [hcl.out, HTL.out]; exact hkb)
            rw [hcl.out, HTB.out] at h4
            have h6 : j' < R.length := by
              by_cases e : j' < R.length
              · exact e
              · rw [List.getElem?_eq_none (by omega)] at h4; simp at h4
            exact hno.out j' (by omega) h5
      · obtain rfl : k = ps.length := by omega
        have h2 : ¬ (ps.length : Int) < (ps.length : Int) := by omega
        go_wp2_with fail
        go_ret2
        obtain ⟨hp1, hp2⟩ := hI.out.done (by rw [hcl.out, HTL.out])
        have hM2 := hM.out
        rw [show c.map Int.ofNat ++ List.replicate (ps.length - ps.length) 0 = c.map Int.ofNat by simp] at hM2
        refine ⟨n, HN.out, hG.out, .inr ⟨by rw [HTL.out]; exact HNE.out, _, c, rfl, ?_, hp1, hp2⟩⟩
        refine ⟨hM2.1, ?_⟩
        rcases hM2.2 with h7 | ⟨g, cap, cur, h7, h8, h9⟩
        · exact .inl h7
        · exact .inr ⟨g, cap, cur, h7, Nat.le_trans HWM.out h8, h9⟩

end Go.Proofs.Ytnppmemcdcgjhaa
