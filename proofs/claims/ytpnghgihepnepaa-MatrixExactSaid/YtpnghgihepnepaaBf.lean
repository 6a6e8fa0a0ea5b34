/- Transpose; rows kept small in place. -/
import Derived.Test.YtpnghgihepnepaaNl
import Derived.Test.YtpnghgihepnepaaBe
import Derived.StillTailTactics
namespace Go.Proofs.Ytpnghgihepnepaa
open Go.RowKit
set_option linter.unusedVariables false

theorem St.put {w0 w w' : World} {p : Value} {d b : Nat} (h : St w0 w p d) (g : w.grownBy w' (some b)) (hb : d < b) : St w0 w' p d :=
  ⟨h.1.kept g (by rintro j ⟨⟩; exact hb), grown_then h.2.1 g (by rintro j ⟨⟩; exact .inl (by have := h.2.2; omega)), h.2.2⟩
def colL (ps : List Row) (j : Nat) : List Int := ps.map (fun q => q.2[j]?.getD 0)
theorem colL_len (ps : List Row) (j : Nat) : (colL ps j).length = ps.length := by unfold colL; rw [List.length_map]
theorem colL_at {ps : List Row} {i : Nat} (j : Nat) (hi : i < ps.length) : (colL ps j)[i]?.getD 0 = ps[i].2[j]?.getD 0 := by
  unfold colL; rw [List.getElem?_map, List.getElem?_eq_getElem hi]; rfl
def turnL (ps : List Row) (c : Nat) : List (List Int) := (List.range c).map (colL ps)
theorem turn_turned (ps : List Row) (c : Nat) : Turned (ps.map Prod.snd) (turnL ps c) ps.length c := by
  refine ⟨by rw [List.length_map], by unfold turnL; simp, fun i j hi hj => ?_⟩
  unfold turnL
  rw [List.getElem?_map, List.getElem?_range hj, List.getElem?_map, List.getElem?_eq_getElem hi]
  exact colL_at j hi
def TurR (P : Nat → List Int) (c : Nat) (ts : List Row) : Prop := ts.length = c ∧ ∀ t (ht : t < ts.length), ts[t].2 = P t
def turA (ps : List Row) (j t : Nat) : List Int := if t < j then colL ps t else []
def turB (ps : List Row) (j i t : Nat) : List Int := if t < j then colL ps t else if t = j then half (colL ps j) (List.replicate ps.length 0) i else []
theorem turB_new (ps : List Row) {c j : Nat} {ts : List Row} (h : TurR (turA ps j) c ts) (hj : j < c) (v : Value) : TurR (turB ps j 0) c (ts.set j (v, List.replicate ps.length 0)) := by
  refine ⟨by rw [List.length_set]; exact h.1, fun t ht => ?_⟩
  rw [List.getElem_set]
  unfold turB
  by_cases e : j = t
  · subst e; rw [if_pos rfl, if_neg (by omega), if_pos rfl, half_zero]
  · rw [if_neg e, h.2 t (by simpa using ht)]
    unfold turA
    by_cases e2 : t < j
    · rw [if_pos e2, if_pos e2]
    · rw [if_neg e2, if_neg e2, if_neg (fun h => e h.symm)]
theorem turB_set (ps : List Row) {c j i : Nat} {ts : List Row} (h : TurR (turB ps j i) c ts) (hj : j < ts.length) (hi : i < ps.length) : TurR (turB ps j (i + 1)) c (ts.set j (ts[j].1, ts[j].2.set i (ps[i].2[j]?.getD 0))) := by
  refine ⟨by rw [List.length_set]; exact h.1, fun t ht => ?_⟩
  rw [List.getElem_set]
  by_cases e : j = t
  · subst e
    rw [if_pos rfl]
    have h1 := h.2 j hj
    unfold turB at h1 ⊢
    rw [if_neg (by omega), if_pos rfl] at h1 ⊢
    dsimp only
    rw [h1, ← colL_at j hi, half_next (by rw [colL_len, List.length_replicate]) (by simpa using hi)]
  · rw [if_neg e, h.2 t (by simpa using ht)]
    unfold turB
    by_cases e2 : t < j
    · rw [if_pos e2, if_pos e2]
    · rw [if_neg e2, if_neg e2, if_neg (fun h => e h.symm), if_neg (fun h => e h.symm)]
theorem turB_end (ps : List Row) {c j : Nat} {ts : List Row} (h : TurR (turB ps j ps.length) c ts) : TurR (turA ps (j + 1)) c ts := by
  refine ⟨h.1, fun t ht => ?_⟩
  rw [h.2 t ht]
  unfold turB turA
  by_cases e : t < j
  · rw [if_pos e, if_pos (by omega)]
  · rw [if_neg e]
    by_cases e2 : t = j
    · subst e2
      rw [if_pos rfl, if_pos (by omega)]
      have := half_full (new := colL ps t) (old := List.replicate ps.length 0) (by rw [colL_len, List.length_replicate])
      rw [List.length_replicate] at this
      exact this
    · rw [if_neg e2, if_neg (by omega)]
theorem turA_end (ps : List Row) {c : Nat} {ts : List Row} (h : TurR (turA ps c) c ts) : ts.map Prod.snd = turnL ps c := by
  apply List.ext_getElem
  · unfold turnL; simp [h.1]
  · intro t h1 h2
    rw [List.getElem_map, h.2 t (by simpa using h1)]
    have e : (turnL ps c)[t] = colL ps t := by simp [turnL]
    rw [e]
    unfold turA
    rw [if_pos (by simpa [h.1] using h1)]
theorem turA_start (ps : List Row) (c : Nat) : TurR (turA ps 0) c (List.replicate c (.slice none 0 0, [])) := by
  refine ⟨by simp, fun t ht => ?_⟩
  rw [List.getElem_replicate]
  unfold turA; rw [if_neg (by omega)]
theorem rep_mat {w : World} {base c : Nat} {v : Value} (h : OwnP w base v (List.replicate c (.slice none 0 0, []))) : MatO w base v (List.replicate c (.slice none 0 0, [])) := by
  refine ⟨h, fun q hq => ?_, fun i j hi hj hij g e => ?_⟩
  · rw [List.eq_of_mem_replicate hq]; exact OwnI.nil _ _
  · rw [List.getElem_replicate] at e; cases e
theorem turn_ok {r c : Nat} {ps ts : List Row} (hm : MatOkP r c ps) (ht : ts.map Prod.snd = turnL ps c) : MatOkP c r ts := by
  obtain ⟨hl, hr1, hr12, hc1, hc12, h6, hq⟩ := hm
  refine ⟨?_, hc1, hc12, hr1, hr12, by omega, fun q hq' => ?_⟩
  · have := congrArg List.length ht
    unfold turnL at this
    simpa using this
  · have h1 : q.2 ∈ turnL ps c := by rw [← ht]; exact List.mem_map_of_mem hq'
    unfold turnL at h1
    obtain ⟨j, hj, e⟩ := List.mem_map.1 h1
    rw [← e]
    refine ⟨by rw [colL_len]; exact hl, fun x hx => ?_⟩
    unfold colL at hx
    obtain ⟨p, hp, rfl⟩ := List.mem_map.1 hx
    have hjl : j < p.2.length := by rw [(hq p hp).1]; simpa using hj
    rw [List.getElem?_eq_getElem hjl]
    exact (hq p hp).2 _ (List.getElem_mem hjl)
def TurnTo (w : World) (ps : List Row) (c : Nat) (e : Ending) (w' : World) : Prop := ∃ v ts, e = .returned (.tuple #[v, .int .i64 0]) ∧ MatO w' w.heap.size v ts ∧ ts.map Prod.snd = turnL ps c ∧ w.grownBy w' none
set_option maxRecDepth 100000 in
set_option maxHeartbeats 2000000 in
theorem Transpose_any {w : World} {v : Value} {ps : List Row} {r c : Nat} (h : RowsP w v ps) (hm : MatOkP r c ps) :
    Calls Try.prog 16 #[v] w (TurnTo w ps c) := by
  have HM := Lib.hid hm
  obtain ⟨hl, hr1, hr12, hc1, hc12, hrc, hq⟩ := hm
  obtain ⟨a, cap, rfl, -⟩ : ∃ a cap, v = .slice a ps.length cap ∧ True := by obtain ⟨a, cap, h, -⟩ := h; exact ⟨a, cap, h, trivial⟩
  have H := Lib.hid h; have HQ := Lib.hid hq
  have h0 : 0 < ps.length := by omega
  obtain ⟨b, off, a2, c2, rfl, hc0, -, -⟩ := h.row h0
  have hlen0 := (hq _ (List.getElem_mem h0)).1
  rw [hlen0, Nat.add_zero] at hc0
  have hp12 : ps.length ≤ 12 := by omega
  clear h hq hl hlen0 hr1 hr12 hrc
  go_enter Try.func16, Try.ntmps16
  go_wp2_with fail
  refine (Check10_any H.out HM.out).mono ?_
  rintro e w' ⟨rfl, hw⟩
  subst hw
  go_wp2_with (at_make; refine make_rows rfl _ _ rfl c rfl rfl (by omega) ?_)
  intro w1 ho hg
  have HT : Hid (∃ ts, MatO w1 w'.heap.size (.slice (some ⟨w'.heap.size, 0, none⟩) c c) ts ∧ TurR (turA ps 0) c ts) := Lib.hid ⟨_, rep_mat ho, turA_start ps c⟩
  have HG := Lib.hid hg
  clear ho hg hc0
  go_wp2_with fail
  go_loopw [20] (fun i wr => ∃ j : Nat, i = .int .i64 j ∧ j ≤ c ∧ Hid (∃ ts, MatO wr w'.heap.size (.slice (some ⟨w'.heap.size, 0, none⟩) c c) ts ∧ TurR (turA ps j) c ts) ∧ Hid (w'.grownBy wr none)) (fun i _ => c - (intOf i).toNat)
  case atStart => exact ⟨0, rfl, Nat.zero_le _, HT, HG⟩
  case round =>
    clear HT HG
    obtain ⟨j, rfl, hj, HT, HG⟩ := hrel
    rename World => wk
    by_cases hjb : j < c
    · have h3 : (j : Int) < (c : Int) := by omega
      have i1 : IntKind.i64.wrap ((j : Int) + 1) = (j : Int) + 1 := IntWalk.i64_in _ (by omega)
      obtain ⟨ts, hM, hT⟩ := HT.out
      have HM1 := Lib.hid hM; have HTR := Lib.hid hT
      clear hM hT HT
      go_wp2_with (at_make; refine make_int rfl _ _ rfl ps.length rfl rfl (by omega) ?_)
      intro w2 ho hg
      have HM2 := Lib.hid (HM1.out.same hg)
      have htl : j < ts.length := by have := HTR.out.1; omega
      have hcj := HM2.out.own.cell j htl
      have hcj1 : ∃ z, w2.cell? ⟨w'.heap.size, j, none⟩ = some z := ⟨_, hcj.1⟩
      have hcj2 := hcj.2
      obtain ⟨z, hcj1⟩ := hcj1
      have HF := Lib.hid (HM2.out.fill htl (.slice (some ⟨wk.heap.size, 0, none⟩) ps.length ps.length, List.replicate ps.length 0) (ho.mono HG.out.size) (fun x hx => by rw [List.eq_of_mem_replicate hx]; omega)
        (fun k hk => by
          obtain rfl : wk.heap.size = k := by simpa [Value.ownBlock] using hk
          refine ⟨by have := (HM1.out.own.fresh w'.heap.size rfl).2; omega, fun i hi hij e => ?_⟩
          have := ((HM1.out.rows _ (List.getElem_mem hi)).fresh _ e).2
          omega))
      have HG2 : Hid (w'.grownBy (w2.setCell ⟨w'.heap.size, j, none⟩ (.slice (some ⟨wk.heap.size, 0, none⟩) ps.length ps.length)) none) := Lib.hid (grown_then (grown_trans HG.out hg) (grown_set _ _ _) (by rintro k ⟨⟩; exact .inl (Nat.le_refl _)))
      have HT2 := Lib.hid (turB_new ps HTR.out hjb (.slice (some ⟨wk.heap.size, 0, none⟩) ps.length ps.length))
      clear hcj ho hg htl
      go_wp2_with fail
      clear hcj1 hcj2
      go_loopw [31] (fun i wr => ∃ t : Nat, i = .int .i64 t ∧ t ≤ ps.length ∧ Hid (∃ ts, MatO wr w'.heap.size (.slice (some ⟨w'.heap.size, 0, none⟩) c c) ts ∧ TurR (turB ps j t) c ts) ∧ Hid (w'.grownBy wr none)) (fun i _ => ps.length - (intOf i).toNat)
      case atStart => exact ⟨0, rfl, Nat.zero_le _, Lib.hid ⟨_, HF.out, HT2.out⟩, HG2⟩
      case round =>
        clear HT2 HG2 HF HM2 HM1 HTR HG
        obtain ⟨t, rfl, ht, HT, HG⟩ := hrel
        rename World => wt
        by_cases htb : t < ps.length
        · have h4 : (t : Int) < (ps.length : Int) := by omega
          have i2 : IntKind.i64.wrap ((t : Int) + 1) = (t : Int) + 1 := IntWalk.i64_in _ (by omega)
          obtain ⟨ts, hM, hT⟩ := HT.out
          have htl : j < ts.length := by have := hT.1; omega
          have hrow := hT.2 j htl
          unfold turB at hrow
          rw [if_neg (by omega), if_pos rfl] at hrow
          have hrl : ts[j].2.length = ps.length := by rw [hrow, half_len (by rw [colL_len, List.length_replicate]) (by simpa using ht)]; simp
          obtain ⟨gj, cj, hvj, hgb⟩ := hM.row htl (by omega)
          rw [hrl] at hvj
          have HD := Lib.hid (hM.same (grown_drew wt none)); have GD := Lib.hid (grown_trans HG.out (grown_drew wt none))
          have hcj := (HD.out.own.cell j htl).1
          rw [hvj] at hcj
          obtain ⟨z, hcz⟩ : ∃ z, wt.drew.cell? ⟨gj, t, none⟩ = some z := ⟨_, (HD.out.cell htl hvj (by rw [hrl]; exact htb)).1⟩
          have hcf := (HD.out.cell htl hvj (show t < ts[j].2.length by rw [hrl]; exact htb)).2
          obtain ⟨b', off', ar, cr, hbe, hcr, -, hri⟩ := H.out.row htb
          simp only [Option.some.injEq, Addr.mk.injEq, and_true] at hbe
          obtain ⟨rfl, rfl⟩ := hbe
          have hql := (HQ.out _ (List.getElem_mem htb)).1
          obtain ⟨_, _, hxv, -, -, hxc⟩ := hri
          simp only [Value.slice.injEq] at hxv
          obtain ⟨rfl, -, rfl⟩ := hxv
          obtain ⟨bx, ox, rfl, hcx⟩ := Ints.at hxc (show j < ps[t].2.length by rw [hql]; exact hjb)
          have hcr2 := GD.out.cell hcr (by simp); have hcx2 := GD.out.cell hcx (by simp)
          rw [hql] at hcr2
          have hb := mem_at (P := fun y => -16 ≤ y ∧ y ≤ 16) (HQ.out _ (List.getElem_mem htb)).2 (show j < ps[t].2.length by rw [hql]; exact hjb)
          have HN : Hid (∃ ts, MatO (wt.drew.setCell ⟨gj, t, none⟩ (.int .i64 (ps[t].2[j]?.getD 0))) w'.heap.size (.slice (some ⟨w'.heap.size, 0, none⟩) c c) ts ∧ TurR (turB ps j (t + 1)) c ts) := Lib.hid ⟨_, HD.out.set htl hvj t _ (by omega), turB_set ps hT htl htb⟩
          have HGN : Hid (w'.grownBy (wt.drew.setCell ⟨gj, t, none⟩ (.int .i64 (ps[t].2[j]?.getD 0))) none) := Lib.hid (grown_then GD.out (grown_set _ _ _) (by rintro k ⟨⟩; exact .inl hgb))
          generalize ps[t].2[j]?.getD 0 = x at *
          clear hM hT htl hrow hrl hvj hcr hcx hql hxc hb HT HD GD hgb
          go_wp2_with fail
          go_still_tail 13, (by kernel_rfl)
          change wpList _ _ _ _ _ wt.drew
          generalize wt.drew = wd at *
          go_wp2_with fail
          clear hcj hcz hcf hcr2 hcx2
          go_roundw
          case rel => exact ⟨t + 1, by go_num, by omega, HN, HGN⟩
          case measure => simp [intOf]; omega
        · obtain rfl : t = ps.length := by omega
          have h4 : ¬ (ps.length : Int) < (ps.length : Int) := by omega
          have HN : Hid (∃ ts, MatO wt w'.heap.size (.slice (some ⟨w'.heap.size, 0, none⟩) c c) ts ∧ TurR (turA ps (j + 1)) c ts) := Lib.hid (by obtain ⟨ts, h1, h2⟩ := HT.out; exact ⟨ts, h1, turB_end ps h2⟩)
          go_wp2_with fail
          go_roundw
          case rel => exact ⟨j + 1, by go_num, by omega, HN, HG⟩
          case measure => simp [intOf]; omega
    · obtain rfl : j = c := by omega
      have h3 : ¬ (j : Int) < (j : Int) := by omega
      go_wp2_with fail
      go_ret2
      obtain ⟨ts, h1, h2⟩ := HT.out
      exact ⟨_, ts, rfl, h1, turA_end ps h2, HG.out⟩

/-! ### Rows kept small in place -/
structure ClampR (H : Int) (r c i k : Nat) (ps : List Row) : Prop where
  len : ps.length = r
  wid : ∀ q ∈ ps, q.2.length = c
  bd : ∀ q ∈ ps, ∀ x ∈ q.2, -16 ≤ x ∧ x ≤ 16
  dn : ∀ t j, t < r → j < c → (t < i ∨ (t = i ∧ j < k)) → -H ≤ ent ps t j ∧ ent ps t j ≤ H
theorem ClampR.start {H : Int} {r c : Nat} {ps : List Row} (hm : MatOkP r c ps) : ClampR H r c 0 0 ps :=
  ⟨hm.1, fun q hq => (hm.2.2.2.2.2.2 q hq).1, fun q hq => (hm.2.2.2.2.2.2 q hq).2, fun t j _ _ h => by omega⟩
theorem ClampR.next {H : Int} {r c i : Nat} {ps : List Row} (h : ClampR H r c i c ps) : ClampR H r c (i + 1) 0 ps :=
  ⟨h.len, h.wid, h.bd, fun t j ht hj hh => h.dn t j ht hj (by omega)⟩
theorem ClampR.put {H : Int} {r c i k : Nat} {ps : List Row} (h : ClampR H r c i k ps) (hi : i < ps.length) (hk : k < c) (z : Int) (hz : -H ≤ z ∧ z ≤ H) (hH : H ≤ 16) : ClampR H r c i (k + 1) (ps.set i (ps[i].1, ps[i].2.set k z)) := by
  have hw := h.wid _ (List.getElem_mem hi)
  have he : ∀ t j, ent (ps.set i (ps[i].1, ps[i].2.set k z)) t j = if t = i ∧ j = k then z else ent ps t j := fun t j => by
    unfold ent
    rw [List.getElem?_set]
    by_cases e : i = t
    · subst e
      rw [if_pos rfl, if_pos hi, List.getElem?_eq_getElem hi]
      show (ps[i].2.set k z)[j]?.getD 0 = if i = i ∧ j = k then z else ps[i].2[j]?.getD 0
      rw [List.getElem?_set]
      by_cases e2 : k = j
      · subst e2; rw [if_pos rfl, if_pos (by omega), if_pos ⟨rfl, rfl⟩]; rfl
      · rw [if_neg e2, if_neg (fun h => e2 h.2.symm)]
    · rw [if_neg e, if_neg (fun h => e h.1.symm)]
  refine ⟨by rw [List.length_set]; exact h.len, fun q hq => ?_, fun q hq x hx => ?_, fun t j ht hj hh => ?_⟩
  · rcases List.mem_or_eq_of_mem_set hq with hq | rfl
    · exact h.wid q hq
    · dsimp only; rw [List.length_set]; exact hw
  · rcases List.mem_or_eq_of_mem_set hq with hq | rfl
    · exact h.bd q hq x hx
    · rcases List.mem_or_eq_of_mem_set hx with hx | rfl
      · exact h.bd _ (List.getElem_mem hi) x hx
      · omega
  · rw [he]
    by_cases e : t = i ∧ j = k
    · rw [if_pos e]; exact hz
    · rw [if_neg e]
      refine h.dn t j ht hj ?_
      omega
theorem ClampR.done {H : Int} {r c : Nat} {ps : List Row} (h : ClampR H r c r 0 ps) : ∀ q ∈ ps, ∀ x ∈ q.2, -H ≤ x ∧ x ≤ H := by
  intro q hq x hx
  obtain ⟨t, ht, rfl⟩ := List.getElem_of_mem hq
  obtain ⟨j, hj, rfl⟩ := List.getElem_of_mem hx
  have hw := h.wid _ (List.getElem_mem ht)
  have hl := h.len
  have := h.dn t j (by omega) (by omega) (.inl (by omega))
  rw [ent_row ht, List.getElem?_eq_getElem hj] at this
  exact this
theorem ClampR.ok {H : Int} {r c i k : Nat} {ps : List Row} (h : ClampR H r c i k ps) (h1 : 1 ≤ r) (h2 : r ≤ 12) (h3 : 1 ≤ c) (h4 : c ≤ 12) (h5 : r ≤ 6 ∨ c ≤ 6) : MatOkP r c ps := ⟨h.len, h1, h2, h3, h4, h5, fun q hq => ⟨h.wid q hq, h.bd q hq⟩⟩

def sum2 (u v : List Int) : List Int := List.zipWith (fun a b => a + 2 * b) u v
theorem sum2_next {u v : List Int} {k : Nat} (h1 : k < u.length) (h2 : k < v.length) : (sum2 u v).take k ++ [u[k]?.getD 0 + 2 * v[k]?.getD 0] = (sum2 u v).take (k + 1) := by
  rw [List.take_add_one]
  congr 1
  unfold sum2
  rw [List.getElem?_zipWith, List.getElem?_eq_getElem h1, List.getElem?_eq_getElem h2]; rfl
theorem sum2_bd {u v : List Int} (h1 : ∀ y ∈ u, -3 ≤ y ∧ y ≤ 3) (h2 : ∀ y ∈ v, -3 ≤ y ∧ y ≤ 3) : ∀ y ∈ sum2 u v, -9 ≤ y ∧ y ≤ 9 := by
  intro y hy
  obtain ⟨i, hi, rfl⟩ := List.getElem_of_mem hy
  unfold sum2 at hi ⊢
  rw [List.length_zipWith] at hi
  rw [List.getElem_zipWith]
  have := h1 _ (List.getElem_mem (show i < u.length by omega))
  have := h2 _ (List.getElem_mem (show i < v.length by omega))
  omega
theorem sum2_at {u v : List Int} (hl : u.length = v.length) (j : Nat) : (sum2 u v)[j]?.getD 0 = u[j]?.getD 0 + 2 * v[j]?.getD 0 := by
  unfold sum2
  rw [List.getElem?_zipWith]
  by_cases h : j < u.length
  · rw [List.getElem?_eq_getElem h, List.getElem?_eq_getElem (show j < v.length by omega)]; rfl
  · rw [List.getElem?_eq_none (by omega), List.getElem?_eq_none (by omega)]; rfl
theorem sum2_sp {M : List (List Int)} {u v : List Int} (hu : u ∈ M) (hv : v ∈ M) (hl : u.length = v.length) : InSp M (fun j => (sum2 u v)[j]?.getD 0) :=
  InSp.eq (InSp.lin 1 2 (InSp.mem hu) (InSp.mem hv)) (fun j => by rw [sum2_at hl]; omega)
/-- The same rank with one more row of the span. -/
theorem rank_more {M : List (List Int)} {m p p' : Nat} {s : List Int} (hs : InSp M (fun j => s[j]?.getD 0)) (h : RankIs M m p) (h' : RankIs (M ++ [s]) m p') : p' = p := by
  have h1 := h.le h' (fun r hr => by
    rcases List.mem_append.1 hr with hr | hr
    · exact InSp.mem hr
    · rw [List.mem_singleton.1 hr]; exact hs)
  have h2 := h'.le h (fun r hr => InSp.mem (List.mem_append.2 (.inl hr)))
  omega
/-- The same rank with a multiple of another row added to the first one. -/
theorem rank_other {M : List (List Int)} {m p p' : Nat} {u v : List Int} (hl : u.length = v.length) (h0 : M[0]? = some u) (h1 : ∃ t, t ≠ 0 ∧ t < M.length ∧ M[t]? = some v) (h : RankIs M m p) (h' : RankIs (M.set 0 (sum2 u v)) m p') : p' = p := by
  obtain ⟨t, ht0, htl, ht⟩ := h1
  have hu : u ∈ M := List.mem_of_getElem? h0
  have hv : v ∈ M := List.mem_of_getElem? ht
  have hv2 : v ∈ M.set 0 (sum2 u v) := List.mem_of_getElem? (by rw [List.getElem?_set, if_neg (fun e => ht0 e.symm)]; exact ht)
  have hs2 : sum2 u v ∈ M.set 0 (sum2 u v) := List.mem_set (by omega) _
  have k1 := h.le h' (fun r hr => by
    rcases List.mem_or_eq_of_mem_set hr with hr | rfl
    · exact InSp.mem hr
    · exact sum2_sp hu hv hl)
  have k2 := h'.le h (fun r hr => by
    obtain ⟨i, hi, rfl⟩ := List.getElem_of_mem hr
    by_cases e : i = 0
    · subst e
      have e1 : M[0] = u := by rw [List.getElem?_eq_getElem hi] at h0; simpa using h0
      rw [e1]
      exact InSp.eq (InSp.lin 1 (-2) (InSp.mem hs2) (InSp.mem hv2)) (fun j => by rw [sum2_at hl]; omega)
    · exact InSp.mem (List.mem_of_getElem? (i := i) (by rw [List.getElem?_set, if_neg (fun e' => e e'.symm)]; exact List.getElem?_eq_getElem hi)))
  omega

end Go.Proofs.Ytpnghgihepnepaa
