/- Multiply; small. -/
import Derived.Test.YtpnghgihepnepaaBf
namespace Go.Proofs.Ytpnghgihepnepaa
open Go.RowKit
set_option linter.unusedVariables false

def prodR (bs : List Row) (n : Nat) (row : List Int) : List Int := (List.range n).map (fun j => dotL row (colL bs j))
theorem prodR_len (bs : List Row) (n : Nat) (row : List Int) : (prodR bs n row).length = n := by unfold prodR; simp
theorem prodR_at {bs : List Row} {n j : Nat} (row : List Int) (hj : j < n) : (prodR bs n row)[j]?.getD 0 = dotL row (colL bs j) := by
  unfold prodR; rw [List.getElem?_map, List.getElem?_range hj]; rfl
def prA (F : Nat → List Int) (i t : Nat) : List Int := if t < i then F t else []
def prB (F : Nat → List Int) (n i j t : Nat) : List Int := if t < i then F t else if t = i then half (F i) (List.replicate n 0) j else []
def prC (F : Nat → List Int) (n i j : Nat) (z : Int) (t : Nat) : List Int := if t < i then F t else if t = i then (half (F i) (List.replicate n 0) j).set j z else []
theorem prB_new {F : Nat → List Int} {n r i : Nat} {ts : List Row} (h : TurR (prA F i) r ts) (hi : i < r) (v : Value) : TurR (prB F n i 0) r (ts.set i (v, List.replicate n 0)) := by
  refine ⟨by rw [List.length_set]; exact h.1, fun t ht => ?_⟩
  rw [List.getElem_set]
  unfold prB
  by_cases e : i = t
  · subst e; rw [if_pos rfl, if_neg (by omega), if_pos rfl, half_zero]
  · rw [if_neg e, h.2 t (by simpa using ht)]
    unfold prA
    by_cases e2 : t < i
    · rw [if_pos e2, if_pos e2]
    · rw [if_neg e2, if_neg e2, if_neg (fun h => e h.symm)]
theorem set_self {l : List Int} {j : Nat} {z : Int} (hj : j < l.length) (h : l[j]?.getD 0 = z) : l.set j z = l := by
  apply List.ext_getElem (by simp)
  intro t h1 h2
  rw [List.getElem_set]
  split
  · rename_i e; subst e; rw [List.getElem?_eq_getElem hj] at h; exact h.symm
  · rfl
theorem prC_start {F : Nat → List Int} {n r i j : Nat} {ts : List Row} (hF : ∀ t, t < r → (F t).length = n) (hi : i < r) (hj : j < n) (h : TurR (prB F n i j) r ts) : TurR (prC F n i j 0) r ts := by
  refine ⟨h.1, fun t ht => ?_⟩
  rw [h.2 t ht]
  unfold prB prC
  have hl : (F i).length = (List.replicate n (0 : Int)).length := by rw [hF i hi, List.length_replicate]
  rw [set_self (by rw [half_len hl (by rw [List.length_replicate]; omega), List.length_replicate]; exact hj) (by rw [half_at hl (by rw [List.length_replicate]; exact hj), List.getElem?_replicate, if_pos hj]; rfl)]
theorem prC_set {F : Nat → List Int} {n r i j : Nat} {z z' : Int} {ts : List Row} (h : TurR (prC F n i j z) r ts) (hi : i < ts.length) : TurR (prC F n i j z') r (ts.set i (ts[i].1, ts[i].2.set j z')) := by
  refine ⟨by rw [List.length_set]; exact h.1, fun t ht => ?_⟩
  rw [List.getElem_set]
  by_cases e : i = t
  · subst e
    rw [if_pos rfl]
    have h1 := h.2 i hi
    unfold prC at h1 ⊢
    rw [if_neg (by omega), if_pos rfl] at h1 ⊢
    dsimp only
    rw [h1, List.set_set]
  · rw [if_neg e, h.2 t (by simpa using ht)]
    unfold prC
    by_cases e2 : t < i
    · rw [if_pos e2, if_pos e2]
    · rw [if_neg e2, if_neg e2, if_neg (fun h => e h.symm), if_neg (fun h => e h.symm)]
theorem prC_end {F : Nat → List Int} {n r i j : Nat} {z : Int} {ts : List Row} (hF : ∀ t, t < r → (F t).length = n) (hi : i < r) (hj : j < n) (hz : (F i)[j]?.getD 0 = z) (h : TurR (prC F n i j z) r ts) : TurR (prB F n i (j + 1)) r ts := by
  refine ⟨h.1, fun t ht => ?_⟩
  rw [h.2 t ht]
  unfold prB prC
  have hl : (F i).length = (List.replicate n (0 : Int)).length := by rw [hF i hi, List.length_replicate]
  rw [← hz, half_next hl (by rw [List.length_replicate]; exact hj)]
theorem prB_end {F : Nat → List Int} {n r i : Nat} {ts : List Row} (hF : ∀ t, t < r → (F t).length = n) (hi : i < r) (h : TurR (prB F n i n) r ts) : TurR (prA F (i + 1)) r ts := by
  refine ⟨h.1, fun t ht => ?_⟩
  rw [h.2 t ht]
  unfold prB prA
  have hl : (F i).length = (List.replicate n (0 : Int)).length := by rw [hF i hi, List.length_replicate]
  have hf := half_full hl
  rw [List.length_replicate] at hf
  by_cases e : t < i
  · rw [if_pos e, if_pos (by omega)]
  · rw [if_neg e]
    by_cases e2 : t = i
    · subst e2; rw [if_pos rfl, if_pos (by omega), hf]
    · rw [if_neg e2, if_neg (by omega)]
theorem prA_start (F : Nat → List Int) (r : Nat) : TurR (prA F 0) r (List.replicate r (.slice none 0 0, [])) := by
  refine ⟨by simp, fun t ht => ?_⟩
  rw [List.getElem_replicate]
  unfold prA; rw [if_neg (by omega)]
def prodM (ms bs : List Row) (n : Nat) : List (List Int) := ms.map (fun q => prodR bs n q.2)
def prF (ms bs : List Row) (n : Nat) (t : Nat) : List Int := prodR bs n (ms[t]?.getD rowN).2
theorem prF_len (ms bs : List Row) (n t : Nat) : (prF ms bs n t).length = n := prodR_len _ _ _
theorem prA_end {ms bs : List Row} {n : Nat} {ts : List Row} (h : TurR (prA (prF ms bs n) ms.length) ms.length ts) : ts.map Prod.snd = prodM ms bs n := by
  apply List.ext_getElem
  · unfold prodM; simp [h.1]
  · intro t h1 h2
    have hl : t < ms.length := by simpa [h.1] using h1
    rw [List.getElem_map, h.2 t (by simpa using h1)]
    have e : (prodM ms bs n)[t] = prodR bs n ms[t].2 := by simp [prodM]
    rw [e]
    unfold prA prF
    rw [if_pos hl, List.getElem?_eq_getElem hl]; rfl
def MulTo (w : World) (ms bs : List Row) (n : Nat) (e : Ending) (w' : World) : Prop := ∃ v ts, e = .returned (.tuple #[v, .int .i64 0]) ∧ MatO w' w.heap.size v ts ∧ ts.map Prod.snd = prodM ms bs n ∧ w.grownBy w' none
theorem col_bd {c n : Nat} {bs : List Row} (h : MatOkP c n bs) {j : Nat} (hj : j < n) : ∀ x ∈ colL bs j, -16 ≤ x ∧ x ≤ 16 := by
  intro x hx
  unfold colL at hx
  obtain ⟨q, hq, rfl⟩ := List.mem_map.1 hx
  have := h.2.2.2.2.2.2 q hq
  have hjl : j < q.2.length := by omega
  rw [List.getElem?_eq_getElem hjl]
  exact this.2 _ (List.getElem_mem hjl)
set_option maxRecDepth 100000 in
set_option maxHeartbeats 2500000 in
theorem Multiply_any {w : World} {va vb : Value} {ms bs : List Row} {r c n : Nat} (ha : RowsP w va ms) (hma : MatOkP r c ms) (hb : RowsP w vb bs) (hmb : MatOkP c n bs) :
    Calls Try.prog 19 #[va, vb] w (MulTo w ms bs n) := by
  have HMA := Lib.hid hma; have HMB := Lib.hid hmb
  obtain ⟨hl, hr1, hr12, hc1, hc12, hrc, hq⟩ := hma
  obtain ⟨hlb, -, -, hn1, hn12, hrn, hqb⟩ := hmb
  obtain ⟨aa, capa, rfl, -⟩ : ∃ a cap, va = .slice a ms.length cap ∧ True := by obtain ⟨a, cap, h, -⟩ := ha; exact ⟨a, cap, h, trivial⟩
  obtain ⟨ab, capb, rfl, -⟩ : ∃ a cap, vb = .slice a bs.length cap ∧ True := by obtain ⟨a, cap, h, -⟩ := hb; exact ⟨a, cap, h, trivial⟩
  have HA := Lib.hid ha; have HQ := Lib.hid hq; have HB := Lib.hid hb; have HQB := Lib.hid hqb; have HLB := Lib.hid hlb
  have h0 : 0 < ms.length := by omega
  have h0b : 0 < bs.length := by omega
  obtain ⟨b, off, a2, c2, rfl, hc0, -, -⟩ := ha.row h0
  obtain ⟨bb, offb, a3, c3, rfl, hc0b, -, -⟩ := hb.row h0b
  rw [(hq _ (List.getElem_mem h0)).1, Nat.add_zero] at hc0
  rw [(hqb _ (List.getElem_mem h0b)).1, Nat.add_zero] at hc0b
  have hp12 : ms.length ≤ 12 := by omega
  have hb12 : bs.length ≤ 12 := by omega
  have k1 : ((bs.length : Int) != (c : Int)) = false := by simp; omega
  have HC0B := Lib.hid hc0b
  have HFL : Hid (∀ t, t < ms.length → (prF ms bs n t).length = n) := Lib.hid (fun t _ => prF_len _ _ _ _)
  clear ha hb hq hqb hl hlb hr1 hr12 hrc hrn hc0b
  go_enter Try.func19, Try.ntmps19
  go_wp2_with fail
  refine (Check10_any HA.out HMA.out).mono ?_
  rintro e w' ⟨rfl, hw⟩
  subst hw
  go_wp2_with fail
  refine (Check10_any HB.out HMB.out).mono ?_
  rintro e w1 ⟨rfl, hw⟩
  subst hw
  go_wp2_with (at_make; refine make_rows rfl _ _ rfl ms.length rfl rfl (by omega) ?_)
  intro w2 ho hg
  have HT : Hid (∃ ts, MatO w2 w1.heap.size (.slice (some ⟨w1.heap.size, 0, none⟩) ms.length ms.length) ts ∧ TurR (prA (prF ms bs n) 0) ms.length ts) := Lib.hid ⟨_, rep_mat ho, prA_start _ _⟩
  have HG := Lib.hid hg
  clear ho hg hc0 k1
  go_wp2_with fail
  go_loopw [36] (fun i wr => ∃ j : Nat, i = .int .i64 j ∧ j ≤ ms.length ∧ Hid (∃ ts, MatO wr w1.heap.size (.slice (some ⟨w1.heap.size, 0, none⟩) ms.length ms.length) ts ∧ TurR (prA (prF ms bs n) j) ms.length ts) ∧ Hid (w1.grownBy wr none)) (fun i _ => ms.length - (intOf i).toNat)
  case atStart => exact ⟨0, rfl, Nat.zero_le _, HT, HG⟩
  case round =>
    clear HT HG
    obtain ⟨i, rfl, hi, HT, HG⟩ := hrel
    rename World => wk
    by_cases hib : i < ms.length
    · have h3 : (i : Int) < (ms.length : Int) := by omega
      have i1 : IntKind.i64.wrap ((i : Int) + 1) = (i : Int) + 1 := IntWalk.i64_in _ (by omega)
      obtain ⟨ts, hM, hT⟩ := HT.out
      have HM1 := Lib.hid hM; have HTR := Lib.hid hT
      clear hM hT HT
      obtain ⟨b', off', ar, cr, hbe, hcr, -, hri⟩ := HA.out.row hib
      simp only [Option.some.injEq, Addr.mk.injEq, and_true] at hbe
      obtain ⟨rfl, rfl⟩ := hbe
      have hql := HQ.out _ (List.getElem_mem hib)
      have HRI := Lib.hid hri
      have hcr2 := HG.out.cell hcr (by simp)
      have HPF : Hid (prF ms bs n i = prodR bs n ms[i].2) := Lib.hid (by unfold prF; rw [List.getElem?_eq_getElem hib]; rfl)
      generalize ms[i].2 = row at *
      rw [hql.1] at hcr2 HRI
      have HQL := Lib.hid hql
      have hcb := HG.out.cell HC0B.out (by simp)
      clear hri hcr hql
      go_wp2_with (at_make; refine make_int rfl _ _ rfl n rfl rfl (by omega) ?_)
      intro w3 ho hg
      have HM2 := Lib.hid (HM1.out.same hg)
      have hil : i < ts.length := by have := HTR.out.1; omega
      have hcj := HM2.out.own.cell i hil
      have hcj1 : ∃ z, w3.cell? ⟨w1.heap.size, i, none⟩ = some z := ⟨_, hcj.1⟩
      have hcj2 := hcj.2
      obtain ⟨z, hcj1⟩ := hcj1
      have HF := Lib.hid (HM2.out.fill hil (.slice (some ⟨wk.heap.size, 0, none⟩) n n, List.replicate n 0) (ho.mono HG.out.size) (fun x hx => by rw [List.eq_of_mem_replicate hx]; omega)
        (fun k hk => by
          obtain rfl : wk.heap.size = k := by simpa [Value.ownBlock] using hk
          refine ⟨by have := (HM1.out.own.fresh w1.heap.size rfl).2; omega, fun i hi hij e => ?_⟩
          have := ((HM1.out.rows _ (List.getElem_mem hi)).fresh _ e).2
          omega))
      have HG2 : Hid (w1.grownBy (w3.setCell ⟨w1.heap.size, i, none⟩ (.slice (some ⟨wk.heap.size, 0, none⟩) n n)) none) := Lib.hid (grown_then (grown_trans HG.out hg) (grown_set _ _ _) (by rintro k ⟨⟩; exact .inl (Nat.le_refl _)))
      have HT2 := Lib.hid (prB_new (n := n) HTR.out hib (.slice (some ⟨wk.heap.size, 0, none⟩) n n))
      have hcn : (w3.setCell ⟨w1.heap.size, i, none⟩ (.slice (some ⟨wk.heap.size, 0, none⟩) n n)).cell? ⟨w1.heap.size, i, none⟩ = some (.slice (some ⟨wk.heap.size, 0, none⟩) n n) := by
        have h1 := (HF.out.own.cell i (by rw [List.length_set]; exact hil)).1
        rw [List.getElem_set, if_pos rfl] at h1
        exact h1
      have HCN := Lib.hid hcn
      clear hcj ho hg hil hcr2 hcb
      go_wp2_with fail
      clear hcj1 hcj2 hcn
      go_loopw [54] (fun i' wr => ∃ j : Nat, i' = .int .i64 j ∧ j ≤ n ∧ Hid (∃ ts, MatO wr w1.heap.size (.slice (some ⟨w1.heap.size, 0, none⟩) ms.length ms.length) ts ∧ TurR (prB (prF ms bs n) n i j) ms.length ts) ∧ Hid (w1.grownBy wr none)) (fun i _ => n - (intOf i).toNat)
      case atStart => exact ⟨0, rfl, Nat.zero_le _, Lib.hid ⟨_, HF.out, HT2.out⟩, HG2⟩
      case round =>
        clear HT2 HG2 HF HM2 HM1 HTR HG HCN
        obtain ⟨j, rfl, hj, HT, HG⟩ := hrel
        rename World => wt
        by_cases hjb : j < n
        · have h4 : (j : Int) < (n : Int) := by omega
          have i2 : IntKind.i64.wrap ((j : Int) + 1) = (j : Int) + 1 := IntWalk.i64_in _ (by omega)
          have HTC : Hid (∃ ts, MatO wt w1.heap.size (.slice (some ⟨w1.heap.size, 0, none⟩) ms.length ms.length) ts ∧ TurR (prC (prF ms bs n) n i j (dotL (row.take 0) ((colL bs j).take 0))) ms.length ts) := Lib.hid (by
            obtain ⟨ts, h1, h2⟩ := HT.out
            exact ⟨ts, h1, by have := prC_start HFL.out hib hjb h2; simpa [dotL] using this⟩)
          clear HT
          go_wp2_with fail
          go_loopw [59] (fun i' wr => ∃ k : Nat, i' = .int .i64 k ∧ k ≤ c ∧ Hid (∃ ts, MatO wr w1.heap.size (.slice (some ⟨w1.heap.size, 0, none⟩) ms.length ms.length) ts ∧ TurR (prC (prF ms bs n) n i j (dotL (row.take k) ((colL bs j).take k))) ms.length ts) ∧ Hid (w1.grownBy wr none)) (fun i _ => c - (intOf i).toNat)
          case atStart => exact ⟨0, rfl, Nat.zero_le _, HTC, HG⟩
          case round =>
            clear HTC HG
            obtain ⟨k, rfl, hk, HT, HG⟩ := hrel
            rename World => we
            by_cases hkb : k < c
            · have h5 : (k : Int) < (c : Int) := by omega
              have i3 : IntKind.i64.wrap ((k : Int) + 1) = (k : Int) + 1 := IntWalk.i64_in _ (by omega)
              obtain ⟨ts, hM, hT⟩ := HT.out
              have hil : i < ts.length := by have := hT.1; omega
              have hrow := hT.2 i hil
              unfold prC at hrow
              rw [if_neg (by omega), if_pos rfl] at hrow
              have hhl := half_len (new := prF ms bs n i) (old := List.replicate n 0) (j := j) (by rw [HFL.out i hib, List.length_replicate]) (by rw [List.length_replicate]; omega)
              rw [List.length_replicate] at hhl
              have hrl : ts[i].2.length = n := by rw [hrow, List.length_set]; exact hhl
              have hval : ts[i].2[j]?.getD 0 = dotL (row.take k) ((colL bs j).take k) := by rw [hrow, List.getElem?_set, if_pos rfl, if_pos (by omega)]; rfl
              obtain ⟨gj, cj, hvj, hgb⟩ := hM.row hil (by omega)
              rw [hrl] at hvj
              have HD := Lib.hid (hM.same (grown_drew we none)); have GD := Lib.hid (grown_trans HG.out (grown_drew we none))
              have hcj := (HD.out.own.cell i hil).1
              rw [hvj] at hcj
              have hcz := (HD.out.cell hil hvj (show j < ts[i].2.length by omega))
              have hcz1 := hcz.1; have hcf := hcz.2
              rw [hval] at hcz1
              have hkb2 : k < bs.length := by have := HLB.out; omega
              have h6 : (k : Int) < (bs.length : Int) := by omega
              obtain ⟨b', off', ar', cr', hbe, hcr, -, hri⟩ := HB.out.row hkb2
              simp only [Option.some.injEq, Addr.mk.injEq, and_true] at hbe
              obtain ⟨rfl, rfl⟩ := hbe
              have hql := (HQB.out _ (List.getElem_mem hkb2)).1
              obtain ⟨_, _, hxv, -, -, hxc⟩ := hri
              simp only [Value.slice.injEq] at hxv
              obtain ⟨rfl, -, rfl⟩ := hxv
              obtain ⟨bx, ox, rfl, hcx⟩ := Ints.at hxc (show j < bs[k].2.length by rw [hql]; exact hjb)
              have hcr2 := GD.out.cell hcr (by simp); have hcx2 := GD.out.cell hcx (by simp)
              rw [hql] at hcr2
              have hbx := mem_at (P := fun y => -16 ≤ y ∧ y ≤ 16) (HQB.out _ (List.getElem_mem hkb2)).2 (show j < bs[k].2.length by rw [hql]; exact hjb)
              have hkr : k < row.length := by rw [HQL.out.1]; exact hkb
              obtain ⟨_, _, hxv, -, -, hxd⟩ := HRI.out
              simp only [Value.slice.injEq] at hxv
              obtain ⟨rfl, -, rfl⟩ := hxv
              obtain ⟨by', oy, rfl, hcy⟩ := Ints.at hxd hkr
              have hcy2 := HG.out.cell hcy (by simp)
              have hbr := mem_at (P := fun y => -16 ≤ y ∧ y ≤ 16) HQL.out.2 hkr
              have hds := dot_snoc row (colL bs j) k hkr (by rw [colL_len]; exact hkb2)
              rw [colL_at j hkb2] at hds
              have hbd := dot_bd (A := 16) (B := 16) (row.take k) ((colL bs j).take k) (fun y hy => HQL.out.2 y (List.mem_of_mem_take hy)) (fun y hy => col_bd HMB.out hjb y (List.mem_of_mem_take hy)) (by decide)
              have hbl : (row.take k).length ≤ 12 := by have := List.length_take_le k row; omega
              have hset := HD.out.set hil hvj j
              have hput := fun z' => prC_set (z' := z') hT hil
              have HDS := Lib.hid hds
              generalize (row.take k).length = tl at *
              generalize dotL (row.take k) ((colL bs j).take k) = s0 at *
              generalize bs[k].2[j]?.getD 0 = x at *
              generalize row[k]?.getD 0 = y at *
              have hmb := mul_bd (x := y) (y := x) (A := 16) (B := 16) hbr hbx
              obtain ⟨z, hz⟩ : ∃ z, y * x = z := ⟨_, rfl⟩
              rw [hz] at hmb HDS
              have m1 : IntKind.i64.wrap (y * x) = z := by rw [hz]; exact IntWalk.i64_in _ (by omega)
              have m2 : IntKind.i64.wrap (s0 + z) = s0 + z := IntWalk.i64_in _ (by omega)
              have HN : Hid (∃ ts, MatO (we.drew.setCell ⟨gj, j, none⟩ (.int .i64 (s0 + z))) w1.heap.size (.slice (some ⟨w1.heap.size, 0, none⟩) ms.length ms.length) ts ∧ TurR (prC (prF ms bs n) n i j (dotL (row.take (k + 1)) ((colL bs j).take (k + 1)))) ms.length ts) := Lib.hid (by rw [HDS.out]; exact ⟨_, hset (s0 + z) (by omega), hput (s0 + z)⟩)
              have HGN : Hid (w1.grownBy (we.drew.setCell ⟨gj, j, none⟩ (.int .i64 (s0 + z))) none) := Lib.hid (grown_then GD.out (grown_set _ _ _) (by rintro k ⟨⟩; exact .inl hgb))
              clear hM hT hil hrow hhl hrl hval hvj hcz hcr hcx hql hxc hxd hcy hbx hbr hds hbd hbl hset hput hmb hz HT HD GD hgb hkr hkb2
              go_wp2_with fail
              go_still_tail 18, (by kernel_rfl)
              change wpList _ _ _ _ _ we.drew
              generalize we.drew = wd at *
              go_wp2_with fail
              clear hcj hcz1 hcf hcr2 hcx2 hcy2 m1 m2
              go_roundw
              case rel => exact ⟨k + 1, by go_num, by omega, HN, HGN⟩
              case measure => simp [intOf]; omega
            · obtain rfl : k = c := by omega
              have h5 : ¬ (k : Int) < (k : Int) := by omega
              have HN : Hid (∃ ts, MatO we w1.heap.size (.slice (some ⟨w1.heap.size, 0, none⟩) ms.length ms.length) ts ∧ TurR (prB (prF ms bs n) n i (j + 1)) ms.length ts) := Lib.hid (by
                obtain ⟨ts, h1, h2⟩ := HT.out
                rw [List.take_of_length_le (by rw [HQL.out.1]; exact Nat.le_refl _), List.take_of_length_le (by rw [colL_len, HLB.out]; exact Nat.le_refl _)] at h2
                exact ⟨ts, h1, prC_end HFL.out hib hjb (by rw [HPF.out, prodR_at _ hjb]) h2⟩)
              go_wp2_with fail
              go_roundw
              case rel => exact ⟨j + 1, by go_num, by omega, HN, HG⟩
              case measure => simp [intOf]; omega
        · obtain rfl : j = n := by omega
          have h4 : ¬ (j : Int) < (j : Int) := by omega
          have HN : Hid (∃ ts, MatO wt w1.heap.size (.slice (some ⟨w1.heap.size, 0, none⟩) ms.length ms.length) ts ∧ TurR (prA (prF ms bs j) (i + 1)) ms.length ts) := Lib.hid (by
            obtain ⟨ts, h1, h2⟩ := HT.out
            exact ⟨ts, h1, prB_end HFL.out hib h2⟩)
          go_wp2_with fail
          go_roundw
          case rel => exact ⟨i + 1, by go_num, by omega, HN, HG⟩
          case measure => simp [intOf]; omega
    · obtain rfl : i = ms.length := by omega
      have h3 : ¬ (ms.length : Int) < (ms.length : Int) := by omega
      go_wp2_with fail
      go_ret2
      obtain ⟨ts, h1, h2⟩ := HT.out
      exact ⟨_, ts, rfl, h1, prA_end h2, HG.out⟩

/-! ### small -/
def SmallTo (w0 : World) (p : Value) (d bM : Nat) (v : Value) (r c : Nat) (wx : World) (row : Option Nat) (e : Ending) (w' : World) : Prop :=
  e = .returned v ∧ ∃ ps, MatO w' bM v ps ∧ MatOkP r c ps ∧ (∀ q ∈ ps, ∀ x ∈ q.2, -2 ≤ x ∧ x ≤ 2) ∧ St w0 w' p d ∧ wx.grownBy w' row
set_option maxRecDepth 100000 in
set_option maxHeartbeats 2000000 in
theorem clamp_any {w0 w wx : World} {p v : Value} {d bM r c : Nat} {ps0 : List Row} {row : Option Nat} (hM : MatO w bM v ps0) (hm : MatOkP r c ps0) (hS : St w0 w p d) (hd : d < bM) (hx : wx.grownBy w row) (hxb : wx.heap.size ≤ bM) :
    Calls Try.prog 29 #[v] w (SmallTo w0 p d bM v r c wx row) := by
  have HOK := Lib.hid hm
  obtain ⟨hl, hr1, hr12, hc1, hc12, hrc, hq⟩ := hm
  obtain ⟨gM, cM, rfl, hgM⟩ := hM.head (by omega)
  rw [hl] at hM ⊢
  have HM0 : Hid (∃ ps, MatO w bM (.slice (some ⟨gM, 0, none⟩) r cM) ps ∧ ClampR 2 r c 0 0 ps) := Lib.hid ⟨ps0, hM, ClampR.start HOK.out⟩
  have HS := Lib.hid hS; have HX := Lib.hid hx
  clear hl hq hM hS hx hgM HOK
  go_enter Try.func29, Try.ntmps29
  go_wp2_with fail
  go_loopw [7] (fun i wr => ∃ i' : Nat, i = .int .i64 i' ∧ i' ≤ r ∧ Hid (∃ ps, MatO wr bM (.slice (some ⟨gM, 0, none⟩) r cM) ps ∧ ClampR 2 r c i' 0 ps) ∧ Hid (St w0 wr p d) ∧ Hid (wx.grownBy wr row)) (fun i _ => r - (intOf i).toNat)
  case atStart => exact ⟨0, rfl, Nat.zero_le _, HM0, HS, HX⟩
  case round =>
    clear HM0 HS HX
    obtain ⟨i, rfl, hi, HM, HS, HX⟩ := hrel
    rename World => wk
    by_cases hib : i < r
    · have h3 : (i : Int) < (r : Int) := by omega
      have i1 : IntKind.i64.wrap ((i : Int) + 1) = (i : Int) + 1 := IntWalk.i64_in _ (by omega)
      have hci : ∃ b cb, wk.cell? ⟨gM, i, none⟩ = some (.slice (some ⟨b, 0, none⟩) c cb) := by
        obtain ⟨ps, h1, h2⟩ := HM.out
        have hl : i < ps.length := by have := h2.len; omega
        have hw := h2.wid _ (List.getElem_mem hl)
        obtain ⟨b, cb, hb, -⟩ := h1.row hl (by omega)
        have := (h1.own.cell i hl).1
        rw [hb, hw] at this
        exact ⟨b, cb, this⟩
      obtain ⟨b, cb, hcb⟩ := hci
      go_wp2_with fail
      clear hcb
      go_loopw [15] (fun i' wr => ∃ k : Nat, i' = .int .i64 k ∧ k ≤ c ∧ Hid (∃ ps, MatO wr bM (.slice (some ⟨gM, 0, none⟩) r cM) ps ∧ ClampR 2 r c i k ps) ∧ Hid (St w0 wr p d) ∧ Hid (wx.grownBy wr row)) (fun i _ => c - (intOf i).toNat)
      case atStart => exact ⟨0, rfl, Nat.zero_le _, HM, HS, HX⟩
      case round =>
        clear HM HS HX
        obtain ⟨k, rfl, hk, HM, HS, HX⟩ := hrel
        rename World => wt
        by_cases hkb : k < c
        · have h4 : (k : Int) < (c : Int) := by omega
          have i2 : IntKind.i64.wrap ((k : Int) + 1) = (k : Int) + 1 := IntWalk.i64_in _ (by omega)
          obtain ⟨ps, hM, hC⟩ := HM.out
          have hl : i < ps.length := by have := hC.len; omega
          have hw := hC.wid _ (List.getElem_mem hl)
          obtain ⟨b, cb, hb, hbb⟩ := hM.row hl (by omega)
          have HD := Lib.hid (hM.same (grown_drew wt none))
          have hci := (HD.out.own.cell i hl).1
          rw [hb, hw] at hci
          rw [hw] at hb
          have hcx := HD.out.cell hl hb (show k < ps[i].2.length by omega)
          have hcx1 := hcx.1; have hcx2 := hcx.2
          have hset := HD.out.set hl hb k
          have hput := hC.put hl hkb
          generalize hx : ps[i].2[k]?.getD 0 = x at *
          have HZ : Hid (-2 ≤ min 2 (max (-2) x) ∧ min 2 (max (-2) x) ≤ 2) := Lib.hid (by omega)
          generalize hz : min 2 (max (-2) x) = z at *
          have HN : Hid (∃ ps, MatO (wt.drew.setCell ⟨b, k, none⟩ (.int .i64 z)) bM (.slice (some ⟨gM, 0, none⟩) r cM) ps ∧ ClampR 2 r c i (k + 1) ps) := Lib.hid ⟨_, hset z (by have := HZ.out; omega), hput z (by have := HZ.out; omega) (by omega)⟩
          have HSN : Hid (St w0 (wt.drew.setCell ⟨b, k, none⟩ (.int .i64 z)) p d) := Lib.hid ((HS.out.step (grown_drew wt none)).put (grown_set _ _ _) (by show d < b; omega))
          have HXN : Hid (wx.grownBy (wt.drew.setCell ⟨b, k, none⟩ (.int .i64 z)) row) := Lib.hid (grown_then (grown_trans HX.out (grown_drew wt _)) (grown_set _ _ _) (by rintro j ⟨⟩; exact .inl (by show wx.heap.size ≤ b; omega)))
          clear hM hC hl hw hb hbb hcx hset hput hx HM HS HD HX
          go_wp2_with fail
          go_still_tail 15, (by kernel_rfl)
          change wpList _ _ _ _ _ wt.drew
          generalize wt.drew = wd at *
          go_wp2_with fail
          clear hci hcx1 hcx2
          go_roundw
          case rel => exact ⟨k + 1, by go_num, by omega, HN, HSN, HXN⟩
          case measure => simp [intOf]; omega
        · obtain rfl : k = c := by omega
          have h4 : ¬ (k : Int) < (k : Int) := by omega
          have HN : Hid (∃ ps, MatO wt bM (.slice (some ⟨gM, 0, none⟩) r cM) ps ∧ ClampR 2 r k (i + 1) 0 ps) := Lib.hid (by obtain ⟨ps, h1, h2⟩ := HM.out; exact ⟨ps, h1, h2.next⟩)
          go_wp2_with fail
          go_roundw
          case rel => exact ⟨i + 1, by go_num, by omega, HN, HS, HX⟩
          case measure => simp [intOf]; omega
    · obtain rfl : i = r := by omega
      have h3 : ¬ (i : Int) < (i : Int) := by omega
      go_wp2_with fail
      go_ret
      obtain ⟨ps, hMM, hC⟩ := HM.out
      exact ⟨rfl, ps, hMM, hC.ok hr1 hr12 hc1 hc12 hrc, hC.done, HS.out, HX.out⟩

/-! ### What products are -/
theorem dot_comm : ∀ (a b : List Int), dotL a b = dotL b a
  | [], [] => rfl
  | [], _ :: _ => rfl
  | _ :: _, [] => rfl
  | x :: a, y :: b => by
    show x * y + dotL a b = y * x + dotL b a
    rw [dot_comm a b, Int.mul_comm]
theorem dot_full {a b : List Int} {n : Nat} (ha : a.length = n) (hb : b.length = n) : dotL a b = Bar.sumN n (fun i => a[i]?.getD 0 * b[i]?.getD 0) := by
  have := dot_sum a b n (by omega) (by omega)
  rw [List.take_of_length_le (by omega), List.take_of_length_le (by omega)] at this
  exact this
/-- A product is applied one after the other. -/
theorem dot_assoc {row v : List Int} {bs : List Row} {c n : Nat} (hr : row.length = c) (hb : bs.length = c) (hw : ∀ q ∈ bs, q.2.length = n) (hv : v.length = n) : dotL (prodR bs n row) v = dotL row (bs.map (fun q => dotL q.2 v)) := by
  rw [dot_full (prodR_len bs n row) hv, dot_full (n := c) hr (by rw [List.length_map]; exact hb)]
  rw [Bar.sumN_congr (g := fun i => Bar.sumN c (fun t => row[t]?.getD 0 * ((bs[t]?.getD rowN).2[i]?.getD 0 * v[i]?.getD 0))) (fun i hi => by
    rw [prodR_at row hi, dot_full (n := c) hr (by rw [colL_len]; exact hb), Int.mul_comm, ← sumN_mul]
    refine Bar.sumN_congr (fun t ht => ?_)
    rw [colL_at i (show t < bs.length by omega), List.getElem?_eq_getElem (show t < bs.length by omega)]
    show v[i]?.getD 0 * (row[t]?.getD 0 * bs[t].2[i]?.getD 0) = row[t]?.getD 0 * (bs[t].2[i]?.getD 0 * v[i]?.getD 0)
    grind), sumN_swap]
  refine Bar.sumN_congr (fun t ht => ?_)
  have htb : t < bs.length := by omega
  rw [sumN_mul, List.getElem?_map, List.getElem?_eq_getElem htb]
  show row[t]?.getD 0 * Bar.sumN n (fun i => bs[t].2[i]?.getD 0 * v[i]?.getD 0) = row[t]?.getD 0 * dotL bs[t].2 v
  rw [dot_full (hw _ (List.getElem_mem htb)) hv]
theorem prodM_at {ms bs ps : List Row} {n : Nat} (h : ps.map Prod.snd = prodM ms bs n) {i : Nat} (hi : i < ms.length) (hp : i < ps.length) : ps[i].2 = prodR bs n ms[i].2 := by
  have h1 : (ps.map Prod.snd)[i]'(by simpa using hp) = ps[i].2 := by simp
  rw [← h1]
  have h2 : (prodM ms bs n)[i]'(by unfold prodM; simpa using hi) = prodR bs n ms[i].2 := by simp [prodM]
  rw [← h2]
  simp only [h]
theorem prodM_len {ms bs ps : List Row} {n : Nat} (h : ps.map Prod.snd = prodM ms bs n) : ps.length = ms.length := by
  have := congrArg List.length h
  unfold prodM at this
  simpa using this
theorem turn_len {ms ts : List Row} {c : Nat} (h : ts.map Prod.snd = turnL ms c) : ts.length = c := by
  have := congrArg List.length h
  unfold turnL at this
  simpa using this
theorem turn_at {ms ts : List Row} {c : Nat} (h : ts.map Prod.snd = turnL ms c) {j : Nat} (hj : j < ts.length) : ts[j].2 = colL ms j := by
  have h1 : (ts.map Prod.snd)[j]'(by simpa using hj) = ts[j].2 := by simp
  rw [← h1]
  simp only [h]
  simp [turnL]
/-- A product that is transposed is the product of the transposed ones, turned round. -/
theorem prod_turn {ms bs xs ys : List Row} {r c n : Nat} (ha : ms.length = r) (haw : ∀ q ∈ ms, q.2.length = c) (hb : bs.length = c) (hx : xs.map Prod.snd = turnL ms c) (hy : ys.map Prod.snd = turnL bs n) {i j : Nat} (hi : i < r) (hj : j < n) :
    (prodR xs r ((ys[j]?.getD rowN).2))[i]?.getD 0 = dotL (ms[i]?.getD rowN).2 (colL bs j) := by
  have hjy : j < ys.length := by rw [turn_len hy]; exact hj
  have hia : i < ms.length := by omega
  rw [prodR_at _ hi, List.getElem?_eq_getElem hjy, List.getElem?_eq_getElem hia]
  show dotL ys[j].2 (colL xs i) = dotL ms[i].2 (colL bs j)
  rw [turn_at hy hjy, dot_comm]
  congr 1
  apply List.ext_getElem
  · rw [colL_len, turn_len hx, haw _ (List.getElem_mem hia)]
  · intro t h1 h2
    have htx : t < xs.length := by rw [colL_len] at h1; exact h1
    have e1 := colL_at i htx
    rw [turn_at hx htx, colL_at t hia, List.getElem?_eq_getElem h1, List.getElem?_eq_getElem h2] at e1
    exact e1

/-- A row, with its elements. -/
theorem MatO.rowc {w : World} {base g n cap : Nat} {ps : List Row} (h : MatO w base (.slice (some ⟨g, 0, none⟩) n cap) ps) {i : Nat} (hi : i < ps.length) (h1 : 1 ≤ ps[i].2.length) :
    ∃ b cb, w.cell? ⟨g, i, none⟩ = some (.slice (some ⟨b, 0, none⟩) ps[i].2.length cb) ∧ ∀ t, t < ps[i].2.length → w.cell? ⟨b, t, none⟩ = some (.int .i64 (ps[i].2[t]?.getD 0)) := by
  obtain ⟨b, cb, hb, -⟩ := h.row hi h1
  have hc := (h.own.cell i hi).1
  rw [hb] at hc
  exact ⟨b, cb, hc, fun t ht => (h.cell hi hb ht).1⟩
theorem MatO.lend {w : World} {base : Nat} {v : Value} {ps : List Row} {n : Nat} (h : MatO w base v ps) (hl : ps.length = n) (h1 : 1 ≤ n) : ∃ g c, v = .slice (some ⟨g, 0, none⟩) n c := by
  obtain ⟨g, c, hv, -⟩ := h.head (by omega)
  exact ⟨g, c, by rw [hv, hl]⟩
theorem prodR_bd {bs : List Row} {row : List Int} {c n : Nat} (hr : row.length = c) (hc : c ≤ 4) (h1 : ∀ x ∈ row, -2 ≤ x ∧ x ≤ 2) (hw : ∀ q ∈ bs, q.2.length = n) (h2 : ∀ q ∈ bs, ∀ x ∈ q.2, -2 ≤ x ∧ x ≤ 2) : ∀ x ∈ prodR bs n row, -16 ≤ x ∧ x ≤ 16 := by
  intro x hx
  unfold prodR at hx
  obtain ⟨j, hj, rfl⟩ := List.mem_map.1 hx
  have := dot_bd (A := 2) (B := 2) row (colL bs j) h1 (fun y hy => by
    unfold colL at hy
    obtain ⟨q, hq, rfl⟩ := List.mem_map.1 hy
    have hjl : j < q.2.length := by rw [hw q hq]; simpa using hj
    rw [List.getElem?_eq_getElem hjl]
    exact h2 q hq _ (List.getElem_mem hjl)) (by decide)
  omega

end Go.Proofs.Ytpnghgihepnepaa
