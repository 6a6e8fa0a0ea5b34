/- Holds at valid systems, whatever the table. -/
import Derived.Test.YtelpkcndbcfaiaaIn
namespace Go.Proofs.Ytelpkcndbcfaiaa
open Go.RowKit
set_option linter.unusedVariables false
def CellV (w : World) (c : Nat) (v : Value) : Prop := w.cell? ⟨c, 0, none⟩ = some v
theorem CellV.same {w w' : World} {c : Nat} {v : Value} (h : CellV w c v) (g : w.grownBy w' none) : CellV w' c v := g.cell h (by simp)
def neL (m : Nat) (q : BolP) : Bool := decide ((q.2.length : Int) ≠ (m : Int))
set_option maxRecDepth 100000 in
theorem pred_len (rv : Value) (r : List Bool) (b : Option Addr) (m k c : Nat) (w : World) (h : CellV w c (.slice b m k)) (hr : BoolsR w rv r) :
    Calls Try.prog 48 #[rv, .pointer (some ⟨c, 0, none⟩)] w fun e w' => e = .returned (.bool (neL m (rv, r))) ∧ w.grownBy w' none := by
  obtain ⟨a, cap, rfl, -, -⟩ := hr
  unfold CellV at h
  unfold neL
  dsimp only
  go_enter Try.func48, Try.ntmps48
  by_cases e : (r.length : Int) = (m : Int)
  · have e1 : ((r.length : Int) != (m : Int)) = false := by simp [e]
    have e2 : decide ((r.length : Int) ≠ (m : Int)) = false := by simp [e]
    rw [e2]
    clear e e2
    go_wp2_with fail
    go_ret
    exact ⟨rfl, grown_refl _ _⟩
  · have e1 : ((r.length : Int) != (m : Int)) = true := by simpa using e
    have e2 : decide ((r.length : Int) ≠ (m : Int)) = true := by simpa using e
    rw [e2]
    clear e e2
    go_wp2_with fail
    go_ret
    exact ⟨rfl, grown_refl _ _⟩
theorem RelR.row {w : World} {v : Value} {rs : List BolP} (h : RelR w v rs) {k : Nat} (hk : k < rs.length) :
    ∃ b off cap, v = .slice (some ⟨b, off, none⟩) rs.length cap ∧ w.cell? ⟨b, off + k, none⟩ = some rs[k].1 ∧ BoolsR w rs[k].1 rs[k].2 := by
  obtain ⟨a, cap, rfl, -, hc, hr⟩ := h
  rcases hc with rfl | ⟨b, off, rfl, hc⟩
  · simp at hk
  · have h1 := hc k hk
    rw [List.getElem?_eq_getElem hk] at h1
    exact ⟨b, off, cap, rfl, h1, hr _ (List.getElem_mem hk)⟩
theorem anyB_snoc (P : BolP → Bool) (l : List BolP) (k : Nat) (h : k < l.length) : (l.take (k + 1)).any P = ((l.take k).any P || P l[k]) := by
  rw [List.take_succ_eq_append_getElem h, List.any_append]
  simp only [List.any_cons, List.any_nil, Bool.or_false]
theorem anyB_hit (P : BolP → Bool) (l : List BolP) (k : Nat) (h : k < l.length) (hp : P l[k] = true) : l.any P = true := by
  rw [List.any_eq_true]
  exact ⟨_, List.getElem_mem h, hp⟩
set_option maxRecDepth 100000 in
set_option maxHeartbeats 2000000 in
theorem index_len (v : Value) (l : List BolP) (b : Option Addr) (m k c : Nat) (w : World) (h : RelR w v l) (hp : CellV w c (.slice b m k)) :
    Calls Try.prog 63 #[v, .func (.func 48) #[] #[.pointer (some ⟨c, 0, none⟩)]] w (IdxA (l.any (neL m)) w) := by
  have H := Lib.hid h
  have HP := Lib.hid hp
  clear hp
  obtain ⟨a, cap, rfl, hl, -⟩ := h
  unfold maxLen at hl
  go_enter Try.func63, Try.ntmps63
  go_wp2_with fail
  go_loopw [8] (fun i wr => ∃ q : Nat, q ≤ l.length ∧ i = .int .i64 q ∧ Hid ((l.take q).any (neL m) = false) ∧ Hid (w.grownBy wr none)) (fun i _ => l.length - (intOf i).toNat)
  case atStart => exact ⟨0, Nat.zero_le _, rfl, Lib.hid (by simp), Lib.hid (grown_refl _ _)⟩
  case round =>
    obtain ⟨q, hk, rfl, hn, hg⟩ := hrel
    by_cases hlt : q < l.length
    · obtain ⟨bb, off, cap', hv, c1, hrow⟩ := (H.out.same hg.out).row hlt
      simp only [Value.slice.injEq] at hv
      obtain ⟨rfl, -, rfl⟩ := hv
      have HS := Lib.hid (anyB_snoc (neL m) l q hlt)
      have HT := Lib.hid (anyB_hit (neL m) l q hlt)
      have HC := Lib.hid (HP.out.same hg.out)
      have HRW := Lib.hid hrow
      have h1 : (q : Int) < (l.length : Int) := by omega
      clear hrow
      generalize (l[q]) = z at *
      obtain ⟨zv, zr⟩ := z
      dsimp only at c1 HRW
      go_wp2_with fail
      refine (pred_len zv zr b m k c _ HC.out HRW.out).mono ?_
      rintro e w1 ⟨rfl, hg1⟩
      have HG := Lib.hid (grown_trans hg.out hg1)
      clear hg1
      cases hb : ((neL m) (zv, zr))
      · rw [hb] at HS
        go_wp2_with fail
        go_roundw
        case rel => exact ⟨q + 1, by omega, by go_num, Lib.hid (by rw [HS.out, hn.out]; rfl), HG⟩
        case measure => simp [intOf]; omega
      · go_wp2_with fail
        go_ret
        exact ⟨q, rfl, by rw [HT.out hb]; simp, HG.out⟩
    · have h1 : ¬ (q : Int) < (l.length : Int) := by omega
      have hne : (l.any (neL m)) = false := by have := hn.out; rwa [List.take_of_length_le (by omega)] at this
      have HN := Lib.hid hne
      clear hne
      go_wp2_with fail
      go_ret
      exact ⟨-1, rfl, by rw [HN.out]; rfl, hg.out⟩
set_option maxRecDepth 100000 in
theorem has_len (v : Value) (l : List BolP) (b : Option Addr) (m k c : Nat) (w : World) (h : RelR w v l) (hp : CellV w c (.slice b m k)) :
    Calls Try.prog 49 #[v, .func (.func 48) #[] #[.pointer (some ⟨c, 0, none⟩)]] w fun e w' => e = .returned (.bool (l.any (neL m))) ∧ w.grownBy w' none := by
  have H := Lib.hid h
  have HP := Lib.hid hp
  clear hp
  obtain ⟨a, cap, rfl, hl, -⟩ := h
  go_enter Try.func49, Try.ntmps49
  go_wp2_with fail
  refine (index_len (l := l) (w := w) (b := b) (m := m) (k := k) (c := c) (h := H.out) (hp := HP.out)).mono ?_
  rintro e w' ⟨q, rfl, hk, hg⟩
  have HK := Lib.hid hk; have HG := Lib.hid hg
  clear hk hg
  go_wp2_with fail
  go_ret
  exact ⟨ret_bool HK.out, HG.out⟩
/-- Rows of the right lengths. -/
def fitB (a b : Sys) (rs : Rel) : Prop := rs.length = a.length ∧ ∀ r ∈ rs, r.length = b.length
/-- What Holds answers at valid systems. -/
def HoldI (a b : Sys) (rs : Rel) (e : Int) : Prop :=
  (¬ fitB a b rs ∧ e = 46) ∨ (fitB a b rs ∧ e = 41 ∧ ∃ x y, x < a.length ∧ y < b.length ∧ atB rs x y = true ∧ matchB (arcsOf a x) (arcsOf b y) rs = false) ∨
  (fitB a b rs ∧ (∀ x y, x < a.length → y < b.length → atB rs x y = true → matchB (arcsOf a x) (arcsOf b y) rs = true) ∧ e = (if atB rs 0 0 = true then 0 else 42))
theorem fit_any {m : Nat} {rs : List BolP} (h : rs.any (neL m) = false) : ∀ q ∈ rs, q.2.length = m := fun q hq => by
  rw [List.any_eq_false] at h
  have := h q hq
  unfold neL at this
  simp at this
  omega
theorem unfit_any {m : Nat} {rs : List BolP} (h : rs.any (neL m) = true) : ¬ ∀ q ∈ rs, q.2.length = m := fun hq => by
  rw [List.any_eq_true] at h
  obtain ⟨q, h1, h2⟩ := h
  unfold neL at h2
  simp at h2
  exact h2 (by have := hq q h1; omega)
set_option maxRecDepth 100000 in
set_option maxHeartbeats 4000000 in
theorem holds_any (va vb rv : Value) (sa sb : List ArcP) (rs : List BolP) (w : World) (ha : SysG w va sa) (hb : SysG w vb sb) (hr : RelR w rv rs) :
    Calls Try.prog 27 #[va, vb, rv] w fun e w' => (∃ x, e = .returned (.int .i64 x) ∧ HoldI (sa.map Prod.snd) (sb.map Prod.snd) (rs.map Prod.snd) x) ∧ w.grownBy w' none := by
  obtain ⟨⟨xa, rfl, hA⟩, hga⟩ := ha
  obtain ⟨⟨xb, rfl, hB⟩, hgb⟩ := hb
  have HA := Lib.hid hA; have HB := Lib.hid hB; have HRR := Lib.hid hr
  obtain ⟨hn1, hn2, hva, hla⟩ := good_parts hga
  obtain ⟨hm1, hm2, hvb, hlb⟩ := good_parts hgb
  have HCA := Lib.hid (chk_yes hga); have HCB := Lib.hid (chk_yes hgb)
  have HVA := Lib.hid hva; have HVB := Lib.hid hvb
  have HLA : Hid (∀ q ∈ sa, q.2.length ≤ 1000000000) := Lib.hid (fun q hq => by have := hla q hq; omega)
  have HLB : Hid (∀ q ∈ sb, q.2.length ≤ 1000000000) := Lib.hid (fun q hq => by have := hlb q hq; omega)
  obtain ⟨a, c, rfl, -⟩ := hA
  obtain ⟨b, k, rfl, -⟩ := hB
  obtain ⟨ra, rc, rfl, -⟩ := hr
  obtain ⟨n, hn⟩ : ∃ n, sa.length = n := ⟨_, rfl⟩
  obtain ⟨m, hm⟩ : ∃ m, sb.length = m := ⟨_, rfl⟩
  obtain ⟨l, hl⟩ : ∃ l, rs.length = l := ⟨_, rfl⟩
  rw [hn] at hn1 hn2 HA ⊢
  rw [hm] at hm1 hm2 HB ⊢
  rw [hl] at HRR ⊢
  have HN := Lib.hid hn; have HM := Lib.hid hm; have HL := Lib.hid hl
  have HSM : Hid ((rs.map Prod.snd).length = l) := Lib.hid (by rw [List.length_map, hl])
  have HAM : Hid ((sa.map Prod.snd).length = n) := Lib.hid (by rw [List.length_map, hn])
  have HBM : Hid ((sb.map Prod.snd).length = m) := Lib.hid (by rw [List.length_map, hm])
  clear hn hm hl hga hgb hva hvb hla hlb
  go_enter Try.func27, Try.ntmps27
  go_wp2_with fail
  obtain ⟨H, hH⟩ : ∃ H, w.heap.size = H := ⟨_, rfl⟩
  rw [hH]
  obtain ⟨w2, hw2⟩ : ∃ w2, w2 = (w.alloc (.cells #[.slice a n c] 25)).alloc (.cells #[.slice b m k] 25) := ⟨_, rfl⟩
  have hg2 : w.grownBy w2 none := by rw [hw2]; exact grown_aft2 (World.grownBy_alloc _ _ _)
  have k0 : w2.cell? ⟨H, 0, none⟩ = some (.slice a n c) := by
    rw [hw2]
    refine (World.grownBy_alloc _ _ none).cell ?_ (by simp)
    rw [World.cell?, heap_new _ hH.symm]; rfl
  have k1 : w2.cell? ⟨H + 1, 0, none⟩ = some (.slice b m k) := by
    rw [hw2, World.cell?, heap_new _ (by show _ = (w.heap.push _).size; simp [hH])]; rfl
  rw [← hw2]
  have HSZ : Hid (w.heap.size = H) := Lib.hid hH
  have K0 := Lib.hid k0; have K1 := Lib.hid k1; have HG2 := Lib.hid hg2
  clear hw2 k0 k1 hg2 hH
  refine wp_told (FrontV (.agg #[.slice a n c]) (.agg #[.slice b m k]) (chkI sa) (chkI sb)) (by kernel_rfl) (by kernel_rfl) FrontV.mono ?_ ?_
  · refine ⟨?_, ?_, ?_, ?_, ?_, ?_, ?_, trivial⟩
    · intro x w3 hx hg hd
      have e0 : x.eval (.tmp 3) = .pointer (some ⟨H, 0, none⟩) := (hx.eval (s := 3) (by decide)).trans rfl
      have c0 := hg.cell K0.out (by simp)
      refine .inl ⟨wanted_noI rfl, ?_⟩
      unfold Oper.wp
      simp only [execOp, e0]
      go_simp
      exact ⟨_, rfl, rfl, grown_refl _ _⟩
    · intro x w3 hx hg hd
      have e0 : x.eval (.tmp 11) = .agg #[.slice a n c] := hd 0 (by decide) 11 rfl
      exact .inl ⟨wanted_noI rfl, oper_callI 12 17 _ _ _ _ _ _ Try.f17 _ Try.func17 (by kernel_rfl) rfl [.agg #[.slice a n c]] (by simp only [List.map_cons, List.map_nil]; rw [e0]) _ (Check_any _ sa _ ⟨_, rfl, HA.out.same (grown_trans HG2.out hg)⟩ HLA.out) (fun e w4 hh => ⟨_, hh.1, _, rfl, rfl, hh.2⟩)⟩
    · intro x w3 hx hg hd
      have e0 : x.eval (.tmp 4) = .pointer (some ⟨H + 1, 0, none⟩) := (hx.eval (s := 4) (by decide)).trans rfl
      have c0 := hg.cell K1.out (by simp)
      refine .inl ⟨wanted_noI rfl, ?_⟩
      unfold Oper.wp
      simp only [execOp, e0]
      go_simp
      exact ⟨_, rfl, rfl, grown_refl _ _⟩
    · intro x w3 hx hg hd
      have e0 : x.eval (.tmp 13) = .agg #[.slice b m k] := hd 2 (by decide) 13 rfl
      exact .inl ⟨wanted_noI rfl, oper_callI 14 17 _ _ _ _ _ _ Try.f17 _ Try.func17 (by kernel_rfl) rfl [.agg #[.slice b m k]] (by simp only [List.map_cons, List.map_nil]; rw [e0]) _ (Check_any _ sb _ ⟨_, rfl, HB.out.same (grown_trans HG2.out hg)⟩ HLB.out) (fun e w4 hh => ⟨_, hh.1, _, rfl, rfl, hh.2⟩)⟩
    · intro x w3 hx hg hd
      have e0 : x.eval (.tmp 12) = .int .i64 (chkI sa) := hd 1 (by decide) 12 rfl
      have e1 : x.eval (.tmp 14) = .int .i64 (chkI sb) := hd 3 (by decide) 14 rfl
      refine .inl ⟨wanted_noI rfl, ?_⟩
      unfold Oper.wp
      simp only [execOp]
      simp only [List.map_toArray, List.map_cons, List.map_nil, e0, e1]
      go_simp
      exact ⟨_, rfl, ⟨w3.heap.size, rfl, by rw [World.cell?, heap_new _ rfl]; rfl, by rw [World.cell?, heap_new _ rfl]; rfl⟩, World.grownBy_alloc _ _ none⟩
    · intro x w3 hx hg hd
      obtain ⟨G, e0, c0, c1⟩ := hd 4 (by decide) 15 rfl
      exact .inl ⟨wanted_noI rfl, oper_callI 16 43 _ _ _ _ _ _ Try.f43 _ Try.func43 (by kernel_rfl) rfl [.slice (some ⟨G, 0, none⟩) 2 2] (by simp only [List.map_cons, List.map_nil]; rw [e0]) _ (or_any (chkI sa) (chkI sb) G w3 c0 c1) (fun e w4 hh => ⟨_, hh.1, _, rfl, rfl, hh.2 ▸ grown_refl _ _⟩)⟩
    · intro x w3 hx hg hd
      have e0 : x.eval (.tmp 16) = .int .i64 (orE (chkI sa) (chkI sb)) := hd 5 (by decide) 16 rfl
      refine .inl ⟨wanted_noI rfl, ?_⟩
      unfold Oper.wp
      simp only [execOp, e0]
      go_simp
      exact ⟨_, rfl, rfl, grown_refl _ _⟩
  intro vs w3 g2 hv
  have c0 := g2.cell K0.out (by simp)
  have c1 := g2.cell K1.out (by simp)
  have GG := Lib.hid (grown_trans HG2.out g2)
  have K0' : Hid (w3.cell? ⟨H, 0, none⟩ = some (.slice a n c)) := Lib.hid c0
  have K1' : Hid (w3.cell? ⟨H + 1, 0, none⟩ = some (.slice b m k)) := Lib.hid c1
  clear K0 K1 HG2
  have e6 : vs 6 = .int .i64 0 := (hv 6 7 rfl).trans (by rw [HCA.out, HCB.out]; rfl)
  simp only [putAll, Nat.reduceAdd, e6]
  clear hv e6 g2
  by_cases hln : l = n
  · have d1 : ((l : Int) != (n : Int)) = false := by rw [hln]; simp
    have HLN := Lib.hid hln
    clear hln
    go_wp2_with fail
    have HRW := Lib.hid (HRR.out.same GG.out)
    refine (has_len _ rs b m k (H + 1) w3 HRW.out K1'.out).mono ?_
    rintro e w5 ⟨rfl, hg5⟩
    have c0 := hg5.cell K0'.out (by simp)
    have G5 := Lib.hid hg5
    clear hg5
    cases hany : rs.any (neL m) with
    | true =>
      have HF : Hid (¬ fitB (sa.map Prod.snd) (sb.map Prod.snd) (rs.map Prod.snd)) := Lib.hid (fun hf => unfit_any hany (fun q hq => by
        have := hf.2 q.2 (List.mem_map.2 ⟨q, hq, rfl⟩)
        rw [HBM.out] at this
        exact this))
      clear hany
      go_wp2_with fail
      go_ret
      exact ⟨⟨46, rfl, .inl ⟨HF.out, rfl⟩⟩, grown_trans GG.out G5.out⟩
    | false =>
      have HF : Hid (fitB (sa.map Prod.snd) (sb.map Prod.snd) (rs.map Prod.snd)) := Lib.hid ⟨by rw [HSM.out, HAM.out]; exact HLN.out, fun r hr => by
        obtain ⟨q, hq, rfl⟩ := List.mem_map.1 hr
        rw [HBM.out]
        exact fit_any hany q hq⟩
      have HROW := Lib.hid (fit_any hany)
      have HLI : Hid ((l : Int) = (n : Int)) := Lib.hid (by have := HLN.out; omega)
      clear hany
      go_wp2_with fail
      clear c0 c1
      go_loopw [35] (fun i wr => ∃ x : Nat, i = .int .i64 x ∧ x ≤ n ∧ Hid (w3.grownBy wr none) ∧ Hid (∀ u v, u < x → v < m → atB (rs.map Prod.snd) u v = true → matchB (arcsOf (sa.map Prod.snd) u) (arcsOf (sb.map Prod.snd) v) (rs.map Prod.snd) = true)) (fun i _ => n - (intOf i).toNat)
      case atStart => exact ⟨0, rfl, Nat.zero_le _, G5, Lib.hid (fun u v h => by omega)⟩
      case round =>
        clear G5
        obtain ⟨x, rfl, hx, hg, hdone⟩ := hrel
        by_cases hlx : x < n
        · have hxi : (x : Int) < (n : Int) := by omega
          have c1 := hg.out.cell K1'.out (by simp)
          go_wp2_with fail
          clear c1
          go_loopw [41] (fun i wr => ∃ y : Nat, i = .int .i64 y ∧ y ≤ m ∧ Hid (w3.grownBy wr none) ∧ Hid (∀ u v, (u < x ∨ u = x ∧ v < y) → v < m → atB (rs.map Prod.snd) u v = true → matchB (arcsOf (sa.map Prod.snd) u) (arcsOf (sb.map Prod.snd) v) (rs.map Prod.snd) = true)) (fun i _ => m - (intOf i).toNat)
          case atStart => exact ⟨0, rfl, Nat.zero_le _, hg, Lib.hid (fun u v h => hdone.out u v (by omega))⟩
          case round =>
            rename World => wk
            clear hg hdone
            obtain ⟨y, rfl, hy, hg, hdone⟩ := hrel
            by_cases hly : y < m
            · have hyi : (y : Int) < (m : Int) := by omega
              have hxl : (x : Int) < (l : Int) := by have := HLI.out; omega
              have HXL : Hid (x < rs.length) := Lib.hid (by rw [HL.out, HLN.out]; exact hlx)
              have hrm := HROW.out _ (List.getElem_mem HXL.out)
              obtain ⟨b1, o1, cp1, b2, o2, cp2, hv, x1, x2⟩ := (HRW.out.same hg.out).at HXL.out (j := y) (by rw [hrm]; exact hly)
              simp only [Value.slice.injEq] at hv
              obtain ⟨rfl, -, rfl⟩ := hv
              rw [hrm] at x1
              have c0 := hg.out.cell K0'.out (by simp)
              have c1 := hg.out.cell K1'.out (by simp)
              have HMD : Hid (MatD wk (.agg #[.slice a n c]) (.agg #[.slice b m k]) (.slice (some ⟨b1, o1, none⟩) l rc) sa sb rs) := Lib.hid (by
                have gg := grown_trans GG.out hg.out
                refine ⟨⟨_, rfl, HA.out.same gg⟩, ⟨_, rfl, HB.out.same gg⟩, HRW.out.same hg.out, by rw [HL.out, HN.out]; exact HLN.out, fun q hq => by rw [HM.out]; exact HROW.out q hq, HVA.out, HVB.out, by rw [HN.out]; omega, by rw [HM.out]; omega⟩)
              have HXA : Hid (x < sa.length) := Lib.hid (by rw [HN.out]; exact hlx)
              have HYB : Hid (y < sb.length) := Lib.hid (by rw [HM.out]; exact hly)
              clear hrm
              cases hat : atB (rs.map Prod.snd) x y with
              | false =>
                rw [hat] at x2
                have HNX : Hid (∀ u v, (u < x ∨ u = x ∧ v < y + 1) → v < m → atB (rs.map Prod.snd) u v = true → matchB (arcsOf (sa.map Prod.snd) u) (arcsOf (sb.map Prod.snd) v) (rs.map Prod.snd) = true) := Lib.hid (fun u v huv hv ht => by
                  by_cases e : u = x ∧ v = y
                  · obtain ⟨rfl, rfl⟩ := e; rw [hat] at ht; cases ht
                  · exact hdone.out u v (by omega) hv ht)
                clear hat c0 c1
                go_wp2_with fail
                go_roundw
                case rel => exact ⟨y + 1, by go_num, by omega, hg, HNX⟩
                case measure => simp [intOf]; omega
              | true =>
                rw [hat] at x2
                have HAT := Lib.hid hat
                clear hat
                go_wp2_with fail
                refine (matches_any (.agg #[.slice a n c]) (.agg #[.slice b m k]) (.slice (some ⟨b1, o1, none⟩) l rc) sa sb rs x y wk HMD.out HXA.out HYB.out).mono ?_
                rintro e w6 ⟨rfl, hg6⟩
                have HG6 := Lib.hid (grown_trans hg.out hg6)
                clear hg6 c0 c1 x1 x2
                cases hmt : matchB (arcsOf (sa.map Prod.snd) x) (arcsOf (sb.map Prod.snd) y) (rs.map Prod.snd) with
                | true =>
                  have HNX : Hid (∀ u v, (u < x ∨ u = x ∧ v < y + 1) → v < m → atB (rs.map Prod.snd) u v = true → matchB (arcsOf (sa.map Prod.snd) u) (arcsOf (sb.map Prod.snd) v) (rs.map Prod.snd) = true) := Lib.hid (fun u v huv hv ht => by
                    by_cases e : u = x ∧ v = y
                    · obtain ⟨rfl, rfl⟩ := e; exact hmt
                    · exact hdone.out u v (by omega) hv ht)
                  clear hmt
                  go_wp2_with fail
                  go_roundw
                  case rel => exact ⟨y + 1, by go_num, by omega, HG6, HNX⟩
                  case measure => simp [intOf]; omega
                | false =>
                  have HMT := Lib.hid hmt
                  clear hmt
                  go_wp2_with fail
                  go_ret
                  exact ⟨⟨41, rfl, .inr (.inl ⟨HF.out, rfl, x, y, by rw [HAM.out]; exact hlx, by rw [HBM.out]; exact hly, HAT.out, HMT.out⟩)⟩, grown_trans GG.out HG6.out⟩
            · have hyi : ¬ (y : Int) < (m : Int) := by omega
              have HNX : Hid (∀ u v, u < x + 1 → v < m → atB (rs.map Prod.snd) u v = true → matchB (arcsOf (sa.map Prod.snd) u) (arcsOf (sb.map Prod.snd) v) (rs.map Prod.snd) = true) := Lib.hid (fun u v hu hv => hdone.out u v (by omega) hv)
              go_wp2_with fail
              go_roundw
              case rel => exact ⟨x + 1, by go_num, by omega, hg, HNX⟩
              case measure => simp [intOf]; omega
        · have hxi : ¬ (x : Int) < (n : Int) := by omega
          have hl0 : (0 : Int) < (l : Int) := by have := HLI.out; omega
          have hm0 : (0 : Int) < (m : Int) := by omega
          have HXL : Hid (0 < rs.length) := Lib.hid (by have := HLN.out; rw [HL.out]; omega)
          have hrm := HROW.out _ (List.getElem_mem HXL.out)
          obtain ⟨b1, o1, cp1, b2, o2, cp2, hv, x1, x2⟩ := (HRW.out.same hg.out).at HXL.out (j := 0) (by rw [hrm]; omega)
          simp only [Value.slice.injEq] at hv
          obtain ⟨rfl, -, rfl⟩ := hv
          rw [hrm] at x1
          rw [Nat.add_zero] at x1 x2
          have HALL : Hid (∀ x y, x < (sa.map Prod.snd).length → y < (sb.map Prod.snd).length → atB (rs.map Prod.snd) x y = true → matchB (arcsOf (sa.map Prod.snd) x) (arcsOf (sb.map Prod.snd) y) (rs.map Prod.snd) = true) := Lib.hid (by
            rw [HAM.out, HBM.out]
            exact fun u v hu hv => hdone.out u v (by omega) hv)
          clear hrm
          cases hat : atB (rs.map Prod.snd) 0 0 with
          | true =>
            have HE : Hid ((0 : Int) = (if atB (rs.map Prod.snd) 0 0 = true then 0 else 42)) := Lib.hid (by rw [hat]; rfl)
            rw [hat] at x2
            clear hat
            go_wp2_with fail
            go_ret
            exact ⟨⟨0, rfl, .inr (.inr ⟨HF.out, HALL.out, HE.out⟩)⟩, grown_trans GG.out hg.out⟩
          | false =>
            have HE : Hid ((42 : Int) = (if atB (rs.map Prod.snd) 0 0 = true then 0 else 42)) := Lib.hid (by rw [hat]; rfl)
            rw [hat] at x2
            clear hat
            go_wp2_with fail
            go_ret
            exact ⟨⟨42, rfl, .inr (.inr ⟨HF.out, HALL.out, HE.out⟩)⟩, grown_trans GG.out hg.out⟩
  · have d1 : ((l : Int) != (n : Int)) = true := by rw [bne_iff_ne]; omega
    have HF : Hid (¬ fitB (sa.map Prod.snd) (sb.map Prod.snd) (rs.map Prod.snd)) := Lib.hid (fun hf => hln (by have := hf.1; rw [HSM.out, HAM.out] at this; exact this))
    clear hln
    go_wp2_with fail
    go_ret
    exact ⟨⟨46, rfl, .inl ⟨HF.out, rfl⟩⟩, GG.out⟩
end Go.Proofs.Ytelpkcndbcfaiaa
