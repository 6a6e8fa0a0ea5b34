/- Contracts of the reference of package priority: falling, Falling. -/
import Derived.Test.YtaenkbcclgpphaaPr
import Derived.Test.YtaenkbcclgpphaaXj
namespace Go.Proofs.Ytaenkbcclgpphaa
open Go.RowKit
set_option linter.unusedVariables false

/-- What begins with a letter, in the reference's list. -/
def fallY (rs : List Int) (m : Int) (F : Int → List (List Int)) (x : Nat) : List (List Int) :=
  if m < rs[x]?.getD 0 then [] else (F (rs[x]?.getD 0 - 1)).map (fun u => (x : Int) :: u)
def fallR (rs : List Int) : Nat → Int → List (List Int)
  | 0, _ => [[]]
  | f + 1, m => [] :: (List.range rs.length).flatMap (fallY rs m (fallR rs f))
def rawR (rs : List Int) (f : Nat) (m : Int) (k : Nat) : List (List Int) := [] :: (List.range k).flatMap (fallY rs m (fallR rs f))
theorem rawR_step (rs : List Int) (f : Nat) (m : Int) (k : Nat) : rawR rs f m (k + 1) = rawR rs f m k ++ fallY rs m (fallR rs f) k := by
  unfold rawR
  rw [List.range_succ, List.flatMap_append]; simp
def fallC : Nat → Nat
  | 0 => 1
  | f + 1 => 6 * fallC f + 1
theorem fallC_le : ∀ {f : Nat}, f ≤ 6 → fallC f ≤ 55987
  | 0, _ => by decide
  | 1, _ => by decide
  | 2, _ => by decide
  | 3, _ => by decide
  | 4, _ => by decide
  | 5, _ => by decide
  | 6, _ => by decide
theorem rawR_len {rs : List Int} {f : Nat} {m : Int} (h : ∀ m, (fallR rs f m).length ≤ fallC f) (k : Nat) : (rawR rs f m k).length ≤ k * fallC f + 1 := by
  induction k with
  | zero => simp [rawR]
  | succ k ih =>
    rw [rawR_step, List.length_append, Nat.succ_mul]
    have : (fallY rs m (fallR rs f) k).length ≤ fallC f := by
      unfold fallY
      split
      · simp
      · rw [List.length_map]; exact h _
    omega
theorem fallR_len {rs : List Int} (h6 : rs.length ≤ 6) : ∀ (f : Nat) (m : Int), (fallR rs f m).length ≤ fallC f
  | 0, m => by simp [fallR, fallC]
  | f + 1, m => by
    have h1 : (rawR rs f m rs.length).length ≤ _ := rawR_len (fun m => fallR_len h6 f m) rs.length
    have h2 : rs.length * fallC f ≤ 6 * fallC f := Nat.mul_le_mul_right _ h6
    show (rawR rs f m rs.length).length ≤ 6 * fallC f + 1
    omega
theorem mem_fallR {rs : List Int} : ∀ {f : Nat} {m : Int} {u : List Int}, u ∈ fallR rs f m ↔ u = [] ∨ u ∈ fallA rs f m
  | 0, m, u => by simp [fallR, fallA]
  | f + 1, m, u => by
    rw [show fallR rs (f + 1) m = [] :: (List.range rs.length).flatMap (fallY rs m (fallR rs f)) from rfl, List.mem_cons, List.mem_flatMap, mem_fallA]
    refine or_congr Iff.rfl ?_
    constructor
    · rintro ⟨x, hx, hu⟩
      rw [List.mem_range] at hx
      unfold fallY at hu
      split at hu
      · simp at hu
      · obtain ⟨v, hv, rfl⟩ := List.mem_map.1 hu
        exact ⟨x, hx, by omega, v, rfl, mem_fallR.1 hv⟩
    · rintro ⟨x, hx, hm, v, rfl, hv⟩
      refine ⟨x, List.mem_range.2 hx, ?_⟩
      unfold fallY
      rw [if_neg (by omega)]
      exact List.mem_map.2 ⟨v, mem_fallR.2 hv, rfl⟩
theorem fallR_el {rs : List Int} {f : Nat} {m : Int} {u : List Int} (h : u ∈ fallR rs f m) : u.length ≤ f := by
  rcases mem_fallR.1 h with rfl | h
  · exact Nat.zero_le _
  · exact (fallA_el rs f m u h).2.1
def capB : Nat := 60000
def LenOk (n k j : Nat) : Prop := n ≤ k * capB + 1 + j
theorem LenOk.le {n k j : Nat} (h : LenOk n k j) (hk : k ≤ 6) (hj : j ≤ 60000) : n ≤ 1000000 := by
  have h1 : k * capB ≤ 6 * capB := Nat.mul_le_mul_right _ hk
  have h2 : 6 * capB = 360000 := by decide
  unfold LenOk at h
  generalize k * capB = a at *
  omega
theorem LenOk.one {n k j : Nat} (h : LenOk n k j) : LenOk (n + 1) k (j + 1) := by
  unfold LenOk at *
  generalize k * capB = a at *
  omega
theorem LenOk.next {n k j : Nat} (h : LenOk n k j) (hj : j ≤ 60000) : LenOk n (k + 1) 0 := by
  have h1 : (k + 1) * capB = k * capB + capB := Nat.succ_mul _ _
  have h2 : capB = 60000 := by decide
  unfold LenOk at *
  rw [h1]
  generalize k * capB = a at *
  generalize capB = c at *
  subst h2
  omega
theorem LenOk.start : LenOk 1 0 0 := by unfold LenOk; omega
theorem row_nil (w : World) : RowOk w (.slice none 0 0, []) := (OwnI.nil w 0).row (by simp)

set_option maxRecDepth 100000 in
set_option maxHeartbeats 1500000 in
theorem rfalling_any : ∀ (f : Nat) (vr : Value) (rs : List Int) (m : Int) (w : World), Ints w vr rs → ranksB rs = true → (∀ r ∈ rs, r ≤ m → r < f) → f ≤ 6 →
    Calls Try.prog 72 #[vr, .int .i64 m] w (MadeF (fallR rs f m) w) := by
  intro f
  induction f with
  | zero =>
    intro vr rs m w hr hrb hm hf
    have HR := Lib.hid hr; have HRB := Lib.hid hrb
    obtain ⟨ar, cr, rfl, -, -, hrc⟩ := hr
    have h6 := (ranksB_le hrb).2.1
    have HM := Lib.hid hm
    clear hrb hm
    have O0 := Lib.hid (ownP_lit (w := w) (p := (.slice none 0 0, [])) (row_nil w))
    go_enter Try.func72, Try.ntmps72
    go_wp2_with fail
    go_loopw [5, 6] (fun v i wr => ∃ k : Nat, i = .int .i64 k ∧ k ≤ rs.length ∧ v = .slice (some ⟨w.heap.size, 0, none⟩) 1 1 ∧ Hid (wr = w.alloc (.cells #[.slice none 0 0] 22))) (fun _ i _ => rs.length - (intOf i).toNat)
    case atStart => exact ⟨0, rfl, Nat.zero_le _, rfl, Lib.hid rfl⟩
    case round =>
      obtain ⟨k, rfl, hk, rfl, hw⟩ := hrel
      rename World => wk
      by_cases hlt : k < rs.length
      · have g1 : (k : Int) < (rs.length : Int) := by omega
        obtain ⟨b, off, rfl, hx⟩ := Ints.at hrc hlt
        have hgt : m < rs[k]?.getD 0 := by
          have h1 := HM.out (rs[k]) (List.getElem_mem hlt)
          have h2 := (ranksB_le HRB.out).2.2 _ (List.getElem_mem hlt)
          simp only [List.getElem?_eq_getElem hlt, Option.getD_some]
          omega
        replace hx : wk.cell? ⟨b, off + k, none⟩ = some (.int .i64 (rs[k]?.getD 0)) := by rw [hw.out]; exact (World.grownBy_alloc w (.cells #[.slice none 0 0] 22) none).cell hx (by simp)
        clear hrc
        generalize rs[k]?.getD 0 = r at *
        have g2 : decide (m < r) = true := by simpa using hgt
        go_wp2_with fail
        go_roundw
        case rel => exact ⟨k + 1, by go_num, by omega, rfl, hw⟩
        case measure => simp [intOf]; omega
      · have g1 : ¬ (k : Int) < (rs.length : Int) := by omega
        clear hrc
        have hw' := hw.out
        subst hw'
        go_wp2_with fail
        go_ret
        exact ⟨.slice (some ⟨w.heap.size, 0, none⟩) 1 1, [(.slice none 0 0, [])], rfl, O0.out, rfl, World.grownBy_alloc _ _ none, by simp [Value.ownBlock]⟩
  | succ f ih =>
    intro vr rs m w hr hrb hm hf
    have HR := Lib.hid hr; have HRB := Lib.hid hrb; have IH := Lib.hid ih
    clear ih
    obtain ⟨ar, cr, rfl, -, -, hrc⟩ := hr
    have h6 := (ranksB_le hrb).2.1
    have HM := Lib.hid hm; have HRC := Lib.hid hrc
    have hf6 : f ≤ 6 := by omega
    have hC := fallC_le hf6
    clear hrb hm hrc
    have O0 := Lib.hid (ownP_lit (w := w) (p := (.slice none 0 0, [])) (row_nil w))
    go_enter Try.func72, Try.ntmps72
    go_wp2_with fail
    go_loopw [5, 6] (fun v i wr => ∃ (k : Nat) (ps : List Row), i = .int .i64 k ∧ k ≤ rs.length ∧ Hid (LenOk ps.length k 0) ∧ Hid (ps.map Prod.snd = rawR rs f m k) ∧ Hid (OwnP wr w.heap.size v ps) ∧ Hid (∀ p ∈ ps, ∀ g, p.1.ownBlock = some g → w.heap.size ≤ g) ∧ Hid (w.grownBy wr none)) (fun _ i _ => rs.length - (intOf i).toNat)
    case atStart => exact ⟨0, [(.slice none 0 0, [])], rfl, Nat.zero_le _, Lib.hid LenOk.start, Lib.hid (by simp [rawR]), O0, Lib.hid (by simp [Value.ownBlock]), Lib.hid (World.grownBy_alloc _ _ none)⟩
    case round =>
      obtain ⟨k, ps, rfl, hk, hpl0, hmm, ho, hfr, hg⟩ := hrel
      have hpl : ps.length ≤ 1000000 := hpl0.out.le (by omega) (by omega)
      rename World => wk
      rename Value => vo
      obtain ⟨ao, co, rfl⟩ := ho.out.slice
      by_cases hlt : k < rs.length
      · have g1 : (k : Int) < (rs.length : Int) := by omega
        obtain ⟨b, off, rfl, hx⟩ := Ints.at HRC.out hlt
        replace hx := hg.out.cell hx (by simp)
        have hrk := rank_at HRB.out hlt
        have HST := Lib.hid (rawR_step rs f m k)
        have HF : Hid (fallY rs m (fallR rs f) k = if m < rs[k]?.getD 0 then [] else (fallR rs f (rs[k]?.getD 0 - 1)).map (fun u => (k : Int) :: u)) := Lib.hid rfl
        have HM2 : Hid (rs[k]?.getD 0 ≤ m → ∀ r ∈ rs, r ≤ rs[k]?.getD 0 - 1 → r < f) := Lib.hid (fun h r hr h2 => by
          have h3 := HM.out (rs[k]?.getD 0) (by simp [hlt]) h
          omega)
        generalize rs[k]?.getD 0 = r at *
        by_cases hgt : m < r
        · have g2 : decide (m < r) = true := by simpa using hgt
          go_wp2_with fail
          go_roundw
          case rel => exact ⟨k + 1, ps, by go_num, by omega, Lib.hid (hpl0.out.next (by omega)), Lib.hid (by rw [HST.out, HF.out, if_pos hgt, List.append_nil]; exact hmm.out), ho, hfr, hg⟩
          case measure => simp [intOf]; omega
        · have g2 : decide (m < r) = false := by simpa using hgt
          have i5 : IntKind.i64.wrap (r - 1) = r - 1 := IntWalk.i64_in _ (by omega)
          have HF2 : Hid (rawR rs f m (k + 1) = rawR rs f m k ++ (fallR rs f (r - 1)).map (fun u => (k : Int) :: u)) := Lib.hid (by rw [HST.out, HF.out, if_neg hgt])
          have HM3 := Lib.hid (HM2.out (by omega))
          obtain ⟨bo, hbo⟩ : ∃ bo, bo = Value.ownBlock (.slice ao ps.length co) := ⟨_, rfl⟩
          have HBO := Lib.hid hbo
          clear hbo
          have B3 : Hid (∀ g, bo = some g → w.heap.size ≤ g ∧ g < wk.heap.size) := Lib.hid (fun g h => ho.out.fresh g (by rw [← HBO.out]; exact h))
          go_wp2_with fail
          refine (IH.out _ rs (r - 1) _ (HR.out.same hg.out) HRB.out HM3.out hf6).mono ?_
          rintro e w4 ⟨v9, q9, rfl, ho9, hm9, hg9, hf9⟩
          have O9 := Lib.hid ho9; have M9 := Lib.hid hm9; have F9 := Lib.hid hf9
          have O4 := Lib.hid (ho.out.same hg9)
          have G4 := Lib.hid (grown_trans hg.out hg9)
          have hs34 := hg9.size
          have hq9 : q9.length ≤ 55987 := by
            have e1 := congrArg List.length hm9
            have e2 := fallR_len h6 f (r - 1)
            rw [List.length_map] at e1
            omega
          clear ho9 hm9 hg9 hf9
          obtain ⟨a9, c9, rfl⟩ := O9.out.slice
          go_wp2_with fail
          go_loopw [5, 8] (fun v i wr => ∃ (j : Nat) (pj : List Row), i = .int .i64 j ∧ j ≤ q9.length ∧ Hid (LenOk pj.length k j) ∧ Hid (pj.map Prod.snd = rawR rs f m k ++ ((q9.take j).map Prod.snd).map (fun u => (k : Int) :: u)) ∧ Hid (OwnP wr w.heap.size v pj) ∧ Hid (∀ p ∈ pj, ∀ g, p.1.ownBlock = some g → w.heap.size ≤ g) ∧ Hid (w4.grownBy wr bo) ∧ Hid (∀ g, v.ownBlock = some g → w4.heap.size ≤ g ∨ bo = some g)) (fun _ i _ => q9.length - (intOf i).toNat)
          case atStart => exact ⟨0, ps, rfl, Nat.zero_le _, hpl0, Lib.hid (by simpa using hmm.out), O4, hfr, Lib.hid (grown_refl _ _), Lib.hid (fun g h => .inr (by rw [HBO.out]; exact h))⟩
          case round =>
            obtain ⟨j, pj, rfl, hj, hpj0, hmj, hoj, hfj, hgj, hbj⟩ := hrel
            have hpj : pj.length ≤ 1000000 := hpj0.out.le (by omega) (by omega)
            rename World => wi
            rename Value => vi
            obtain ⟨ai, ci, rfl⟩ := hoj.out.slice
            have GI : Hid (w.grownBy wi none) := Lib.hid (grown_then G4.out hgj.out (fun g h => .inl (B3.out g h).1))
            by_cases hlj : j < q9.length
            · have k1 : (j : Int) < (q9.length : Int) := by omega
              have R9 := O9.out.rows.keptR hgj.out (fun g h1 h2 => by have := (B3.out g h1).2; have := (O9.out.fresh g h2).1; omega) (fun g h1 p hp h2 => by have := (B3.out g h1).2; have := F9.out p hp g h2; omega)
              obtain ⟨_, _, hv, _, hc, hrow⟩ := R9
              simp only [Value.slice.injEq] at hv
              obtain ⟨rfl, -, -⟩ := hv
              obtain ⟨b9, o9, rfl, hx9⟩ := RowsP.at hc hlj
              have R1 := Lib.hid (hrow _ (List.getElem_mem hlj))
              have hrl : (q9[j]).2.length ≤ f := fallR_el (m := r - 1) (by rw [← M9.out]; exact List.mem_map.2 ⟨_, List.getElem_mem hlj, rfl⟩)
              have HT := Lib.hid (headed_take (k : Int) q9 j hlj)
              clear hc hrow
              generalize q9[j] = p at *
              obtain ⟨pv, px⟩ := p
              dsimp only at hx9 hrl
              obtain ⟨⟨aq, cq, hvq, -⟩, -⟩ := R1.out
              dsimp only at hvq
              subst hvq
              have hl1 : ([(k : Int)] : List Int).length + px.length ≤ 1000000000000 := by simp; omega
              have hpj9 : pj.length ≤ 1000000000000 := by omega
              replace hx9 : (wi.alloc (.cells #[.int .i64 (k : Int)] 3)).cell? _ = _ := (World.grownBy_alloc wi (.cells #[.int .i64 (k : Int)] 3) none).cell hx9 (by simp)
              go_wp2_with (at_builtin; refine app_ints rfl (.tmp 37) (.tmp 41) rfl wi.heap.size (.slice (some ⟨wi.heap.size, 0, none⟩) 1 1) [(k : Int)] (by kernel_rfl) (ownI_lit wi wi.heap.size (k : Int) (Nat.le_refl _)) (.slice aq px.length cq) px (by kernel_rfl) (R1.out.same (World.grownBy_alloc _ _ none)).1 R1.out.2.1 hl1 (World.grownBy_alloc _ _ none).size ?_)
              intro v6 w6 ho6 hg6
              have G6 : Hid (wi.grownBy w6 none) := Lib.hid (grown_then (World.grownBy_alloc _ _ none) hg6 (fun g h => by simp only [Value.ownBlock, Option.some.injEq] at h; exact .inl (by omega)))
              obtain ⟨a6, c6, rfl⟩ := ownI_open' ho6
              have F6 := Lib.hid (made_far (w1 := wi) hoj.out (Nat.le_refl _) ho6)
              have R6 := Lib.hid (ho6.row (fun z hz => by
                rcases List.mem_cons.1 hz with hz | hz
                · rw [hz]; omega
                · exact R1.out.bdd' z hz))
              have N6 : Hid (∀ g, Value.ownBlock (.slice a6 ([(k : Int)] ++ px).length c6) = some g → w.heap.size ≤ g) := Lib.hid (fun g h => Nat.le_trans GI.out.size (ho6.fresh g h).1)
              clear ho6 hg6
              go_wp2_with (at_builtin; refine app_row_at rfl (.tmp 35) (.tmp 43) rfl w.heap.size (.slice ai pj.length ci) pj (by kernel_rfl) (hoj.out.same (grown_after G6.out)) w6.heap.size (.slice a6 ([(k : Int)] ++ px).length c6, [(k : Int)] ++ px) (by kernel_rfl) (cell_new rfl) (R6.out.same (World.grownBy_alloc _ _ none)) F6.out hpj9 (grown_after (grown_trans GI.out G6.out)).size ?_)
              intro a7 n7 c7 w7 hn7 ho7 hg7 hat7
              have O7 := Lib.hid ho7
              have G7 : Hid (w4.grownBy w7 bo) := Lib.hid (grown_then (grown_then hgj.out (grown_after G6.out) (by simp)) hg7 (fun g h => hbj.out g h))
              have F7 : Hid (∀ p ∈ pj ++ [(Value.slice a6 ([(k : Int)] ++ px).length c6, [(k : Int)] ++ px)], ∀ g, p.1.ownBlock = some g → w.heap.size ≤ g) := Lib.hid (by
                intro p hp g hg'
                rcases List.mem_append.1 hp with h | h
                · exact hfj.out p h g hg'
                · rw [List.mem_singleton.1 h] at hg'; exact N6.out g hg')
              have B7 : Hid (∀ g, Value.ownBlock (.slice a7 n7 c7) = some g → w4.heap.size ≤ g ∨ bo = some g) := Lib.hid (fun g h => by
                rcases hat7 g h with h1 | h1
                · exact hbj.out g h1
                · refine .inl ?_
                  have := hgj.out.size; have := G6.out.size; omega)
              clear ho7 hg7 hat7 hn7
              go_wp2_with fail
              go_roundw
              case rel => exact ⟨j + 1, _, by go_num, by omega, Lib.hid (by rw [List.length_append]; exact hpj0.out.one), Lib.hid (by rw [List.map_append, hmj.out, HT.out]; simp), O7, F7, G7, B7⟩
              case measure => simp [intOf]; omega
            · have k1 : ¬ (j : Int) < (q9.length : Int) := by omega
              have HE : Hid (pj.map Prod.snd = rawR rs f m (k + 1)) := Lib.hid (by rw [hmj.out, HF2.out, List.take_of_length_le (by omega), M9.out])
              go_wp2_with fail
              go_roundw
              case rel => exact ⟨k + 1, pj, by go_num, by omega, Lib.hid (hpj0.out.next (by omega)), HE, hoj, hfj, GI⟩
              case measure => simp [intOf]; omega
      · have g1 : ¬ (k : Int) < (rs.length : Int) := by omega
        have hkl : k = rs.length := by omega
        have HKL := Lib.hid hkl
        clear hkl
        go_wp2_with fail
        go_ret
        exact ⟨_, ps, rfl, ho.out, by rw [hmm.out, HKL.out]; rfl, hg.out, hfr.out⟩

def neL (l : List (List Int)) : List (List Int) := l.filter (fun u => decide (0 < u.length))
theorem neL_snoc (l : List (List Int)) (x : List Int) : neL (l ++ [x]) = if 0 < x.length then neL l ++ [x] else neL l := by
  unfold neL
  rw [List.filter_append]
  by_cases h : 0 < x.length
  · rw [if_pos h, List.filter_cons, if_pos (by simpa using h)]; rfl
  · rw [if_neg h, List.filter_cons, if_neg (by simpa using h)]; simp
theorem ascL_snoc (l : List (List Int)) (x : List Int) : ascL (l ++ [x]) = putL (ascL l) x := by simp [ascL, List.foldl_append]
theorem fallA_min {rs : List Int} (h : ranksB rs = true) {m m' : Int} (hm : ∀ r : Int, r < 6 → (r ≤ m ↔ r ≤ m')) (f : Nat) : fallA rs f m = fallA rs f m' := by
  cases f with
  | zero => rfl
  | succ f =>
    refine asc_unique _ _ (fallA_asc _ _ _) (fallA_asc _ _ _) fun u => ?_
    rw [mem_fallA, mem_fallA]
    refine exists_congr fun x => and_congr_right fun hx => ?_
    rw [hm _ (rank_at h hx).2]
theorem fall_all (rs : List Int) (f : Nat) (m : Int) : ascL (neL (fallR rs f m)) = fallA rs f m := by
  refine asc_unique _ _ (ascL_asc _) (fallA_asc _ _ _) fun u => ?_
  rw [ascL_mem]
  unfold neL
  rw [List.mem_filter, mem_fallR, decide_eq_true_eq]
  constructor
  · rintro ⟨rfl | h, h1⟩
    · simp at h1
    · exact h
  · intro h
    exact ⟨.inr h, List.length_pos_iff.2 (fallA_el rs f m u h).1⟩

set_option maxRecDepth 100000 in
set_option maxHeartbeats 1000000 in
theorem rFalling_any (vr : Value) (rs : List Int) (m : Int) (w : World) (hr : Ints w vr rs) (hrb : ranksB rs = true) :
    Calls Try.prog 47 #[vr, .int .i64 m] w (GotPE (fallA rs 6 m) 0 w) := by
  have HR := Lib.hid hr; have HRB := Lib.hid hrb
  have HM : Hid (∀ mm : Int, ∀ r ∈ rs, r ≤ mm → r < ((6 : Nat) : Int)) := Lib.hid (fun mm r h _ => by have := ((ranksB_le hrb).2.2 r h); omega)
  have h6 := (ranksB_le hrb).2.1
  clear hr hrb
  go_enter Try.func47, Try.ntmps47
  go_wp2_with fail
  refine (rranks_any _ _ _ HR.out).mono ?_; rintro e w' ⟨rfl, rfl⟩
  rw [HRB.out]
  go_wp2_with fail
  refine (rfalling_any 6 _ rs (min m 6) _ HR.out HRB.out (HM.out _) (by omega)).mono ?_
  rintro e w4 ⟨v9, q9, rfl, ho9, hm9, hg9, -⟩
  have O9 := Lib.hid ho9.rows; have M9 := Lib.hid hm9; have G9 := Lib.hid hg9
  have hq9 : q9.length ≤ 55987 := by
    have e1 := congrArg List.length hm9
    have e2 := fallR_len h6 6 (min m 6)
    have e3 : fallC 6 = 55987 := by decide
    rw [List.length_map] at e1
    omega
  obtain ⟨a9, c9, rfl⟩ := ho9.slice
  clear ho9 hm9 hg9
  go_wp2_with fail
  go_loopw [7, 8] (fun v i wr => ∃ (k : Nat) (ps : List Row), i = .int .i64 k ∧ k ≤ q9.length ∧ ps.length ≤ k ∧ Hid (ps.map Prod.snd = ascL (neL ((q9.take k).map Prod.snd))) ∧ Hid (RowsP wr v ps) ∧ Hid (Good v) ∧ Hid (w4.grownBy wr none)) (fun _ i _ => q9.length - (intOf i).toNat)
  case atStart => exact ⟨0, [], rfl, Nat.zero_le _, Nat.zero_le _, Lib.hid (by simp [ascL, neL]), Lib.hid ⟨none, 0, rfl, Nat.zero_le _, .inl rfl, by simp⟩, Lib.hid Good.nil, Lib.hid (grown_refl _ _)⟩
  case round =>
    obtain ⟨k, ps, rfl, hk, hlp, hm, hr, hgd, hg⟩ := hrel
    rename World => wk
    by_cases hlt : k < q9.length
    · have g1 : (k : Int) < (q9.length : Int) := by omega
      obtain ⟨_, _, hv, _, hc, hrow⟩ := O9.out.same hg.out
      simp only [Value.slice.injEq] at hv
      obtain ⟨rfl, -, -⟩ := hv
      obtain ⟨b9, o9, rfl, hx9⟩ := RowsP.at hc hlt
      have R1 := Lib.hid (hrow _ (List.getElem_mem hlt))
      have hrl : (q9[k]).2.length ≤ 6 := fallR_el (m := min m 6) (by rw [← M9.out]; exact List.mem_map.2 ⟨_, List.getElem_mem hlt, rfl⟩)
      have HT : Hid (neL ((q9.take (k + 1)).map Prod.snd) = if 0 < (q9[k]).2.length then neL ((q9.take k).map Prod.snd) ++ [(q9[k]).2] else neL ((q9.take k).map Prod.snd)) := Lib.hid (by rw [snd_take q9 k hlt, neL_snoc])
      clear hc hrow
      generalize q9[k] = p at *
      obtain ⟨pv, px⟩ := p
      dsimp only at hx9 hrl HT
      obtain ⟨⟨aq, cq, hvq, -⟩, -⟩ := R1.out
      dsimp only at hvq
      subst hvq
      by_cases hz : px.length = 0
      · have z1 : ¬ (0 : Int) < (px.length : Int) := by omega
        have HT2 : Hid (neL ((q9.take (k + 1)).map Prod.snd) = neL ((q9.take k).map Prod.snd)) := Lib.hid (by rw [HT.out, if_neg (by omega)])
        clear hz
        go_wp2_with fail
        go_roundw
        case rel => exact ⟨k + 1, ps, by go_num, by omega, by omega, Lib.hid (by rw [HT2.out]; exact hm.out), hr, hgd, hg⟩
        case measure => simp [intOf]; omega
      · have z1 : (0 : Int) < (px.length : Int) := by omega
        have HT2 : Hid (neL ((q9.take (k + 1)).map Prod.snd) = neL ((q9.take k).map Prod.snd) ++ [px]) := Lib.hid (by rw [HT.out, if_pos (by omega)])
        clear hz
        go_wp2_with fail
        refine (put_any _ _ ps px _ hr.out hgd.out R1.out (by omega) (by omega)).mono ?_
        rintro e w5 ⟨v5, p5, rfl, hr5, hgd5, hm5, hg5⟩
        have P5 := Lib.hid hr5; have D5 := Lib.hid hgd5; have M5 := Lib.hid hm5; have G5 := Lib.hid (grown_trans hg.out hg5)
        have hl5 : p5.length ≤ k + 1 := by
          have e1 := congrArg List.length (hm5.trans (by rw [hm.out, ← ascL_snoc]))
          rw [List.length_map] at e1
          have e2 := ascL_len (neL ((q9.take k).map Prod.snd) ++ [px])
          have e3 : (neL ((q9.take k).map Prod.snd)).length ≤ k := Nat.le_trans (List.length_filter_le _ _) (by rw [List.length_map, List.length_take]; omega)
          rw [List.length_append, List.length_singleton] at e2
          omega
        clear hr5 hgd5 hm5 hg5
        go_wp2_with fail
        go_roundw
        case rel => exact ⟨k + 1, p5, by go_num, by omega, hl5, Lib.hid (by rw [M5.out, hm.out, HT2.out, ascL_snoc]), P5, D5, G5⟩
        case measure => simp [intOf]; omega
    · have g1 : ¬ (k : Int) < (q9.length : Int) := by omega
      have HE : Hid (ps.map Prod.snd = fallA rs 6 m) := Lib.hid (by
        rw [hm.out, List.take_of_length_le (by omega), M9.out, fall_all]
        exact fallA_min HRB.out (fun r hr => by omega) 6)
      go_wp2_with fail
      go_ret2
      exact ⟨_, ps, rfl, hr.out, HE.out, grown_trans G9.out hg.out⟩

theorem rFalling_bad (vr : Value) (rs : List Int) (m : Int) (w : World) (hr : Ints w vr rs) (hrb : ranksB rs = false) :
    Calls Try.prog 47 #[vr, .int .i64 m] w fun e w' => e = .returned (.tuple #[.slice none 0 0, .int .i64 2]) ∧ w' = w := by
  have HR := Lib.hid hr; have HRB := Lib.hid hrb
  clear hr hrb
  go_enter Try.func47, Try.ntmps47
  go_wp2_with fail
  refine (rranks_any _ _ _ HR.out).mono ?_; rintro e w' ⟨rfl, rfl⟩
  rw [HRB.out]
  go_wp2_with fail
  go_ret2
  exact ⟨rfl, rfl⟩

end Go.Proofs.Ytaenkbcclgpphaa
