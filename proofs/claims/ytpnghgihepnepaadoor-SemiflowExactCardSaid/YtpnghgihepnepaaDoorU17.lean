/- Texts Dc, Dd in one. -/
import Derived.Test.YtpnghgihepnepaaDoorU16
namespace Go.Proofs.YtpnghgihepnepaaDoor
open Go.RowKit
set_option linter.unusedVariables false

theorem at_bit {C : List (List Int)} {c s : Nat} {y : List Int} (h : FlowAt C c (bitB s) y) {k : Nat} (hk : k < C.length) : bitB s k = decide (0 < y[k]?.getD 0) := by
  cases e : bitB s k with
  | true => have := h.on k hk e; simp [this]
  | false => have := h.out k hk e; simp [this]
/-- A list of all minimal semiflows with supports below N. -/
structure OfL (C : List (List Int)) (c N : Nat) (fs : List (List Int)) : Prop where
  all : ∀ y ∈ fs, ∃ s, 1 ≤ s ∧ s < N ∧ FlowAt C c (bitB s) y ∧ ∀ x ∈ y, 0 ≤ x ∧ x ≤ 12079595520
  got : ∀ s, 1 ≤ s → s < N → ∀ y, FlowAt C c (bitB s) y → y ∈ fs
  nodup : fs.Nodup
theorem OfL.start (C : List (List Int)) (c : Nat) : OfL C c 1 [] := ⟨by simp, fun s h1 h2 => by omega, List.nodup_nil⟩
theorem OfL.skip {C : List (List Int)} {c s : Nat} {fs : List (List Int)} (h : OfL C c s fs) (hn : ∀ y, ¬ FlowAt C c (bitB s) y) : OfL C c (s + 1) fs :=
  ⟨fun y hy => by obtain ⟨t, h1, h2, h3⟩ := h.all y hy; exact ⟨t, h1, by omega, h3⟩, fun t h1 h2 y hy => by
    by_cases e : t = s
    · subst e; exact absurd hy (hn y)
    · exact h.got t h1 (by omega) y hy, h.nodup⟩
theorem OfL.more {C : List (List Int)} {c s n : Nat} {fs : List (List Int)} {y : List Int} (h : OfL C c s fs) (hC : C.length = n) (h6 : n < 7) (h1 : 1 ≤ s) (hs : s < 64) (hsn : s < 2 ^ n) (hy : FlowAt C c (bitB s) y) (hb : ∀ x ∈ y, 0 ≤ x ∧ x ≤ 12079595520) : OfL C c (s + 1) (fs ++ [y]) := by
  refine ⟨fun z hz => ?_, fun t h2 h3 z hz => ?_, ?_⟩
  · rcases List.mem_append.1 hz with hz | hz
    · obtain ⟨t, h1, h2, h3⟩ := h.all z hz; exact ⟨t, h1, by omega, h3⟩
    · rw [List.mem_singleton.1 hz]; exact ⟨s, h1, by omega, hy, hb⟩
  · by_cases e : t = s
    · subst e; rw [hz.uniq hy]; simp
    · exact List.mem_append_left _ (h.got t h2 (by omega) z hz)
  · rw [List.nodup_append]
    refine ⟨h.nodup, by simp, fun a ha b hb' e => ?_⟩
    rw [List.mem_singleton.1 hb'] at e
    subst e
    obtain ⟨t, h2, h3, h4, -⟩ := h.all a ha
    have := bit_same (n := n) h6 (s := t) (t := s) (by omega) (by omega) hs hsn (fun k hk => by rw [at_bit h4 (by omega), at_bit hy (by omega)])
    omega
/-- A list of rows that lies in blocks that are not older than base. -/
def FarO (base : Nat) (v : Value) (ps : List Row) : Prop := (∀ g, v.ownBlock = some g → base ≤ g) ∧ ∀ p ∈ ps, ∀ g, p.1.ownBlock = some g → base ≤ g
theorem RowsP.far {w w' : World} {base k : Nat} {v : Value} {ps : List Row} (h : RowsP w v ps) (hf : FarO base v ps) (hk : k < base) (g : w.grownBy w' (some k)) : RowsP w' v ps := by
  have hr := hf.2
  have hv := hf.1
  obtain ⟨a, cap, rfl, hl, hc, hp⟩ := h
  refine ⟨a, cap, rfl, hl, ?_, fun p hp' => (hp p hp').kept g (fun j hj e => by cases hj; have := hr p hp' _ e; omega)⟩
  rcases hc with hc | ⟨b, off, rfl, hc⟩
  · exact .inl hc
  · exact .inr ⟨b, off, rfl, fun i hi => g.cell (hc i hi) (by intro e; simp only [Option.some.injEq] at e; have := hv b rfl; omega)⟩
def OfTo (C : List (List Int)) (c n : Nat) (w : World) (e : Ending) (w' : World) : Prop := ∃ v fs, e = .returned (.tuple #[v, .int .i64 0]) ∧ RowsP w' v fs ∧ OfL C c (2 ^ n) (fs.map Prod.snd) ∧ (fs.map Prod.snd).Pairwise (fun a b => compareI a b ≤ 0) ∧ w.grownBy w' none
def OfFar (C : List (List Int)) (c n : Nat) (w : World) (e : Ending) (w' : World) : Prop := ∃ v fs, e = .returned (.tuple #[v, .int .i64 0]) ∧ RowsP w' v fs ∧ FarO w.heap.size v fs ∧ OfL C c (2 ^ n) (fs.map Prod.snd) ∧ (fs.map Prod.snd).Pairwise (fun a b => compareI a b ≤ 0) ∧ w.grownBy w' none
def OfFar2 (C : List (List Int)) (c n : Nat) (w : World) (e : Ending) (w' : World) : Prop := ∃ v fs, e = .returned (.tuple #[v, .int .i64 0]) ∧ RowsP w' v fs ∧ FarO w.heap.size v fs ∧ fs.length ≤ 64 ∧ OfL C c (2 ^ n) (fs.map Prod.snd) ∧ (fs.map Prod.snd).Pairwise (fun a b => compareI a b ≤ 0) ∧ w.grownBy w' none
theorem pow_6 : ∀ n : Nat, n < 7 → 1 ≤ 2 ^ n ∧ 2 ^ n ≤ 64 := by decide
set_option maxRecDepth 100000 in
set_option maxHeartbeats 2000000 in
theorem of_far2 {w : World} {v : Value} {ps : List Row} {r c : Nat} (h : RowsP w v ps) (hm : MatOkP r c ps) (h6 : r ≤ 6) (hT : TabW w) :
    Calls Tryd.prog 14 #[v] w (OfFar2 (ps.map Prod.snd) c r w) := by
  have H := Lib.hid h; have HM := Lib.hid hm; have HT := Lib.hid hT
  have HPL := Lib.hid hm.1
  obtain ⟨a, cap, rfl, -⟩ : ∃ a cap, v = .slice a ps.length cap ∧ True := by obtain ⟨a, cap, h, -⟩ := h; exact ⟨a, cap, h, trivial⟩
  have hp6 : ps.length ≤ 6 := by have := hm.1; omega
  have hpw := pow_6 ps.length (by omega)
  obtain ⟨N, hN⟩ : ∃ N, N = 2 ^ ps.length := ⟨_, rfl⟩
  have HN := Lib.hid hN
  rw [← hN] at hpw
  have iN : IntKind.u64.wrap (2 ^ ps.length) = (N : Int) := by
    rw [IntKind.wrap_u64]
    have : ((2 : Int) ^ ps.length) = (N : Int) := by rw [hN]; simp
    omega
  obtain ⟨C, hC⟩ : ∃ C, C = ps.map Prod.snd := ⟨_, rfl⟩
  have HC := Lib.hid hC
  have HCL : Hid (C.length = ps.length) := Lib.hid (by rw [hC, List.length_map])
  have HNR : Hid (2 ^ r = N) := Lib.hid (by rw [hN, hm.1])
  rw [← hC]
  clear h hT hN hC hm
  have HG0 := Lib.hid (grown_refl w none)
  go_enter Tryd.func14, Tryd.ntmps14
  go_wp2_with fail
  refine (scheck_any H.out HM.out (by have := HM.out.1; omega)).mono ?_
  rintro e w' ⟨rfl, hw⟩
  subst hw
  go_wp2_with fail
  go_loopw [6, 5] (fun i o wr => ∃ s : Nat, i = .int .u64 s ∧ 1 ≤ s ∧ s ≤ N ∧ Hid (∃ fs : List Row, OwnP wr w'.heap.size o fs ∧ OfL C c s (fs.map Prod.snd) ∧ (∀ p ∈ fs, p.2.length = ps.length ∧ ∀ g, p.1.ownBlock = some g → w'.heap.size ≤ g) ∧ (fs = [] → o = .slice none 0 0) ∧ fs.length < s) ∧ Hid (w'.grownBy wr none)) (fun i _ _ => N - (intOf i).toNat)
  case atStart => exact ⟨1, rfl, Nat.le_refl _, by omega, Lib.hid ⟨[], OwnP.nil _ _, OfL.start C c, by simp, fun _ => rfl, by simp⟩, HG0⟩
  case round =>
    clear HG0
    obtain ⟨s, rfl, hs1, hsN, HF, HG⟩ := hrel
    rename World => wk
    have i1 : IntKind.u64.wrap ((s : Int) + 1) = (s : Int) + 1 := by rw [IntKind.wrap_u64]; omega
    by_cases hlt : s < N
    · have h1 : (s : Int) < (N : Int) := by omega
      go_wp2_with fail
      refine (with_any (H.out.same HG.out) HM.out (by have := HM.out.1; have := HPL.out; omega) s hs1 (by rw [HNR.out]; exact hlt) (by omega) (HT.out.same HG.out)).mono ?_
      rintro e w1 ⟨hg, hcase⟩
      rw [← HC.out] at hcase
      obtain ⟨fs, hO, hL, hW, hE, hS⟩ := HF.out
      have HO := Lib.hid hO; have HL := Lib.hid hL; have HWD := Lib.hid hW
      have HZ : Hid (w'.heap.size ≤ wk.heap.size) := Lib.hid HG.out.size
      replace HG := Lib.hid (grown_trans HG.out hg)
      rcases hcase with ⟨y, v', rfl, ho, hat, hb⟩ | ⟨rfl, hno⟩
      · have HAT := Lib.hid hat; have HYB := Lib.hid hb; have HY := Lib.hid ho
        have HO1 := Lib.hid (HO.out.same hg)
        have hyl : y.length = ps.length := by rw [hat.flow.1, HCL.out]
        obtain ⟨ay, cy, rfl⟩ := ownI_sl' ho
        have HYL := Lib.hid hyl
        have HYR : Hid (RowOk w1 (.slice ay ps.length cy, y)) := Lib.hid (by have := ho.row (fun x hx => by have := hb x hx; omega); rw [hyl] at this; exact this)
        have HYF : Hid (∀ g, (Value.slice ay ps.length cy).ownBlock = some g → wk.heap.size ≤ g) := Lib.hid (fun g hg => by rw [hyl] at ho; exact (ho.fresh g hg).1)
        have HFL : Hid (fs.length ≤ 64 ) := Lib.hid (by omega)
        have HFS := Lib.hid hS
        rw [hyl]
        clear hO hL hW hE hS ho hat hb hyl HF hg
        go_wp2_with (at_builtin; refine app_row rfl _ _ rfl w'.heap.size _ fs rfl (HO1.out.same (World.grownBy_alloc _ _ none)) w1.heap.size (.slice ay ps.length cy, y) rfl (cell_new rfl) (HYR.out.same (World.grownBy_alloc _ _ none)) (fun g hg e => by have := HYF.out g hg; have := (HO.out.fresh g e).2; omega) (by have := HFL.out; omega) (Nat.le_trans HG.out.size (World.grownBy_alloc _ _ none).size) ?_)
        intro v9 w9 ho9 hg9
        have HG9 := Lib.hid (grown_then (grown_after HG.out) hg9 (fun j hj => .inl (HO1.out.fresh j hj).1))
        have HF9 : Hid (∃ fs : List Row, OwnP w9 w'.heap.size v9 fs ∧ OfL C c (s + 1) (fs.map Prod.snd) ∧ (∀ p ∈ fs, p.2.length = ps.length ∧ ∀ g, p.1.ownBlock = some g → w'.heap.size ≤ g) ∧ (fs = [] → v9 = .slice none 0 0) ∧ fs.length < s + 1) := Lib.hid ⟨_, ho9, by
          rw [List.map_append]
          exact HL.out.more HCL.out (by omega) hs1 (by omega) (by rw [← HN.out]; exact hlt) HAT.out HYB.out, fun p hp => by
          rcases List.mem_append.1 hp with hp | hp
          · exact HWD.out p hp
          · rw [List.mem_singleton.1 hp]; exact ⟨HYL.out, fun g hg => Nat.le_trans HZ.out (HYF.out g hg)⟩, fun e => by simp at e, by have := HFS.out; simp; omega⟩
        clear ho9 hg9
        go_wp2_with fail
        go_roundw
        case rel => exact ⟨s + 1, by go_num, by omega, by omega, HF9, HG9⟩
        case measure => simp [intOf]; omega
      · have HF9 : Hid (∃ fs : List Row, OwnP w1 w'.heap.size u5 fs ∧ OfL C c (s + 1) (fs.map Prod.snd) ∧ (∀ p ∈ fs, p.2.length = ps.length ∧ ∀ g, p.1.ownBlock = some g → w'.heap.size ≤ g) ∧ (fs = [] → u5 = .slice none 0 0) ∧ fs.length < s + 1) := Lib.hid ⟨fs, hO.same hg, hL.skip hno, hW, hE, by omega⟩
        clear hO hL hW hE hS hno HF hg
        go_wp2_with fail
        go_roundw
        case rel => exact ⟨s + 1, by go_num, by omega, by omega, HF9, HG⟩
        case measure => simp [intOf]; omega
    · obtain rfl : s = N := by omega
      have h1 : ¬ (s : Int) < (s : Int) := by omega
      obtain ⟨fs, hO, hL, hW, hE, hS⟩ := HF.out
      by_cases h0 : fs = []
      · have := hE h0
        subst this
        subst h0
        have HO := Lib.hid hO; have HL := Lib.hid hL
        clear hO hL hW hE hS HF
        go_wp2_with fail
        refine (sort_none _ _ _ _).mono ?_
        rintro e w1 ⟨rfl, hw⟩
        subst hw
        go_wp2_with fail
        go_ret2
        exact ⟨_, [], rfl, HO.out.rows, ⟨by intro g hg; simp [Value.ownBlock] at hg, by simp⟩, by simp, by rw [HNR.out]; exact HL.out, List.Pairwise.nil, HG.out⟩
      · have HO := Lib.hid hO; have HL := Lib.hid hL; have HWD := Lib.hid hW; have HNE := Lib.hid h0
        have HFL : Hid (fs.length ≤ 1000000000000) := Lib.hid (by omega)
        have HF64 : Hid (fs.length ≤ 64) := Lib.hid (by omega)
        clear hO hL hW hE hS h0 HF
        go_wp2_with fail
        refine (sortm_any u5 fs w'.heap.size ps.length wk HO.out HFL.out (fun p hp => (HWD.out p hp).1) HNE.out).mono ?_
        rintro e w1 ⟨rfl, fs', hperm, hsort, ho, hg⟩
        go_wp2_with fail
        go_ret2
        refine ⟨_, fs', rfl, ho.rows, ⟨fun g hg => (ho.fresh g hg).1, fun p hp => (HWD.out p (hperm.mem_iff.1 hp)).2⟩, by rw [hperm.length_eq]; exact HF64.out, ?_, ?_, grown_then HG.out hg (fun j hj => .inl (HO.out.fresh j hj).1)⟩
        · rw [HNR.out]
          have hp2 := hperm.map Prod.snd
          exact ⟨fun y hy => HL.out.all y (hp2.mem_iff.1 hy), fun t h2 h3 y hy => hp2.mem_iff.2 (HL.out.got t h2 h3 y hy), hp2.nodup_iff.2 HL.out.nodup⟩
        · rw [List.pairwise_map]; exact hsort
theorem of_far {w : World} {v : Value} {ps : List Row} {r c : Nat} (h : RowsP w v ps) (hm : MatOkP r c ps) (h6 : r ≤ 6) (hT : TabW w) :
    Calls Tryd.prog 14 #[v] w (OfFar (ps.map Prod.snd) c r w) :=
  (of_far2 h hm h6 hT).mono fun e w' ⟨v', fs, h1, h2, h6, _, h3, h4, h5⟩ => ⟨v', fs, h1, h2, h6, h3, h4, h5⟩
theorem of_any {w : World} {v : Value} {ps : List Row} {r c : Nat} (h : RowsP w v ps) (hm : MatOkP r c ps) (h6 : r ≤ 6) (hT : TabW w) :
    Calls Tryd.prog 14 #[v] w (OfTo (ps.map Prod.snd) c r w) :=
  (of_far h hm h6 hT).mono fun e w' ⟨v', fs, h1, h2, _, h3, h4, h5⟩ => ⟨v', fs, h1, h2, h3, h4, h5⟩
/-- Every semiflow has a minimal one in its support. -/
theorem OfL.within {C : List (List Int)} {c n : Nat} {fs : List (List Int)} (h : OfL C c (2 ^ n) fs) (hC : C.length = n) (h6 : n ≤ 6) {y : List Int} (hy : Flow C c y) (hp : ∀ i : Nat, 0 ≤ y[i]?.getD 0) (h0 : ∃ i : Nat, 0 < y[i]?.getD 0) :
    ∃ (j : Nat) (hj : j < fs.length), ∀ q, q < n → fs[j][q]?.getD 0 = 0 ∨ 0 < y[q]?.getD 0 := by
  obtain ⟨i0, hi0⟩ := h0
  have hi1 : i0 < C.length := by
    by_cases e : i0 < C.length
    · exact e
    · rw [List.getElem?_eq_none (by rw [hy.1]; omega)] at hi0; simp at hi0
  obtain ⟨I, y', hf, hw, i, hi, hI⟩ := least_within _ y (Nat.le_refl _) hy hp ⟨i0, hi1, hi0⟩
  obtain ⟨s, hs1, hs2, hs3⟩ := mask_of I h6
  have hb : ∀ k, k < C.length → bitB s k = I k := fun k hk => hs3 k (by omega)
  have hf' : FlowAt C c (bitB s) y' := ⟨hf.flow, fun k hk h => hf.on k hk (by rw [← hb k hk]; exact h), fun k hk h => hf.out k hk (by rw [← hb k hk]; exact h), hf.prim,
    fun x hx ho => hf.only x hx (fun k hk h => ho k hk (by rw [hb k hk]; exact h))⟩
  have hs0 : s ≠ 0 := by
    intro e
    subst e
    have h5 := idxs_mem (I := bitB 0) (n := n) (i := i) (by omega) (by rw [hb i hi]; exact hI)
    rw [bit_zero n (by omega)] at h5
    cases h5
  obtain ⟨j, hj, e⟩ := List.mem_iff_getElem.1 (h.got s (by omega) hs1 y' hf')
  refine ⟨j, hj, fun q hq => ?_⟩
  rw [e]
  cases hI : I q with
  | true => exact .inr (hw q (by omega) hI)
  | false => exact .inl (hf.out q (by omega) hI)
end Go.Proofs.YtpnghgihepnepaaDoor

namespace Go.Proofs.YtpnghgihepnepaaDoor
open Go.RowKit
set_option linter.unusedVariables false

theorem row_ints {w : World} {a : Option Addr} {n cap : Nat} {ps : List Row} (h : RowsP w (.slice a n cap) ps) {k : Nat} (hk : k < ps.length) :
    ∃ b off a2 c2, a = some ⟨b, off, none⟩ ∧ w.cell? ⟨b, off + k, none⟩ = some (.slice a2 ps[k].2.length c2) ∧ Ints w (.slice a2 ps[k].2.length c2) ps[k].2 := by
  obtain ⟨b, off, a2, c2, h1, h2, -, h4⟩ := h.row hk
  exact ⟨b, off, a2, c2, h1, h2, h4⟩
/-- What Allows answers where all weighted sums are equal. -/
def AllowsTo (w : World) (e : Ending) (w' : World) : Prop := e = .returned (.tuple #[.bool true, .int .i64 0]) ∧ w.grownBy w' none
theorem fl_bd {C : List (List Int)} {c N : Nat} {fs : List Row} (h : OfL C c N (fs.map Prod.snd)) {k : Nat} (hk : k < fs.length) : fs[k].2.length = C.length ∧ ∀ x ∈ fs[k].2, 0 ≤ x ∧ x ≤ 1099511627776 := by
  obtain ⟨s, -, -, h3, h4⟩ := h.all _ (List.mem_map_of_mem (List.getElem_mem hk))
  exact ⟨h3.flow.1, fun x hx => by have := h4 x hx; omega⟩
set_option maxRecDepth 100000 in
set_option maxHeartbeats 2000000 in
theorem allows_any {w : World} {v vs vn : Value} {ps : List Row} {r c : Nat} {st nw : List Int} (h : RowsP w v ps) (hm : MatOkP r c ps) (h6 : r ≤ 6) (hT : TabW w) (hs : Ints w vs st) (hsl : st.length = r) (hsb : ∀ x ∈ st, 0 ≤ x ∧ x ≤ 1048576)
    (hn : Ints w vn nw) (hnl : nw.length = r) (hnb : ∀ x ∈ nw, 0 ≤ x ∧ x ≤ 1048576) (heq : ∀ y, Flow (ps.map Prod.snd) c y → dotL y st = dotL y nw) :
    Calls Tryd.prog 22 #[v, vs, vn] w (AllowsTo w) := by
  have H := Lib.hid h; have HM := Lib.hid hm; have HT := Lib.hid hT; have HS := Lib.hid hs; have HSB := Lib.hid hsb; have HN := Lib.hid hn; have HNB := Lib.hid hnb; have HEQ := Lib.hid heq
  have HPL := Lib.hid hm.1; have HSL := Lib.hid hsl; have HNL := Lib.hid hnl
  obtain ⟨a, cap, rfl, -⟩ : ∃ a cap, v = .slice a ps.length cap ∧ True := by obtain ⟨a, cap, h, -⟩ := h; exact ⟨a, cap, h, trivial⟩
  obtain ⟨as', cs', rfl, -⟩ := hs
  obtain ⟨an, cn, rfl, -⟩ := hn
  have e1 : ps.length = r := hm.1
  rw [e1] at H ⊢
  rw [hsl] at HS ⊢
  rw [hnl] at HN ⊢
  have k1 : ((r : Int) != (r : Int)) = false := by simp
  clear h hT hsb hnb heq hm hsl hnl e1
  go_enter Tryd.func22, Tryd.ntmps22
  go_wp2_with fail
  refine (of_any H.out HM.out h6 HT.out).mono ?_
  rintro e w1 ⟨vf, fs, rfl, hF, hL, -, hg⟩
  have HF := Lib.hid hF; have HL := Lib.hid hL; have HG := Lib.hid hg
  replace HS := Lib.hid (HS.out.same hg); replace HN := Lib.hid (HN.out.same hg)
  obtain ⟨af, cf, rfl, -⟩ : ∃ a cap, vf = .slice a fs.length cap ∧ True := by obtain ⟨a, cap, h, -⟩ := hF; exact ⟨a, cap, h, trivial⟩
  clear hF hL hg
  go_wp2_with fail
  refine (within_any _ _ _ _ HS.out HSB.out).mono ?_
  rintro e w2 ⟨rfl, hw⟩
  subst hw
  go_wp2_with fail
  refine (within_any _ _ _ _ HN.out HNB.out).mono ?_
  rintro e w3 ⟨rfl, hw⟩
  subst hw
  have hfl : fs.length ≤ maxLen := by obtain ⟨_, _, -, h, -⟩ := HF.out; exact h
  unfold maxLen at hfl
  go_wp2_with fail
  go_loop [49] (fun i => ∃ k : Nat, i = .int .i64 k ∧ k ≤ fs.length) (fun i => fs.length - (intOf i).toNat)
  case atStart => exact ⟨0, rfl, Nat.zero_le _⟩
  case round =>
    obtain ⟨k, rfl, hk⟩ := hrel
    by_cases hkb : k < fs.length
    · have h1 : (k : Int) < (fs.length : Int) := by omega
      have i1 : IntKind.i64.wrap ((k : Int) + 1) = (k : Int) + 1 := IntWalk.i64_in _ (by omega)
      obtain ⟨b, off, a2, c2, rfl, hc, hi⟩ := row_ints HF.out hkb
      have hfb := fl_bd HL.out hkb
      have HFL : Hid (Flow (ps.map Prod.snd) c fs[k].2) := Lib.hid (by
        obtain ⟨s, -, -, h3, -⟩ := HL.out.all _ (List.mem_map_of_mem (List.getElem_mem hkb))
        exact h3.flow)
      have hyl : fs[k].2.length = r := by rw [hfb.1, List.length_map, HPL.out]
      rw [hyl] at hc hi
      have HI := Lib.hid hi; have HB := Lib.hid hfb.2; have HYL := Lib.hid hyl
      generalize fs[k].2 = y at *
      have HE : Hid (dotL y st = dotL y nw) := Lib.hid (HEQ.out y HFL.out)
      clear hi hfb hyl
      go_wp2_with fail
      refine (value_any _ _ y st _ HI.out HS.out (by rw [HYL.out, HSL.out]) (by rw [HYL.out]; exact h6) HB.out HSB.out).mono ?_
      rintro e w4 ⟨rfl, hw⟩
      subst hw
      go_wp2_with fail
      refine (value_any _ _ y nw _ HI.out HN.out (by rw [HYL.out, HNL.out]) (by rw [HYL.out]; exact h6) HB.out HNB.out).mono ?_
      rintro e w5 ⟨rfl, hw⟩
      subst hw
      rw [← HE.out]
      generalize dotL y st = z at *
      have q1 : (z != z) = false := by simp
      go_wp2_with fail
      go_round
      case rel => exact ⟨k + 1, by go_num, by omega⟩
      case measure => simp [intOf]; omega
    · obtain rfl : k = fs.length := by omega
      have h1 : ¬ (fs.length : Int) < (fs.length : Int) := by omega
      go_wp2_with fail
      go_ret2
      exact ⟨rfl, HG.out⟩
/-- What Bound answers: no more than each quotient. -/
def BoundA (C : List (List Int)) (c r : Nat) (st : List Int) (p : Nat) (b : Int) : Prop := ∃ s y, 1 ≤ s ∧ s < 2 ^ r ∧ FlowAt C c (bitB s) y ∧ (∀ x ∈ y, 0 ≤ x) ∧ 0 < y[p]?.getD 0 ∧ b = (dotL y st).tdiv (y[p]?.getD 0)
def BoundTo (C : List (List Int)) (c r : Nat) (st : List Int) (p : Nat) (w : World) (e : Ending) (w' : World) : Prop := ∃ (b : Int) (ok : Bool), e = .returned (.tuple #[.int .i64 b, .bool ok, .int .i64 0]) ∧ (ok = true → BoundA C c r st p b) ∧ (ok = false → ∀ s y, 1 ≤ s → s < 2 ^ r → FlowAt C c (bitB s) y → ¬ 0 < y[p]?.getD 0) ∧ w.grownBy w' none
set_option maxRecDepth 100000 in
set_option maxHeartbeats 2000000 in
theorem bound_any {w : World} {v vs : Value} {ps : List Row} {r c : Nat} {st : List Int} {p : Nat} (h : RowsP w v ps) (hm : MatOkP r c ps) (h6 : r ≤ 6) (hT : TabW w) (hs : Ints w vs st) (hsl : st.length = r) (hsb : ∀ x ∈ st, 0 ≤ x ∧ x ≤ 1048576) (hp : p < r) :
    Calls Tryd.prog 20 #[v, vs, .int .i64 (p : Int)] w (BoundTo (ps.map Prod.snd) c r st p w) := by
  have H := Lib.hid h; have HM := Lib.hid hm; have HT := Lib.hid hT; have HS := Lib.hid hs; have HSB := Lib.hid hsb
  have HPL := Lib.hid hm.1; have HSL := Lib.hid hsl
  obtain ⟨a, cap, rfl, -⟩ : ∃ a cap, v = .slice a ps.length cap ∧ True := by obtain ⟨a, cap, h, -⟩ := h; exact ⟨a, cap, h, trivial⟩
  obtain ⟨as', cs', rfl, -⟩ := hs
  have e1 : ps.length = r := hm.1
  rw [e1] at H ⊢
  rw [hsl] at HS ⊢
  have k1 : ((r : Int) != (r : Int)) = false := by simp
  have k2 : decide ((p : Int) < 0) = false := by simp
  have k3 : decide (r ≤ p) = false := by simp; omega
  have k4 : (p : Int) < (r : Int) := by omega
  clear h hT hsb hm hsl e1
  go_enter Tryd.func20, Tryd.ntmps20
  go_wp2_with fail
  refine (of_any H.out HM.out h6 HT.out).mono ?_
  rintro e w1 ⟨vf, fs, rfl, hF, hL, -, hg⟩
  have HF := Lib.hid hF; have HL := Lib.hid hL; have HG := Lib.hid hg
  replace HS := Lib.hid (HS.out.same hg)
  obtain ⟨af, cf, rfl, -⟩ : ∃ a cap, vf = .slice a fs.length cap ∧ True := by obtain ⟨a, cap, h, -⟩ := hF; exact ⟨a, cap, h, trivial⟩
  clear hF hL hg
  go_wp2_with fail
  refine (within_any _ _ _ _ HS.out HSB.out).mono ?_
  rintro e w2 ⟨rfl, hw⟩
  subst hw
  have hfl : fs.length ≤ maxLen := by obtain ⟨_, _, -, h, -⟩ := HF.out; exact h
  unfold maxLen at hfl
  go_wp2_with fail
  go_loop [49, 11, 12] (fun i l f => ∃ (k : Nat) (b : Int) (ok : Bool), i = .int .i64 k ∧ l = .int .i64 b ∧ f = .bool ok ∧ k ≤ fs.length ∧ Hid (ok = true → BoundA (ps.map Prod.snd) c r st p b) ∧ Hid (ok = false → ∀ k' (hk' : k' < fs.length), k' < k → ¬ 0 < fs[k'].2[p]?.getD 0)) (fun i _ _ => fs.length - (intOf i).toNat)
  case atStart => exact ⟨0, 0, false, rfl, rfl, rfl, Nat.zero_le _, Lib.hid (fun h => by cases h), Lib.hid (fun _ k' _ h => by omega)⟩
  case round =>
    obtain ⟨k, b, ok, rfl, rfl, rfl, hk, HB0, HB1⟩ := hrel
    by_cases hkb : k < fs.length
    · have h1 : (k : Int) < (fs.length : Int) := by omega
      have i1 : IntKind.i64.wrap ((k : Int) + 1) = (k : Int) + 1 := IntWalk.i64_in _ (by omega)
      obtain ⟨b', off, a2, c2, rfl, hc, hi⟩ := row_ints HF.out hkb
      have hfb := fl_bd HL.out hkb
      have HFL : Hid (∃ s, 1 ≤ s ∧ s < 2 ^ r ∧ FlowAt (ps.map Prod.snd) c (bitB s) fs[k].2) := Lib.hid (by
        obtain ⟨s, h1, h2, h3, -⟩ := HL.out.all _ (List.mem_map_of_mem (List.getElem_mem hkb))
        exact ⟨s, h1, h2, h3⟩)
      have HBN : Hid (¬ 0 < fs[k].2[p]?.getD 0 → ok = false → ∀ k' (hk' : k' < fs.length), k' < k + 1 → ¬ 0 < fs[k'].2[p]?.getD 0) := Lib.hid (fun h1 h2 k' hk' h3 => by
        by_cases e : k' = k
        · subst e; exact h1
        · exact HB1.out h2 k' hk' (by omega))
      have hyl : fs[k].2.length = r := by rw [hfb.1, List.length_map, HPL.out]
      rw [hyl] at hc hi
      have HI := Lib.hid hi; have HB := Lib.hid hfb.2; have HYL := Lib.hid hyl
      generalize hyk : fs[k].2 = y at *
      clear hyk
      obtain ⟨_, _, hxv, -, -, hxc⟩ := HI.out
      simp only [Value.slice.injEq] at hxv
      obtain ⟨rfl, -, rfl⟩ := hxv
      obtain ⟨by', oy, rfl, hcy⟩ := Ints.at hxc (show p < y.length by omega)
      have hb := mem_at (P := fun y => 0 ≤ y ∧ y ≤ 1099511627776) HB.out (show p < y.length by omega)
      have HV : Hid (y[p]?.getD 0 = y[p]?.getD 0) := Lib.hid rfl
      obtain ⟨u, hu⟩ : ∃ u, y[p]?.getD 0 = u := ⟨_, rfl⟩
      rw [hu] at hcy hb
      have HU := Lib.hid hu
      clear hi hfb hyl hxc hu HV
      by_cases hu0 : u = 0
      · subst hu0
        have q1 : ((0 : Int) == 0) = true := by decide
        clear hb
        go_wp2_with fail
        go_round
        case rel => exact ⟨k + 1, b, ok, by go_num, rfl, rfl, by omega, HB0, Lib.hid (HBN.out (by have := HU.out; omega))⟩
        case measure => simp [intOf]; omega
      · have q1 : (u == 0) = false := by simpa using hu0
        have HU0 : Hid (0 < u) := Lib.hid (by omega)
        have HZB : Hid (-60000000000000000000 ≤ dotL y st ∧ dotL y st ≤ 8000000000000000000) := Lib.hid (by
          have := dot_bd (A := 1099511627776) (B := 1048576) y st (fun x hx => by have := HB.out x hx; omega) (fun x hx => by have := HSB.out x hx; omega) (by decide)
          have := HYL.out
          omega)
        have HZ8 : Hid (-8000000000000000000 ≤ dotL y st ∧ dotL y st ≤ 8000000000000000000) := Lib.hid (by
          have := dot_bd (A := 1099511627776) (B := 1048576) y st (fun x hx => by have := HB.out x hx; omega) (fun x hx => by have := HSB.out x hx; omega) (by decide)
          have := HYL.out
          omega)
        have m4 : IntKind.i64.wrap ((dotL y st).tdiv u) = (dotL y st).tdiv u := IntWalk.i64_in _ (by
          have h5 : ((dotL y st).tdiv u).natAbs ≤ (dotL y st).natAbs := by rw [Int.natAbs_tdiv]; exact Nat.div_le_self _ _
          have := HZ8.out
          generalize (dotL y st).tdiv u = q at *
          omega)
        clear hb
        go_wp2_with fail
        refine (value_any _ _ y st _ HI.out HS.out (by rw [HYL.out, HSL.out]) (by rw [HYL.out]; exact h6) HB.out HSB.out).mono ?_
        rintro e w4 ⟨rfl, hw⟩
        subst hw
        have HNEW2 : Hid (BoundA (ps.map Prod.snd) c r st p ((dotL y st).tdiv u)) := Lib.hid (by
          obtain ⟨s, h1, h2, h3⟩ := HFL.out
          exact ⟨s, y, h1, h2, h3, fun x hx => (HB.out x hx).1, by rw [HU.out]; exact HU0.out, by rw [HU.out]⟩)
        generalize dotL y st = z at *
        generalize hq : z.tdiv u = q at *
        clear HZB HZ8
        cases ok with
        | false =>
          go_wp2_with fail
          go_round
          case rel => exact ⟨k + 1, q, true, by go_num, rfl, rfl, by omega, Lib.hid (fun _ => HNEW2.out), Lib.hid (fun h => by cases h)⟩
          case measure => simp [intOf]; omega
        | true =>
          by_cases hlt : q < b
          · have q2 : decide (q < b) = true := by simpa using hlt
            go_wp2_with fail
            go_round
            case rel => exact ⟨k + 1, q, true, by go_num, rfl, rfl, by omega, Lib.hid (fun _ => HNEW2.out), Lib.hid (fun h => by cases h)⟩
            case measure => simp [intOf]; omega
          · have q2 : decide (q < b) = false := by simpa using hlt
            go_wp2_with fail
            go_round
            case rel => exact ⟨k + 1, b, true, by go_num, rfl, rfl, by omega, Lib.hid (fun _ => HB0.out trivial), Lib.hid (fun h => by cases h)⟩
            case measure => simp [intOf]; omega
    · obtain rfl : k = fs.length := by omega
      have h1 : ¬ (fs.length : Int) < (fs.length : Int) := by omega
      go_wp2_with fail
      go_ret3
      refine ⟨b, ok, rfl, HB0.out, fun h s y h1 h2 h3 => ?_, HG.out⟩
      have hy := HL.out.got s h1 h2 y h3
      obtain ⟨k', hk', e⟩ := List.getElem_of_mem hy
      have hk2 : k' < fs.length := by simpa using hk'
      have := HB1.out h k' hk2 hk2
      rw [List.getElem_map] at e
      rw [e] at this
      omega
end Go.Proofs.YtpnghgihepnepaaDoor
