/- place, placeKids. -/
import Derived.Test.YtnppmemcdcgjhaaKh
namespace Go.Proofs.Ytnppmemcdcgjhaa
open Go.RowKit Tr
set_option linter.unusedVariables false

theorem ints_starts {w : World} {a : Option Addr} {c n i : Nat} {ss : List Tr} (h : Ints w (.slice a ss.length c) ((starts n ss).map Int.ofNat)) (hi : i < ss.length) :
    ∃ b off, a = some ⟨b, off, none⟩ ∧ w.cell? ⟨b, off + i, none⟩ = some (.int .i64 ((n + sizeL (ss.take i) : Nat) : Int)) := by
  obtain ⟨a', c', hv, -, -, hc⟩ := h
  simp only [Value.slice.injEq] at hv
  obtain ⟨rfl, -, -⟩ := hv
  obtain ⟨b, off, rfl, hx⟩ := Ints.at hc (show i < ((starts n ss).map Int.ofNat).length by rw [List.length_map, starts_len]; exact hi)
  rw [List.getElem?_map, starts_at _ _ _ hi] at hx
  exact ⟨b, off, rfl, hx⟩
theorem FlatV.open {w : World} {t : Tr} {vl ve vk : Value} (h : FlatV w t vl ve vk) : ∃ a1 c1 a2 c2 a3 c3, vl = .slice a1 (size t) c1 ∧ ve = .slice a2 (size t) c2 ∧ vk = .slice a3 (size t) c3 := by
  obtain ⟨a1, c1, e1, -⟩ := h.l
  obtain ⟨a2, c2, e2, -⟩ := h.e
  obtain ⟨ks, ⟨a3, c3, e3, -⟩, e4⟩ := h.k
  have e5 := congrArg List.length e4
  rw [List.length_map, flK_len, len_pre] at e5
  rw [List.length_map, len_pre] at e1
  rw [flE_len, len_pre] at e2
  rw [e5] at e3
  exact ⟨a1, c1, a2, c2, a3, c3, e1, e2, e3⟩
theorem FlatV.lab {w : World} {t u : Tr} {a1 : Option Addr} {n c1 i : Nat} {ve vk : Value} (h : FlatV w t (.slice a1 n c1) ve vk) (hu : (pre t)[i]? = some u) : ∃ b off, a1 = some ⟨b, off, none⟩ ∧ w.cell? ⟨b, off + i, none⟩ = some (.int .i64 u.label) := by
  obtain ⟨a', c', hv, -, -, hc⟩ := h.l
  simp only [Value.slice.injEq] at hv
  obtain ⟨rfl, -, -⟩ := hv
  obtain ⟨b, off, rfl, hx⟩ := Ints.at hc (show i < ((pre t).map label).length by rw [List.length_map]; exact (List.getElem?_eq_some_iff.1 hu).1)
  rw [List.getElem?_map, hu] at hx
  exact ⟨b, off, rfl, hx⟩
theorem FlatV.end_ {w : World} {t u : Tr} {a2 : Option Addr} {n c2 i : Nat} {vl vk : Value} (h : FlatV w t vl (.slice a2 n c2) vk) (hu : (pre t)[i]? = some u) : ∃ b off, a2 = some ⟨b, off, none⟩ ∧ w.cell? ⟨b, off + i, none⟩ = some (.int .i64 ((i + size u : Nat) : Int)) := by
  obtain ⟨a', c', hv, -, -, hc⟩ := h.e
  simp only [Value.slice.injEq] at hv
  obtain ⟨rfl, -, -⟩ := hv
  obtain ⟨b, off, rfl, hx⟩ := Ints.at hc (show i < (flE 0 (pre t)).length by rw [flE_len]; exact (List.getElem?_eq_some_iff.1 hu).1)
  rw [flE_at _ _ _ _ hu, Nat.zero_add] at hx
  exact ⟨b, off, rfl, hx⟩
theorem FlatV.kid {w : World} {t u : Tr} {a3 : Option Addr} {n c3 i : Nat} {vl ve : Value} (h : FlatV w t vl ve (.slice a3 n c3)) (hu : (pre t)[i]? = some u) : ∃ b off a c, a3 = some ⟨b, off, none⟩ ∧ w.cell? ⟨b, off + i, none⟩ = some (.slice a u.kids.length c) ∧ Ints w (.slice a u.kids.length c) ((starts (i + 1) u.kids).map Int.ofNat) := by
  obtain ⟨ks, ⟨a', c', hv, -, hc, hr⟩, e4⟩ := h.k
  simp only [Value.slice.injEq] at hv
  obtain ⟨rfl, -, -⟩ := hv
  have hlt := (List.getElem?_eq_some_iff.1 hu).1
  have hk : i < ks.length := by have e5 := congrArg List.length e4; rw [List.length_map, flK_len] at e5; omega
  have hq : ks[i].2 = (starts (i + 1) u.kids).map Int.ofNat := by
    have e5 : (ks.map Prod.snd)[i]? = (flK 0 (pre t))[i]? := by rw [e4]
    rw [List.getElem?_map, List.getElem?_eq_getElem hk, flK_at _ _ _ _ hu, Nat.zero_add] at e5
    exact Option.some.inj e5
  rcases hc with rfl | ⟨b, off, rfl, hcell⟩
  · simp at hk
  · have hx := hcell i hk
    rw [List.getElem?_eq_getElem hk] at hx
    have hI := (hr _ (List.getElem_mem hk)).1
    rw [hq] at hI
    obtain ⟨a, c, hv2, hrest⟩ := hI
    rw [List.length_map, starts_len] at hv2
    refine ⟨b, off, a, c, rfl, ?_, ⟨a, c, by rw [List.length_map, starts_len], hrest⟩⟩
    rw [← hv2]; exact hx

/-- What stays while one tree is put into another one. -/
structure PC where
  s0 : Tr
  t0 : Tr
  a1 : Option Addr
  a2 : Option Addr
  a3 : Option Addr
  b1 : Option Addr
  b2 : Option Addr
  b3 : Option Addr
  c1 : Nat
  c2 : Nat
  c3 : Nat
  d1 : Nat
  d2 : Nat
  d3 : Nat
  A : Nat
  cA : Nat
structure PC.Ok (p : PC) (w0 : World) : Prop where
  fa : FlatV w0 p.s0 (.slice p.a1 (size p.s0) p.c1) (.slice p.a2 (size p.s0) p.c2) (.slice p.a3 (size p.s0) p.c3)
  fb : FlatV w0 p.t0 (.slice p.b1 (size p.t0) p.d1) (.slice p.b2 (size p.t0) p.d2) (.slice p.b3 (size p.t0) p.d3)
  hA : w0.heap.size ≤ p.A
  hs : size p.s0 ≤ 12
  ht : size p.t0 ≤ 12
structure PSt (p : PC) (w0 w : World) (m : List Int) : Prop where
  g : w0.grownBy w none
  o : OwnI w w0.heap.size (.slice (some ⟨p.A, 0, none⟩) (size p.s0) p.cA) m
  n : m.length = size p.s0
def PlaceTo (p : PC) (w0 : World) (s : Tr) (i j : Nat) (t : Tr) (m : List Int) (w : World) (e : Ending) (w' : World) : Prop :=
  ∃ (Bo : Bool) (m' : List Int), e = .returned (.bool Bo) ∧ (Bo = true ↔ Emb s t) ∧ (∀ q, ¬ (i ≤ q ∧ q < i + size s) → m'[q]? = m[q]?) ∧ (Bo = true → ∃ k, j ≤ k ∧ k < j + size t ∧ Pl (pre p.t0) m' i s k) ∧ w.grownBy w' (some p.A) ∧ PSt p w0 w' m'
def KidsTo (p : PC) (w0 : World) (ss : List Tr) (i n : Nat) (ts : List Tr) (m : List Int) (w : World) (e : Ending) (w' : World) : Prop :=
  ∃ (Bo : Bool) (m' : List Int), e = .returned (.bool Bo) ∧ (Bo = true ↔ EmbL ss ts) ∧ (∀ q, ¬ (i ≤ q ∧ q < i + sizeL ss) → m'[q]? = m[q]?) ∧ (Bo = true → PlL (pre p.t0) m' i ss n ts) ∧ w.grownBy w' (some p.A) ∧ PSt p w0 w' m'
def PC.args (p : PC) (x y z : Value) : Array Value := #[.agg #[.slice p.a1 (size p.s0) p.c1, .slice p.a2 (size p.s0) p.c2, .slice p.a3 (size p.s0) p.c3], .agg #[.slice p.b1 (size p.t0) p.d1, .slice p.b2 (size p.t0) p.d2, .slice p.b3 (size p.t0) p.d3], x, y, z]
def PlaceOk (p : PC) (w0 : World) (s : Tr) : Prop := ∀ (i j : Nat) (t : Tr) (w : World) (m : List Int), SegL (pre p.s0) i s → SegL (pre p.t0) j t → PSt p w0 w m →
  Calls Try.prog 63 (p.args (.int .i64 (i : Int)) (.int .i64 (j : Int)) (.slice (some ⟨p.A, 0, none⟩) (size p.s0) p.cA)) w (PlaceTo p w0 s i j t m w)
theorem PSt.step {p : PC} {w0 w w' : World} {m : List Int} (h : PSt p w0 w m) (g : w.grownBy w' none) : PSt p w0 w' m := ⟨grown_trans h.g g, World.ownsRow.kept h.o g (row_none _), h.n⟩
theorem flat3 {w : World} {F : Nat} {a b c : Value} {e : TypeId} (h : w.heap[F]? = some (.cells #[a, b, c] e (0, 0))) : w.cell? ⟨F, 0, none⟩ = some a ∧ w.cell? ⟨F, 1, none⟩ = some b ∧ w.cell? ⟨F, 2, none⟩ = some c :=
  ⟨(flat_cells h).1, (flat_cells h).2.1, (flat_cells h).2.2.1⟩

set_option maxRecDepth 100000 in
set_option maxHeartbeats 3000000 in
theorem placeKids_any (p : PC) (w0 : World) (hp : p.Ok w0) (N : Nat) (ih : ∀ s, size s ≤ N → PlaceOk p w0 s) (ss ts : List Tr) (i n : Nat) (hN : sizeL ss ≤ N)
    (hss : ∀ κ (h : κ < ss.length), SegL (pre p.s0) (i + sizeL (ss.take κ)) ss[κ]) (hts : ∀ ν (h : ν < ts.length), SegL (pre p.t0) (n + sizeL (ts.take ν)) ts[ν]) (hsl : ss.length ≤ 12) (htl : ts.length ≤ 12)
    (ka ta : Option Addr) (kc tc : Nat) (hk : Ints w0 (.slice ka ss.length kc) ((starts i ss).map Int.ofNat)) (ht : Ints w0 (.slice ta ts.length tc) ((starts n ts).map Int.ofNat)) (w : World) (m : List Int) (hst : PSt p w0 w m) :
    Calls Try.prog 71 (p.args (.slice ka ss.length kc) (.slice ta ts.length tc) (.slice (some ⟨p.A, 0, none⟩) (size p.s0) p.cA)) w (KidsTo p w0 ss i n ts m w) := by
  have HPO := Lib.hid hp; have IH := Lib.hid ih; have HSS := Lib.hid hss; have HTS := Lib.hid hts; have HKI := Lib.hid hk; have HTI := Lib.hid ht; have HST := Lib.hid hst; have HNN := Lib.hid hN
  clear hp ih hss hts hk ht hst hN
  unfold PC.args
  have HAW : Hid (p.A < w.heap.size) := Lib.hid (HST.out.o.fresh p.A rfl).2
  go_enter Try.func71, Try.ntmps71
  go_wp2_with fail
  have hb1 := heap_old (.cells #[.slice p.b1 (size p.t0) p.d1, .slice p.b2 (size p.t0) p.d2, .slice p.b3 (size p.t0) p.d3] 71) (heap_new (w := w) (g := w.heap.size) (.cells #[.slice p.a1 (size p.s0) p.c1, .slice p.a2 (size p.s0) p.c2, .slice p.a3 (size p.s0) p.c3] 71) rfl)
  have hb2 := heap_new (w := w.alloc (.cells #[.slice p.a1 (size p.s0) p.c1, .slice p.a2 (size p.s0) p.c2, .slice p.a3 (size p.s0) p.c3] 71)) (g := w.heap.size + 1) (.cells #[.slice p.b1 (size p.t0) p.d1, .slice p.b2 (size p.t0) p.d2, .slice p.b3 (size p.t0) p.d3] 71) (by show _ = (w.heap.push _).size; simp)
  have hg0 : w.grownBy ((w.alloc (.cells #[.slice p.a1 (size p.s0) p.c1, .slice p.a2 (size p.s0) p.c2, .slice p.a3 (size p.s0) p.c3] 71)).alloc (.cells #[.slice p.b1 (size p.t0) p.d1, .slice p.b2 (size p.t0) p.d2, .slice p.b3 (size p.t0) p.d3] 71)) none := grown_after (World.grownBy_alloc _ _ none)
  generalize ((w.alloc (.cells #[.slice p.a1 (size p.s0) p.c1, .slice p.a2 (size p.s0) p.c2, .slice p.a3 (size p.s0) p.c3] 71)).alloc (.cells #[.slice p.b1 (size p.t0) p.d1, .slice p.b2 (size p.t0) p.d2, .slice p.b3 (size p.t0) p.d3] 71)) = wb at *
  have HB1 := Lib.hid hb1; have HB2 := Lib.hid hb2; have HG0 := Lib.hid hg0; have HS1 := Lib.hid (HST.out.step hg0)
  clear hb1 hb2 hg0
  obtain ⟨B, hBB⟩ : ∃ B, w.heap.size = B := ⟨_, rfl⟩
  rw [hBB] at HB1 HB2 HAW ⊢
  clear hBB
  go_loopw [11, 16] (fun nx ix wr => ∃ (κ ν : Nat) (m1 : List Int), ix = .int .i64 κ ∧ nx = .int .i64 ν ∧ κ ≤ ss.length ∧ ν ≤ ts.length ∧ Hid (Step (pre p.t0) m1 i n ss ts κ ν) ∧ Hid (∀ q, ¬ (i ≤ q ∧ q < i + sizeL ss) → m1[q]? = m[q]?) ∧ Hid (PSt p w0 wr m1) ∧ Hid (wb.grownBy wr (some p.A))) (fun _ ix _ => ss.length - (intOf ix).toNat)
  case atStart => exact ⟨0, 0, m, rfl, rfl, Nat.zero_le _, Nat.zero_le _, Lib.hid (Step.start _ _ _ _ _ _), Lib.hid (fun _ _ => rfl), HS1, Lib.hid (grown_refl _ _)⟩
  case round =>
    obtain ⟨κ, ν, m1, rfl, rfl, hκ, hν, hT, hF, hP, hG⟩ := hrel
    rename World => wk
    by_cases hκb : κ < ss.length
    · have e1 : (κ : Int) < (ss.length : Int) := by omega
      have i1 : IntKind.i64.wrap ((κ : Int) + 1) = (κ : Int) + 1 := IntWalk.i64_in _ (by omega)
      obtain ⟨kb, ko, rfl, hkc⟩ := ints_starts HKI.out hκb
      have hkc1 := hP.out.g.cell hkc (by simp)
      have HSEG := Lib.hid (HSS.out κ hκb)
      have HTZ := Lib.hid (take_sz hκb); have HTL := Lib.hid (take_szle ss (κ + 1))
      clear hkc
      go_wp2_with fail
      clear hkc1
      go_loopw [11] (fun nx wr => ∃ (ν : Nat) (m1 : List Int), nx = .int .i64 ν ∧ ν ≤ ts.length ∧ Hid (Step (pre p.t0) m1 i n ss ts κ ν) ∧ Hid (∀ q, ¬ (i ≤ q ∧ q < i + sizeL ss) → m1[q]? = m[q]?) ∧ Hid (PSt p w0 wr m1) ∧ Hid (wb.grownBy wr (some p.A))) (fun nx _ => ts.length - (intOf nx).toNat)
      case atStart => exact ⟨ν, m1, rfl, hν, hT, hF, hP, hG⟩
      case round =>
        clear hT hF hP hG
        obtain ⟨ν, m1, rfl, hν, hT, hF, hP, hG⟩ := hrel
        rename World => wr
        by_cases hνb : ν < ts.length
        · have e2 : (ν : Int) < (ts.length : Int) := by omega
          have e3 : ((ν : Int) == (ts.length : Int)) = false := by simp; omega
          have i2 : IntKind.i64.wrap ((ν : Int) + 1) = (ν : Int) + 1 := IntWalk.i64_in _ (by omega)
          obtain ⟨tb, tof, rfl, htc⟩ := ints_starts HTI.out hνb
          have GD : Hid (wb.grownBy wr.drew (some p.A)) := Lib.hid (grown_trans hG.out (grown_drew wr _))
          have PD : Hid (PSt p w0 wr.drew m1) := Lib.hid (hP.out.step (grown_drew wr none))
          have hbA : some B ≠ some p.A := by have := HAW.out; simp; omega
          have hbA1 : some (B + 1) ≠ some p.A := by have := HAW.out; simp; omega
          have htc1 := PD.out.g.cell htc (by simp)
          have q1 := GD.out.cell (flat3 HB1.out).1 hbA; have q2 := GD.out.cell (flat3 HB1.out).2.1 hbA; have q3 := GD.out.cell (flat3 HB1.out).2.2 hbA
          have q4 := GD.out.cell (flat3 HB2.out).1 hbA1; have q5 := GD.out.cell (flat3 HB2.out).2.1 hbA1; have q6 := GD.out.cell (flat3 HB2.out).2.2 hbA1
          have HTSEG := Lib.hid (HTS.out ν hνb)
          clear htc hbA hbA1
          go_wp2_with fail
          go_still_tail 13, (by kernel_rfl)
          change wpList _ _ _ _ _ wr.drew
          generalize wr.drew = wd at *
          have HSK : Hid (size ss[κ] ≤ N) := Lib.hid (by have := size_mem (List.getElem_mem hκb); have := HNN.out; omega)
          have hpl := IH.out _ HSK.out
          unfold PlaceOk PC.args at hpl
          have HPL := Lib.hid (hpl _ _ _ _ _ HSEG.out HTSEG.out PD.out)
          clear hpl
          go_wp2_with fail
          refine HPL.out.mono ?_
          rintro e w5 ⟨Bo, m2, rfl, h1, h2, h3, h4, h5⟩
          have H1 := Lib.hid h1; have H3 := Lib.hid h3; have P5 := Lib.hid h5; have G5 := Lib.hid (grown_trans GD.out h4)
          have F5 : Hid (∀ q, ¬ (i ≤ q ∧ q < i + sizeL ss) → m2[q]? = m[q]?) := Lib.hid (fun q hq => by
            rw [h2 q (by have := HTZ.out; have := HTL.out; omega)]
            exact hF.out q hq)
          have H2 : Hid (∀ q, i ≤ q → q < i + sizeL (ss.take κ) → m2[q]? = m1[q]?) := Lib.hid (fun q q1 q2 => h2 q (by omega))
          clear h1 h2 h3 h4 h5 q1 q2 q3 q4 q5 q6 htc1 HPL GD PD
          cases Bo with
          | false =>
            have HT5 := Lib.hid ((hT.out.agree H2.out).skip hκb hνb (fun h => by have := H1.out.2 h; simp at this))
            go_wp2_with fail
            go_roundw
            case rel => exact ⟨ν + 1, m2, by go_num, by omega, HT5, F5, P5, G5⟩
            case measure => simp [intOf]; omega
          | true =>
            have HT5 : Hid (Step (pre p.t0) m2 i n ss ts (κ + 1) (ν + 1)) := Lib.hid (by
              obtain ⟨k, k1, k2, k3⟩ := H3.out rfl
              exact hT.out.next hκb hνb (H1.out.1 rfl) H2.out k1 k2 k3)
            go_wp2_with fail
            go_roundw
            case rel => exact ⟨κ + 1, ν + 1, m2, by go_num, by go_num, by omega, by omega, HT5, F5, P5, G5⟩
            case measure => simp [intOf]; omega
        · obtain rfl : ν = ts.length := by omega
          have e2 : ¬ (ts.length : Int) < (ts.length : Int) := by omega
          have HNO := Lib.hid (hT.out.fail hκb)
          go_wp2_with fail
          go_quiet (fail)
          go_wp2_with fail
          go_ret
          exact ⟨false, m1, rfl, ⟨fun h => by simp at h, fun h => absurd h HNO.out⟩, hF.out, fun h => by simp at h, grown_trans (grown_trans (grown_then (grown_refl w _) HG0.out (by simp)) hG.out) (grown_drewN _ _ _), hP.out.step (grown_drewN _ _ _)⟩
    · obtain rfl : κ = ss.length := by omega
      have e1 : ¬ (ss.length : Int) < (ss.length : Int) := by omega
      have HD := Lib.hid hT.out.done
      go_wp2_with fail
      go_ret
      exact ⟨true, m1, rfl, ⟨fun _ => HD.out.1, fun _ => rfl⟩, hF.out, fun _ => HD.out.2, grown_trans (grown_then (grown_refl w _) HG0.out (by simp)) hG.out, hP.out⟩

end Go.Proofs.Ytnppmemcdcgjhaa
