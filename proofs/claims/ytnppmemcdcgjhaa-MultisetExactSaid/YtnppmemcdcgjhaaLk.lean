/- MultisetExact: the contracts for tables whose empty rows may name any block. -/
import Derived.Test.YtnppmemcdcgjhaaLj
namespace Go.Proofs.Ytnppmemcdcgjhaa
open Go.RowKit
set_option linter.unusedVariables false

theorem Bools.lt {w : World} {v : Value} {xs : List Bool} (h : Bools w v xs) (h0 : xs.length ≠ 0) : ∀ g, v.ownBlock = some g → g < w.heap.size := by
  obtain ⟨a, cap, rfl, -, hc⟩ := h
  rcases hc with rfl | ⟨b, off, rfl, hc⟩
  · simp at h0
  · intro g hg
    simp only [Value.ownBlock, Option.some.injEq] at hg
    subst hg
    have := hc 0 (by omega)
    rcases Nat.lt_or_ge b w.heap.size with h | h
    · exact h
    · have h2 : w.heap[b]? = none := Array.getElem?_eq_none h
      simp [World.cell?, h2] at this
theorem BRowsW.or {w : World} {v : Value} {ps : List BRow} (h : BRowsW w v ps) : BRowsP w v ps ∨ ∃ p ∈ ps, p.2.length = 0 := by
  by_cases h0 : ∃ p ∈ ps, p.2.length = 0
  · exact .inr h0
  · obtain ⟨a, cap, hv, hl, hc, hp⟩ := h
    exact .inl ⟨a, cap, hv, hl, hc, fun p hp' => ⟨(hp p hp').1, (hp p hp').2, (hp p hp').1.lt (fun e => h0 ⟨p, hp', e⟩)⟩⟩
theorem BRowsW.keptR {w w' : World} {v : Value} {ps : List BRow} {row : Option Nat} (h : BRowsW w v ps) (g : w.grownBy w' row) (hv : ∀ k, row = some k → v.ownBlock ≠ some k) (hr : ∀ p ∈ ps, p.2.length ≠ 0 → ∀ k, row = some k → p.1.ownBlock ≠ some k) : BRowsW w' v ps := by
  obtain ⟨a, cap, rfl, hl, hc, hp⟩ := h
  refine ⟨a, cap, rfl, hl, ?_, fun p hp' => ⟨?_, (hp p hp').2⟩⟩
  · rcases hc with hc | ⟨b, off, rfl, hc⟩
    · exact .inl hc
    · exact .inr ⟨b, off, rfl, fun i hi => g.cell (hc i hi) (fun e => hv b e.symm rfl)⟩
  · by_cases h0 : p.2.length = 0
    · obtain ⟨a2, c2, hv2, hl2, -⟩ := (hp p hp').1
      exact ⟨a2, c2, hv2, hl2, .inl (List.eq_nil_of_length_eq_zero h0)⟩
    · exact (hp p hp').1.kept g (hr p hp' h0)
/-- A table whose blocks are not the deck's. -/
def TabX (w : World) (d : Nat) (v : Value) (ps : List BRow) : Prop := BRowsW w v ps ∧ (∀ g, v.ownBlock = some g → g ≠ d) ∧ ∀ q ∈ ps, q.2.length ≠ 0 → ∀ g, q.1.ownBlock = some g → g ≠ d
theorem TabX.same {w w' : World} {d : Nat} {v : Value} {ps : List BRow} (h : TabX w d v ps) (g : w.grownBy w' none) : TabX w' d v ps := ⟨h.1.same g, h.2⟩
theorem TabX.deal {w w' : World} {d : Nat} {v : Value} {ps : List BRow} (h : TabX w d v ps) (g : w.grownBy w' (some d)) : TabX w' d v ps :=
  ⟨h.1.keptR g (by rintro k ⟨⟩ e; exact h.2.1 _ e rfl) (fun q hq h0 k hk e => by cases hk; exact h.2.2 q hq h0 _ e rfl), h.2⟩
theorem TabD.tabX {w : World} {d : Nat} {v : Value} {ps : List BRow} (h : TabD w d v ps) : TabX w d v ps := ⟨h.1.weak, fun g hg => by have := h.2.2.1 g hg; omega, fun q hq _ g hg => by have := h.2.2.2 q hq g hg; omega⟩
set_option maxRecDepth 100000 in
theorem MostV_w (vt : Value) (ps : List BRow) (w : World) (ht : BRowsW w vt ps) (hv : validT (ps.map Prod.snd) = true) :
    Calls Try.prog 20 #[vt] w (MostTo (ps.map Prod.snd) w) := by
  have HT := Lib.hid ht; have HF := Lib.hid (validT_few hv)
  obtain ⟨a, cap, rfl, -, -, -⟩ := ht
  go_enter Try.func20, Try.ntmps20
  go_wp2_with fail
  refine (Valid_w _ ps _ HT.out).mono ?_
  rintro e w1 ⟨rfl, hw1⟩
  rw [hw1, hv]
  clear hw1 w1 hv
  go_wp2_with fail
  refine (most_w _ ps _ HT.out HF.out).mono ?_
  rintro e w2 ⟨n, rfl, hn, hg⟩
  have HN := Lib.hid hn; have HG := Lib.hid hg
  clear hn hg
  go_wp2_with fail
  go_ret2
  exact ⟨n, rfl, HN.out, HG.out⟩


set_option maxRecDepth 100000 in
theorem Most_w (vt : Value) (ps : List BRow) (w : World) (ht : BRowsW w vt ps) :
    Calls Try.prog 20 #[vt] w (MostAll (ps.map Prod.snd) w) := by
  by_cases hv : validT (ps.map Prod.snd) = true
  · exact (MostV_w vt ps w ht hv).mono (by
      rintro e w' ⟨n, rfl, hn, hg⟩
      exact ⟨hg, .inr ⟨hv, n, rfl, hn⟩⟩)
  · have hv' : validT (ps.map Prod.snd) = false := by simpa using hv
    have HT := Lib.hid ht; have HV := Lib.hid hv'
    obtain ⟨a, cap, rfl, -, -, -⟩ := ht
    clear hv
    go_enter Try.func20, Try.ntmps20
    go_wp2_with fail
    refine (Valid_w _ ps _ HT.out).mono ?_
    rintro e w1 ⟨rfl, hw1⟩
    rw [hw1, hv']
    clear hw1 w1 hv'
    go_wp2_with fail
    go_ret2
    exact ⟨grown_refl _ _, .inl ⟨HV.out, rfl⟩⟩
set_option maxRecDepth 100000 in
theorem rMost_w (vt : Value) (ps : List BRow) (w : World) (ht : BRowsW w vt ps) :
    Calls Try.prog 21 #[vt] w (MostAll (ps.map Prod.snd) w) := by
  have HT := Lib.hid ht
  obtain ⟨a, cap, rfl, -, -, -⟩ := ht
  go_enter Try.func21, Try.ntmps21
  go_wp2_with fail
  refine (rvalid_w _ ps _ HT.out).mono ?_
  rintro e w1 ⟨rfl, hd⟩
  have HG := Lib.hid (hd.grown none)
  clear hd
  by_cases hv : validT (ps.map Prod.snd) = true
  · have HV := Lib.hid hv
    rw [hv]
    clear hv
    go_wp2_with fail
    obtain ⟨h1, h2⟩ := validT_iff.1 HV.out
    have h12 : ((ps.map Prod.snd)[0]?.getD []).length ≤ 12 := by
      cases ps with
      | nil => simp
      | cons p ps => exact (h2 p.2 (by simp)).1
    refine (rmost_w _ ps _ ((ps.map Prod.snd)[0]?.getD []).length (HT.out.same HG.out) (by simpa using h1) h12 (fun p hp => (h2 _ (List.mem_map_of_mem hp)).2)).mono ?_
    rintro e w2 ⟨n, rfl, hn, hg⟩
    have HN := Lib.hid hn; have HG2 := Lib.hid (grown_trans HG.out hg)
    clear hn hg h1 h2 h12
    go_wp2_with fail
    go_ret2
    exact ⟨HG2.out, .inr ⟨HV.out, n, rfl, HN.out⟩⟩
  · have hv' : validT (ps.map Prod.snd) = false := by simpa using hv
    have HV := Lib.hid hv'
    rw [hv']
    clear hv hv'
    go_wp2_with fail
    go_ret2
    exact ⟨HG.out, .inl ⟨HV.out, rfl⟩⟩

set_option maxRecDepth 100000 in
theorem Match_w (vt : Value) (ps : List BRow) (w : World) (ht : BRowsW w vt ps) :
    Calls Try.prog 18 #[vt] w (MatchAll (ps.map Prod.snd) w) := by
  rcases ht.or with h | h
  · exact Match_all vt ps w h
  by_cases hv : validT (ps.map Prod.snd) = true
  · have HE : Hid (∀ r j, tb (ps.map Prod.snd) r j = true → j < 0) := Lib.hid (by
      intro r j hj
      obtain ⟨hr, hj⟩ := tb_lt hj
      have h2 := (validT_iff.1 hv).2
      obtain ⟨p, hp, h0⟩ := h
      have e1 := (h2 _ (List.getElem_mem hr)).2
      have e2 := (h2 _ (List.mem_map_of_mem hp)).2
      rw [e1, ← e2, h0] at hj
      exact hj)
    have HL : Hid (1 ≤ ps.length) := Lib.hid (by
      obtain ⟨p, hp, -⟩ := h
      exact List.length_pos_of_mem hp)
    have HT := Lib.hid ht; have HF := Lib.hid (validT_few hv)
    obtain ⟨a, cap, rfl, -, -, -⟩ := ht
    clear h
    go_enter Try.func18, Try.ntmps18
    go_wp2_with fail
    refine (Valid_w _ ps _ HT.out).mono ?_
    rintro e w1 ⟨rfl, hw1⟩
    rw [hw1, hv]
    clear hw1 w1 hv
    go_wp2_with fail
    refine (most_w _ ps _ HT.out HF.out).mono ?_
    rintro e w2 ⟨n, rfl, hn, hg⟩
    have h0 : n = 0 := Nat.le_zero.1 (nu_cols HE.out hn)
    subst h0
    have HN := Lib.hid hn; have HG := Lib.hid hg
    have k1 : ((0 : Nat) : Int) < (ps.length : Int) := by have := HL.out; omega
    have k2 : (0 : Int) < (ps.length : Int) := by have := HL.out; omega
    have k3 : 0 < ps.length := HL.out
    clear hn hg
    go_wp2_with fail
    go_ret2
    refine ⟨HG.out, .inl ⟨fun ⟨_, m, hm⟩ => ?_, rfl⟩⟩
    have := hm.nu HN.out
    have := HL.out
    simp at *
    omega
  · have hv' : validT (ps.map Prod.snd) = false := by simpa using hv
    have HT := Lib.hid ht; have HV := Lib.hid hv'
    obtain ⟨a, cap, rfl, -, -, -⟩ := ht
    clear hv
    go_enter Try.func18, Try.ntmps18
    go_wp2_with fail
    refine (Valid_w _ ps _ HT.out).mono ?_
    rintro e w1 ⟨rfl, hw1⟩
    rw [hw1, hv']
    clear hw1 w1 hv'
    go_wp2_with fail
    go_ret2
    exact ⟨grown_refl _ _, .inl ⟨(fun h => by rw [HV.out] at h; cases h.1), rfl⟩⟩


set_option maxRecDepth 100000 in
theorem rMatch_w (vt : Value) (ps : List BRow) (w : World) (ht : BRowsW w vt ps) :
    Calls Try.prog 19 #[vt] w (MatchAll (ps.map Prod.snd) w) := by
  rcases ht.or with h | h
  · exact rMatch_any vt ps w h
  have HT := Lib.hid ht
  have HTL : Hid ((ps.map Prod.snd).length = ps.length) := Lib.hid (by simp)
  have HX := Lib.hid h
  obtain ⟨a, cap, rfl, -, -, -⟩ := ht
  clear h
  go_enter Try.func19, Try.ntmps19
  go_wp2_with fail
  refine (rvalid_w _ ps _ HT.out).mono ?_
  rintro e w1 ⟨rfl, hd⟩
  have G1 := Lib.hid (hd.grown none)
  clear hd
  by_cases hv : validT (ps.map Prod.snd) = true
  case neg =>
    have hv' : validT (ps.map Prod.snd) = false := by simpa using hv
    have HV := Lib.hid hv'
    rw [hv']
    clear hv hv'
    go_wp2_with fail
    go_ret2
    exact ⟨G1.out, .inl ⟨(fun h => by rw [HV.out] at h; cases h.1), rfl⟩⟩
  have HC : Hid (∀ p ∈ ps, p.2.length = 0) := Lib.hid (fun p hp => by
    obtain ⟨q, hq, h0⟩ := HX.out
    have h2 := (validT_iff.1 hv).2
    rw [(h2 _ (List.mem_map_of_mem hp)).2, ← (h2 _ (List.mem_map_of_mem hq)).2, h0])
  have hl12 : ps.length ≤ 12 := by simpa using (validT_iff.1 hv).1
  rw [hv]
  clear hv
  go_wp2_with fail
  refine (rmost_w _ ps _ 0 (HT.out.same G1.out) hl12 (by omega) HC.out).mono ?_
  rintro e w2 ⟨n, rfl, hn, hg⟩
  have h0 : n = 0 := Nat.le_zero.1 (nu_cols (fun r j hj => (tb_ltC HC.out hj).2) hn)
  subst h0
  have HN := Lib.hid hn; have G2 := Lib.hid (grown_trans G1.out hg)
  have HL : Hid (1 ≤ ps.length) := Lib.hid (by obtain ⟨p, hp, -⟩ := HX.out; exact List.length_pos_of_mem hp)
  have k1 : ((0 : Nat) : Int) < (ps.length : Int) := by have := HL.out; omega
  have k2 : (0 : Int) < (ps.length : Int) := by have := HL.out; omega
  have k3 : 0 < ps.length := HL.out
  clear hn hg
  go_wp2_with fail
  go_ret2
  refine ⟨G2.out, .inl ⟨(fun ⟨_, m, hm⟩ => ?_), rfl⟩⟩
  have h1 := hm.nu HN.out
  have h2 := HL.out
  rw [HTL.out] at h1
  omega

end Go.Proofs.Ytnppmemcdcgjhaa
