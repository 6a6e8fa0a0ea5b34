/- Most and Match whatever the table; the reference's Most and Proves. -/
import Derived.Test.YtnppmemcdcgjhaaLb
import Derived.Test.YtnppmemcdcgjhaaHj
import Derived.Test.YtnppmemcdcgjhaaHn
namespace Go.Proofs.Ytnppmemcdcgjhaa
open Go.RowKit
set_option linter.unusedVariables false

def MostAll (T : List (List Bool)) (w : World) (e : Ending) (w' : World) : Prop := w.grownBy w' none ∧ ((validT T = false ∧ e = .returned (.tuple #[.int .i64 0, .bool false])) ∨ (validT T = true ∧ ∃ n : Nat, e = .returned (.tuple #[.int .i64 (n : Int), .bool true]) ∧ Nu T n))
set_option maxRecDepth 100000 in
theorem Most_all (vt : Value) (ps : List BRow) (w : World) (ht : BRowsP w vt ps) :
    Calls Try.prog 20 #[vt] w (MostAll (ps.map Prod.snd) w) := by
  by_cases hv : validT (ps.map Prod.snd) = true
  · exact (Most_any vt ps w ht hv).mono (by
      rintro e w' ⟨n, rfl, hn, hg⟩
      exact ⟨hg, .inr ⟨hv, n, rfl, hn⟩⟩)
  · have hv' : validT (ps.map Prod.snd) = false := by simpa using hv
    have HT := Lib.hid ht; have HV := Lib.hid hv'
    obtain ⟨a, cap, rfl, -, -, -⟩ := ht
    clear hv
    go_enter Try.func20, Try.ntmps20
    go_wp2_with fail
    refine (Valid_any _ ps _ HT.out).mono ?_
    rintro e w1 ⟨rfl, hw1⟩
    rw [hw1, hv']
    clear hw1 w1 hv'
    go_wp2_with fail
    go_ret2
    exact ⟨grown_refl _ _, .inl ⟨HV.out, rfl⟩⟩
set_option maxRecDepth 100000 in
theorem rMost_any (vt : Value) (ps : List BRow) (w : World) (ht : BRowsP w vt ps) :
    Calls Try.prog 21 #[vt] w (MostAll (ps.map Prod.snd) w) := by
  have HT := Lib.hid ht
  obtain ⟨a, cap, rfl, -, -, -⟩ := ht
  go_enter Try.func21, Try.ntmps21
  go_wp2_with fail
  refine (rvalid_any _ ps _ HT.out).mono ?_
  rintro e w1 ⟨rfl, hd⟩
  have HG := Lib.hid (hd.grown none)
  clear hd
  by_cases hv : validT (ps.map Prod.snd) = true
  · have HV := Lib.hid hv
    rw [hv]
    clear hv
    go_wp2_with fail
    obtain ⟨h1, h2⟩ := validT_iff.1 HV.out
    have h12 : ((ps.map Prod.snd)[0]?.getD []).length ≤ 12 := by
      cases ps with
      | nil => simp
      | cons p ps => exact (h2 p.2 (by simp)).1
    refine (rmost_any _ ps _ ((ps.map Prod.snd)[0]?.getD []).length (HT.out.same HG.out) (by simpa using h1) h12 (fun p hp => (h2 _ (List.mem_map_of_mem hp)).2)).mono ?_
    rintro e w2 ⟨n, rfl, hn, hg⟩
    have HN := Lib.hid hn; have HG2 := Lib.hid (grown_trans HG.out hg)
    clear hn hg h1 h2 h12
    go_wp2_with fail
    go_ret2
    exact ⟨HG2.out, .inr ⟨HV.out, n, rfl, HN.out⟩⟩
  · have hv' : validT (ps.map Prod.snd) = false := by simpa using hv
    have HV := Lib.hid hv'
    rw [hv']
    clear hv hv'
    go_wp2_with fail
    go_ret2
    exact ⟨HG.out, .inl ⟨HV.out, rfl⟩⟩
def MatchAll (T : List (List Bool)) (w : World) (e : Ending) (w' : World) : Prop :=
  w.grownBy w' none ∧ ((¬ (validT T = true ∧ ∃ m, PM T m) ∧ e = .returned (.tuple #[.slice none 0 0, .bool false])) ∨
    (validT T = true ∧ ∃ v m, e = .returned (.tuple #[v, .bool true]) ∧ OwnI w' w.heap.size v (m.map Int.ofNat) ∧ PM T m ∧ ∀ m', PM T m' → LexLe m m'))
set_option maxRecDepth 100000 in
theorem Match_all (vt : Value) (ps : List BRow) (w : World) (ht : BRowsP w vt ps) :
    Calls Try.prog 18 #[vt] w (MatchAll (ps.map Prod.snd) w) := by
  by_cases hv : validT (ps.map Prod.snd) = true
  · by_cases h1 : ∀ p ∈ ps, 1 ≤ p.2.length
    · exact (Match_any vt ps w ht hv h1).mono (by
        rintro e w' ⟨n, hn, hg, (⟨hlt, rfl⟩ | ⟨rfl, v, m, rfl, ho, hp, hm⟩)⟩
        · exact ⟨hg, .inl ⟨fun ⟨_, m, hm⟩ => by have := hm.nu hn; omega, rfl⟩⟩
        · exact ⟨hg, .inr ⟨hv, v, m, rfl, ho, hp, hm⟩⟩)
    · have HE : Hid (∀ r j, tb (ps.map Prod.snd) r j = true → j < 0) := Lib.hid (by
        intro r j hj
        obtain ⟨hr, hj⟩ := tb_lt hj
        have h2 := (validT_iff.1 hv).2
        exfalso
        refine h1 (fun p hp => ?_)
        have e1 := (h2 _ (List.getElem_mem hr)).2
        have e2 := (h2 _ (List.mem_map_of_mem hp)).2
        rw [e1] at hj
        rw [e2]; omega)
      have HL : Hid (1 ≤ ps.length) := Lib.hid (by
        cases ps with
        | nil => exact absurd (by simp) h1
        | cons p ps => simp)
      have HT := Lib.hid ht; have HF := Lib.hid (validT_few hv)
      obtain ⟨a, cap, rfl, -, -, -⟩ := ht
      clear h1
      go_enter Try.func18, Try.ntmps18
      go_wp2_with fail
      refine (Valid_any _ ps _ HT.out).mono ?_
      rintro e w1 ⟨rfl, hw1⟩
      rw [hw1, hv]
      clear hw1 w1 hv
      go_wp2_with fail
      refine (most_any _ ps _ HT.out HF.out).mono ?_
      rintro e w2 ⟨n, rfl, hn, hg⟩
      have h0 : n = 0 := Nat.le_zero.1 (nu_cols HE.out hn)
      subst h0
      have HN := Lib.hid hn; have HG := Lib.hid hg
      have k1 : ((0 : Nat) : Int) < (ps.length : Int) := by have := HL.out; omega
      have k2 : (0 : Int) < (ps.length : Int) := by have := HL.out; omega
      have k3 : 0 < ps.length := HL.out
      clear hn hg
      go_wp2_with fail
      go_ret2
      refine ⟨HG.out, .inl ⟨fun ⟨_, m, hm⟩ => ?_, rfl⟩⟩
      have := hm.nu HN.out
      have := HL.out
      simp at *
      omega
  · have hv' : validT (ps.map Prod.snd) = false := by simpa using hv
    have HT := Lib.hid ht; have HV := Lib.hid hv'
    obtain ⟨a, cap, rfl, -, -, -⟩ := ht
    clear hv
    go_enter Try.func18, Try.ntmps18
    go_wp2_with fail
    refine (Valid_any _ ps _ HT.out).mono ?_
    rintro e w1 ⟨rfl, hw1⟩
    rw [hw1, hv']
    clear hw1 w1 hv'
    go_wp2_with fail
    go_ret2
    exact ⟨grown_refl _ _, .inl ⟨(fun h => by rw [HV.out] at h; cases h.1), rfl⟩⟩

end Go.Proofs.Ytnppmemcdcgjhaa
