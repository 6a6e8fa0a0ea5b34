/- Contracts of package vector: sums, differences, maxima, minima. -/
import Derived.Test.YtaolnlnjgoakdaaB
import Derived.Test.YtaolnlnjgoakdaaE
namespace Go.Proofs.Ytaolnlnjgoakdaa
open Go.RowKit
set_option linter.unusedVariables false

def addI (x y : Int) : Int := if x = 1099511627776 ∨ y = 1099511627776 then 1099511627776 else x + y
def subI (x y : Int) : Int := if x = 1099511627776 then 1099511627776 else x - y

theorem add1_any (x y : Int) (w : World) (hx : 0 ≤ x ∧ x ≤ 1099511627776) (hy : 0 ≤ y ∧ y ≤ 1099511627776) :
    Calls Try.prog 43 #[.int .i64 x, .int .i64 y] w fun e w' => e = .returned (.int .i64 (addI x y)) ∧ w' = w := by
  obtain ⟨hx0, hx1⟩ := hx
  obtain ⟨hy0, hy1⟩ := hy
  by_cases h1 : x = 1099511627776
  · subst h1
    go_enter Try.func43, Try.ntmps43
    go_wp2
    go_ret
    exact ⟨ret_int (by simp [addI]), rfl⟩
  · have h3 : (x == 1099511627776) = false := by simpa using h1
    have H1 := Lib.hid h1
    clear h1
    by_cases h2 : y = 1099511627776
    · subst h2
      go_enter Try.func43, Try.ntmps43
      go_wp2
      go_ret
      exact ⟨ret_int (by simp [addI]), rfl⟩
    · have h4 : (y == 1099511627776) = false := by simpa using h2
      have H2 := Lib.hid h2
      clear h2
      go_enter Try.func43, Try.ntmps43
      go_wp2
      go_ret
      exact ⟨ret_int (by unfold addI; rw [if_neg (by have := H1.out; have := H2.out; omega)]), rfl⟩

theorem sub1_any (x y : Int) (w : World) (hx : 0 ≤ x ∧ x ≤ 1099511627776) (hy : 0 ≤ y ∧ y ≤ 1099511627776) :
    Calls Try.prog 45 #[.int .i64 x, .int .i64 y] w fun e w' => e = .returned (.int .i64 (subI x y)) ∧ w' = w := by
  obtain ⟨hx0, hx1⟩ := hx
  obtain ⟨hy0, hy1⟩ := hy
  by_cases h1 : x = 1099511627776
  · subst h1
    go_enter Try.func45, Try.ntmps45
    go_wp2
    go_ret
    exact ⟨ret_int (by simp [subI]), rfl⟩
  · have h3 : (x == 1099511627776) = false := by simpa using h1
    have H1 := Lib.hid h1
    clear h1
    go_enter Try.func45, Try.ntmps45
    go_wp2
    go_ret
    exact ⟨ret_int (by unfold subI; rw [if_neg H1.out]), rfl⟩

theorem max1_any (x y : Int) (w : World) (hx : 0 ≤ x ∧ x ≤ 1099511627776) (hy : 0 ≤ y ∧ y ≤ 1099511627776) :
    Calls Try.prog 46 #[.int .i64 x, .int .i64 y] w fun e w' => e = .returned (.int .i64 (max x y)) ∧ w' = w := by
  by_cases h : x ≤ y
  · go_enter Try.func46, Try.ntmps46
    go_wp2
    all_goals (go_ret; exact ⟨ret_int (by omega), rfl⟩)
  · go_enter Try.func46, Try.ntmps46
    go_wp2
    all_goals (go_ret; exact ⟨ret_int (by omega), rfl⟩)

theorem min1_any (x y : Int) (w : World) (hx : 0 ≤ x ∧ x ≤ 1099511627776) (hy : 0 ≤ y ∧ y ≤ 1099511627776) :
    Calls Try.prog 47 #[.int .i64 x, .int .i64 y] w fun e w' => e = .returned (.int .i64 (min x y)) ∧ w' = w := by
  by_cases h : x ≤ y
  · go_enter Try.func47, Try.ntmps47
    go_wp2
    all_goals (go_ret; exact ⟨ret_int (by omega), rfl⟩)
  · go_enter Try.func47, Try.ntmps47
    go_wp2
    all_goals (go_ret; exact ⟨ret_int (by omega), rfl⟩)

theorem set_take (zs l : List Int) (k : Nat) (hz : zs.length = l.length) (h : k < l.length) (ht : zs.take k = l.take k) : (zs.set k (l[k]?.getD 0)).take (k + 1) = l.take (k + 1) := by
  rw [take_snoc' l k h, take_snoc' _ k (by simp; omega), List.take_set_of_le (Nat.le_refl _), ht]
  simp [hz, h]

theorem zip_at (f : Int → Int → Int) : ∀ (xs ys : List Int) (k : Nat), k < xs.length → k < ys.length → (List.zipWith f xs ys)[k]?.getD 0 = f (xs[k]?.getD 0) (ys[k]?.getD 0)
  | [], _, _, h, _ => by simp at h
  | _ :: _, [], _, _, h => by simp at h
  | x :: xs, y :: ys, 0, _, _ => by simp
  | x :: xs, y :: ys, k + 1, h, h' => by simpa using zip_at f xs ys k (by simpa using h) (by simpa using h')

theorem mem_at {P : Int → Prop} {xs : List Int} (h : ∀ x ∈ xs, P x) {k : Nat} (hk : k < xs.length) : P (xs[k]?.getD 0) := by
  have := h (xs[k]) (List.getElem_mem hk)
  simpa [hk] using this

/-- A vector that a call makes. -/
def Made (xs : List Int) (w : World) (e : Ending) (w' : World) : Prop := ∃ v, e = .returned v ∧ OwnI w' w.heap.size v xs ∧ w.grownBy w' none

theorem combine_add (va vb : Value) (xs ys : List Int) (w : World) (h : Ints w va xs) (h' : Ints w vb ys) (hl' : xs.length = ys.length) (hm : xs.length ≤ 1000)
    (bx : ∀ x ∈ xs, 0 ≤ x ∧ x ≤ 1099511627776) (by_ : ∀ x ∈ ys, 0 ≤ x ∧ x ≤ 1099511627776) :
    Calls Try.prog 42 #[va, vb, .func (.func 43) #[] #[]] w (Made (List.zipWith addI xs ys) w) := by
  have HI := Lib.hid h; have HI' := Lib.hid h'; have BX := Lib.hid bx; have BY := Lib.hid by_
  obtain ⟨a, cap, rfl, hl, hb, hc⟩ := h
  obtain ⟨a', cap', rfl, hl1, hb', hc'⟩ := h'
  unfold maxLen at hl hl1
  clear hb hb' hc hc' bx by_
  have HE := Lib.hid hl'
  have hle : xs.length ≤ ys.length := by omega
  clear hl'
  go_enter Try.func42, Try.ntmps42
  go_wp2_with (at_make; refine make_int rfl _ _ rfl xs.length rfl rfl (by omega) ?_)
  intro w1 ho hg
  have HO := Lib.hid ho; have HG1 := Lib.hid hg
  clear ho hg
  go_wp2_with fail
  go_loopw [15] (fun i wr => ∃ (k : Nat) (zs : List Int), i = .int .i64 k ∧ k ≤ xs.length ∧ Hid (zs.length = xs.length ∧ zs.take k = (List.zipWith addI xs ys).take k) ∧ Hid (OwnI wr w.heap.size (.slice (some ⟨w.heap.size, 0, none⟩) xs.length xs.length) zs) ∧ Hid (w.grownBy wr none)) (fun i _ => xs.length - (intOf i).toNat)
  case atStart => exact ⟨0, _, rfl, Nat.zero_le _, Lib.hid ⟨by simp, by simp⟩, HO, HG1⟩
  case round =>
    obtain ⟨k, zs, rfl, hk, hz, ho, hg⟩ := hrel
    by_cases hlt : k < xs.length
    · have hlt' : k < ys.length := by omega
      obtain ⟨_, _, hv, _, _, hc⟩ := HI.out.same hg.out
      simp only [Value.slice.injEq] at hv
      obtain ⟨rfl, -, -⟩ := hv
      obtain ⟨_, _, hv, _, _, hc'⟩ := HI'.out.same hg.out
      simp only [Value.slice.injEq] at hv
      obtain ⟨rfl, -, -⟩ := hv
      obtain ⟨b, off, rfl, hx⟩ := Ints.at hc hlt
      obtain ⟨b', off', rfl, hx'⟩ := Ints.at hc' hlt'
      have hbx := mem_at BX.out hlt
      have hby := mem_at BY.out hlt'
      have HZ := Lib.hid (zip_at addI xs ys k hlt hlt')
      have h1 : (k : Int) < (xs.length : Int) := by omega
      have h2 : (k : Int) < (ys.length : Int) := by omega
      obtain ⟨hcell, hfr⟩ := ho.out.cell k (by have := hz.out.1; omega)
      clear hc hc'
      generalize xs[k]?.getD 0 = x at *
      generalize ys[k]?.getD 0 = y at *
      have HX := Lib.hid hbx; have HY := Lib.hid hby
      clear hbx hby
      go_wp2_with (go_at_call 43; refine (add1_any _ _ _ HX.out HY.out).mono ?_; rintro e w' ⟨rfl, rfl⟩)
      go_roundw
      case rel => exact ⟨k + 1, zs.set k (addI x y), by go_num, by omega, Lib.hid ⟨by simp; exact hz.out.1, by rw [← HZ.out]; exact set_take zs _ k (by have := hz.out.1; simp; omega) (by simp; omega) hz.out.2⟩, Lib.hid (ho.out.stored k _), Lib.hid (grown_then hg.out (grown_set _ _ _) (by rintro j ⟨⟩; exact .inl (Nat.le_refl _)))⟩
      case measure => simp [intOf]; omega
    · go_wp2_with fail
      go_ret
      have hq : zs = List.zipWith addI xs ys := by
        have h1 := hz.out.2
        have h2 := hz.out.1
        have h3 := HE.out
        rwa [List.take_of_length_le (by omega), List.take_of_length_le (by simp; omega)] at h1
      exact ⟨_, rfl, hq ▸ ho.out, hg.out⟩

theorem combine_sub (va vb : Value) (xs ys : List Int) (w : World) (h : Ints w va xs) (h' : Ints w vb ys) (hl' : xs.length = ys.length) (hm : xs.length ≤ 1000)
    (bx : ∀ x ∈ xs, 0 ≤ x ∧ x ≤ 1099511627776) (by_ : ∀ x ∈ ys, 0 ≤ x ∧ x ≤ 1099511627776) :
    Calls Try.prog 42 #[va, vb, .func (.func 45) #[] #[]] w (Made (List.zipWith subI xs ys) w) := by
  have HI := Lib.hid h; have HI' := Lib.hid h'; have BX := Lib.hid bx; have BY := Lib.hid by_
  obtain ⟨a, cap, rfl, hl, hb, hc⟩ := h
  obtain ⟨a', cap', rfl, hl1, hb', hc'⟩ := h'
  unfold maxLen at hl hl1
  clear hb hb' hc hc' bx by_
  have HE := Lib.hid hl'
  have hle : xs.length ≤ ys.length := by omega
  clear hl'
  go_enter Try.func42, Try.ntmps42
  go_wp2_with (at_make; refine make_int rfl _ _ rfl xs.length rfl rfl (by omega) ?_)
  intro w1 ho hg
  have HO := Lib.hid ho; have HG1 := Lib.hid hg
  clear ho hg
  go_wp2_with fail
  go_loopw [15] (fun i wr => ∃ (k : Nat) (zs : List Int), i = .int .i64 k ∧ k ≤ xs.length ∧ Hid (zs.length = xs.length ∧ zs.take k = (List.zipWith subI xs ys).take k) ∧ Hid (OwnI wr w.heap.size (.slice (some ⟨w.heap.size, 0, none⟩) xs.length xs.length) zs) ∧ Hid (w.grownBy wr none)) (fun i _ => xs.length - (intOf i).toNat)
  case atStart => exact ⟨0, _, rfl, Nat.zero_le _, Lib.hid ⟨by simp, by simp⟩, HO, HG1⟩
  case round =>
    obtain ⟨k, zs, rfl, hk, hz, ho, hg⟩ := hrel
    by_cases hlt : k < xs.length
    · have hlt' : k < ys.length := by omega
      obtain ⟨_, _, hv, _, _, hc⟩ := HI.out.same hg.out
      simp only [Value.slice.injEq] at hv
      obtain ⟨rfl, -, -⟩ := hv
      obtain ⟨_, _, hv, _, _, hc'⟩ := HI'.out.same hg.out
      simp only [Value.slice.injEq] at hv
      obtain ⟨rfl, -, -⟩ := hv
      obtain ⟨b, off, rfl, hx⟩ := Ints.at hc hlt
      obtain ⟨b', off', rfl, hx'⟩ := Ints.at hc' hlt'
      have hbx := mem_at BX.out hlt
      have hby := mem_at BY.out hlt'
      have HZ := Lib.hid (zip_at subI xs ys k hlt hlt')
      have h1 : (k : Int) < (xs.length : Int) := by omega
      have h2 : (k : Int) < (ys.length : Int) := by omega
      obtain ⟨hcell, hfr⟩ := ho.out.cell k (by have := hz.out.1; omega)
      clear hc hc'
      generalize xs[k]?.getD 0 = x at *
      generalize ys[k]?.getD 0 = y at *
      have HX := Lib.hid hbx; have HY := Lib.hid hby
      clear hbx hby
      go_wp2_with (go_at_call 45; refine (sub1_any _ _ _ HX.out HY.out).mono ?_; rintro e w' ⟨rfl, rfl⟩)
      go_roundw
      case rel => exact ⟨k + 1, zs.set k (subI x y), by go_num, by omega, Lib.hid ⟨by simp; exact hz.out.1, by rw [← HZ.out]; exact set_take zs _ k (by have := hz.out.1; simp; omega) (by simp; omega) hz.out.2⟩, Lib.hid (ho.out.stored k _), Lib.hid (grown_then hg.out (grown_set _ _ _) (by rintro j ⟨⟩; exact .inl (Nat.le_refl _)))⟩
      case measure => simp [intOf]; omega
    · go_wp2_with fail
      go_ret
      have hq : zs = List.zipWith subI xs ys := by
        have h1 := hz.out.2
        have h2 := hz.out.1
        have h3 := HE.out
        rwa [List.take_of_length_le (by omega), List.take_of_length_le (by simp; omega)] at h1
      exact ⟨_, rfl, hq ▸ ho.out, hg.out⟩

theorem combine_max (va vb : Value) (xs ys : List Int) (w : World) (h : Ints w va xs) (h' : Ints w vb ys) (hl' : xs.length = ys.length) (hm : xs.length ≤ 1000)
    (bx : ∀ x ∈ xs, 0 ≤ x ∧ x ≤ 1099511627776) (by_ : ∀ x ∈ ys, 0 ≤ x ∧ x ≤ 1099511627776) :
    Calls Try.prog 42 #[va, vb, .func (.func 46) #[] #[]] w (Made (List.zipWith max xs ys) w) := by
  have HI := Lib.hid h; have HI' := Lib.hid h'; have BX := Lib.hid bx; have BY := Lib.hid by_
  obtain ⟨a, cap, rfl, hl, hb, hc⟩ := h
  obtain ⟨a', cap', rfl, hl1, hb', hc'⟩ := h'
  unfold maxLen at hl hl1
  clear hb hb' hc hc' bx by_
  have HE := Lib.hid hl'
  have hle : xs.length ≤ ys.length := by omega
  clear hl'
  go_enter Try.func42, Try.ntmps42
  go_wp2_with (at_make; refine make_int rfl _ _ rfl xs.length rfl rfl (by omega) ?_)
  intro w1 ho hg
  have HO := Lib.hid ho; have HG1 := Lib.hid hg
  clear ho hg
  go_wp2_with fail
  go_loopw [15] (fun i wr => ∃ (k : Nat) (zs : List Int), i = .int .i64 k ∧ k ≤ xs.length ∧ Hid (zs.length = xs.length ∧ zs.take k = (List.zipWith max xs ys).take k) ∧ Hid (OwnI wr w.heap.size (.slice (some ⟨w.heap.size, 0, none⟩) xs.length xs.length) zs) ∧ Hid (w.grownBy wr none)) (fun i _ => xs.length - (intOf i).toNat)
  case atStart => exact ⟨0, _, rfl, Nat.zero_le _, Lib.hid ⟨by simp, by simp⟩, HO, HG1⟩
  case round =>
    obtain ⟨k, zs, rfl, hk, hz, ho, hg⟩ := hrel
    by_cases hlt : k < xs.length
    · have hlt' : k < ys.length := by omega
      obtain ⟨_, _, hv, _, _, hc⟩ := HI.out.same hg.out
      simp only [Value.slice.injEq] at hv
      obtain ⟨rfl, -, -⟩ := hv
      obtain ⟨_, _, hv, _, _, hc'⟩ := HI'.out.same hg.out
      simp only [Value.slice.injEq] at hv
      obtain ⟨rfl, -, -⟩ := hv
      obtain ⟨b, off, rfl, hx⟩ := Ints.at hc hlt
      obtain ⟨b', off', rfl, hx'⟩ := Ints.at hc' hlt'
      have hbx := mem_at BX.out hlt
      have hby := mem_at BY.out hlt'
      have HZ := Lib.hid (zip_at max xs ys k hlt hlt')
      have h1 : (k : Int) < (xs.length : Int) := by omega
      have h2 : (k : Int) < (ys.length : Int) := by omega
      obtain ⟨hcell, hfr⟩ := ho.out.cell k (by have := hz.out.1; omega)
      clear hc hc'
      generalize xs[k]?.getD 0 = x at *
      generalize ys[k]?.getD 0 = y at *
      have HX := Lib.hid hbx; have HY := Lib.hid hby
      clear hbx hby
      go_wp2_with (go_at_call 46; refine (max1_any _ _ _ HX.out HY.out).mono ?_; rintro e w' ⟨rfl, rfl⟩)
      go_roundw
      case rel => exact ⟨k + 1, zs.set k (max x y), by go_num, by omega, Lib.hid ⟨by simp; exact hz.out.1, by rw [← HZ.out]; exact set_take zs _ k (by have := hz.out.1; simp; omega) (by simp; omega) hz.out.2⟩, Lib.hid (ho.out.stored k _), Lib.hid (grown_then hg.out (grown_set _ _ _) (by rintro j ⟨⟩; exact .inl (Nat.le_refl _)))⟩
      case measure => simp [intOf]; omega
    · go_wp2_with fail
      go_ret
      have hq : zs = List.zipWith max xs ys := by
        have h1 := hz.out.2
        have h2 := hz.out.1
        have h3 := HE.out
        rwa [List.take_of_length_le (by omega), List.take_of_length_le (by simp; omega)] at h1
      exact ⟨_, rfl, hq ▸ ho.out, hg.out⟩

theorem combine_min (va vb : Value) (xs ys : List Int) (w : World) (h : Ints w va xs) (h' : Ints w vb ys) (hl' : xs.length = ys.length) (hm : xs.length ≤ 1000)
    (bx : ∀ x ∈ xs, 0 ≤ x ∧ x ≤ 1099511627776) (by_ : ∀ x ∈ ys, 0 ≤ x ∧ x ≤ 1099511627776) :
    Calls Try.prog 42 #[va, vb, .func (.func 47) #[] #[]] w (Made (List.zipWith min xs ys) w) := by
  have HI := Lib.hid h; have HI' := Lib.hid h'; have BX := Lib.hid bx; have BY := Lib.hid by_
  obtain ⟨a, cap, rfl, hl, hb, hc⟩ := h
  obtain ⟨a', cap', rfl, hl1, hb', hc'⟩ := h'
  unfold maxLen at hl hl1
  clear hb hb' hc hc' bx by_
  have HE := Lib.hid hl'
  have hle : xs.length ≤ ys.length := by omega
  clear hl'
  go_enter Try.func42, Try.ntmps42
  go_wp2_with (at_make; refine make_int rfl _ _ rfl xs.length rfl rfl (by omega) ?_)
  intro w1 ho hg
  have HO := Lib.hid ho; have HG1 := Lib.hid hg
  clear ho hg
  go_wp2_with fail
  go_loopw [15] (fun i wr => ∃ (k : Nat) (zs : List Int), i = .int .i64 k ∧ k ≤ xs.length ∧ Hid (zs.length = xs.length ∧ zs.take k = (List.zipWith min xs ys).take k) ∧ Hid (OwnI wr w.heap.size (.slice (some ⟨w.heap.size, 0, none⟩) xs.length xs.length) zs) ∧ Hid (w.grownBy wr none)) (fun i _ => xs.length - (intOf i).toNat)
  case atStart => exact ⟨0, _, rfl, Nat.zero_le _, Lib.hid ⟨by simp, by simp⟩, HO, HG1⟩
  case round =>
    obtain ⟨k, zs, rfl, hk, hz, ho, hg⟩ := hrel
    by_cases hlt : k < xs.length
    · have hlt' : k < ys.length := by omega
      obtain ⟨_, _, hv, _, _, hc⟩ := HI.out.same hg.out
      simp only [Value.slice.injEq] at hv
      obtain ⟨rfl, -, -⟩ := hv
      obtain ⟨_, _, hv, _, _, hc'⟩ := HI'.out.same hg.out
      simp only [Value.slice.injEq] at hv
      obtain ⟨rfl, -, -⟩ := hv
      obtain ⟨b, off, rfl, hx⟩ := Ints.at hc hlt
      obtain ⟨b', off', rfl, hx'⟩ := Ints.at hc' hlt'
      have hbx := mem_at BX.out hlt
      have hby := mem_at BY.out hlt'
      have HZ := Lib.hid (zip_at min xs ys k hlt hlt')
      have h1 : (k : Int) < (xs.length : Int) := by omega
      have h2 : (k : Int) < (ys.length : Int) := by omega
      obtain ⟨hcell, hfr⟩ := ho.out.cell k (by have := hz.out.1; omega)
      clear hc hc'
      generalize xs[k]?.getD 0 = x at *
      generalize ys[k]?.getD 0 = y at *
      have HX := Lib.hid hbx; have HY := Lib.hid hby
      clear hbx hby
      go_wp2_with (go_at_call 47; refine (min1_any _ _ _ HX.out HY.out).mono ?_; rintro e w' ⟨rfl, rfl⟩)
      go_roundw
      case rel => exact ⟨k + 1, zs.set k (min x y), by go_num, by omega, Lib.hid ⟨by simp; exact hz.out.1, by rw [← HZ.out]; exact set_take zs _ k (by have := hz.out.1; simp; omega) (by simp; omega) hz.out.2⟩, Lib.hid (ho.out.stored k _), Lib.hid (grown_then hg.out (grown_set _ _ _) (by rintro j ⟨⟩; exact .inl (Nat.le_refl _)))⟩
      case measure => simp [intOf]; omega
    · go_wp2_with fail
      go_ret
      have hq : zs = List.zipWith min xs ys := by
        have h1 := hz.out.2
        have h2 := hz.out.1
        have h3 := HE.out
        rwa [List.take_of_length_le (by omega), List.take_of_length_le (by simp; omega)] at h1
      exact ⟨_, rfl, hq ▸ ho.out, hg.out⟩

end Go.Proofs.Ytaolnlnjgoakdaa
