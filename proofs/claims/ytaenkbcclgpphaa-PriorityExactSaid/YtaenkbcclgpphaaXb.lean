/- Contracts of the reference of words: Embed, Leq, Compare. -/
import Derived.Test.YtaenkbcclgpphaaXa
import Derived.Test.YtaenkbcclgpphaaGr
import Derived.Test.YtaenkbcclgpphaaWc
namespace Go.Proofs.Ytaenkbcclgpphaa
open Go.RowKit
set_option linter.unusedVariables false

set_option maxRecDepth 100000 in
set_option maxHeartbeats 2000000 in
theorem rembedW_any (va vb : Value) (xs ys : List Int) (w : World) (h : Ints w va xs) (h' : Ints w vb ys) :
    Calls Try.prog 24 #[va, vb] w (GivesO (embedR xs ys) w) := by
  have H := Lib.hid h; have H' := Lib.hid h'
  obtain ⟨a, cap, rfl, hl, _, _⟩ := h
  obtain ⟨a', cap', rfl, hl1, _, _⟩ := h'
  unfold maxLen at hl hl1
  cases h1 : validW xs
  · have H1 := Lib.hid h1
    clear h1
    go_enter Try.func24, Try.ntmps24
    go_wp2_with fail
    refine (rvalidW_any _ _ _ H.out).mono ?_; rintro e w' ⟨rfl, rfl⟩
    rw [H1.out]
    go_wp2_with fail
    go_ret2
    rw [show embedR xs ys = none by simp [embedR, H1.out]]
    exact GivesO.no _ _ (grown_refl _ _)
  cases h2 : validW ys
  · have H1 := Lib.hid h1; have H2 := Lib.hid h2
    clear h1 h2
    go_enter Try.func24, Try.ntmps24
    go_wp2_with fail
    refine (rvalidW_any _ _ _ H.out).mono ?_; rintro e w' ⟨rfl, rfl⟩
    rw [H1.out]
    go_wp2_with fail
    refine (rvalidW_any _ _ _ H'.out).mono ?_; rintro e w' ⟨rfl, rfl⟩
    rw [H2.out]
    go_wp2_with fail
    go_ret2
    rw [show embedR xs ys = none by simp [embedR, H2.out]]
    exact GivesO.no _ _ (grown_refl _ _)
  have HR : Hid (embedR xs ys = placesL xs ys 0) := Lib.hid (by simp [embedR, h1, h2])
  have hx12 := (validW_le h1).1
  have hy12 := (validW_le h2).1
  have H1 := Lib.hid h1; have H2 := Lib.hid h2
  clear h1 h2
  go_enter Try.func24, Try.ntmps24
  go_wp2_with fail
  refine (rvalidW_any _ _ _ H.out).mono ?_; rintro e w0 ⟨rfl, rfl⟩
  rw [H1.out]
  go_wp2_with fail
  refine (rvalidW_any _ _ _ H'.out).mono ?_; rintro e w' ⟨rfl, rfl⟩
  rw [H2.out]
  go_wp2_with fail
  go_loopw [6, 7] (fun v i wr => ∃ (k : Nat) (zs : List Int), i = .int .i64 k ∧ k ≤ ys.length ∧ zs.length ≤ xs.length ∧ Hid (zs = greedy xs (ys.take k) 0 []) ∧ Hid (OwnI wr w'.heap.size v zs) ∧ Hid (w'.grownBy wr none)) (fun _ i _ => ys.length - (intOf i).toNat)
  case atStart => exact ⟨0, [], rfl, Nat.zero_le _, Nat.zero_le _, Lib.hid rfl, Lib.hid (OwnI.nil _ _), Lib.hid (grown_refl _ _)⟩
  case round =>
    obtain ⟨k, zs, rfl, hk, hlz, hz, ho, hg⟩ := hrel
    obtain ⟨vz, cz, rfl⟩ := ho.out.slice
    by_cases hlt : k < ys.length
    · have HS := Lib.hid (greedy_take xs ys k hlt)
      obtain ⟨_, _, hv, _, _, hc⟩ := H.out.same hg.out
      simp only [Value.slice.injEq] at hv
      obtain ⟨rfl, -, -⟩ := hv
      obtain ⟨_, _, hv, _, _, hc'⟩ := H'.out.same hg.out
      simp only [Value.slice.injEq] at hv
      obtain ⟨rfl, -, -⟩ := hv
      obtain ⟨b', off', rfl, hx'⟩ := Ints.at hc' hlt
      have hlt2 : (k : Int) < (ys.length : Int) := by omega
      by_cases hroom : zs.length < xs.length
      · obtain ⟨b, off, rfl, hx⟩ := Ints.at hc hroom
        have hr2 : (zs.length : Int) < (xs.length : Int) := by omega
        have hr3 : decide (zs.length < xs.length) = true := by simpa using hroom
        have HZ : Hid (greedy xs (ys.take (k + 1)) 0 [] = if xs[zs.length]?.getD 0 = ys[k]?.getD 0 then zs ++ [(k : Int)] else zs) := Lib.hid (by rw [HS.out, ← hz.out]; unfold place1; simp [hroom])
        clear hc hc'
        generalize xs[zs.length]?.getD 0 = x at *
        generalize ys[k]?.getD 0 = y at *
        by_cases hxy : x = y
        · have hq : (x == y) = true := by simpa using hxy
          have HX := Lib.hid hxy
          have hs1 := hg.out.size
          clear hxy
          go_wp2_with fail
          go_big_quiet (fail)
          go_wp2_with (at_builtin; refine app_int rfl _ _ rfl w'.heap.size _ zs rfl ((ho.out.kept (grown_drewN _ _ none) (by simp)).kept (World.grownBy_alloc _ _ none) (by simp)) wr.heap.size (k : Int) rfl (cell_new rfl) (by omega) (by simp; omega) ?_)
          intro v' w9 ho2 hg2
          have HO9 := Lib.hid ho2
          have HG9 := Lib.hid (grown_then (grown_trans (grown_trans hg.out (grown_drewN _ _ none)) (World.grownBy_alloc _ _ none)) hg2 (fun j hj => .inl (ho.out.fresh j hj).1))
          clear ho2 hg2
          go_wp2_with fail
          go_roundw
          case rel => exact ⟨k + 1, zs ++ [(k : Int)], by go_num, by omega, by simp; omega, Lib.hid (by rw [HZ.out, if_pos HX.out]), HO9, HG9⟩
          case measure => simp [intOf]; omega
        · have hq : (x == y) = false := by simpa using hxy
          have HX := Lib.hid hxy
          clear hxy
          go_wp2_with fail
          go_big_quiet (fail)
          go_wp2_with fail
          go_roundw
          case rel => exact ⟨k + 1, zs, by go_num, by omega, by omega, Lib.hid (by rw [HZ.out, if_neg HX.out]), Lib.hid (ho.out.kept (grown_drewN _ _ none) (by simp)), Lib.hid (grown_trans hg.out (grown_drewN _ _ none))⟩
          case measure => simp [intOf]; omega
      · have HZ : Hid (greedy xs (ys.take (k + 1)) 0 [] = zs) := Lib.hid (by rw [HS.out, ← hz.out]; unfold place1; rw [if_neg (by omega)])
        have hr2 : ¬ (zs.length : Int) < (xs.length : Int) := by omega
        have hr3 : decide (zs.length < xs.length) = false := by simpa using hroom
        clear hc hc'
        generalize ys[k]?.getD 0 = y at *
        go_wp2_with fail
        go_big_quiet (fail)
        go_wp2_with fail
        go_roundw
        case rel => exact ⟨k + 1, zs, by go_num, by omega, by omega, Lib.hid HZ.out.symm, Lib.hid (ho.out.kept (grown_drewN _ _ none) (by simp)), Lib.hid (grown_trans hg.out (grown_drewN _ _ none))⟩
        case measure => simp [intOf]; omega
    · have HZ : Hid (zs = greedy xs ys 0 []) := Lib.hid (by have := hz.out; rwa [List.take_of_length_le (by omega)] at this)
      have h9 : ¬ (k : Int) < (ys.length : Int) := by omega
      by_cases hfull : zs.length < xs.length
      · go_wp2_with fail
        go_ret2
        rw [HR.out, greedy_none (by rw [← HZ.out]; omega)]
        exact GivesO.no _ _ hg.out
      · go_wp2_with fail
        go_ret2
        rw [HR.out, greedy_some (by rw [← HZ.out]; omega), ← HZ.out]
        exact ⟨_, rfl, ho.out, hg.out⟩

theorem rleqW_any (va vb : Value) (xs ys : List Int) (w : World) (h : Ints w va xs) (h' : Ints w vb ys) :
    Calls Try.prog 22 #[va, vb] w fun e w' => e = .returned (.bool (leqW xs ys)) ∧ w.grownBy w' none := by
  have H := Lib.hid h; have H' := Lib.hid h'
  clear h h'
  go_enter Try.func22, Try.ntmps22
  go_wp2_with fail
  refine (rembedW_any _ _ _ _ _ H.out H'.out).mono ?_
  rintro e w1 ⟨v, rfl, ho, hg⟩
  have HG := Lib.hid hg
  clear ho hg
  go_wp2_with fail
  go_ret
  exact ⟨rfl, HG.out⟩

theorem rwcompare_any (va vb : Value) (xs ys : List Int) (w : World) (h : Ints w va xs) (h' : Ints w vb ys) :
    Calls Try.prog 20 #[va, vb] w fun e w' => e = .returned (.int .i64 (compareI xs ys)) ∧ Drew w w' := by
  have H := Lib.hid h; have H' := Lib.hid h'
  clear h h'
  go_enter Try.func20, Try.ntmps20
  go_wp2_with fail
  refine (rcompare_any _ _ _ _ _ H.out H'.out).mono ?_
  rintro e w1 ⟨rfl, hd⟩
  have HD := Lib.hid hd
  clear hd
  go_wp2_with fail
  go_ret
  exact ⟨rfl, HD.out⟩

end Go.Proofs.Ytaenkbcclgpphaa
