/- Contracts of package word: Valid, Embed, Leq. -/
import Derived.Test.YtaenkbcclgpphaaRows
import Derived.Test.YtaenkbcclgpphaaGo
import Derived.Test.YtaenkbcclgpphaaWp
namespace Go.Proofs.Ytaenkbcclgpphaa
open Go.RowKit
set_option linter.unusedVariables false

theorem OwnI.slice {w : World} {base : Nat} {v : Value} {xs : List Int} (h : OwnI w base v xs) : ∃ a cap, v = .slice a xs.length cap := by
  rcases h.2 with ⟨rfl, h0⟩ | ⟨g, cap, cur, rfl, _⟩
  · exact ⟨none, 0, by rw [h0]⟩
  · exact ⟨_, cap, rfl⟩
theorem make_cap_int {ops : Array Oper} {rest : List Oper} {o : Oper} {a : Act} {w : World} {Q : Exit → Act → World → Prop} (hgd : o.guard = none) (l c : Operand)
    (hop : o.op = Op.makeSlice 22 l c) (n : Nat) (hl : a.eval l = .int .i64 (0 : Int)) (hc : a.eval c = .int .i64 (n : Int)) (hn : n ≤ 1000000000000)
    (h : ∀ w', OwnI w' w.heap.size (.slice (some ⟨w.heap.size, 0, none⟩) 0 n) [] → w.grownBy w' none → wpList Try.prog ops Q rest (a.put o.dst (.slice (some ⟨w.heap.size, 0, none⟩) 0 n)) w') :
    wpList Try.prog ops Q (o :: rest) a w := by
  obtain ⟨i, hi, hz0, hz1, hz2⟩ := info_parts info_int
  refine wpList_make_own w hgd l c 22 hop w.heap.size 3 i (.int .i64 0) 1 Try.underlying22 hi hz0 hz1 .i64 .i64 n n hl hc rfl (by rw [hz2]; omega) (by unfold maxLen; omega) (Nat.le_refl _) ?_
  intro w' h1 h2
  exact h w' h1 h2
/-- A list of places, or none, with a bool. -/
def GivesO (r : Option (List Int)) (w : World) (e : Ending) (w' : World) : Prop := ∃ v, e = .returned (.tuple #[v, .bool r.isSome]) ∧ OwnI w' w.heap.size v (r.getD []) ∧ w.grownBy w' none
theorem GivesO.no (w w' : World) (g : w.grownBy w' none) : GivesO none w (.returned (.tuple #[.slice none 0 0, .bool false])) w' := ⟨_, rfl, OwnI.nil _ _, g⟩

theorem validW_any (v : Value) (xs : List Int) (w : World) (h : Ints w v xs) :
    Calls Try.prog 17 #[v] w fun e w' => e = .returned (.bool (validW xs)) ∧ w' = w := by
  obtain ⟨a, cap, rfl, hl, hb, hc⟩ := h
  unfold maxLen at hl
  clear hb
  go_enter Try.func17, Try.ntmps17
  go_wp2
  · go_ret
    exact ⟨ret_bool (by simp [validW]; omega), rfl⟩
  · go_loop [10] (fun i => ∃ k : Nat, k ≤ xs.length ∧ i = .int .i64 k ∧ (xs.take k).all letterB = true) (fun i => xs.length - (intOf i).toNat)
    case atStart => exact ⟨0, Nat.zero_le _, rfl, rfl⟩
    case round =>
      obtain ⟨k, hk, rfl, ha⟩ := hrel
      by_cases hlt : k < xs.length
      · have HS := Lib.hid (all_snoc letterB xs k hlt)
        obtain ⟨b, off, rfl, hx⟩ := Ints.at hc hlt
        have HA := Lib.hid ha
        clear ha hc
        generalize xs[k]?.getD 0 = x at *
        by_cases h0 : 0 ≤ x
        · by_cases h1 : x < 16
          · go_wp2_with fail
            go_round
            case rel => exact ⟨k + 1, by omega, by go_num, by rw [HS.out, HA.out]; simp [letterB, h0, h1]⟩
            case measure => simp [intOf]; omega
          · go_wp2_with fail
            go_ret
            exact ⟨ret_bool (validW_false (k := k + 1) (by rw [HS.out, HA.out]; simp [letterB]; omega)).symm, rfl⟩
        · go_wp2_with fail
          go_ret
          exact ⟨ret_bool (validW_false (k := k + 1) (by rw [HS.out, HA.out]; simp [letterB]; omega)).symm, rfl⟩
      · clear hc
        go_wp2
        go_ret
        exact ⟨ret_bool (by rw [List.take_of_length_le (by omega)] at ha; rw [validW, ha, Bool.and_true]; symm; simp; omega), rfl⟩

set_option maxHeartbeats 1000000 in
theorem embedW_any (va vb : Value) (xs ys : List Int) (w : World) (h : Ints w va xs) (h' : Ints w vb ys) :
    Calls Try.prog 23 #[va, vb] w (GivesO (embedR xs ys) w) := by
  have H := Lib.hid h; have H' := Lib.hid h'
  obtain ⟨a, cap, rfl, hl, _, _⟩ := h
  obtain ⟨a', cap', rfl, hl1, _, _⟩ := h'
  unfold maxLen at hl hl1
  cases h1 : validW xs
  · go_enter Try.func23, Try.ntmps23
    go_wp2_with (go_at_call 17; refine (validW_any _ _ _ H.out).mono ?_; rintro e w' ⟨rfl, rfl⟩)
    go_ret2
    rw [show embedR xs ys = none by simp [embedR, h1]]
    exact GivesO.no _ _ (grown_refl _ _)
  cases h2 : validW ys
  · go_enter Try.func23, Try.ntmps23
    go_wp2_with fail
    refine (validW_any _ _ _ H.out).mono ?_; rintro e w' ⟨rfl, rfl⟩
    go_wp2_with fail
    refine (validW_any _ _ _ H'.out).mono ?_; rintro e w' ⟨rfl, rfl⟩
    go_wp2_with fail
    go_ret2
    rw [show embedR xs ys = none by simp [embedR, h2]]
    exact GivesO.no _ _ (grown_refl _ _)
  have HR : Hid (embedR xs ys = placesL xs ys 0) := Lib.hid (by simp [embedR, h1, h2])
  have hx12 := (validW_le h1).1
  have hy12 := (validW_le h2).1
  have H1 := Lib.hid h1; have H2 := Lib.hid h2
  clear h1 h2
  go_enter Try.func23, Try.ntmps23
  go_wp2_with fail
  refine (validW_any _ _ _ H.out).mono ?_; rintro e w0 ⟨rfl, rfl⟩
  rw [H1.out]
  go_wp2_with fail
  refine (validW_any _ _ _ H'.out).mono ?_; rintro e w' ⟨rfl, rfl⟩
  rw [H2.out]
  go_wp2_with (at_make; refine make_cap_int rfl _ _ rfl xs.length rfl rfl (by omega) ?_)
  intro w1 ho hg
  have HO := Lib.hid ho; have HG := Lib.hid hg
  clear ho hg
  go_wp2_with fail
  go_loopw [6, 22] (fun v i wr => ∃ (k : Nat) (zs : List Int), i = .int .i64 k ∧ k ≤ ys.length ∧ zs.length ≤ xs.length ∧ Hid (zs = greedy xs (ys.take k) 0 []) ∧ Hid (OwnI wr w'.heap.size v zs) ∧ Hid (w'.grownBy wr none)) (fun _ i _ => ys.length - (intOf i).toNat)
  case atStart => exact ⟨0, [], rfl, Nat.zero_le _, Nat.zero_le _, Lib.hid rfl, HO, HG⟩
  case round =>
    obtain ⟨k, zs, rfl, hk, hlz, hz, ho, hg⟩ := hrel
    obtain ⟨vz, cz, rfl⟩ := ho.out.slice
    by_cases hlt : k < ys.length
    · have HS := Lib.hid (greedy_take xs ys k hlt)
      obtain ⟨_, _, hv, _, _, hc⟩ := H.out.same hg.out
      simp only [Value.slice.injEq] at hv
      obtain ⟨rfl, -, -⟩ := hv
      obtain ⟨_, _, hv, _, _, hc'⟩ := H'.out.same hg.out
      simp only [Value.slice.injEq] at hv
      obtain ⟨rfl, -, -⟩ := hv
      obtain ⟨b', off', rfl, hx'⟩ := Ints.at hc' hlt
      have hlt2 : (k : Int) < (ys.length : Int) := by omega
      by_cases hroom : zs.length < xs.length
      · obtain ⟨b, off, rfl, hx⟩ := Ints.at hc hroom
        have hr2 : (zs.length : Int) < (xs.length : Int) := by omega
        have HZ : Hid (greedy xs (ys.take (k + 1)) 0 [] = if xs[zs.length]?.getD 0 = ys[k]?.getD 0 then zs ++ [(k : Int)] else zs) := Lib.hid (by rw [HS.out, ← hz.out]; unfold place1; simp [hroom])
        clear hc hc'
        generalize xs[zs.length]?.getD 0 = x at *
        generalize ys[k]?.getD 0 = y at *
        by_cases hxy : x = y
        · have hq : (x == y) = true := by simpa using hxy
          have HX := Lib.hid hxy
          have hs1 := hg.out.size
          clear hxy
          go_wp2_with (at_builtin; refine app_int rfl _ _ rfl w'.heap.size _ zs rfl (ho.out.kept (World.grownBy_alloc _ _ none) (by simp)) wr.heap.size (k : Int) rfl (by simp) (by omega) (by simp; omega) ?_)
          intro v' w9 ho2 hg2
          have HO9 := Lib.hid ho2
          have HG9 := Lib.hid (grown_then (grown_trans hg.out (World.grownBy_alloc _ _ none)) hg2 (fun j hj => .inl (ho.out.fresh j hj).1))
          clear ho2 hg2
          go_wp2_with fail
          go_roundw
          case rel => exact ⟨k + 1, zs ++ [(k : Int)], by go_num, by omega, by simp; omega, Lib.hid (by rw [HZ.out, if_pos HX.out]), HO9, HG9⟩
          case measure => simp [intOf]; omega
        · have hq : (x == y) = false := by simpa using hxy
          have HX := Lib.hid hxy
          clear hxy
          go_wp2_with fail
          go_roundw
          case rel => exact ⟨k + 1, zs, by go_num, by omega, by omega, Lib.hid (by rw [HZ.out, if_neg HX.out]), ho, hg⟩
          case measure => simp [intOf]; omega
      · have HZ : Hid (greedy xs (ys.take (k + 1)) 0 [] = zs) := Lib.hid (by rw [HS.out, ← hz.out]; unfold place1; rw [if_neg (by omega)])
        have hr2 : ¬ (zs.length : Int) < (xs.length : Int) := by omega
        clear hc hc'
        generalize ys[k]?.getD 0 = y at *
        go_wp2_with fail
        go_roundw
        case rel => exact ⟨k + 1, zs, by go_num, by omega, by omega, Lib.hid HZ.out.symm, ho, hg⟩
        case measure => simp [intOf]; omega
    · have HZ : Hid (zs = greedy xs ys 0 []) := Lib.hid (by have := hz.out; rwa [List.take_of_length_le (by omega)] at this)
      by_cases hfull : zs.length < xs.length
      · go_wp2_with fail
        go_ret2
        rw [HR.out, greedy_none (by rw [← HZ.out]; omega)]
        exact GivesO.no _ _ hg.out
      · go_wp2_with fail
        go_ret2
        rw [HR.out, greedy_some (by rw [← HZ.out]; omega), ← HZ.out]
        exact ⟨_, rfl, ho.out, hg.out⟩

theorem leqW_any (va vb : Value) (xs ys : List Int) (w : World) (h : Ints w va xs) (h' : Ints w vb ys) :
    Calls Try.prog 21 #[va, vb] w fun e w' => e = .returned (.bool (leqW xs ys)) ∧ w.grownBy w' none := by
  have H := Lib.hid h; have H' := Lib.hid h'
  clear h h'
  go_enter Try.func21, Try.ntmps21
  go_wp2_with fail
  refine (embedW_any _ _ _ _ _ H.out H'.out).mono ?_
  rintro e w1 ⟨v, rfl, ho, hg⟩
  have HG := Lib.hid hg
  clear ho hg
  go_wp2_with fail
  go_ret
  exact ⟨rfl, HG.out⟩

end Go.Proofs.Ytaenkbcclgpphaa
