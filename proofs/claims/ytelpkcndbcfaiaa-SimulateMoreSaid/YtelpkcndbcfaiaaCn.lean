/- Contract of slices.Concat. -/
import Derived.Test.YtelpkcndbcfaiaaRw
namespace Go.Proofs.Ytelpkcndbcfaiaa
open Go.RowKit
set_option linter.unusedVariables false

/-- slices.Concat. -/
theorem flat_take (ps : List Row) (k : Nat) (h : k < ps.length) : (ps.take (k + 1)).flatMap Prod.snd = (ps.take k).flatMap Prod.snd ++ (ps[k]).2 := by
  rw [List.take_succ_eq_append_getElem h, List.flatMap_append]
  simp
theorem flat_le (ps : List Row) (k : Nat) : ((ps.take k).flatMap Prod.snd).length ≤ (ps.flatMap Prod.snd).length := by
  have h : ps.flatMap Prod.snd = (ps.take k).flatMap Prod.snd ++ (ps.drop k).flatMap Prod.snd := by
    rw [← List.flatMap_append, List.take_append_drop]
  rw [h, List.length_append]
  omega
set_option maxHeartbeats 1000000 in
theorem concat_any (v : Value) (ps : List Row) (w : World) (h : RowsP w v ps) (hlen : (ps.flatMap Prod.snd).length ≤ 1000000) :
    Calls Try.prog 51 #[v] w (Made (ps.flatMap Prod.snd) w) := by
  have H := Lib.hid h
  obtain ⟨a, cap, rfl, hl, hc, hp⟩ := h
  unfold maxLen at hl
  have HP := Lib.hid hp
  clear hp
  go_enter Try.func51, Try.ntmps51
  go_wp2_with fail
  go_loop [3, 11] (fun s i => ∃ k m : Nat, k ≤ ps.length ∧ i = .int .i64 k ∧ s = .int .i64 m ∧ Hid (m = ((ps.take k).flatMap Prod.snd).length)) (fun _ i => ps.length - (intOf i).toNat)
  case atStart => exact ⟨0, 0, Nat.zero_le _, rfl, rfl, Lib.hid (by simp)⟩
  case round =>
    obtain ⟨k, m, hk, rfl, rfl, hm⟩ := hrel
    by_cases hlt : k < ps.length
    · obtain ⟨b, off, rfl, hx⟩ := RowsP.at hc hlt
      obtain ⟨au, cu, hu, hlu, -⟩ := (HP.out _ (List.getElem_mem hlt)).1
      have HF := Lib.hid (flat_take ps k hlt)
      have hle := flat_le ps (k + 1)
      have hml : m + (ps[k]).2.length = ((ps.take (k + 1)).flatMap Prod.snd).length := by rw [HF.out, List.length_append, ← hm.out]
      have HML := Lib.hid hml
      have hb : m + (ps[k]).2.length ≤ 1000000 := by omega
      have h1 : (k : Int) < (ps.length : Int) := by omega
      rw [hu] at hx
      clear hle hml hc hu hlu
      generalize (ps[k]).2.length = q at *
      go_wp2_with fail
      go_round
      case rel => exact ⟨k + 1, m + q, by omega, by go_num, by go_num, HML⟩
      case measure => simp [intOf]; omega
    · have hq : m = (ps.flatMap Prod.snd).length := by have := hm.out; rwa [List.take_of_length_le (by omega)] at this
      have hb : m ≤ 1000000 := by omega
      clear hq
      go_wp2_with fail
      refine (grow_nil m _ (by omega)).mono ?_
      rintro e w1 ⟨v1, rfl, ho, hg⟩
      have HO := Lib.hid ho; have HG := Lib.hid hg
      clear ho hg
      go_wp2_with fail
      go_loopw [6, 27] (fun v i wr => ∃ (k : Nat) (zs : List Int), k ≤ ps.length ∧ i = .int .i64 k ∧ Hid (zs = (ps.take k).flatMap Prod.snd) ∧ Hid (OwnI wr w.heap.size v zs) ∧ Hid (w.grownBy wr none)) (fun _ i _ => ps.length - (intOf i).toNat)
      case atStart => exact ⟨0, [], Nat.zero_le _, rfl, Lib.hid (by simp), HO, HG⟩
      case round =>
        obtain ⟨k, zs, hk, rfl, hz, ho, hg⟩ := hrel
        by_cases hlt : k < ps.length
        · obtain ⟨_, _, hv, _, hc', _⟩ := H.out.same hg.out
          simp only [Value.slice.injEq] at hv
          obtain ⟨rfl, -, -⟩ := hv
          obtain ⟨b, off, rfl, hx⟩ := RowsP.at hc' hlt
          have hrow := (HP.out _ (List.getElem_mem hlt)).same hg.out
          have HR := Lib.hid hrow
          have HF := Lib.hid (flat_take ps k hlt)
          have hle := flat_le ps (k + 1)
          rw [HF.out, List.length_append, ← hz.out] at hle
          have hb : zs.length + (ps[k]).2.length ≤ 1000000 := by omega
          have h1 : (k : Int) < (ps.length : Int) := by omega
          have hs1 := hg.out.size
          clear hle hc hc' hrow
          generalize (ps[k]) = p at *
          go_wp2_with (at_builtin; refine app_ints rfl _ _ rfl w.heap.size _ zs rfl ho.out _ p.2 rfl HR.out.1 HR.out.2.1 (by omega) (by omega) ?_)
          intro v' w9 ho2 hg2
          have HO9 := Lib.hid ho2
          have HG9 := Lib.hid (grown_then hg.out hg2 (fun j hj => .inl (ho.out.fresh j hj).1))
          clear ho2 hg2
          go_wp2_with fail
          go_roundw
          case rel => exact ⟨k + 1, zs ++ p.2, by omega, by go_num, Lib.hid (by rw [HF.out, hz.out]), HO9, HG9⟩
          case measure => simp [intOf]; omega
        · clear hc
          go_wp2_with fail
          go_ret
          have hq : zs = ps.flatMap Prod.snd := by have := hz.out; rwa [List.take_of_length_le (by omega)] at this
          exact ⟨_, rfl, hq ▸ ho.out, hg.out⟩

end Go.Proofs.Ytelpkcndbcfaiaa
