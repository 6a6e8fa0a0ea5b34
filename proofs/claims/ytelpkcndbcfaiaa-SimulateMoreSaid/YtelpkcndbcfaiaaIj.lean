/- slices.Repeat of one true. -/
import Derived.Test.YtelpkcndbcfaiaaIi
import Derived.Test.YtelpkcndbcfaiaaSh
import Derived.Laws.CopyOwn
import Derived.Deep.RegionLaw
namespace Go.Proofs.Ytelpkcndbcfaiaa
open Go.RowKit
set_option linter.unusedVariables false
theorem info_bool : (Try.prog.info? 4).map (fun i => (i.zero, i.size, i.bytes)) = some (some (.bool false), 1, 1) := by kernel_rfl
theorem make_boolR {ops : Array Oper} {rest : List Oper} {o : Oper} {a : Act} {w : World} {Q : Exit → Act → World → Prop} (hgd : o.guard = none) (l c : Operand)
    (hop : o.op = Op.makeSlice 51 l c) (n : Nat) (hl : a.eval l = .int .i64 (n : Int)) (hc : a.eval c = .int .i64 (n : Int)) (hn : n ≤ 1000000000000)
    (h : ∀ w', (∃ cur : List Value, cur.length = n ∧ w'.heap[w.heap.size]? = some (.cells cur.toArray 4 (0, 0))) → w.grownBy w' none → wpList Try.prog ops Q rest (a.put o.dst (.slice (some ⟨w.heap.size, 0, none⟩) n n)) w') :
    wpList Try.prog ops Q (o :: rest) a w := by
  obtain ⟨i, hi, hz0, hz1, hz2⟩ := info_parts info_bool
  refine wpList_make_full w hgd l c 51 hop w.heap.size 4 i (.bool false) 1 Try.underlying51 hi hz0 hz1 .i64 .i64 n n n hl hc rfl rfl (by rw [hz2]; omega) (by unfold maxLen; omega) (Nat.le_refl _) ?_
  intro w' h1 h2
  refine h w' ?_ h2
  rcases h1.2 with ⟨h', _⟩ | ⟨g, cap, cur, h', hg, hh, _, _, hs, _⟩
  · simp at h'
  · simp only [Value.slice.injEq, Option.some.injEq, Addr.mk.injEq, and_true, true_and] at h'
    obtain ⟨rfl, rfl⟩ := h'
    exact ⟨cur.toList, by simpa using hs, by simpa using hh⟩
theorem below_ofG {w w' : World} (g : w.grownBy w' none) : Below w.heap.size w w' := ⟨g.os, g.tape, g.output, g.size, fun k hk => g.block k hk (by simp)⟩
theorem one_le_of {cur : List Value} {n : Nat} (h : cur.length = n) (h1 : 1 ≤ n) : 0 + ([.bool true] : List Value).length ≤ cur.length := by simp; omega
theorem splice_true {cur : List Value} {off m : Nat} {x : Value} (h : ∀ j, j < off → cur[j]? = some x) (hl : off + (List.replicate m x).length ≤ cur.length) : ∀ j, j < off + m → (splice cur off (List.replicate m x))[j]? = some x := fun j hj => by
  rw [List.length_replicate] at hl
  unfold splice
  by_cases h1 : j < off
  · rw [List.getElem?_append_left (by rw [List.length_take]; omega), List.getElem?_take, if_pos h1]
    exact h j h1
  · have e : (cur.take off).length = off := by rw [List.length_take]; omega
    rw [List.getElem?_append_right (by omega), e, List.getElem?_append_left (by rw [List.length_replicate]; omega), List.getElem?_replicate, if_pos (by omega)]
theorem below_then {w0 w w' : World} (h : Below w0.heap.size w0 w) (g : w.grownBy w' none) : Below w0.heap.size w0 w' :=
  ⟨g.os.trans h.os, g.tape.trans h.tape, g.output.trans h.output, Nat.le_trans h.size g.size, fun k hk => (g.block k (Nat.lt_of_lt_of_le hk h.size) (by simp)).trans (h.block k hk)⟩
theorem src_one {W : World} {G : Nat} {x : Value} (h : W.cell? ⟨G, 0, none⟩ = some x) {j : Nat} {v : Value} (hj : ([x] : List Value)[j]? = some v) : W.cell? ((⟨G, 0, none⟩ : Addr).add j) = some v := by
  match j, hj with
  | 0, hj => simp at hj; subst hj; exact h
  | j + 1, hj => simp at hj
theorem size_bool : (Try.prog.info? 4).map (·.size) = some 1 := by kernel_rfl
set_option maxRecDepth 100000 in
set_option maxHeartbeats 1000000 in
theorem repeat_any (n : Nat) (hn : 1 ≤ n) (hn2 : n ≤ 1000) (G : Nat) (w : World) (h0 : w.cell? ⟨G, 0, none⟩ = some (.bool true)) :
    Calls Try.prog 44 #[.slice (some ⟨G, 0, none⟩) 1 1, .int .i64 n] w fun e w' => e = .returned (.slice (some ⟨w.heap.size, 0, none⟩) n n) ∧ w'.heap[w.heap.size]? = some (.cells (List.replicate n (Value.bool true)).toArray 4 (0, 0)) ∧ Below w.heap.size w w' := by
  have H0 := Lib.hid h0
  clear h0
  have c1 : ¬ (n : Int) < 0 := by omega
  have hw1 : IntKind.u64.wrap (n : Int) = (n : Int) := by
    have := IntWalk.u64_in (n := (n : Int)) (by omega)
    exact this
  go_enter Try.func44, Try.ntmps44
  go_wp2_with fail
  have HM : Hid (∀ W, Calls Try.prog 61 #[.int .u64 1, .int .u64 (n : Int)] W fun e w' => e = .returned (.tuple #[.int .u64 0, .int .u64 (n : Int)]) ∧ w' = W) := Lib.hid (fun W => by
    refine (Try.bits_Mul 1 n (by omega) (by omega) W).mono ?_
    rintro e w' ⟨rfl, rfl⟩
    rw [show 1 * n / 18446744073709551616 = 0 by omega, show 1 * n % 18446744073709551616 = n by omega]
    exact ⟨rfl, rfl⟩)
  refine (HM.out _).mono ?_
  rintro e w1 ⟨rfl, rfl⟩
  have hw2 : IntKind.i64.wrap (n : Int) = (n : Int) := IntWalk.i64_in _ (by omega)
  have c2 : ¬ (9223372036854775807 : Int) < (n : Int) := by omega
  have HN := Lib.hid hn
  have M1 : Hid (([.bool true] : List Value).length = Nat.min 1 n) := Lib.hid (by show 1 = min 1 n; omega)
  have M3 : Hid (∀ v ∈ ([.bool true] : List Value), v.oneCell' = true) := Lib.hid (by intro v hv; rw [List.mem_singleton.1 hv]; rfl)
  go_wp2_with (first | (at_make; refine make_boolR rfl _ _ rfl n rfl rfl (by omega) ?_; intro W2 k2 g2; obtain ⟨cur, hcl, hch⟩ := k2; have HCL := Lib.hid hcl; have HCH := Lib.hid hch; have HG2 := Lib.hid g2; have M2 := Lib.hid (one_le_of hcl HN.out); have M4 := Lib.hid (fun j v hj => src_one (g2.cell H0.out (by simp)) (j := j) (v := v) hj); clear hcl hch g2) | (refine wpList_copy_splice rfl _ _ 51 51 rfl 4 Try.underlying51 size_bool _ _ n n 1 1 rfl rfl w1.heap.size 0 cur 4 HCH.out [.bool true] M1.out (fun _ => ⟨rfl, _, rfl, M4.out⟩) M2.out M3.out w1.heap.size w1 (below_ofG HG2.out) (Nat.le_refl _) ?_; intro W3 hW3 hB3; have HB3 := Lib.hid hB3; clear hB3))
  have HW3 := Lib.hid hW3.out
  clear hW3
  go_loopw [8] (fun i wr => ∃ (k : Nat) (cur : List Value), i = .int .i64 k ∧ 1 ≤ k ∧ k ≤ n ∧ Hid (cur.length = n) ∧ Hid (wr.heap[w1.heap.size]? = some (.cells cur.toArray 4 (0, 0))) ∧ Hid (∀ j, j < k → cur[j]? = some (.bool true)) ∧ Hid (Below w1.heap.size w1 wr)) (fun i _ => n - (intOf i).toNat)
  case atStart => exact ⟨1, splice cur 0 [.bool true], rfl, Nat.le_refl _, HN.out, Lib.hid ((length_splice _ _ _ M2.out).trans HCL.out), HW3, Lib.hid (splice_true (m := 1) (by simp) M2.out), HB3⟩
  case round =>
    obtain ⟨k, cu, rfl, hk1, hk, hcl, hch, hct, hbl⟩ := hrel
    clear HW3 HB3 HCL HCH M2 M4 HG2
    by_cases hlt : k < n
    · have h1 : (k : Int) < (n : Int) := by omega
      have h2 : (k : Int) ≤ (n : Int) := by omega
      have hnk : ¬ n = k := by omega
      obtain ⟨m, hm⟩ : ∃ m, m = Nat.min k (n - k) := ⟨_, rfl⟩
      have hm1 : 1 ≤ m ∧ m ≤ k ∧ k + m ≤ n := by
        have : m = min k (n - k) := hm
        omega
      have N1 : Hid ((List.replicate m (Value.bool true)).length = Nat.min k (n - k)) := Lib.hid (by rw [List.length_replicate, hm])
      have N2 : Hid (k + (List.replicate m (Value.bool true)).length ≤ cu.length) := Lib.hid (by rw [List.length_replicate, hcl.out]; exact hm1.2.2)
      have N3 : Hid (∀ v ∈ List.replicate m (Value.bool true), v.oneCell' = true) := Lib.hid (by intro v hv; rw [List.eq_of_mem_replicate hv]; rfl)
      have N4 : Hid (∀ W : World, W.heap[w1.heap.size]? = some (.cells cu.toArray 4 (0, 0)) → ∀ j v, (List.replicate m (Value.bool true))[j]? = some v → W.cell? ((⟨w1.heap.size, 0, none⟩ : Addr).add j) = some v) := Lib.hid (fun W hW j v hj => by
        have hjm : j < m := by have := (List.getElem?_eq_some_iff.1 hj).1; simpa using this
        rw [List.getElem?_replicate, if_pos hjm] at hj
        rw [show (⟨w1.heap.size, 0, none⟩ : Addr).add j = ⟨w1.heap.size, j, none⟩ by simp [Addr.add]; omega]
        rw [World.cell?, hW]
        have := hct.out j (by omega)
        simpa [hj] using this)
      have HM1 := Lib.hid hm1
      clear hm hm1
      go_wp2_with fail
      go_region_law (go_loud (refine step_copy_splice rfl (.tmp 41) (.tmp 44) 51 51 rfl 4 Try.underlying51 size_bool (some ⟨w1.heap.size, k, none⟩) (some ⟨w1.heap.size, 0, none⟩) (n - k) (n - k) k n (by kernel_rfl) (by kernel_rfl) w1.heap.size k cu 4 hch.out (List.replicate m (.bool true)) N1.out (fun _ => ⟨rfl, ⟨w1.heap.size, 0, none⟩, rfl, N4.out _ hch.out⟩) N2.out N3.out w1.heap.size w1 (below_then hbl.out (grown_drewN _ _ _)) (Nat.le_refl _) ?_; intro w4 hg4 hb4))
      have HM2 : Hid ((List.replicate m (Value.bool true)).length = m) := Lib.hid (by simp)
      go_simp
      try rw [HM2.out]
      have hkm : (k : Int) + (m : Int) ≤ 1000 := by have := HM1.out; omega
      have hkw : IntKind.i64.wrap ((k : Int) + (m : Int)) = (k : Int) + (m : Int) := IntWalk.i64_in _ (by omega)
      have HL4 : Hid ((splice cu k (List.replicate m (Value.bool true))).length = n) := Lib.hid ((length_splice _ _ _ N2.out).trans hcl.out)
      have HT4 := Lib.hid (splice_true hct.out N2.out)
      have HB4 := Lib.hid hb4
      clear hb4
      go_wp2_with fail
      go_roundw
      case rel => exact ⟨k + m, _, by go_num, by omega, HM1.out.2.2, HL4, hg4, HT4, HB4⟩
      case measure => (have := HM1.out; simp [intOf]; omega)
    · have h1 : ¬ (k : Int) < (n : Int) := by omega
      have HF : Hid (cu = List.replicate n (Value.bool true)) := Lib.hid (by
        refine List.ext_getElem? (fun j => ?_)
        by_cases hj : j < n
        · rw [hct.out j (by omega), List.getElem?_replicate, if_pos hj]
        · rw [List.getElem?_eq_none (by rw [hcl.out]; omega), List.getElem?_replicate, if_neg hj])
      go_wp2_with fail
      go_ret
      exact ⟨rfl, by rw [hch.out, HF.out] <;> simp, hbl.out⟩
end Go.Proofs.Ytelpkcndbcfaiaa
