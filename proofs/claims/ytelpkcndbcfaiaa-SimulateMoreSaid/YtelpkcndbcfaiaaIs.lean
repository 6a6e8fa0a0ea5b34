/- Accepts at valid systems. -/
import Derived.Test.YtelpkcndbcfaiaaIr
namespace Go.Proofs.Ytelpkcndbcfaiaa
open Go.RowKit
set_option linter.unusedVariables false
/-- The states behind a word. -/
def runN (a : Sys) (s : Nat) (u : List Int) : Nat := u.foldl (fun s l => behN a s l) s
theorem runN_snoc (a : Sys) (s : Nat) (u : List Int) (x : Int) : runN a s (u ++ [x]) = behN a (runN a s u) x := by simp [runN]
theorem runN_lt {a : Sys} (h : VS a) (h8 : a.length ≤ 8) : ∀ (u : List Int) (s : Nat), s < 256 → runN a s u < 256
  | [], s, hs => hs
  | x :: u, s, hs => runN_lt h h8 u (behN a s x) (beh_lt h h8 s x)
theorem neq_run0S (W : World) : (binOp .neq 76 (.agg #[.int .u64 ((0 : Nat) : Int), .int .u64 0]) (.agg #[.int .u64 0, .int .u64 0])).run Try.prog W = .ok (.bool (!decide (0 = 0))) W := by kernel_rfl
theorem neq_run1S (n : Nat) (W : World) : (binOp .neq 76 (.agg #[.int .u64 ((n + 1 : Nat) : Int), .int .u64 0]) (.agg #[.int .u64 0, .int .u64 0])).run Try.prog W = .ok (.bool (!decide (n + 1 = 0))) W := by kernel_rfl
theorem neq_runS (s : Nat) (W : World) : (binOp .neq 76 (.agg #[.int .u64 (s : Int), .int .u64 0]) (.agg #[.int .u64 0, .int .u64 0])).run Try.prog W = .ok (.bool (!decide (s = 0))) W := by
  cases s with
  | zero => exact neq_run0S W
  | succ n => exact neq_run1S n W
theorem eql_run0S (W : World) : (binOp .eql 76 (.agg #[.int .u64 ((0 : Nat) : Int), .int .u64 0]) (.agg #[.int .u64 0, .int .u64 0])).run Try.prog W = .ok (.bool (decide (0 = 0))) W := by kernel_rfl
theorem eql_run1S (n : Nat) (W : World) : (binOp .eql 76 (.agg #[.int .u64 ((n + 1 : Nat) : Int), .int .u64 0]) (.agg #[.int .u64 0, .int .u64 0])).run Try.prog W = .ok (.bool (decide (n + 1 = 0))) W := by kernel_rfl
theorem eql_runS (s : Nat) (W : World) : (binOp .eql 76 (.agg #[.int .u64 (s : Int), .int .u64 0]) (.agg #[.int .u64 0, .int .u64 0])).run Try.prog W = .ok (.bool (decide (s = 0))) W := by
  cases s with
  | zero => exact eql_run0S W
  | succ n => exact eql_run1S n W
/-- Whether a system accepts a word. -/
def accB (a : Sys) (u : List Int) : Bool := !decide (runN a 1 u = 0)
set_option maxRecDepth 100000 in
set_option maxHeartbeats 4000000 in
theorem accepts_any (va wv : Value) (sa : List ArcP) (u : List Int) (w : World) (ha : SysG w va sa) (h8 : sa.length ≤ 8) (hu : IntsR w wv u) :
    Calls Try.prog 20 #[va, wv] w fun e w' => e = .returned (.bool (accB (sa.map Prod.snd) u)) ∧ w.grownBy w' none := by
  have HA := Lib.hid ha
  obtain ⟨⟨xa, rfl, hA⟩, hga⟩ := ha
  obtain ⟨-, -, hva, hla⟩ := good_parts hga
  have HVA : Hid (∀ u, runN (sa.map Prod.snd) 1 u < 256) := Lib.hid (fun u => runN_lt hva (by rw [List.length_map]; exact h8) u 1 (by decide))
  have HLA : Hid (∀ q ∈ sa, q.2.length ≤ 1000000000) := Lib.hid (fun q hq => by have := hla q hq; omega)
  have HCA := Lib.hid (chk_yes hga)
  have H8 := Lib.hid h8
  obtain ⟨a, c, rfl, -⟩ := hA
  have HU := Lib.hid hu
  obtain ⟨ua, uc, rfl, hul, -⟩ := hu
  unfold maxLen at hul
  obtain ⟨n, hn⟩ : ∃ n, sa.length = n := ⟨_, rfl⟩
  rw [hn] at HA ⊢
  clear hn hga hva hla h8
  obtain ⟨H, hH⟩ : ∃ H, w.heap.size = H := ⟨_, rfl⟩
  go_enter Try.func20, Try.ntmps20
  go_wp2_with fail
  obtain ⟨w2, hw2⟩ : ∃ w2, w2 = w.alloc (.cells #[.slice a n c] 25) := ⟨_, rfl⟩
  have hg2 : w.grownBy w2 none := by rw [hw2]; exact World.grownBy_alloc _ _ _
  have hb2 : w2.heap[H]? = some (.cells #[.slice a n c] 25 (0, 0)) := by rw [hw2]; exact heap_new _ hH.symm
  have HH := Lib.hid hH
  rw [← hw2]
  clear hw2 hH
  refine (Check_any (.agg #[.slice a n c]) sa w2 (HA.out.same hg2).1 HLA.out).mono ?_
  rintro e w3 ⟨rfl, hg3⟩
  rw [HCA.out]
  have HC3 : Hid (w3.cell? ⟨H, 0, none⟩ = some (.slice a n c)) := Lib.hid (by
    refine hg3.cell ?_ (by simp)
    unfold World.cell?
    dsimp only
    rw [hb2]
    rfl)
  have HG3 := Lib.hid (grown_trans hg2 hg3)
  clear hg2 hg3 hb2
  go_wp2_with fail
  refine (with_st 0 0 (by decide) (by decide) w3).mono ?_
  rintro e w4 ⟨rfl, hg4⟩
  unfold StV
  rw [show ((0 ||| 2 ^ 0 : Nat) : Int) = ((1 : Nat) : Int) from rfl]
  have HC4 : Hid (w4.cell? ⟨H, 0, none⟩ = some (.slice a n c)) := Lib.hid (hg4.cell HC3.out (by simp))
  have HG4 := Lib.hid (grown_trans HG3.out hg4)
  clear hg4 HC3
  obtain ⟨B, hB⟩ : ∃ B, w4.heap.size = B := ⟨_, rfl⟩
  generalize hone : ((1 : Nat) : Int) = one
  go_wp2_with fail
  obtain ⟨w5, hw5⟩ : ∃ w5, w5 = w4.alloc (.cells #[.int .u64 one, .int .u64 0] 76) := ⟨_, rfl⟩
  have HB5 : Hid (w5.heap[B]? = some (.cells #[.int .u64 ((1 : Nat) : Int), .int .u64 0] 76 (0, 0))) := Lib.hid (by rw [hw5, hone]; exact heap_new _ hB.symm)
  have HG5 : Hid (w.grownBy w5 none) := Lib.hid (by rw [hw5]; exact grown_aft2 HG4.out)
  have HC5 : Hid (w5.cell? ⟨H, 0, none⟩ = some (.slice a n c)) := Lib.hid (by rw [hw5]; exact (World.grownBy_alloc _ _ none).cell HC4.out (by simp))
  have HBW : Hid (w.heap.size ≤ B) := Lib.hid (by rw [← hB]; exact HG4.out.size)
  have HHB : Hid (H ≠ B) := Lib.hid (by
    rintro rfl
    have h1 := World.block_lt_of_cell? _ _ HC4.out
    rw [hB] at h1
    simp at h1)
  rw [← hw5]
  clear hw5 hB hone HC4 HG4
  go_loopw [15] (fun i wr => ∃ (k s : Nat), i = .int .i64 k ∧ k ≤ u.length ∧ Hid (runN (sa.map Prod.snd) 1 (u.take k) = s) ∧ Hid (w5.grownBy wr (some B)) ∧ Hid (wr.heap[B]? = some (.cells #[.int .u64 (s : Int), .int .u64 0] 76 (0, 0)))) (fun i _ => u.length - (intOf i).toNat)
  case atStart => exact ⟨0, 1, rfl, Nat.zero_le _, Lib.hid rfl, Lib.hid (grown_refl _ _), HB5⟩
  case round =>
    clear HB5
    obtain ⟨k, s, rfl, hk, hs, hg, hb⟩ := hrel
    have hgw : w.grownBy wr none := grown_then HG5.out hg.out (by rintro j ⟨⟩; exact .inl HBW.out)
    obtain ⟨u0, u1, -, -⟩ := box_cells hb.out
    by_cases hlt : k < u.length
    · have h1 : (k : Int) < (u.length : Int) := by omega
      obtain ⟨xa2, xc2, hv, -, hcells⟩ := HU.out.same hgw
      simp only [Value.slice.injEq] at hv
      obtain ⟨rfl, -, rfl⟩ := hv
      rcases hcells with h0 | ⟨ub, uo, rfl, hcells⟩
      · rw [h0] at hlt; simp at hlt
      · have x1 := hcells k hlt
        rw [List.getElem?_eq_getElem hlt, Option.map_some] at x1
        have c0 := hg.out.cell HC5.out (by have := HHB.out; simp; exact this)
        have HSN : Hid (runN (sa.map Prod.snd) 1 (u.take (k + 1)) = behN (sa.map Prod.snd) s u[k]) := Lib.hid (by rw [List.take_succ_eq_append_getElem hlt, runN_snoc, hs.out])
        have HSL : Hid (s < 256) := Lib.hid (by rw [← hs.out]; exact HVA.out _)
        have HAW := Lib.hid (HA.out.same hgw)
        generalize u[k] = x at *
        clear hcells
        go_wp2_with fail
        refine (behind_st s HSL.out (.agg #[.slice a n c]) sa x wr HAW.out H8.out).mono ?_
        rintro e w7 ⟨rfl, hg7⟩
        unfold StV
        have hb7 : w7.heap[B]? = some (.cells #[.int .u64 (s : Int), .int .u64 0] 76 (0, 0)) := by
          rw [hg7.block _ (Array.getElem?_eq_some_iff.1 hb.out).1 (by simp)]; exact hb.out
        obtain ⟨s2, hs2⟩ : ∃ s2, behN (sa.map Prod.snd) s x = s2 := ⟨_, rfl⟩
        rw [hs2] at HSN ⊢
        obtain ⟨P1, c4, f4, c5, f5⟩ := put_two (x := .int .u64 (s2 : Int)) (y := .int .u64 0) hb7
        have HP1 := Lib.hid P1
        have HG8 : Hid (w5.grownBy ((w7.setCell ⟨B, 0, none⟩ (.int .u64 (s2 : Int))).setCell ⟨B, 1, none⟩ (.int .u64 0)) (some B)) := Lib.hid (grown_trans (grown_then hg.out hg7 (by simp)) (grown_trans (grown_set _ _ _) (grown_set _ _ _)))
        clear hb7 hg7 P1 u0 u1 c0 x1 hs2 hgw
        go_wp2_with fail
        go_roundw
        case rel => exact ⟨k + 1, s2, by go_num, by omega, HSN, HG8, HP1⟩
        case measure => simp [intOf]; omega
    · have h1 : ¬ (k : Int) < (u.length : Int) := by omega
      have hsu : runN (sa.map Prod.snd) 1 u = s := by have := hs.out; rwa [List.take_of_length_le (by omega)] at this
      have HE : Hid (accB (sa.map Prod.snd) u = !decide (s = 0)) := Lib.hid (by unfold accB; rw [hsu])
      have hne := neq_runS s
      have HGW := Lib.hid hgw
      clear hsu hgw
      go_wp2_with fail
      go_ret
      exact ⟨by rw [HE.out]; rfl, HGW.out⟩
end Go.Proofs.Ytelpkcndbcfaiaa
