/- token.Join. -/
import Derived.Test.YthlollnpnangpaaDoorYg
import Derived.Test.YthlollnpnangpaaDoorYi
namespace Go.Proofs.YthlollnpnangpaaDoor
open Go.RowKit
set_option linter.unusedVariables false
def joinF : Bool → List Tk → Bs
  | _, [] => []
  | b, t :: ts => if t.1 = 4 then 10 :: joinF true ts else (if b then [] else [32]) ++ t.2.1 ++ joinF false ts
def joinL (ts : List Tk) : Bs := joinF true ts
theorem Toks.at {w : World} {v : Value} {ts : List Tk} (h : Toks w v ts) {k : Nat} (hk : k < ts.length) :
    ∃ b off cap, v = .slice (some ⟨b, off, none⟩) ts.length cap ∧ w.cell? ⟨b, off + k * 3, none⟩ = some (.int .i64 ts[k].1) ∧ w.cell? ⟨b, off + k * 3 + 1, none⟩ = some (strV ts[k].2.1) ∧ w.cell? ⟨b, off + k * 3 + 2, none⟩ = some (.int .i64 ts[k].2.2) := by
  obtain ⟨a, cap, rfl, -, hc⟩ := h
  rcases hc with rfl | ⟨b, off, rfl, hc⟩
  · simp at hk
  · obtain ⟨h1, h2, h3⟩ := hc k hk
    rw [List.getElem?_eq_getElem hk] at h1 h2 h3
    exact ⟨b, off, cap, rfl, h1, h2, h3⟩
theorem joinF_drop (b : Bool) (ts : List Tk) (k : Nat) (hk : k < ts.length) : joinF b (ts.drop k) = if ts[k].1 = 4 then [10] ++ joinF true (ts.drop (k + 1)) else (if b then [] else [32]) ++ ts[k].2.1 ++ joinF false (ts.drop (k + 1)) := by
  rw [List.drop_eq_getElem_cons hk]
  rfl
set_option maxRecDepth 100000 in
set_option maxHeartbeats 1000000 in
theorem Join_any (ts : List Tk) (v : Value) (w : World) (h : Toks w v ts) (hl : (joinL ts).length ≤ 1000000) (hb : ∀ t ∈ ts, -9223372036854775808 ≤ t.1 ∧ t.1 ≤ 9223372036854775807) : Calls Tryd.prog 18 #[v] w fun e w' => e = .returned (strV (joinL ts)) ∧ w.grownBy w' none := by
  have H := Lib.hid h; have HL := Lib.hid hl; have HB := Lib.hid hb
  obtain ⟨a, cap, rfl, hml, -⟩ := h
  unfold maxLen at hml
  clear hl hb
  go_enter Tryd.func18, Tryd.ntmps18
  go_wp2_with fail
  have B0 : Hid (Bld (w.alloc (.cells #[.pointer none, .slice none 0 0] 64)) w.heap.size [] ∧ Below w.heap.size w (w.alloc (.cells #[.pointer none, .slice none 0 0] 64))) := Lib.hid ⟨.inl ⟨_, heap_new _ rfl, World.ownsRow_nil _ _ _ _⟩, (Below.refl _ w).alloc (Nat.le_refl _) _⟩
  go_loopw [9, 4] (fun i j wr => ∃ (k : Nat) (beg : Bool) (pre : Bs), i = .int .i64 k ∧ j = .bool beg ∧ k ≤ ts.length ∧ Hid (joinL ts = pre ++ joinF beg (ts.drop k)) ∧ Hid (Bld wr w.heap.size pre ∧ Below w.heap.size w wr)) (fun i _ _ => ts.length - (intOf i).toNat)
  case atStart => exact ⟨0, true, [], rfl, rfl, Nat.zero_le _, Lib.hid rfl, B0⟩
  case round =>
    obtain ⟨k, beg, pre, rfl, rfl, hk, hj, hs⟩ := hrel
    clear B0
    by_cases hlt : k < ts.length
    · have h1 : (k : Int) < (ts.length : Int) := by omega
      obtain ⟨tb, off, cap', hv, c1, c2, c3⟩ := (H.out.same (grown_of_below hs.out.2)).at hlt
      simp only [Value.slice.injEq] at hv
      obtain ⟨rfl, -, rfl⟩ := hv
      have HJ := Lib.hid (joinF_drop beg ts k hlt)
      have hbk := HB.out _ (List.getElem_mem hlt)
      have HPL : Hid (pre.length ≤ 1000000 ∧ (joinF beg (ts.drop k)).length ≤ 1000000) := Lib.hid (by have := HL.out; rw [hj.out, List.length_append] at this; exact ⟨by omega, by omega⟩)
      generalize hk4 : ts[k].1 = kd at *
      generalize hk5 : ts[k].2.1 = tx at *
      generalize hk6 : ts[k].2.2 = ln at *
      by_cases h4 : kd = 4
      · have h5 : ((kd == 4) = true) := by simpa using h4
        have HN := Lib.hid h4
        clear h4 hk4 hk5 hk6
        have HW : Hid (∀ W, Bld W w.heap.size pre → Calls Tryd.prog 33 #[.pointer (some ⟨w.heap.size, 0, none⟩), .int .u8 10] W fun e w' => e = .returned .nilIface ∧ Bld w' w.heap.size (pre ++ [10]) ∧ Below w.heap.size W w' ∧ OtK w.heap.size W w') := Lib.hid (fun W hW => writeByte_bld w.heap.size pre 10 W hW HPL.out.1)
        go_wp2_with (go_at_call 33; refine (HW.out _ (hs.out.1.same (World.grownBy_alloc _ _ none))).mono ?_; rintro e w5 ⟨rfl, q1, q2, -⟩; have Q1 := Lib.hid q1; have Q2 := Lib.hid q2; clear q1 q2)
        go_roundw
        case rel => exact ⟨k + 1, true, pre ++ [10], by go_num, rfl, by omega, Lib.hid (by rw [hj.out, HJ.out, if_pos HN.out, List.append_assoc]), Lib.hid ⟨Q1.out, (hs.out.2.alloc hs.out.2.size _).trans Q2.out⟩⟩
        case measure => simp [intOf]; omega
      · have h5 : ((kd == 4) = false) := by simpa using h4
        have HN := Lib.hid h4
        have HTX : Hid (pre.length + tx.length + 1 ≤ 1000001 ∧ (beg = false → pre.length + 1 ≤ 1000000)) := Lib.hid (by
          have e1 := HL.out
          rw [hj.out, HJ.out, if_neg h4] at e1
          simp only [List.length_append] at e1
          refine ⟨by omega, fun hb => ?_⟩
          rw [hb] at e1
          simp at e1
          omega)
        clear h4 hk4 hk5 hk6
        have HW : Hid (∀ W, Bld W w.heap.size pre → Calls Tryd.prog 33 #[.pointer (some ⟨w.heap.size, 0, none⟩), .int .u8 32] W fun e w' => e = .returned .nilIface ∧ Bld w' w.heap.size (pre ++ [32]) ∧ Below w.heap.size W w' ∧ OtK w.heap.size W w') := Lib.hid (fun W hW => writeByte_bld w.heap.size pre 32 W hW HPL.out.1)
        have G0 := Lib.hid (World.grownBy_alloc wr (.cells #[.int .i64 kd, strV tx, .int .i64 ln] 27) none)
        cases beg with
        | true =>
          go_wp2_with (go_at_call 34; refine (writeString_bld w.heap.size pre tx _ (hs.out.1.same (World.grownBy_alloc _ _ none)) (by have := HPL.out.1; omega) (by have := HTX.out.1; omega)).mono ?_; rintro e w5 ⟨⟨v5, rfl⟩, q1, q2, -⟩; have Q1 := Lib.hid q1; have Q2 := Lib.hid q2; clear q1 q2)
          go_roundw
          case rel => exact ⟨k + 1, false, pre ++ tx, by go_num, rfl, by omega, Lib.hid (by rw [hj.out, HJ.out, if_neg HN.out]; simp), Lib.hid ⟨Q1.out, (hs.out.2.alloc hs.out.2.size _).trans Q2.out⟩⟩
          case measure => simp [intOf]; omega
        | false =>
          have HA : Hid ((wr.alloc (.cells #[.int .i64 kd, strV tx, .int .i64 ln] 27)).heap[wr.heap.size]? = some (.cells #[.int .i64 kd, strV tx, .int .i64 ln] 27 (0, 0))) := Lib.hid (heap_new _ rfl)
          have HNE : Hid (w.heap.size < wr.heap.size) := Lib.hid hs.out.1.lt
          go_wp2_with (first | (go_at_call 33; refine (HW.out _ (hs.out.1.same (World.grownBy_alloc _ _ none))).mono ?_; rintro e w5 ⟨rfl, q1, q2, q3⟩; have Q1 := Lib.hid q1; have Q2 := Lib.hid q2; have c5 : w5.cell? ⟨wr.heap.size, 1, none⟩ = some (strV tx) := (by unfold World.cell?; dsimp only; rw [q3 _ _ HA.out (by have := HNE.out; simp; omega) (by rintro c fz ⟨⟩)]; rfl); clear q1 q2 q3))
          refine (writeString_bld w.heap.size (pre ++ [32]) tx _ Q1.out (by have := HTX.out.2 (by trivial); rw [List.length_append]; simp; omega) (by have := HTX.out.1; omega)).mono ?_
          rintro e w6 ⟨⟨v6, rfl⟩, q1, q2, -⟩
          have Q3 := Lib.hid q1; have Q4 := Lib.hid q2
          clear q1 q2
          go_wp2_with fail
          go_roundw
          case rel => exact ⟨k + 1, false, pre ++ [32] ++ tx, by go_num, rfl, by omega, Lib.hid (by rw [hj.out, HJ.out, if_neg HN.out]; simp), Lib.hid ⟨Q3.out, ((hs.out.2.alloc hs.out.2.size _).trans Q2.out).trans Q4.out⟩⟩
          case measure => simp [intOf]; omega
    · have h1 : ¬ (k : Int) < (ts.length : Int) := by omega
      have HE : Hid (pre = joinL ts) := Lib.hid (by rw [hj.out, List.drop_eq_nil_of_le (by omega)]; simp [joinF])
      go_wp2_with (go_at_call 35; refine (string_bld w.heap.size pre _ hs.out.1).mono ?_; rintro e w5 ⟨rfl, q1⟩; have Q1 := Lib.hid q1; clear q1)
      go_ret
      exact ⟨by rw [HE.out]; rfl, grown_of_below (hs.out.2.trans Q1.out)⟩
end Go.Proofs.YthlollnpnangpaaDoor
