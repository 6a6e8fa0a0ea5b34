/- The reference's embedding: inside, Embed, Leq. -/
import Derived.Test.YtnppmemcdcgjhaaMi
namespace Go.Proofs.Ytnppmemcdcgjhaa
open Go.RowKit Tr
set_option linter.unusedVariables false

/-- Two boxes of two cells, one behind the other. -/
def Bx4 (w : World) (g : Nat) (x y u v : Value) : Prop := w.cell? ⟨g, 0, none⟩ = some x ∧ w.cell? ⟨g, 1, none⟩ = some y ∧ w.cell? ⟨g + 1, 0, none⟩ = some u ∧ w.cell? ⟨g + 1, 1, none⟩ = some v
theorem Bx4.same {w w' : World} {g : Nat} {x y u v : Value} (h : Bx4 w g x y u v) (hg : w.grownBy w' none) : Bx4 w' g x y u v :=
  ⟨hg.cell h.1 (by simp), hg.cell h.2.1 (by simp), hg.cell h.2.2.1 (by simp), hg.cell h.2.2.2 (by simp)⟩
theorem bx4_new (w : World) (x y u v : Value) (e f : TypeId) : Bx4 ((w.alloc (.cells #[x, y] e)).alloc (.cells #[u, v] f)) w.heap.size x y u v := by
  have hsz1 : (w.alloc (.cells #[x, y] e)).heap.size = w.heap.size + 1 := by show (w.heap.push _).size = _; simp
  have h1 := heap_old (.cells #[u, v] f) (heap_new (w := w) (g := w.heap.size) (.cells #[x, y] e) rfl)
  have h2 := heap_new (w := w.alloc (.cells #[x, y] e)) (g := w.heap.size + 1) (.cells #[u, v] f) hsz1.symm
  exact ⟨(cells_of h1).1, (cells_of h1).2, (cells_of h2).1, (cells_of h2).2⟩
theorem emb_step {s t : Tr} : Emb s t ↔ (Rooted s t ∨ ∃ k ∈ t.kids, Emb s k) := by
  constructor
  · intro h
    cases h with
    | here h1 h2 => exact .inl ⟨h1, h2⟩
    | under h1 h2 => exact .inr ⟨_, h1, h2⟩
  · rintro (h | ⟨k, hk, h⟩)
    · exact .here h.1 h.2
    · exact .under hk h
set_option maxRecDepth 100000 in
set_option maxHeartbeats 1500000 in
theorem inside_of (t : Tr) (IH0 : ∀ k, size k < size t → InsideP k) : InsideP t := by
  intro s P Q y z w f h h' hs hf
  have HR := Lib.hid (rooted_of t IH0 s)
  obtain ⟨a, cap, rfl⟩ := h.slice
  obtain ⟨a', cap', rfl⟩ := h'.slice
  have H := Lib.hid h; have H' := Lib.hid h'; have HS := Lib.hid hs; have IH := Lib.hid IH0
  have htl : t.kids.length ≤ 100000 := by have := sizeL_len t.kids; rw [size_eq] at hf; omega
  have HF : Hid (f + size t ≤ 100000) := Lib.hid hf
  have hf2 : f ≤ 100000 := by omega
  have i0 : IntKind.i64.wrap ((f : Int) + 1) = (f : Int) + 1 := IntWalk.i64_in _ (by omega)
  clear h h' hs IH0 hf
  go_enter Try.func62, Try.ntmps62
  go_wp2_with fail
  have hx := bx4_new w (.int .i64 s.label) (.slice a s.kids.length cap) (.int .i64 t.label) (.slice a' t.kids.length cap') 45 45
  have hg0 : w.grownBy ((w.alloc (.cells #[.int .i64 s.label, .slice a s.kids.length cap] 45)).alloc (.cells #[.int .i64 t.label, .slice a' t.kids.length cap'] 45)) none := grown_after (World.grownBy_alloc _ _ none)
  generalize (w.alloc (.cells #[.int .i64 s.label, .slice a s.kids.length cap] 45)).alloc (.cells #[.int .i64 t.label, .slice a' t.kids.length cap'] 45) = wb at *
  have HX := Lib.hid hx; have HG0 := Lib.hid hg0
  clear hx hg0
  refine (HR.out _ _ _ _ _ _ (H.out.same HG0.out) (H'.out.same HG0.out) HS.out HF.out).mono ?_
  rintro e w1 ⟨v1, x1, B1, rfl, ho1, hB1, hl1, hx1, hg1⟩
  have HO1 := Lib.hid ho1; have HB1 := Lib.hid hB1; have HL1 := Lib.hid hl1; have HX1 := Lib.hid hx1; have HG1 := Lib.hid (grown_trans HG0.out hg1); have HXX := Lib.hid (HX.out.same hg1)
  have HSZ := Lib.hid HG0.out.size
  clear ho1 hB1 hl1 hx1 hg1 HX HG0
  cases B1 with
  | true =>
    have HE : Hid (Emb s t) := Lib.hid (emb_step.2 (.inl (HB1.out.1 rfl)))
    go_wp2_with fail
    go_ret2
    exact ⟨_, x1, true, rfl, OwnI.mono HO1.out HSZ.out, ⟨fun _ => HE.out, fun _ => rfl⟩, HL1.out, HX1.out, HG1.out⟩
  | false =>
    have HNR : Hid (¬ Rooted s t) := Lib.hid (fun h => by have := HB1.out.2 h; cases this)
    clear HO1 HL1 HX1 HB1 HR
    go_wp2_with fail
    go_loopw [10, 11] (fun p i wr => ∃ (ν q : Nat), i = .int .i64 ν ∧ ν ≤ t.kids.length ∧ p = .int .i64 (q : Int) ∧ Hid (q = f + 1 + sizeL (t.kids.take ν)) ∧ q ≤ 100000 ∧ Hid (∀ j (h : j < t.kids.length), j < ν → ¬ Emb s t.kids[j]) ∧ Hid (Bx4 wr w.heap.size (.int .i64 s.label) (.slice a s.kids.length cap) (.int .i64 t.label) (.slice a' t.kids.length cap')) ∧ Hid (w.grownBy wr none)) (fun _ i _ => t.kids.length - (intOf i).toNat)
    case atStart => exact ⟨0, f + 1, rfl, Nat.zero_le _, by go_num, Lib.hid (by simp [sizeL]), by have := HF.out; have := size_pos t; omega, Lib.hid (by omega), HXX, HG1⟩
    case round =>
      clear HXX HG1
      obtain ⟨ν, q, rfl, hν, rfl, hQ, hq, hN, hBX, hG⟩ := hrel
      have hb0 := hBX.out.1; have hb1 := hBX.out.2.1; have hb2 := hBX.out.2.2.1; have hb3 := hBX.out.2.2.2
      by_cases hνb : ν < t.kids.length
      · have e2 : (ν : Int) < (t.kids.length : Int) := by omega
        have i2 : IntKind.i64.wrap ((ν : Int) + 1) = (ν : Int) + 1 := IntWalk.i64_in _ (by omega)
        obtain ⟨b', off', a3, cap3, rfl, -, c3, c4, hK'⟩ := (H'.out.same hG.out).kid hνb
        have HK' := Lib.hid (hK'.same (grown_drew wr none)); have HK := Lib.hid ((H.out.same hG.out).same (grown_drew wr none))
        have HKT := Lib.hid (size_kid (List.getElem_mem hνb))
        have HTS := Lib.hid (take_sz hνb); have HTL := Lib.hid (take_szle t.kids (ν + 1)); have HSE := Lib.hid (size_eq t)
        have HFB : Hid (q + size t.kids[ν] ≤ 100000) := Lib.hid (by have := hQ.out; have := HTS.out; have := HTL.out; have := HSE.out; have := HF.out; omega)
        have C3 := Lib.hid c3; have C4 := Lib.hid c4
        have hnn : ∀ g : Nat, some g ≠ (none : Option Nat) := by intro g; simp
        have hik := IH.out _ HKT.out
        unfold InsideP at hik
        have IK := Lib.hid hik
        have HKS6 : Hid (size t.kids[ν] ≤ 100000) := Lib.hid (by have := HFB.out; omega)
        clear hK' hik
        go_wp2_with fail
        have GX : Hid (wr.grownBy wr.drew none) := Lib.hid (grown_drew _ none)
        go_region_held3 (fun w' => w'.cell? ⟨w.heap.size, 0, none⟩ = some (.int .i64 s.label) ∧ w'.cell? ⟨w.heap.size, 1, none⟩ = some (.slice a s.kids.length cap) ∧ w'.cell? ⟨w.heap.size + 1, 1, none⟩ = some (.slice (some ⟨b', off', none⟩) t.kids.length cap') ∧ w'.cell? ⟨b', off' + ν * 2, none⟩ = some (.int .i64 t.kids[ν].label) ∧ w'.cell? ⟨b', off' + ν * 2 + 1, none⟩ = some (.slice a3 t.kids[ν].kids.length cap3)) (first | exact ⟨GX.out.cell hBX.out.1 (hnn _), GX.out.cell hBX.out.2.1 (hnn _), GX.out.cell hBX.out.2.2.2 (hnn _), GX.out.cell C3.out (hnn _), GX.out.cell C4.out (hnn _)⟩) (first
          | (go_at_call 62; (with_reducible refine (IK.out _ _ _ _ _ _ _ HK.out HK'.out HS.out HFB.out).mono ?_); rintro e w5 ⟨v5, ys, B5, rfl, ho5, hB5, hl5, hx5, hg5⟩; have O5 := Lib.hid ho5; have E5 := Lib.hid hB5; have L5 := Lib.hid hl5; have X5 := Lib.hid hx5; have W5 := Lib.hid hg5; replace GX : Hid (wr.grownBy w5 none) := Lib.hid (grown_trans GX.out hg5); clear ho5 hB5 hl5 hx5 hg5))
        have G5 := Lib.hid (grown_trans hG.out GX.out); have BX5 := Lib.hid (hBX.out.same GX.out)
        have D3 := Lib.hid (GX.out.cell C3.out (hnn _)); have D4 := Lib.hid (GX.out.cell C4.out (hnn _)); have HK5 := Lib.hid (HK'.out.same W5.out)
        clear c3 c4 hb0 hb1 hb2 hb3 C3 C4 HK HK'
        rename_i hHd
        clear hHd
        cases B5 with
        | true =>
          have HE : Hid (Emb s t) := Lib.hid (emb_step.2 (.inr ⟨_, List.getElem_mem hνb, E5.out.1 (by simp)⟩))
          have HSW : Hid (w.heap.size ≤ wr.drew.heap.size) := Lib.hid hG.out.size
          go_wp2_with fail
          go_ret2
          exact ⟨_, ys, true, rfl, OwnI.mono O5.out HSW.out, ⟨fun _ => HE.out, fun _ => rfl⟩, L5.out, X5.out, G5.out⟩
        | false =>
          have HN1 : Hid (∀ j (h : j < t.kids.length), j < ν + 1 → ¬ Emb s t.kids[j]) := Lib.hid (fun j hj hjν => by
            by_cases e : j < ν
            · exact hN.out j hj e
            · obtain rfl : j = ν := by omega
              intro h; have := E5.out.2 h; cases this)
          have c3 := D3.out; have c4 := D4.out; have hb3 := BX5.out.2.2.2
          go_wp2_with fail
          refine (rwalk_any t.kids[ν] _ _ HK5.out HKS6.out).mono ?_
          rintro e w7 ⟨v7, rfl, ho7, hg7⟩
          obtain ⟨a7, c7, rfl⟩ := ownI_sl ho7
          have hln : ((pre t.kids[ν]).map label).length = size t.kids[ν] := by rw [List.length_map, len_pre]
          rw [hln]
          have i5 : IntKind.i64.wrap ((q : Int) + (size t.kids[ν] : Int)) = (q : Int) + (size t.kids[ν] : Int) := IntWalk.i64_in _ (by have := HFB.out; omega)
          have BX7 := Lib.hid (BX5.out.same hg7); have G7 := Lib.hid (grown_trans G5.out hg7)
          have HQ7 : Hid (q + size t.kids[ν] = f + 1 + sizeL (t.kids.take (ν + 1))) := Lib.hid (by have := hQ.out; have := HTS.out; omega)
          have hq7 : q + size t.kids[ν] ≤ 100000 := HFB.out
          clear hln ho7 hg7
          go_wp2_with fail
          go_roundw
          case rel => exact ⟨ν + 1, q + size t.kids[ν], by go_num, by omega, by go_num, HQ7, hq7, HN1, BX7, G7⟩
          case measure => simp [intOf]; omega
      · obtain rfl : ν = t.kids.length := by omega
        have e2 : ¬ (t.kids.length : Int) < (t.kids.length : Int) := by omega
        have HN1 : Hid (¬ Emb s t) := Lib.hid (fun h => by
          rcases emb_step.1 h with h | ⟨k, hk, h⟩
          · exact HNR.out h
          · obtain ⟨j, hj, rfl⟩ := List.getElem_of_mem hk
            exact hN.out j hj hj h)
        go_wp2_with fail
        go_ret2
        exact ⟨_, [], false, rfl, OwnI.nil _ _, ⟨(fun e => by cases e), fun h => absurd h HN1.out⟩, Nat.zero_le _, by simp, hG.out⟩
theorem inside_any (t : Tr) : InsideP t := by
  induction t using tr_ind with
  | h t ih => exact inside_of t ih

set_option maxRecDepth 100000 in
set_option maxHeartbeats 1500000 in
theorem rEmbedT_any {P Q : Nat → Prop} (s t : Tr) (y z : Value) (w : World) (h : TrK P w y s) (h' : TrK Q w z t) (hs : size s ≤ 100000) (ht : size t ≤ 100000) :
    Calls Try.prog 43 #[.agg #[.int .i64 s.label, y], .agg #[.int .i64 t.label, z]] w (RtTo (OkT s ∧ OkT t ∧ Emb s t) (size s) w) := by
  obtain ⟨a, cap, rfl⟩ := h.slice
  obtain ⟨a', cap', rfl⟩ := h'.slice
  have H := Lib.hid h; have H' := Lib.hid h'; have HS := Lib.hid hs; have HT := Lib.hid ht
  clear h h' hs ht
  go_enter Try.func43, Try.ntmps43
  go_wp2_with fail
  have hx := bx4_new w (.int .i64 s.label) (.slice a s.kids.length cap) (.int .i64 t.label) (.slice a' t.kids.length cap') 45 45
  have hg0 : w.grownBy ((w.alloc (.cells #[.int .i64 s.label, .slice a s.kids.length cap] 45)).alloc (.cells #[.int .i64 t.label, .slice a' t.kids.length cap'] 45)) none := grown_after (World.grownBy_alloc _ _ none)
  generalize (w.alloc (.cells #[.int .i64 s.label, .slice a s.kids.length cap] 45)).alloc (.cells #[.int .i64 t.label, .slice a' t.kids.length cap'] 45) = wb at *
  have HX := Lib.hid hx; have HG0 := Lib.hid hg0
  clear hx hg0
  refine (rValidT_any s _ _ (H.out.same HG0.out) HS.out).mono ?_
  rintro e w1 ⟨B1, rfl, hB1, hg1⟩
  have HB1 := Lib.hid hB1; have HG1 := Lib.hid (grown_trans HG0.out hg1); have HX1 := Lib.hid (HX.out.same hg1)
  clear hB1 hg1 HX HG0
  cases B1 with
  | false =>
    have HNO : Hid (¬ (OkT s ∧ OkT t ∧ Emb s t)) := Lib.hid (fun h => by have := HB1.out.2 h.1; cases this)
    go_wp2_with fail
    go_ret2
    exact ⟨_, [], false, rfl, OwnI.nil _ _, ⟨(fun e => by cases e), fun h => absurd h HNO.out⟩, Nat.zero_le _, by simp, HG1.out⟩
  | true =>
    have OK1 : Hid (OkT s) := Lib.hid (HB1.out.1 rfl)
    have hb0 := HX1.out.1; have hb1 := HX1.out.2.1; have hb2 := HX1.out.2.2.1; have hb3 := HX1.out.2.2.2
    go_wp2_with fail
    clear hb0 hb1 hb2 hb3
    refine (rValidT_any t _ _ (H'.out.same HG1.out) HT.out).mono ?_
    rintro e w2 ⟨B2, rfl, hB2, hg2⟩
    have HB2 := Lib.hid hB2; have HG2 := Lib.hid (grown_trans HG1.out hg2); have HX2 := Lib.hid (HX1.out.same hg2)
    clear hB2 hg2 HB1
    cases B2 with
    | false =>
      have HNO : Hid (¬ (OkT s ∧ OkT t ∧ Emb s t)) := Lib.hid (fun h => by have := HB2.out.2 h.2.1; cases this)
      go_wp2_with fail
      go_ret2
      exact ⟨_, [], false, rfl, OwnI.nil _ _, ⟨(fun e => by cases e), fun h => absurd h HNO.out⟩, Nat.zero_le _, by simp, HG2.out⟩
    | true =>
      have OK2 : Hid (OkT t) := Lib.hid (HB2.out.1 rfl)
      have hb0 := HX2.out.1; have hb1 := HX2.out.2.1; have hb2 := HX2.out.2.2.1; have hb3 := HX2.out.2.2.2
      have hin := inside_any t
      unfold InsideP at hin
      have HIN := Lib.hid hin
      clear hin
      go_wp2_with fail
      clear hb0 hb1 hb2 hb3
      refine (HIN.out _ _ _ _ _ _ 0 (H.out.same HG2.out) (H'.out.same HG2.out) HS.out (by have := HT.out; omega)).mono ?_
      rintro e w3 ⟨v3, x3, B3, rfl, ho3, hB3, hl3, hx3, hg3⟩
      have HO := Lib.hid ho3; have HB := Lib.hid hB3; have HL := Lib.hid hl3; have HXX := Lib.hid hx3; have HG3 := Lib.hid (grown_trans HG2.out hg3); have HSZ := Lib.hid HG2.out.size
      clear ho3 hB3 hl3 hx3 hg3
      go_wp2_with fail
      go_ret2
      exact ⟨_, x3, B3, rfl, OwnI.mono HO.out HSZ.out, ⟨fun e => ⟨OK1.out, OK2.out, HB.out.1 e⟩, fun h => HB.out.2 h.2.2⟩, HL.out, HXX.out, HG3.out⟩
set_option maxRecDepth 100000 in
set_option maxHeartbeats 1500000 in
theorem rLeqT_any {P Q : Nat → Prop} (s t : Tr) (y z : Value) (w : World) (h : TrK P w y s) (h' : TrK Q w z t) (hs : size s ≤ 100000) (ht : size t ≤ 100000) :
    Calls Try.prog 38 #[.agg #[.int .i64 s.label, y], .agg #[.int .i64 t.label, z]] w (LbTo (OkT s ∧ OkT t ∧ Emb s t) w) := by
  obtain ⟨a, cap, rfl⟩ := h.slice
  obtain ⟨a', cap', rfl⟩ := h'.slice
  have H := Lib.hid h; have H' := Lib.hid h'; have HS := Lib.hid hs; have HT := Lib.hid ht
  clear h h' hs ht
  go_enter Try.func38, Try.ntmps38
  go_wp2_with fail
  have hg0 : w.grownBy ((w.alloc (.cells #[.int .i64 s.label, .slice a s.kids.length cap] 45)).alloc (.cells #[.int .i64 t.label, .slice a' t.kids.length cap'] 45)) none := grown_after (World.grownBy_alloc _ _ none)
  have HG0 := Lib.hid hg0
  clear hg0
  refine (rEmbedT_any s t _ _ _ (H.out.same HG0.out) (H'.out.same HG0.out) HS.out HT.out).mono ?_
  rintro e w3 ⟨v3, x3, B3, rfl, ho3, hB3, hl3, hx3, hg3⟩
  have HB := Lib.hid hB3; have HG3 := Lib.hid (grown_trans HG0.out hg3)
  clear ho3 hB3 hl3 hx3 hg3
  go_wp2_with fail
  go_ret
  exact ⟨B3, rfl, HB.out, HG3.out⟩

end Go.Proofs.Ytnppmemcdcgjhaa
