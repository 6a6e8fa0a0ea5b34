/- The reference's walk: the labels in order. -/
import Derived.Test.YtnppmemcdcgjhaaMc
import Derived.Test.YtnppmemcdcgjhaaRw
namespace Go.Proofs.Ytnppmemcdcgjhaa
open Go.RowKit Tr
set_option linter.unusedVariables false

theorem ownI_one (w : World) (x : Int) : OwnI (w.alloc (.cells #[.int .i64 x] 3)) w.heap.size (.slice (some ⟨w.heap.size, 0, none⟩) 1 1) [x] :=
  ⟨rfl, .inr ⟨w.heap.size, 1, #[.int .i64 x], rfl, Nat.le_refl _, heap_new _ rfl, Nat.le_refl _, by decide, rfl, rfl⟩⟩
def WkTo (xs : List Int) (w : World) (e : Ending) (w' : World) : Prop := ∃ v, e = .returned v ∧ OwnI w' w.heap.size v xs ∧ w.grownBy w' none
theorem pre_take {t : Tr} {k : Nat} (h : k < t.kids.length) : (preL (t.kids.take (k + 1))).map label = (preL (t.kids.take k)).map label ++ (pre t.kids[k]).map label := by
  rw [List.take_succ_eq_append_getElem h, ← List.map_append]
  congr 1
  generalize t.kids.take k = l
  induction l with
  | nil => simp [preL]
  | cons x l ih => simp only [List.cons_append, preL, ih, List.append_assoc]
theorem cell_size {w : World} {g o : Nat} {v : Value} (h : w.cell? ⟨g, o, none⟩ = some v) : g < w.heap.size := by
  rcases Nat.lt_or_ge g w.heap.size with h' | h'
  · exact h'
  · have : w.heap[g]? = none := Array.getElem?_eq_none h'
    simp [World.cell?, this] at h
set_option maxRecDepth 100000 in
set_option maxHeartbeats 2000000 in
theorem rwalk_any {P : Nat → Prop} (t : Tr) : ∀ (y : Value) (w : World), TrK P w y t → size t ≤ 100000 →
    Calls Try.prog 61 #[.agg #[.int .i64 t.label, y]] w (WkTo ((pre t).map label) w) := by
  induction t using tr_ind with
  | h t ih =>
  intro y w h hsz
  have hlb := TrK.labels t h t (by rw [pre_eq]; simp)
  obtain ⟨a, cap, rfl⟩ := h.slice
  have H := Lib.hid h; have IH := Lib.hid ih; have HS := Lib.hid hsz
  have HPE : Hid ((pre t).map label = t.label :: (preL t.kids).map label) := Lib.hid (by rw [pre_eq]; rfl)
  have hkl : t.kids.length ≤ 100000 := by have := sizeL_len t.kids; rw [size_eq] at hsz; omega
  have HLN : Hid (∀ k, ((preL (t.kids.take k)).map label).length ≤ 100000) := Lib.hid (fun k => by
    have h1 := take_szle t.kids k
    have h2 := size_eq t
    have : (preL (t.kids.take k)).length = sizeL (t.kids.take k) := by
      generalize t.kids.take k = l
      exact len_preL l
    rw [List.length_map, this]; omega)
  clear h ih hsz
  go_enter Try.func61, Try.ntmps61
  have HLB : Hid (∀ k, ∀ x ∈ (preL (t.kids.take k)).map label, -9223372036854775808 ≤ x ∧ x ≤ 9223372036854775807) := Lib.hid (fun k x hx => by
    obtain ⟨u, hu, rfl⟩ := List.mem_map.1 hx
    obtain ⟨kk, hkk, hu⟩ := mem_preL.1 hu
    exact TrK.labels t H.out u (by rw [pre_eq]; exact List.mem_cons_of_mem _ (mem_preL.2 ⟨kk, List.mem_of_mem_take hkk, hu⟩)))
  have HKB : Hid (∀ k ∈ t.kids, ∀ x ∈ (pre k).map label, -9223372036854775808 ≤ x ∧ x ≤ 9223372036854775807) := Lib.hid (fun k hk x hx => by
    obtain ⟨u, hu, rfl⟩ := List.mem_map.1 hx
    exact TrK.labels t H.out u (by rw [pre_eq]; exact List.mem_cons_of_mem _ (mem_preL.2 ⟨k, hk, hu⟩)))
  have hsz1 : (w.alloc (.cells #[.int .i64 t.label, .slice a t.kids.length cap] 45)).heap.size = w.heap.size + 1 := by show (w.heap.push _).size = _; simp
  have hb0 := box_cells w (.int .i64 t.label) (.slice a t.kids.length cap) 45
  have HG0 : Hid (w.grownBy (w.alloc (.cells #[.int .i64 t.label, .slice a t.kids.length cap] 45)) none) := Lib.hid (World.grownBy_alloc _ _ none)
  have hone := ownI_one (w.alloc (.cells #[.int .i64 t.label, .slice a t.kids.length cap] 45)) t.label
  have hg2 := World.grownBy_alloc (w.alloc (.cells #[.int .i64 t.label, .slice a t.kids.length cap] 45)) (.cells #[.int .i64 t.label] 3) none
  rw [hsz1] at hone
  have HO : Hid (OwnI _ (w.heap.size + 1) _ (t.label :: (preL (t.kids.take 0)).map label)) := Lib.hid (by simpa [preL] using hone)
  have HBX := Lib.hid (hg2.cell hb0.2 (by simp))
  have HG : Hid _ := Lib.hid (grown_trans HG0.out hg2)
  clear hb0 hone hg2 hsz1
  go_wp2_with fail
  go_loopw [3, 4] (fun v i wr => ∃ (k : Nat), i = .int .i64 k ∧ k ≤ t.kids.length ∧ Hid (OwnI wr (w.heap.size + 1) v (t.label :: (preL (t.kids.take k)).map label)) ∧ Hid (w.grownBy wr none) ∧ Hid (wr.cell? ⟨w.heap.size, 1, none⟩ = some (.slice a t.kids.length cap))) (fun _ i _ => t.kids.length - (intOf i).toNat)
  case atStart => exact ⟨0, rfl, Nat.zero_le _, HO, HG, HBX⟩
  case round =>
    clear HO HG HBX HG0
    obtain ⟨k, rfl, hk, hO, hG, hB⟩ := hrel
    have hb1 := hB.out
    by_cases hkb : k < t.kids.length
    · have e1 : (k : Int) < (t.kids.length : Int) := by omega
      have i1 : IntKind.i64.wrap ((k : Int) + 1) = (k : Int) + 1 := IntWalk.i64_in _ (by omega)
      obtain ⟨b, off, a2, cap2, rfl, -, c1, c2, hK⟩ := (H.out.same hG.out).kid hkb
      have HK := Lib.hid hK; have HKS := Lib.hid (size_kid (List.getElem_mem hkb)); have HPT := Lib.hid (pre_take hkb); have HKM := Lib.hid (HKB.out _ (List.getElem_mem hkb)); have HL1 := Lib.hid (HLN.out (k + 1)); have HL0 := Lib.hid (HLN.out k)
      clear hK
      go_wp2_with fail
      refine (IH.out _ HKS.out _ _ HK.out (by have := HS.out; have := HKS.out; omega)).mono ?_
      rintro e w1 ⟨v1, rfl, hv, hg⟩
      have HV := Lib.hid hv; have HO1 : Hid (OwnI w1 (w.heap.size + 1) u3 (t.label :: (preL (t.kids.take k)).map label)) := Lib.hid (World.ownsRow.kept hO.out hg (by cases u3.ownBlock <;> simp)); have HG1 := Lib.hid (grown_trans hG.out hg); have HB1 := Lib.hid (hg.cell hB.out (by simp))
      have HSZ : Hid (w.heap.size + 1 ≤ w1.heap.size) := Lib.hid (by
        have h1 := cell_size hB.out
        have := hg.size; omega)
      clear hv hg c1 c2 hb1
      go_wp2_with (at_builtin; refine app_ints rfl _ _ rfl (w.heap.size + 1) u3 (t.label :: (preL (t.kids.take k)).map label) rfl HO1.out v1 ((pre t.kids[k]).map label) rfl (HV.out.ints HKM.out) HV.out.good (by have h1 := HL0.out; have h2 := HL1.out; rw [HPT.out, List.length_append] at h2; rw [List.length_cons]; omega) HSZ.out ?_)
      intro v2 w2 ho2 hg2
      have HO2 : Hid (OwnI w2 (w.heap.size + 1) v2 (t.label :: (preL (t.kids.take (k + 1))).map label)) := Lib.hid (by rw [HPT.out]; exact ho2)
      have HG2 : Hid (w.grownBy w2 none) := Lib.hid (grown_then HG1.out hg2 (fun j hj => .inl (by have := (HO1.out.fresh j hj).1; omega)))
      have HB2 := Lib.hid (hg2.cell HB1.out (fun e => by have h9 : w.heap.size + 1 ≤ w.heap.size := (HO1.out.fresh w.heap.size e.symm).1; omega))
      clear ho2 hg2
      go_wp2_with fail
      go_roundw
      case rel => exact ⟨k + 1, by go_num, by omega, HO2, HG2, HB2⟩
      case measure => simp [intOf]; omega
    · obtain rfl : k = t.kids.length := by omega
      have e1 : ¬ (t.kids.length : Int) < (t.kids.length : Int) := by omega
      go_wp2_with fail
      go_ret
      refine ⟨_, rfl, ?_, hG.out⟩
      have := hO.out
      rw [List.take_length] at this
      rw [HPE.out]
      exact OwnI.mono this (Nat.le_succ _)

end Go.Proofs.Ytnppmemcdcgjhaa
