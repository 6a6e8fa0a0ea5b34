/- strings.Builder: one more byte, one more text; token.Number. -/
import Derived.Test.YthlollnpnangpaaDoorYd
import Derived.Shelf.Strings.BuilderF
import Derived.Lib.FrozenHead2
import Derived.Lib.LaidTab
import Derived.Maps.AppendAt
import Derived.Lib.AppendStr
import Derived.Lib.OthersKept
namespace Go.Proofs.YthlollnpnangpaaDoor
open Go.RowKit
set_option linter.unusedVariables false
theorem info_byte : (Tryd.prog.info? 5).map (fun i => (i.zero, i.size, i.bytes)) = some (some (.int .u8 0), 1, 1) := by kernel_rfl
/-- A builder in block b, with what has been written. -/
def BldAt (w : World) (b : Nat) (p : Value) (bs : Bs) : Prop := ∃ v, w.heap[b]? = some (.cells #[p, v] 64 (0, 0)) ∧ w.ownsRow (b + 1) 5 1 v bs.length (Lib.byteCells bs)
def Bld (w : World) (b : Nat) (bs : Bs) : Prop := BldAt w b (.pointer none) bs ∨ BldAt w b (.pointer (some ⟨b, 0, none⟩)) bs
theorem BldAt.lt {w : World} {b : Nat} {p : Value} {bs : Bs} (h : BldAt w b p bs) : b < w.heap.size := by
  obtain ⟨v, h1, -⟩ := h
  exact (Array.getElem?_eq_some_iff.1 h1).1
theorem Bld.lt {w : World} {b : Nat} {bs : Bs} (h : Bld w b bs) : b < w.heap.size := by rcases h with h | h <;> exact h.lt
theorem BldAt.same {w w' : World} {b : Nat} {p : Value} {bs : Bs} (h : BldAt w b p bs) (g : w.grownBy w' none) : BldAt w' b p bs := by
  have hl := h.lt
  obtain ⟨v, h1, h2⟩ := h
  refine ⟨v, (g.block b hl (by simp)).trans h1, World.ownsRow.kept h2 g ?_⟩
  cases v.ownBlock
  · exact .inl rfl
  · exact .inr (by simp)
theorem Bld.same {w w' : World} {b : Nat} {bs : Bs} (h : Bld w b bs) (g : w.grownBy w' none) : Bld w' b bs := h.imp (fun h => h.same g) (fun h => h.same g)
abbrev OtK (b : Nat) (w w' : World) : Prop := Lib.OthersKept 5 (some b) w w'
set_option maxRecDepth 100000 in
set_option maxHeartbeats 1000000 in
theorem check_bld (b : Nat) (bs : Bs) (w : World) (h : Bld w b bs) : Calls Tryd.prog 50 #[.pointer (some ⟨b, 0, none⟩)] w fun e w' => e = .returned (.tuple #[]) ∧ BldAt w' b (.pointer (some ⟨b, 0, none⟩)) bs ∧ Below b w w' ∧ OtK b w w' := by
  have hlt := h.lt
  obtain ⟨i, hi, hi2⟩ : ∃ i, Tryd.prog.info? 64 = some i ∧ i.size = 2 := by
    have : (Tryd.prog.info? 64).map (·.size) = some 2 := by kernel_rfl
    exact Option.map_eq_some_iff.1 this
  rcases h with h | h
  · obtain ⟨v, h1, h2⟩ := h
    have hsh : w.shape? b = some (64, 2) := by unfold World.shape?; rw [h1]; rfl
    have c0 : w.cell? ⟨b, 0, none⟩ = some (.pointer none) := by unfold World.cell?; dsimp only; rw [h1]; rfl
    have f0 : w.frozen? ⟨b, 0, none⟩ = false := by unfold World.frozen?; dsimp only; rw [h1]; rfl
    go_enter Tryd.func50, Tryd.ntmps50
    go_wp2
    rw [Lib.run_to_unsafe w ⟨b, 0, none⟩ Tryd.underlying62 Tryd.underlying87 hi (by rw [hi2]; decide) hsh (Nat.zero_lt_succ 1)]
    simp only [Result.andThen]
    rw [Oper.upon_value]
    go_wp2
    rw [run_callFunc_extern Tryd.func59 (by kernel_rfl) (by kernel_rfl) (by kernel_rfl) (e := Extern.AbiNoEscape.same) (by kernel_rfl), Lib.run_noEscape]
    simp only [Result.andThen]
    rw [Oper.upon_value]
    go_wp2
    rw [Lib.run_from_unsafe w ⟨b, 0, none⟩ Tryd.underlying87 Tryd.underlying62 hi hsh (by kernel_rfl)]
    simp only [Result.andThen]
    rw [Oper.upon_value]
    go_wp2
    go_end0
    have gs : w.grownBy (w.setCell ⟨b, 0, none⟩ (.pointer (some ⟨b, 0, none⟩))) (some b) := grown_set _ _ _
    refine ⟨rfl, ⟨v, heap_set (o := 0) h1 _, World.ownsRow.kept h2 gs ?_⟩, (Below.refl b w).grown gs (Nat.le_of_lt hlt) (by rintro k ⟨⟩; exact Nat.le_refl _), (Lib.OthersKept.refl _ _ w).setCell ⟨b, 0, none⟩ rfl _⟩
    cases hv : v.ownBlock with
    | none => exact .inl rfl
    | some k => exact .inr (fun e => by cases e; have := (World.ownsRow.lt h2 _ hv).1; omega)
  · obtain ⟨v, h1, h2⟩ := h
    have c0 : w.cell? ⟨b, 0, none⟩ = some (.pointer (some ⟨b, 0, none⟩)) := by unfold World.cell?; dsimp only; rw [h1]; rfl
    go_enter Tryd.func50, Tryd.ntmps50
    go_wp2
    rw [Lib.run_neq_ptr_same w _ Tryd.underlying62 hi]
    go_wp2
    go_end0
    exact ⟨rfl, ⟨v, h1, h2⟩, Below.refl _ _, Lib.OthersKept.refl _ _ _⟩
/-- Something has been put behind what was written. -/
theorem put_bld {w w1 w2 : World} {b : Nat} {v v' : Value} {p : Value} {bs cs : Bs} (hlt : b < w.heap.size) (h1 : w1.heap[b]? = some (.cells #[p, v] 64 (0, 0))) (hb : Below b w w1) (hk : OtK b w w1) (hrow : ∀ g, v.ownBlock = some g → ∃ c fz, w1.heap[g]? = some (.cells c 5 fz)) (g : w1.grownBy w2 v.ownBlock) (hv : ∀ k, v.ownBlock = some k → b + 1 ≤ k)
    (ho : w2.ownsRow (b + 1) 5 1 v' (bs ++ cs).length (Lib.byteCells (bs ++ cs))) : BldAt (w2.setCell ⟨b, 1, none⟩ v') b p (bs ++ cs) ∧ Below b w (w2.setCell ⟨b, 1, none⟩ v') ∧ OtK b w (w2.setCell ⟨b, 1, none⟩ v') ∧ w2.cell? ⟨b, 1, none⟩ = some v ∧ w2.frozen? ⟨b, 1, none⟩ = false := by
  have hlt1 : b < w1.heap.size := (Array.getElem?_eq_some_iff.1 h1).1
  have e2 : w2.heap[b]? = some (.cells #[p, v] 64 (0, 0)) := (g.block b hlt1 (fun e => by have := hv b e.symm; omega)).trans h1
  have gs : w2.grownBy (w2.setCell ⟨b, 1, none⟩ v') (some b) := grown_set _ _ _
  have hb2 : Below b w w2 := hb.grown g (by omega) (fun k hk => by have := hv k hk; omega)
  refine ⟨⟨v', heap_set (o := 1) e2 _, World.ownsRow.kept ho gs ?_⟩, hb2.grown gs (by have := g.size; omega) (by rintro k ⟨⟩; exact Nat.le_refl _), (hk.grown g hrow).setCell ⟨b, 1, none⟩ rfl _, ?_, ?_⟩
  · cases hk : v'.ownBlock with
    | none => exact .inl rfl
    | some k => exact .inr (fun e => by cases e; have := (World.ownsRow.lt ho _ hk).1; omega)
  · unfold World.cell?; dsimp only; rw [e2]; rfl
  · unfold World.frozen?; dsimp only; rw [e2]; rfl
set_option maxRecDepth 100000 in
set_option maxHeartbeats 1000000 in
theorem writeByte_bld (b : Nat) (bs : Bs) (c : UInt8) (w : World) (h : Bld w b bs) (hl : bs.length ≤ 1000000) : Calls Tryd.prog 33 #[.pointer (some ⟨b, 0, none⟩), .int .u8 c.toNat] w fun e w' => e = .returned .nilIface ∧ Bld w' b (bs ++ [c]) ∧ Below b w w' ∧ OtK b w w' := by
  have hlt := h.lt
  obtain ⟨i, hi, hz0, hz1, hz2⟩ := info_parts info_byte
  go_enter Tryd.func33, Tryd.ntmps33
  go_wp2_with (go_at_call 50; refine (check_bld b bs _ h).mono ?_)
  rintro e w1 ⟨rfl, ⟨v, h1, h2⟩, hb, hot⟩
  have c0 : w1.cell? ⟨b, 0, none⟩ = some (.pointer (some ⟨b, 0, none⟩)) := by unfold World.cell?; dsimp only; rw [h1]; rfl
  have c1 : w1.cell? ⟨b, 1, none⟩ = some v := by unfold World.cell?; dsimp only; rw [h1]; rfl
  have hlt1 : b < w1.heap.size := (Array.getElem?_eq_some_iff.1 h1).1
  have hv : ∀ k, v.ownBlock = some k → b + 1 ≤ k := fun k hk => (World.ownsRow.lt h2 k hk).1
  have hva : ∀ k, v.ownBlock = some k → k < w1.heap.size := fun k hk => (World.ownsRow.lt h2 k hk).2
  have H1 := Lib.hid h1; have H2 := Lib.hid h2; have HB := Lib.hid hb; have HV := Lib.hid hv; have HOT := Lib.hid hot; have HROW := Lib.hid (Lib.ownsRowF_kind (World.ownsRowF_of h2))
  clear h1 h2 hb hv h hot
  go_wp2_with (at_builtin; refine wpList_append_own (w := w1.alloc (.cells #[.int .u8 c.toNat] 5)) rfl _ _ 31 rfl (b + 1) 5 i (.int .u8 0) 1 1 Tryd.underlying31 hi hz0 hz1 hz2 rfl (by decide) v bs.length (Lib.byteCells bs) rfl (World.ownsRow.kept H2.out (World.grownBy_alloc w1 _ none) (by cases v.ownBlock <;> simp)) ⟨w1.heap.size, 0, none⟩ 1 1 [.int .u8 c.toNat] rfl rfl (cell_one_new _ _ _) (by intro u hu; simp at hu; subst hu; rfl) (by unfold maxLen; omega) (by omega) (Nat.le_trans hlt1 (World.grownBy_alloc w1 _ none).size) ?_)
  intro v' w2 ho hg _
  have hog : w2.ownsRow (b + 1) 5 1 v' (bs ++ [c]).length (Lib.byteCells (bs ++ [c])) := by rw [Lib.byteCells_append, List.length_append]; exact ho
  obtain ⟨g', cap', rfl⟩ : ∃ g cap, v' = .slice (some ⟨g, 0, none⟩) (bs.length + 1) cap := by
    rcases ho.2 with ⟨_, h0⟩ | ⟨g, cap, cur, hv, _⟩
    · omega
    · exact ⟨g, cap, hv⟩
  obtain ⟨q1, q2, q5, q3, q4⟩ := put_bld hlt (heap_old _ H1.out) ((Below.trans HB.out ((Below.refl b w1).alloc (Nat.le_of_lt hlt1) _))) (HOT.out.alloc _) (fun g e => by obtain ⟨c, fz, h⟩ := HROW.out g e; exact ⟨c, fz, heap_old _ h⟩) hg HV.out hog
  have Q1 := Lib.hid q1; have Q2 := Lib.hid q2; have Q5 := Lib.hid q5
  clear q1 q2 q5 ho hog hg
  go_wp2_with fail
  go_ret
  exact ⟨rfl, .inr Q1.out, Q2.out, Q5.out⟩
set_option maxRecDepth 100000 in
set_option maxHeartbeats 1000000 in
theorem writeString_bld (b : Nat) (bs cs : Bs) (w : World) (h : Bld w b bs) (hl : bs.length ≤ 1000000) (hc : cs.length ≤ 1000000) : Calls Tryd.prog 34 #[.pointer (some ⟨b, 0, none⟩), strV cs] w fun e w' => (∃ v, e = .returned v) ∧ Bld w' b (bs ++ cs) ∧ Below b w w' ∧ OtK b w w' := by
  have hlt := h.lt
  obtain ⟨i, hi, hz0, hz1, hz2⟩ := info_parts info_byte
  obtain ⟨s, hs⟩ : ∃ s : ByteArray, s = ⟨cs.toArray⟩ := ⟨_, rfl⟩
  have hsz : s.size = cs.length := by rw [hs]; rfl
  have HS := Lib.hid hs
  rw [show strV cs = .string s by rw [hs]]
  clear hs
  go_enter Tryd.func34, Tryd.ntmps34
  go_wp2_with (go_at_call 50; refine (check_bld b bs _ h).mono ?_)
  rintro e w1 ⟨rfl, ⟨v, h1, h2⟩, hb, hot⟩
  have c0 : w1.cell? ⟨b, 0, none⟩ = some (.pointer (some ⟨b, 0, none⟩)) := by unfold World.cell?; dsimp only; rw [h1]; rfl
  have c1 : w1.cell? ⟨b, 1, none⟩ = some v := by unfold World.cell?; dsimp only; rw [h1]; rfl
  have hlt1 : b < w1.heap.size := (Array.getElem?_eq_some_iff.1 h1).1
  have hv : ∀ k, v.ownBlock = some k → b + 1 ≤ k := fun k hk => (World.ownsRow.lt h2 k hk).1
  have H1 := Lib.hid h1; have H2 := Lib.hid h2; have HB := Lib.hid hb; have HV := Lib.hid hv; have HOT := Lib.hid hot; have HROW := Lib.hid (Lib.ownsRowF_kind (World.ownsRowF_of h2))
  clear h1 h2 hb hv h hot
  go_wp2_with (at_builtin; refine Lib.wpList_append_own_string (w := w1) rfl _ _ 31 9 rfl (b + 1) 5 i Tryd.underlying31 Tryd.underlying9 hi hz0 hz1 hz2 v bs.length (Lib.byteCells bs) rfl H2.out s rfl (by rw [hsz]; unfold maxLen; omega) (by rw [hsz]; omega) hlt1 ?_)
  intro v' w2 ho hg hnil
  have hsc : Lib.strCells s = Lib.byteCells cs := by rw [HS.out]; rfl
  have hog : w2.ownsRow (b + 1) 5 1 v' (bs ++ cs).length (Lib.byteCells (bs ++ cs)) := by rw [Lib.byteCells_append, List.length_append, ← hsc]; exact ho
  obtain ⟨q1, q2, q5, q3, q4⟩ := put_bld hlt H1.out HB.out HOT.out HROW.out hg HV.out hog
  obtain ⟨a', cap', rfl⟩ : ∃ a cap, v' = .slice a (bs.length + cs.length) cap := by
    rw [List.length_append] at hog
    rcases hog.2 with ⟨rfl, h0⟩ | ⟨g, cap, cur, hv, _⟩
    · exact ⟨none, 0, by rw [h0]⟩
    · exact ⟨_, cap, hv⟩
  have Q1 := Lib.hid q1; have Q2 := Lib.hid q2; have Q5 := Lib.hid q5
  clear q1 q2 q5 ho hog hg hnil
  go_wp2_with fail
  go_ret2
  exact ⟨⟨_, rfl⟩, .inr Q1.out, Q2.out, Q5.out⟩
theorem string_bld (b : Nat) (bs : Bs) (w : World) (h : Bld w b bs) : Calls Tryd.prog 35 #[.pointer (some ⟨b, 0, none⟩)] w fun e w' => e = .returned (strV bs) ∧ Below b w w' := by
  have hlt := h.lt
  have key : ∀ p, BldAt w b p bs → Lib.BuilderAtF 64 5 b b p (Lib.byteCells bs) w := fun p h => by
    obtain ⟨v, h1, h2⟩ := h
    refine ⟨Nat.le_refl _, v, h1, World.ownsRowF_of ?_, fun e => by have := (World.ownsRow.lt h2 _ e).1; omega⟩
    rw [Lib.byteCells_length]
    refine ⟨h2.1, ?_⟩
    rcases h2.2 with h3 | ⟨g, cap, cur, h3, h4, h5⟩
    · exact .inl h3
    · exact .inr ⟨g, cap, cur, h3, by omega, h5⟩
  refine (Tryd.Builder_String_any_k b b bs w (h.imp (key _) (key _)) (Nat.le_of_lt hlt)).mono ?_
  rintro e w' ⟨rfl, -, h2, -⟩
  exact ⟨rfl, h2⟩
/-- The table that Itoa reads. -/
def TabP (w : World) : Prop := Lib.TabIs Tryd.prog w "internal/strconv.uint64pow10" .u64 Lib.pow10Tab
theorem TabP.same {w w' : World} (h : TabP w) (g : w.grownBy w' none) : TabP w' := by
  unfold TabP Lib.TabIs World.var? at *
  cases hg : Tryd.prog.globalNamed "internal/strconv.uint64pow10" with
  | none => rw [hg] at h; simp at h
  | some k =>
    simp only [hg, Option.bind_some] at h ⊢
    have hlt : k < w.heap.size := by
      rcases Nat.lt_or_ge k w.heap.size with h1 | h1
      · exact h1
      · rw [Array.getElem?_eq_none h1] at h; simp at h
    rw [g.block k hlt (by simp)]
    exact h
theorem grown_grow (w : World) (k : Nat) (os : Array Obj) : w.grownBy (Sort.grow (w.drewN k) os) none :=
  ⟨rfl, rfl, rfl, by show w.heap.size ≤ (w.heap ++ os).size; simp, fun i hi _ => by show (w.heap ++ os)[i]? = w.heap[i]?; rw [Array.getElem?_append_left hi]⟩
set_option maxRecDepth 100000 in
theorem Number_any (n : Nat) (hn : n ≤ 9999999) (w : World) (hT : TabP w) : Calls Tryd.prog 21 #[.int .i64 (n : Int)] w fun e w' => e = .returned (strV (Lib.itoa n)) ∧ w.grownBy w' none := by
  have HT := Lib.hid hT
  clear hT
  have h1 : ¬ ((n : Int) < 0) := by omega
  have h2 : ¬ ((9999999 : Int) < (n : Int)) := by omega
  go_enter Tryd.func21, Tryd.ntmps21
  go_wp2_with (go_at_call 37; refine (Tryd.strconv_Itoa (n : Int) (by omega) (by omega) _ HT.out).mono ?_; rintro e w' ⟨rfl, k, os, rfl⟩)
  go_ret
  exact ⟨rfl, grown_grow _ _ _⟩
end Go.Proofs.YthlollnpnangpaaDoor
