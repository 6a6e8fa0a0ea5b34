/- Embed, Leq. -/
import Derived.Test.YtnppmemcdcgjhaaKj
namespace Go.Proofs.Ytnppmemcdcgjhaa
open Go.RowKit Tr
set_option linter.unusedVariables false

theorem pl_all {T : List Tr} {m : List Int} (s : Tr) : ∀ {i n : Nat}, Pl T m i s n → ∀ q, i ≤ q → q < i + size s → ∃ k u, m[q]? = some ((k : Nat) : Int) ∧ T[k]? = some u ∧ ∃ v, (pre s)[q - i]? = some v ∧ v.label = u.label := by
  induction s using tr_ind with
  | h s ih =>
  intro i n h q h1 h2
  cases h with
  | mk e1 e2 e3 e4 =>
    by_cases hq : q = i
    · subst hq
      exact ⟨n, _, e1, e2, s, by rw [Nat.sub_self, pre_eq]; rfl, e3⟩
    · have key : ∀ (ts ss : List Tr) (i n : Nat), (∀ k ∈ ss, size k < size s) → PlL T m i ss n ts → ∀ q, i ≤ q → q < i + sizeL ss → ∃ k u, m[q]? = some ((k : Nat) : Int) ∧ T[k]? = some u ∧ ∃ v, (preL ss)[q - i]? = some v ∧ v.label = u.label := by
        intro ts
        induction ts with
        | nil => intro ss i n hs h q h1 h2; cases h with
          | nil => rw [sizeL] at h2; omega
        | cons t ts iht =>
          intro ss i n hs h q h1 h2
          cases h with
          | nil => rw [sizeL] at h2; omega
          | take p1 p2 p3 p4 =>
            rename_i k x ss
            rw [sizeL] at h2
            by_cases hx : q < i + size x
            · obtain ⟨k', u, a1, a2, v, a3, a4⟩ := ih x (hs x (by simp)) p3 q h1 hx
              exact ⟨k', u, a1, a2, v, by rw [preL, List.getElem?_append_left (by rw [len_pre]; omega)]; exact a3, a4⟩
            · obtain ⟨k', u, a1, a2, v, a3, a4⟩ := iht ss _ _ (fun y hy => hs y (by simp [hy])) p4 q (by omega) (by omega)
              exact ⟨k', u, a1, a2, v, by rw [preL, List.getElem?_append_right (by rw [len_pre]; omega), len_pre, show q - i - size x = q - (i + size x) by omega]; exact a3, a4⟩
          | skip p4 => exact iht ss _ _ hs p4 q h1 h2
      rw [size_eq] at h2
      obtain ⟨k', u, a1, a2, v, a3, a4⟩ := key _ _ _ _ (fun k hk => size_kid hk) e4 q (by omega) (by omega)
      refine ⟨k', u, a1, a2, v, ?_, a4⟩
      rw [pre_eq, show q - i = (q - (i + 1)) + 1 by omega, List.getElem?_cons_succ]
      exact a3
def EmbTo (s t : Tr) (w : World) (e : Ending) (w' : World) : Prop := w.grownBy w' none ∧
  ((OkT s ∧ OkT t ∧ Emb s t ∧ ∃ v m k, e = .returned (.tuple #[v, .bool true]) ∧ OwnI w' w.heap.size v m ∧ m.length = size s ∧ Pl (pre t) m 0 s k) ∨ (¬ (OkT s ∧ OkT t ∧ Emb s t) ∧ e = .returned (.tuple #[.slice none 0 0, .bool false])))
/-- A flat tree, or none, in three slices. -/
theorem flat_any3 {t : Tr} {w : World} {e : Ending} {w' : World} (h : FlatTo t w e w') : w.grownBy w' none ∧ ∃ (Bo : Bool) (a1 a2 a3 : Option Addr) (n c1 c2 c3 : Nat), e = .returned (.tuple #[.agg #[.slice a1 n c1, .slice a2 n c2, .slice a3 n c3], .bool Bo]) ∧ (Bo = true → OkT t ∧ n = size t ∧ FlatV w' t (.slice a1 n c1) (.slice a2 n c2) (.slice a3 n c3)) ∧ (Bo = false → ¬ OkT t) := by
  obtain ⟨hg, (⟨hok, vl, ve, vk, rfl, hv, -⟩ | ⟨hok, rfl⟩)⟩ := h
  · obtain ⟨a1, c1, a2, c2, a3, c3, rfl, rfl, rfl⟩ := hv.open
    exact ⟨hg, true, a1, a2, a3, size t, c1, c2, c3, rfl, (fun _ => ⟨hok, rfl, hv⟩), (fun h => by cases h)⟩
  · exact ⟨hg, false, none, none, none, 0, 0, 0, 0, rfl, (fun h => by cases h), (fun _ => hok)⟩

set_option maxRecDepth 100000 in
set_option maxHeartbeats 2000000 in
theorem Embed_any {P Q : Nat → Prop} (s t : Tr) (y z : Value) (w : World) (h : TrK P w y s) (h' : TrK Q w z t) (hs : size s ≤ 100000) (ht : size t ≤ 100000) :
    Calls Try.prog 44 #[.agg #[.int .i64 s.label, y], .agg #[.int .i64 t.label, z]] w (EmbTo s t w) := by
  obtain ⟨a, cap, rfl⟩ := h.slice
  obtain ⟨a', cap', rfl⟩ := h'.slice
  have H := Lib.hid h; have H' := Lib.hid h'; have HS := Lib.hid hs; have HT := Lib.hid ht
  clear h h' hs ht
  go_enter Try.func44, Try.ntmps44
  go_wp2_with fail
  have hb1 := heap_old (.cells #[.int .i64 t.label, .slice a' t.kids.length cap'] 45) (heap_new (w := w) (g := w.heap.size) (.cells #[.int .i64 s.label, .slice a s.kids.length cap] 45) rfl)
  have hb2 := heap_new (w := w.alloc (.cells #[.int .i64 s.label, .slice a s.kids.length cap] 45)) (g := w.heap.size + 1) (.cells #[.int .i64 t.label, .slice a' t.kids.length cap'] 45) (by show _ = (w.heap.push _).size; simp)
  have hg0 : w.grownBy ((w.alloc (.cells #[.int .i64 s.label, .slice a s.kids.length cap] 45)).alloc (.cells #[.int .i64 t.label, .slice a' t.kids.length cap'] 45)) none := grown_after (World.grownBy_alloc _ _ none)
  generalize (w.alloc (.cells #[.int .i64 s.label, .slice a s.kids.length cap] 45)).alloc (.cells #[.int .i64 t.label, .slice a' t.kids.length cap'] 45) = wb at *
  have HB2 := Lib.hid hb2; have HG0 := Lib.hid hg0
  clear hb1 hb2 hg0
  refine (flatten_any s _ _ (H.out.same HG0.out) HS.out).mono ?_
  rintro e w1 hf
  obtain ⟨hg, B1, a1, a2, a3, n, c1, c2, c3, rfl, ht1, hf1⟩ := flat_any3 hf
  have HT1 := Lib.hid ht1; have HF1 := Lib.hid hf1; have G1 := Lib.hid hg
  clear hf ht1 hf1 hg
  have GA := Lib.hid (World.grownBy_alloc w1 (.cells #[.slice a1 n c1, .slice a2 n c2, .slice a3 n c3] 71) none)
  have hF1 := heap_new (w := w1) (g := w1.heap.size) (.cells #[.slice a1 n c1, .slice a2 n c2, .slice a3 n c3] 71) rfl
  have HX1 := Lib.hid hF1
  have hx0 := GA.out.cell (G1.out.cell (cells_of HB2.out).1 (by simp)) (by simp); have hx1 := GA.out.cell (G1.out.cell (cells_of HB2.out).2 (by simp)) (by simp)
  clear hF1
  go_wp2_with fail
  clear hx0 hx1
  obtain ⟨F1, hF⟩ : ∃ F1, w1.heap.size = F1 := ⟨_, rfl⟩
  rw [hF] at HX1 ⊢
  clear hF
  have G2 := Lib.hid (grown_trans G1.out GA.out)
  clear GA
  have HT2 : Hid (B1 = true → OkT s ∧ n = size s ∧ FlatV (w1.alloc (.cells #[.slice a1 n c1, .slice a2 n c2, .slice a3 n c3] 71)) s (.slice a1 n c1) (.slice a2 n c2) (.slice a3 n c3)) := Lib.hid (fun h => ⟨(HT1.out h).1, (HT1.out h).2.1, (HT1.out h).2.2.same (World.grownBy_alloc _ _ none)⟩)
  clear HT1 G1
  generalize w1.alloc (.cells #[.slice a1 n c1, .slice a2 n c2, .slice a3 n c3] 71) = w2 at *
  refine (flatten_any t _ _ (H'.out.same (grown_trans HG0.out G2.out)) HT.out).mono ?_
  rintro e w3 hf
  obtain ⟨hg, B2, b1, b2, b3, n', d1, d2, d3, rfl, ht1, hf1⟩ := flat_any3 hf
  have G3 := Lib.hid hg
  have GA := Lib.hid (World.grownBy_alloc w3 (.cells #[.slice b1 n' d1, .slice b2 n' d2, .slice b3 n' d3] 71) none)
  have HX2 := Lib.hid (heap_new (w := w3) (g := w3.heap.size) (.cells #[.slice b1 n' d1, .slice b2 n' d2, .slice b3 n' d3] 71) rfl)
  have HX3 : Hid ((w3.alloc (.cells #[.slice b1 n' d1, .slice b2 n' d2, .slice b3 n' d3] 71)).heap[F1]? = some (.cells #[.slice a1 n c1, .slice a2 n c2, .slice a3 n c3] 71 (0, 0))) := Lib.hid (heap_old _ ((hg.block F1 (Array.getElem?_eq_some_iff.1 HX1.out).1 (by simp)).trans HX1.out))
  have HT4 : Hid (B2 = true → OkT t ∧ n' = size t ∧ FlatV (w3.alloc (.cells #[.slice b1 n' d1, .slice b2 n' d2, .slice b3 n' d3] 71)) t (.slice b1 n' d1) (.slice b2 n' d2) (.slice b3 n' d3)) := Lib.hid (fun h => ⟨(ht1 h).1, (ht1 h).2.1, (ht1 h).2.2.same GA.out⟩)
  have HF4 := Lib.hid hf1
  have HT3 : Hid (B1 = true → OkT s ∧ n = size s ∧ FlatV (w3.alloc (.cells #[.slice b1 n' d1, .slice b2 n' d2, .slice b3 n' d3] 71)) s (.slice a1 n c1) (.slice a2 n c2) (.slice a3 n c3)) := Lib.hid (fun h => ⟨(HT2.out h).1, (HT2.out h).2.1, (HT2.out h).2.2.same (grown_trans hg GA.out)⟩)
  have G4 := Lib.hid (grown_trans (grown_trans HG0.out G2.out) (grown_trans hg GA.out))
  clear hf ht1 hf1 hg HT2 G3 G2 HX1
  cases B1 with
  | false =>
    have HNO : Hid (¬ (OkT s ∧ OkT t ∧ Emb s t)) := Lib.hid (fun h => HF1.out rfl h.1)
    go_wp2_with fail
    go_ret2
    exact ⟨G4.out, .inr ⟨HNO.out, rfl⟩⟩
  | true =>
    cases B2 with
    | false =>
      have HNO : Hid (¬ (OkT s ∧ OkT t ∧ Emb s t)) := Lib.hid (fun h => HF4.out rfl h.2.1)
      go_wp2_with fail
      go_ret2
      exact ⟨G4.out, .inr ⟨HNO.out, rfl⟩⟩
    | true =>
      obtain ⟨hok1, hn, hv1⟩ := HT3.out rfl
      obtain ⟨hok2, hn', hv2⟩ := HT4.out rfl
      subst hn hn'
      have OK1 := Lib.hid hok1; have OK2 := Lib.hid hok2; have HV1 := Lib.hid hv1; have HV2 := Lib.hid hv2
      have hsz12 : size s ≤ 12 := hok1.1
      have q0 := (flat3 HX3.out).1; have q1 := (flat3 HX3.out).2.1; have q2 := (flat3 HX3.out).2.2
      have hF1lt := (Array.getElem?_eq_some_iff.1 HX3.out).1
      clear hok1 hok2 hv1 hv2 HT3 HT4 HF1 HF4
      obtain ⟨F2, hF⟩ : ∃ F2, w3.heap.size = F2 := ⟨_, rfl⟩
      have HF2 := Lib.hid hF
      clear hF
      have HSZ4 : Hid ((w3.alloc (.cells #[.slice b1 (size t) d1, .slice b2 (size t) d2, .slice b3 (size t) d3] 71)).heap.size = F2 + 1) := Lib.hid (by rw [← HF2.out]; show (w3.heap.push _).size = _; simp)
      go_wp2_with (at_make; refine make_int rfl _ _ rfl (size s) rfl rfl (by omega) ?_)
      intro w5 ho hg5
      rw [HF2.out] at HX2 ho ⊢
      clear q0 q1 q2
      generalize w3.alloc (.cells #[.slice b1 (size t) d1, .slice b2 (size t) d2, .slice b3 (size t) d3] 71) = w4 at *
      have HO := Lib.hid ho; have G5 := Lib.hid hg5
      have q0 := hg5.cell (flat3 HX3.out).1 (by simp); have q1 := hg5.cell (flat3 HX3.out).2.1 (by simp); have q2 := hg5.cell (flat3 HX3.out).2.2 (by simp)
      have q3 := hg5.cell (flat3 HX2.out).1 (by simp); have q4 := hg5.cell (flat3 HX2.out).2.1 (by simp); have q5 := hg5.cell (flat3 HX2.out).2.2 (by simp)
      have hpl := place_any ⟨s, t, a1, a2, a3, b1, b2, b3, c1, c2, c3, d1, d2, d3, F2 + 1, size s⟩ w4 ⟨HV1.out, HV2.out, Nat.le_of_eq HSZ4.out, OK1.out.1, OK2.out.1⟩ s 0 0 t w5 (List.replicate (size s) 0) (seg_pre s) (seg_pre t) ⟨hg5, ownI_base ho (Nat.le_of_eq HSZ4.out), by simp⟩
      unfold PC.args at hpl
      change Calls _ _ #[_, _, .int .i64 0, .int .i64 0, _] _ _ at hpl
      dsimp only at hpl
      have HPL := Lib.hid hpl
      clear hpl ho hg5
      go_wp2_with fail
      (with_reducible refine HPL.out.mono ?_)
      rintro e w6 ⟨Bo, m, rfl, h1, -, h3, -, h5⟩
      have H1 := Lib.hid h1; have H3 := Lib.hid h3; have H5 := Lib.hid h5
      clear h1 h3 h5 HPL q0 q1 q2 q3 q4 q5
      cases Bo with
      | false =>
        have HNO : Hid (¬ (OkT s ∧ OkT t ∧ Emb s t)) := Lib.hid (fun h => by have := H1.out.2 h.2.2; simp at this)
        go_wp2_with fail
        go_ret2
        exact ⟨grown_trans G4.out H5.out.g, .inr ⟨HNO.out, rfl⟩⟩
      | true =>
        go_wp2_with fail
        go_ret2
        obtain ⟨k, -, -, hk⟩ := H3.out (by simp)
        exact ⟨grown_trans G4.out H5.out.g, .inl ⟨OK1.out, OK2.out, H1.out.1 (by simp), _, m, k, rfl, ownI_base H5.out.o G4.out.size, H5.out.n, hk⟩⟩
def LeqP (s t : Tr) : Prop := OkT s ∧ OkT t ∧ Emb s t
set_option maxRecDepth 100000 in
theorem LeqT_any {P Q : Nat → Prop} (s t : Tr) (y z : Value) (w : World) (h : TrK P w y s) (h' : TrK Q w z t) (hs : size s ≤ 100000) (ht : size t ≤ 100000) :
    Calls Try.prog 37 #[.agg #[.int .i64 s.label, y], .agg #[.int .i64 t.label, z]] w (SaysT (LeqP s t) w) := by
  obtain ⟨a, cap, rfl⟩ := h.slice
  obtain ⟨a', cap', rfl⟩ := h'.slice
  have H := Lib.hid h; have H' := Lib.hid h'; have HS := Lib.hid hs; have HT := Lib.hid ht
  clear h h' hs ht
  have HG := Lib.hid (grown_after (o := .cells #[.int .i64 t.label, .slice a' t.kids.length cap'] 45) (World.grownBy_alloc w (.cells #[.int .i64 s.label, .slice a s.kids.length cap] 45) none))
  go_enter Try.func37, Try.ntmps37
  go_wp2_with fail
  refine (Embed_any s t _ _ _ (H.out.same HG.out) (H'.out.same HG.out) HS.out HT.out).mono ?_
  rintro e w1 ⟨hg, (⟨h1, h2, h3, v, m, k, rfl, ho, -⟩ | ⟨hok, rfl⟩)⟩
  · have G1 := Lib.hid (grown_trans HG.out hg); have HOK : Hid (LeqP s t) := Lib.hid ⟨h1, h2, h3⟩
    obtain ⟨av, cv, rfl⟩ := own_sl ho
    clear hg h1 h2 h3 ho
    go_wp2_with fail
    go_ret
    exact ⟨true, rfl, ⟨fun _ => HOK.out, fun _ => rfl⟩, G1.out⟩
  · have G1 := Lib.hid (grown_trans HG.out hg); have HOK : Hid (¬ LeqP s t) := Lib.hid hok
    clear hg hok
    go_wp2_with fail
    go_ret
    exact ⟨false, rfl, ⟨fun h => by simp at h, fun h => absurd h HOK.out⟩, G1.out⟩

end Go.Proofs.Ytnppmemcdcgjhaa
