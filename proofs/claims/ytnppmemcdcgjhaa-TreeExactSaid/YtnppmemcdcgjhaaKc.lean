/- Comparing trees. -/
import Derived.Test.YtnppmemcdcgjhaaKb
import Derived.Test.YtnppmemcdcgjhaaXc
namespace Go.Proofs.Ytnppmemcdcgjhaa
open Go.RowKit Tr
set_option linter.unusedVariables false

theorem nan_any (x : Int) (w : World) :
    Calls Try.prog 74 #[.int .i64 x] w fun e w' => e = .returned (.bool false) ∧ w' = w := by
  go_enter Try.func74, Try.ntmps74
  go_wp2
  go_ret
  exact ⟨by simp, rfl⟩
theorem cmp_any (x y : Int) (w : World) :
    Calls Try.prog 69 #[.int .i64 x, .int .i64 y] w fun e w' => e = .returned (.int .i64 (orderI x y)) ∧ w' = w := by
  by_cases h1 : x < y
  · go_enter Try.func69, Try.ntmps69
    go_wp2_with (go_at_call 74; refine (nan_any _ _).mono ?_; rintro e w' ⟨rfl, rfl⟩)
    go_ret
    exact ⟨ret_int (by unfold orderI; rw [if_pos (by omega)]), rfl⟩
  · by_cases h2 : y < x
    · go_enter Try.func69, Try.ntmps69
      go_wp2_with (go_at_call 74; refine (nan_any _ _).mono ?_; rintro e w' ⟨rfl, rfl⟩)
      go_ret
      exact ⟨ret_int (by unfold orderI; rw [if_neg (by omega), if_pos (by omega)]), rfl⟩
    · go_enter Try.func69, Try.ntmps69
      go_wp2_with (go_at_call 74; refine (nan_any _ _).mono ?_; rintro e w' ⟨rfl, rfl⟩)
      go_ret
      exact ⟨ret_int (by unfold orderI; rw [if_neg (by omega), if_neg (by omega)]), rfl⟩

set_option maxRecDepth 100000 in
set_option maxHeartbeats 1500000 in
theorem compare_any {P Q : Nat → Prop} (s : Tr) : ∀ (t : Tr) (y z : Value) (w : World), TrK P w y s → TrK Q w z t → size s ≤ 100000 →
    Calls Try.prog 59 #[.agg #[.int .i64 s.label, y], .agg #[.int .i64 t.label, z]] w (CmpTo (cmpT s t) w) := by
  induction s using tr_ind with
  | h s ih =>
  intro t y z w h h' hsz
  obtain ⟨a, cap, rfl⟩ := h.slice
  obtain ⟨a', cap', rfl⟩ := h'.slice
  have H := Lib.hid h; have H' := Lib.hid h'; have IH := Lib.hid ih; have HS := Lib.hid hsz; have HE := Lib.hid (cmpT_eq s t)
  have hkl : s.kids.length ≤ 100000 := by have := sizeL_len s.kids; rw [size_eq] at hsz; omega
  clear h h' ih hsz
  go_enter Try.func59, Try.ntmps59
  go_wp2_with fail
  refine (cmp_any _ _ _).mono ?_
  rintro e w1 ⟨rfl, hw1⟩
  subst hw1
  by_cases h1 : orderI s.label t.label = 0
  · have HL1 := Lib.hid h1
    rw [h1]
    clear h1
    go_wp2_with fail
    refine (cmp_any _ _ _).mono ?_
    rintro e w1 ⟨rfl, hw1⟩
    subst hw1
    by_cases h2 : orderI s.kids.length t.kids.length = 0
    · have HL2 := Lib.hid h2
      have hll := orderI_zero.1 h2
      have hlen : t.kids.length = s.kids.length := by omega
      have HLE := Lib.hid hlen
      rw [h2]
      clear h2 hll
      have HE2 : Hid (cmpT s t = cmpL s.kids t.kids) := Lib.hid (by rw [HE.out, if_neg (by rw [HL1.out]; simp), if_neg (by rw [HL2.out]; simp)])
      clear hlen
      go_wp2_with fail
      generalize hwb : World.alloc (World.alloc _ _) _ = wb
      have B2 : Hid (wb.cell? ⟨w.heap.size, 1, none⟩ = some (.slice a s.kids.length cap) ∧ wb.cell? ⟨w.heap.size + 1, 1, none⟩ = some (.slice a' t.kids.length cap')) := Lib.hid (by
        rw [← hwb]
        refine ⟨by rw [World.cell?, heap_old _ (heap_new _ rfl)]; rfl, by rw [World.cell?, heap_new _ (by show _ = (w.heap.push _).size; simp)]; rfl⟩)
      have HG : Hid (w.grownBy wb none) := Lib.hid (by rw [← hwb]; exact grown_after (World.grownBy_alloc _ _ none))
      clear hwb
      go_loopw [30] (fun i wr => ∃ k : Nat, i = .int .i64 k ∧ k ≤ s.kids.length ∧ Hid (cmpL (s.kids.take k) (t.kids.take k) = 0) ∧ Hid (wb.grownBy wr none)) (fun i _ => s.kids.length - (intOf i).toNat)
      case atStart => exact ⟨0, rfl, Nat.zero_le _, Lib.hid (by simp [cmpL]), Lib.hid (grown_refl _ _)⟩
      case round =>
        obtain ⟨k, rfl, hk, hz, hG⟩ := hrel
        by_cases hkb : k < s.kids.length
        · have e1 : (k : Int) < (s.kids.length : Int) := by omega
          have i1 : IntKind.i64.wrap ((k : Int) + 1) = (k : Int) + 1 := IntWalk.i64_in _ (by omega)
          have hkt : k < t.kids.length := by rw [HLE.out]; exact hkb
          have e3 : (k : Int) < (t.kids.length : Int) := by omega
          have GR := Lib.hid (grown_trans (grown_trans HG.out hG.out) (grown_drew wr none))
          obtain ⟨b, off, a2, cap2, rfl, -, c1, c2, hK⟩ := (H.out.same GR.out).kid hkb
          obtain ⟨b', off', a2', cap2', rfl, -, c3, c4, hK'⟩ := (H'.out.same GR.out).kid hkt
          have hnn : ∀ g : Nat, some g ≠ (none : Option Nat) := by intro g; simp
          have c5 := (grown_trans hG.out (grown_drew wr none)).cell B2.out.1 (hnn _)
          have c6 := (grown_trans hG.out (grown_drew wr none)).cell B2.out.2 (hnn _)
          have HK := Lib.hid hK; have HK' := Lib.hid hK'
          have HT1 := Lib.hid (cmpL_take s.kids t.kids k hkb hkt hz.out); have HT2 := Lib.hid (cmpL_at s.kids t.kids k hkb hkt hz.out)
          have HM : Hid (size s.kids[k] < size s) := Lib.hid (size_kid (List.getElem_mem hkb))
          rw [List.getElem?_eq_getElem hkb, List.getElem?_eq_getElem hkt, Option.getD_some, Option.getD_some] at HT1 HT2
          clear hK hK' hnn
          go_wp2_with fail
          go_still_tail 10, (by kernel_rfl)
          change wpList _ _ _ _ _ wr.drew
          have HW2 : Hid (wb.grownBy wr.drew none) := Lib.hid (grown_trans hG.out (grown_drew wr none))
          generalize wr.drew = w2 at *
          go_wp2_with fail
          refine (IH.out _ HM.out _ _ _ _ HK.out HK'.out (by have := HM.out; have := HS.out; omega)).mono ?_
          rintro e w3 ⟨rfl, hg⟩
          have HG3 := Lib.hid hg
          clear hg c1 c2 c3 c4 c5 c6
          by_cases hr : cmpT s.kids[k] t.kids[k] = 0
          · have HZ : Hid (cmpL (s.kids.take (k + 1)) (t.kids.take (k + 1)) = 0) := Lib.hid (by rw [HT1.out]; exact hr)
            have HG4 := Lib.hid (grown_trans HW2.out HG3.out)
            rw [hr]
            clear hr
            go_wp2_with fail
            go_roundw
            case rel => exact ⟨k + 1, by go_num, by omega, HZ, HG4⟩
            case measure => simp [intOf]; omega
          · have HR := Lib.hid (HT2.out hr)
            have b3 : (cmpT s.kids[k] t.kids[k] != 0) = true := by simpa using hr
            clear hr
            go_wp2_with fail
            go_ret
            exact ⟨ret_int (by rw [HE2.out, HR.out]), grown_trans HG.out (grown_trans HW2.out HG3.out)⟩
        · obtain rfl : k = s.kids.length := by omega
          have e1 : ¬ (s.kids.length : Int) < (s.kids.length : Int) := by omega
          go_wp2_with fail
          go_ret
          have hz := hz.out
          rw [List.take_length, ← HLE.out, List.take_length] at hz
          exact ⟨ret_int (by rw [HE2.out, hz]), grown_trans HG.out hG.out⟩
    · have HL2 := Lib.hid h2
      have b2 : (orderI s.kids.length t.kids.length != 0) = true := by simpa using h2
      clear h2
      go_wp2_with fail
      go_ret
      exact ⟨ret_int (by rw [HE.out, if_neg (by rw [HL1.out]; simp), if_pos HL2.out]), grown_after (World.grownBy_alloc _ _ none)⟩
  · have HL1 := Lib.hid h1
    have b1 : (orderI s.label t.label != 0) = true := by simpa using h1
    clear h1
    go_wp2_with fail
    go_ret
    exact ⟨ret_int (by rw [HE.out, if_pos HL1.out]), grown_after (World.grownBy_alloc _ _ none)⟩

set_option maxRecDepth 100000 in
set_option maxHeartbeats 1500000 in
theorem Compare_any {P Q : Nat → Prop} (s t : Tr) (y z : Value) (w : World) (h : TrK P w y s) (h' : TrK Q w z t) (hs : size s ≤ 12) (ht : size t ≤ 12) :
    Calls Try.prog 39 #[.agg #[.int .i64 s.label, y], .agg #[.int .i64 t.label, z]] w (CmpTo (cmpT s t) w) := by
  obtain ⟨a, cap, rfl⟩ := h.slice
  obtain ⟨a', cap', rfl⟩ := h'.slice
  have H := Lib.hid h; have H' := Lib.hid h'; have HS := Lib.hid hs; have HT := Lib.hid ht
  clear h h' hs ht
  go_enter Try.func39, Try.ntmps39
  go_wp2_with fail
  generalize hwb : World.alloc (World.alloc _ _) _ = wb
  have B2 : Hid (wb.cell? ⟨w.heap.size, 0, none⟩ = some (.int .i64 s.label) ∧ wb.cell? ⟨w.heap.size, 1, none⟩ = some (.slice a s.kids.length cap) ∧ wb.cell? ⟨w.heap.size + 1, 0, none⟩ = some (.int .i64 t.label) ∧ wb.cell? ⟨w.heap.size + 1, 1, none⟩ = some (.slice a' t.kids.length cap')) := Lib.hid (by
    rw [← hwb]
    refine ⟨by rw [World.cell?, heap_old _ (heap_new _ rfl)]; rfl, by rw [World.cell?, heap_old _ (heap_new _ rfl)]; rfl, by rw [World.cell?, heap_new _ (by show _ = (w.heap.push _).size; simp)]; rfl, by rw [World.cell?, heap_new _ (by show _ = (w.heap.push _).size; simp)]; rfl⟩)
  have HG : Hid (w.grownBy wb none) := Lib.hid (by rw [← hwb]; exact grown_after (World.grownBy_alloc _ _ none))
  clear hwb
  have HS1 : Hid (size s ≤ 100000) := Lib.hid (by have := HS.out; omega)
  have HT1 : Hid (size t ≤ 100000) := Lib.hid (by have := HT.out; omega)
  have hnn : ∀ g : Nat, some g ≠ (none : Option Nat) := by intro g; simp
  have GX : Hid (wb.grownBy wb.drew none) := Lib.hid (grown_drew _ none)
  go_region_held3 (fun w' => w'.cell? ⟨w.heap.size, 0, none⟩ = some (.int .i64 s.label) ∧ w'.cell? ⟨w.heap.size, 1, none⟩ = some (.slice a s.kids.length cap) ∧ w'.cell? ⟨w.heap.size + 1, 0, none⟩ = some (.int .i64 t.label) ∧ w'.cell? ⟨w.heap.size + 1, 1, none⟩ = some (.slice a' t.kids.length cap')) (first | exact ⟨GX.out.cell B2.out.1 (hnn _), GX.out.cell B2.out.2.1 (hnn _), GX.out.cell B2.out.2.2.1 (hnn _), GX.out.cell B2.out.2.2.2 (hnn _)⟩) (first
    | (go_at_call 58; (with_reducible refine (count_any s (.slice a s.kids.length cap) _ (H.out.same (grown_trans HG.out GX.out)) HS1.out).mono ?_); rintro e w5 ⟨c, rfl, p1, p2, p3, p4, hg⟩; have ec := p3 HS.out; have hc12 : ¬ (12 : Int) < (c : Int) := (by have := HS.out; omega); have GY := Lib.hid hg; replace GX : Hid (wb.grownBy w5 none) := Lib.hid (grown_trans GX.out GY.out); clear p1 p2 p3 p4 hg ec)
    | (go_at_call 58; (with_reducible refine (count_any t (.slice a' t.kids.length cap') _ (H'.out.same (grown_trans HG.out GX.out)) HT1.out).mono ?_); rintro e w5 ⟨c, rfl, p1, p2, p3, p4, hg⟩; have ec := p3 HT.out; have hc12' : ¬ (12 : Int) < (c : Int) := (by have := HT.out; omega); have GY := Lib.hid hg; replace GX : Hid (wb.grownBy w5 none) := Lib.hid (grown_trans GX.out GY.out); clear p1 p2 p3 p4 hg ec))
  all_goals
    have c1 := GX.out.cell B2.out.1 (hnn _); have c2 := GX.out.cell B2.out.2.1 (hnn _); have c3 := GX.out.cell B2.out.2.2.1 (hnn _); have c4 := GX.out.cell B2.out.2.2.2 (hnn _)
    go_wp2_with fail
    refine (compare_any s t _ _ _ (H.out.same (grown_trans HG.out GX.out)) (H'.out.same (grown_trans HG.out GX.out)) HS1.out).mono ?_
    rintro e w7 ⟨rfl, hg⟩
    have G7 := Lib.hid (grown_trans (grown_trans HG.out GX.out) hg)
    clear hg c1 c2 c3 c4
    go_wp2_with fail
    go_ret
    exact ⟨rfl, G7.out⟩

/-! ### The order of trees -/
theorem orderI_anti (x y : Int) : orderI x y = -orderI y x := by
  unfold orderI; split <;> split <;> omega
theorem cmpT_anti (s : Tr) : ∀ t, cmpT s t = -cmpT t s := by
  induction s using tr_ind with
  | h s ih =>
  intro t
  rw [cmpT_eq s t, cmpT_eq t s, orderI_anti t.label s.label, orderI_anti t.kids.length s.kids.length]
  have key : ∀ (ks js : List Tr), (∀ k ∈ ks, size k < size s) → ks.length = js.length → cmpL ks js = -cmpL js ks := by
    intro ks
    induction ks with
    | nil => intro js _ h; cases js with
      | nil => simp [cmpL]
      | cons j js => simp at h
    | cons k ks ihk => intro js hs h; cases js with
      | nil => simp at h
      | cons j js =>
        rw [cmpL, cmpL, ih k (hs k (by simp)) j, ihk js (fun x hx => hs x (by simp [hx])) (by simpa using h)]
        by_cases h0 : cmpT j k = 0
        · rw [if_neg (by omega), if_neg (by omega)]
        · rw [if_pos (by omega), if_pos (by omega)]
  have K : orderI s.kids.length t.kids.length = 0 → cmpL s.kids t.kids = -cmpL t.kids s.kids := fun h2 => by
    have := orderI_zero.1 h2
    exact key _ _ (fun k hk => size_kid hk) (by omega)
  generalize orderI s.label t.label = p at *
  generalize orderI (s.kids.length : Int) t.kids.length = q at *
  by_cases h1 : p = 0
  · subst h1
    by_cases h2 : q = 0
    · subst h2
      simp [K rfl]
    · simp [h2]
  · simp [h1]
theorem cmpT_zero (s : Tr) : ∀ t, cmpT s t = 0 ↔ s = t := by
  induction s using tr_ind with
  | h s ih =>
  intro t
  have key : ∀ (ks js : List Tr), (∀ k ∈ ks, size k < size s) → ks.length = js.length → (cmpL ks js = 0 ↔ ks = js) := by
    intro ks
    induction ks with
    | nil => intro js _ h; cases js with
      | nil => simp [cmpL]
      | cons j js => simp at h
    | cons k ks ihk => intro js hs h; cases js with
      | nil => simp at h
      | cons j js =>
        have e1 := ih k (hs k (by simp)) j
        have e2 := ihk js (fun x hx => hs x (by simp [hx])) (by simpa using h)
        rw [cmpL, List.cons.injEq]
        by_cases h0 : cmpT k j = 0
        · rw [if_neg (by omega), e2]; exact ⟨fun h => ⟨e1.1 h0, h⟩, fun h => h.2⟩
        · rw [if_pos h0]; exact ⟨fun h => absurd h h0, fun h => e1.2 h.1⟩
  rw [cmpT_eq s t]
  by_cases h1 : orderI s.label t.label = 0
  · rw [if_neg (by omega)]
    have e1 := orderI_zero.1 h1
    by_cases h2 : orderI s.kids.length t.kids.length = 0
    · rw [if_neg (by omega)]
      have e2 := orderI_zero.1 h2
      rw [key _ _ (fun k hk => size_kid hk) (by omega)]
      cases s; cases t
      simp only [label, kids] at e1 ⊢
      rw [Tr.node.injEq]
      exact ⟨fun h => ⟨e1, h⟩, fun h => h.2⟩
    · rw [if_pos (by omega)]
      exact ⟨fun h => absurd h h2, fun h => absurd (by rw [h]; exact orderI_zero.2 rfl) h2⟩
  · rw [if_pos (by omega)]
    exact ⟨fun h => absurd h h1, fun h => absurd (by rw [h]; exact orderI_zero.2 rfl) h1⟩
theorem orderI_cases (x y : Int) : (x < y ∧ orderI x y = -1) ∨ (x = y ∧ orderI x y = 0) ∨ (y < x ∧ orderI x y = 1) := by
  unfold orderI; split
  · exact .inl ⟨by omega, rfl⟩
  · split
    · exact .inr (.inr ⟨by omega, rfl⟩)
    · exact .inr (.inl ⟨by omega, rfl⟩)
theorem cmpT_trans (b : Tr) : ∀ a c, cmpT a b ≤ 0 → cmpT b c ≤ 0 → cmpT a c ≤ 0 := by
  induction b using tr_ind with
  | h b ih =>
  intro a c
  have key : ∀ (bs xs cs : List Tr), (∀ k ∈ bs, size k < size b) → xs.length = bs.length → bs.length = cs.length → cmpL xs bs ≤ 0 → cmpL bs cs ≤ 0 → cmpL xs cs ≤ 0 := by
    intro bs
    induction bs with
    | nil => intro xs cs _ h h' _ _; cases xs with
      | nil => simp [cmpL]
      | cons x xs => simp at h
    | cons k bs ihk => intro xs cs hs h h' p q; cases xs with
      | nil => simp at h
      | cons x xs => cases cs with
        | nil => simp at h'
        | cons z cs =>
          rw [cmpL] at p q ⊢
          have hk := hs k (by simp)
          by_cases hx : cmpT x k = 0
          · rw [if_neg (by omega)] at p
            have := (cmpT_zero x k).1 hx
            subst this
            by_cases hz : cmpT x z = 0
            · rw [if_neg (by omega)] at q ⊢
              exact ihk xs cs (fun x hx => hs x (by simp [hx])) (by simpa using h) (by simpa using h') p q
            · rw [if_pos hz] at q ⊢
              exact q
          · rw [if_pos hx] at p
            have p0 : cmpT x z ≤ 0 := by
              by_cases hz : cmpT k z = 0
              · rw [← (cmpT_zero k z).1 hz]; exact p
              · rw [if_pos hz] at q
                exact ih k hk x z p q
            have p1 : cmpT x z ≠ 0 := fun e => by
              have := (cmpT_zero x z).1 e
              subst this
              have e2 := cmpT_anti x k
              by_cases hz : cmpT k x = 0
              · omega
              · rw [if_pos hz] at q; omega
            rw [if_pos p1]; exact p0
  rw [cmpT_eq a b, cmpT_eq b c, cmpT_eq a c]
  intro p q
  rcases orderI_cases a.label b.label with ⟨h1, e1⟩ | ⟨h1, e1⟩ | ⟨h1, e1⟩ <;> rcases orderI_cases b.label c.label with ⟨h2, e2⟩ | ⟨h2, e2⟩ | ⟨h2, e2⟩ <;>
    rw [e1] at p <;> rw [e2] at q <;> simp at p q <;>
    rcases orderI_cases a.label c.label with ⟨h3, e3⟩ | ⟨h3, e3⟩ | ⟨h3, e3⟩ <;> rw [e3] <;> simp <;> try omega
  rcases orderI_cases a.kids.length b.kids.length with ⟨k1, e4⟩ | ⟨k1, e4⟩ | ⟨k1, e4⟩ <;> rcases orderI_cases b.kids.length c.kids.length with ⟨k2, e5⟩ | ⟨k2, e5⟩ | ⟨k2, e5⟩ <;>
    rw [e4] at p <;> rw [e5] at q <;> simp at p q <;>
    rcases orderI_cases a.kids.length c.kids.length with ⟨k3, e6⟩ | ⟨k3, e6⟩ | ⟨k3, e6⟩ <;> rw [e6] <;> simp <;> try omega
  exact key _ _ _ (fun k hk => size_kid hk) (by omega) (by omega) p q

end Go.Proofs.Ytnppmemcdcgjhaa
