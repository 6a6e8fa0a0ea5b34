/- limit: Maximise, Has, Subset, Union, Intersect at what is valid. -/
import Derived.Test.YtahffjoehjpfkaaZj
import Derived.Deep.MidRow
namespace Go.Proofs.Ytahffjoehjpfkaa
open Go.RowKit
set_option linter.unusedVariables false

abbrev downV : Value := SideV 30 44 52 53 55 56 57
theorem down_any (w : World) : Calls Try.prog 28 #[] w fun e w' => e = .returned downV ∧ w.grownBy w' none := by
  have hset : (w.alloc (.cells #[.nilFunc, .nilFunc, .nilFunc, .nilFunc, .nilFunc, .nilFunc, .nilFunc] 53)).setCells w.heap.size 0 [.func (.func 30) #[] #[], .func (.func 44) #[] #[], .func (.func 52) #[] #[], .func (.func 53) #[] #[], .func (.func 55) #[] #[], .func (.func 56) #[] #[], .func (.func 57) #[] #[]] = w.alloc (.cells #[.func (.func 30) #[] #[], .func (.func 44) #[] #[], .func (.func 52) #[] #[], .func (.func 53) #[] #[], .func (.func 55) #[] #[], .func (.func 56) #[] #[], .func (.func 57) #[] #[]] 53) := by
    simp [World.setCells, World.setCell_alloc_at]
  have hth : (w.alloc (.cells #[.nilFunc, .nilFunc, .nilFunc, .nilFunc, .nilFunc, .nilFunc, .nilFunc] 53)).there w.heap.size 0 7 := fun j hj => by
    have hb := heap_new (w := w) (.cells #[.nilFunc, .nilFunc, .nilFunc, .nilFunc, .nilFunc, .nilFunc, .nilFunc] 53) rfl
    obtain rfl | rfl | rfl | rfl | rfl | rfl | rfl : j = 0 ∨ j = 1 ∨ j = 2 ∨ j = 3 ∨ j = 4 ∨ j = 5 ∨ j = 6 := by omega
    all_goals exact ⟨by rw [World.cell?, hb]; rfl, by rw [World.frozen?, hb]; rfl⟩
  have HSET := Lib.hid hset; have HTH := Lib.hid hth
  clear hset hth
  go_enter Try.func28, Try.ntmps28
  go_wp2_with (refine wpList_store_mid rfl 53 (.tmp 0) (.tmp 1) rfl w.heap.size 0 #[.func (.func 30) #[] #[], .func (.func 44) #[] #[], .func (.func 52) #[] #[], .func (.func 53) #[] #[], .func (.func 55) #[] #[], .func (.func 56) #[] #[], .func (.func 57) #[] #[]] rfl rfl HTH.out (by kernel_rfl) (by kernel_rfl) ?_; rw [HSET.out])
  (try simp only [Exit.inBlock, Exit.then])
  have P1 : (w.alloc (.cells #[.func (.func 30) #[] #[], .func (.func 44) #[] #[], .func (.func 52) #[] #[], .func (.func 53) #[] #[], .func (.func 55) #[] #[], .func (.func 56) #[] #[], .func (.func 57) #[] #[]] 53)).heap[w.heap.size]? = some (.cells #[.func (.func 30) #[] #[], .func (.func 44) #[] #[], .func (.func 52) #[] #[], .func (.func 53) #[] #[], .func (.func 55) #[] #[], .func (.func 56) #[] #[], .func (.func 57) #[] #[]] 53 (0, 0)) := heap_new _ rfl
  refine bodyPost_ret (results_cell_row rfl _ _ w.heap.size _ _ _ _ rfl P1 Try.underlying53 rfl (by kernel_rfl)) rfl ?_
  exact ⟨rfl, World.grownBy_alloc _ _ none⟩
abbrev upV : Value := SideV 34 43 31 45 48 50 51
theorem up_any (w : World) : Calls Try.prog 27 #[] w fun e w' => e = .returned upV ∧ w.grownBy w' none := by
  have hset : (w.alloc (.cells #[.nilFunc, .nilFunc, .nilFunc, .nilFunc, .nilFunc, .nilFunc, .nilFunc] 53)).setCells w.heap.size 0 [.func (.func 34) #[] #[], .func (.func 43) #[] #[], .func (.func 31) #[] #[], .func (.func 45) #[] #[], .func (.func 48) #[] #[], .func (.func 50) #[] #[], .func (.func 51) #[] #[]] = w.alloc (.cells #[.func (.func 34) #[] #[], .func (.func 43) #[] #[], .func (.func 31) #[] #[], .func (.func 45) #[] #[], .func (.func 48) #[] #[], .func (.func 50) #[] #[], .func (.func 51) #[] #[]] 53) := by
    simp [World.setCells, World.setCell_alloc_at]
  have hth : (w.alloc (.cells #[.nilFunc, .nilFunc, .nilFunc, .nilFunc, .nilFunc, .nilFunc, .nilFunc] 53)).there w.heap.size 0 7 := fun j hj => by
    have hb := heap_new (w := w) (.cells #[.nilFunc, .nilFunc, .nilFunc, .nilFunc, .nilFunc, .nilFunc, .nilFunc] 53) rfl
    obtain rfl | rfl | rfl | rfl | rfl | rfl | rfl : j = 0 ∨ j = 1 ∨ j = 2 ∨ j = 3 ∨ j = 4 ∨ j = 5 ∨ j = 6 := by omega
    all_goals exact ⟨by rw [World.cell?, hb]; rfl, by rw [World.frozen?, hb]; rfl⟩
  have HSET := Lib.hid hset; have HTH := Lib.hid hth
  clear hset hth
  go_enter Try.func27, Try.ntmps27
  go_wp2_with (refine wpList_store_mid rfl 53 (.tmp 0) (.tmp 1) rfl w.heap.size 0 #[.func (.func 34) #[] #[], .func (.func 43) #[] #[], .func (.func 31) #[] #[], .func (.func 45) #[] #[], .func (.func 48) #[] #[], .func (.func 50) #[] #[], .func (.func 51) #[] #[]] rfl rfl HTH.out (by kernel_rfl) (by kernel_rfl) ?_; rw [HSET.out])
  (try simp only [Exit.inBlock, Exit.then])
  have P1 : (w.alloc (.cells #[.func (.func 34) #[] #[], .func (.func 43) #[] #[], .func (.func 31) #[] #[], .func (.func 45) #[] #[], .func (.func 48) #[] #[], .func (.func 50) #[] #[], .func (.func 51) #[] #[]] 53)).heap[w.heap.size]? = some (.cells #[.func (.func 34) #[] #[], .func (.func 43) #[] #[], .func (.func 31) #[] #[], .func (.func 45) #[] #[], .func (.func 48) #[] #[], .func (.func 50) #[] #[], .func (.func 51) #[] #[]] 53 (0, 0)) := heap_new _ rfl
  refine bodyPost_ret (results_cell_row rfl _ _ w.heap.size _ _ _ _ rfl P1 Try.underlying53 rfl (by kernel_rfl)) rfl ?_
  exact ⟨rfl, World.grownBy_alloc _ _ none⟩

theorem within_down_ok (n : Nat) : WithinOk 44 leqI n := ⟨enters_of Try.func44 (by kernel_rfl) rfl, fun va vb xs ys w h h' hx hy => lim_atMost va vb xs ys w h h' (hx.trans hy.symm)⟩
theorem within_up_ok (n : Nat) : WithinOk 43 (fun a b => leqI b a) n := ⟨enters_of Try.func43 (by kernel_rfl) rfl, fun va vb xs ys w h h' hx hy => within_up va vb xs ys w h h' (hx.trans hy.symm)⟩
def maxV (a b : List Int) : List Int := List.zipWith max a b
theorem bd_zip (g : Int → Int → Int) (hg : ∀ x y, g x y = x ∨ g x y = y) : ∀ (xs ys : List Int), ∀ z ∈ List.zipWith g xs ys, z ∈ xs ∨ z ∈ ys
  | [], _, z, h => by simp at h
  | _ :: _, [], z, h => by simp at h
  | x :: xs, y :: ys, z, h => by
    rw [List.zipWith_cons_cons, List.mem_cons] at h
    rcases h with rfl | h
    · rcases hg x y with e | e
      · exact .inl (by simp [e])
      · exact .inr (by simp [e])
    · rcases bd_zip g hg xs ys z h with h | h
      · exact .inl (List.mem_cons_of_mem _ h)
      · exact .inr (List.mem_cons_of_mem _ h)
theorem min_or (x y : Int) : min x y = x ∨ min x y = y := by omega
theorem max_or (x y : Int) : max x y = x ∨ max x y = y := by omega
theorem overlap_down (n : Nat) (hn : n ≤ 1000) : OverlapOk 53 minV n := ⟨enters_of Try.func53 (by kernel_rfl) rfl,
  fun xs ys hx hy => ⟨by simp [minV, hx, hy], fun h k z hz => by rcases bd_zip min min_or xs ys z hz with h1 | h1; exact h z h1; exact k z h1⟩,
  fun va vb xs ys w h h' hx hy => ov_down va vb xs ys w h h' (hx.trans hy.symm) (by omega)⟩
theorem overlap_up (n : Nat) (hn : n ≤ 1000) : OverlapOk 45 maxV n := ⟨enters_of Try.func45 (by kernel_rfl) rfl,
  fun xs ys hx hy => ⟨by simp [maxV, hx, hy], fun h k z hz => by rcases bd_zip max max_or xs ys z hz with h1 | h1; exact h z h1; exact k z h1⟩,
  fun va vb xs ys w h h' hx hy => ov_up va vb xs ys w h h' (hx.trans hy.symm) (by omega)⟩
theorem cf_down (n : Nat) (a b : List Int) (ha : a.length = n) (hb : b.length = n) (h : compareI b a ≤ 0) (h' : leqI a b = true) : a = b := by
  rcases leq_lex a b (ha.trans hb.symm) h' with h1 | h1
  · exact h1
  · have h2 := compareI_neg a b
    have h3 := cmp_len (ha.trans hb.symm)
    omega
theorem cf_up (n : Nat) (a b : List Int) (ha : a.length = n) (hb : b.length = n) (h : compareI a b ≤ 0) (h' : leqI b a = true) : a = b := by
  rcases leq_lex b a (hb.trans ha.symm) h' with h1 | h1
  · exact h1.symm
  · have h2 := compareI_neg b a
    have h3 := cmp_len (hb.trans ha.symm)
    omega
theorem valid_minV {a b : List Int} (ha : validB a = true) (hb : validB b = true) (hl : a.length = b.length) : validB (minV a b) = true := by
  unfold validB at *
  simp only [Bool.and_eq_true, decide_eq_true_eq, List.all_eq_true] at *
  refine ⟨by simp [minV]; omega, fun z hz => ?_⟩
  rcases bd_zip min min_or a b z hz with h | h
  · exact ha.2 z h
  · exact hb.2 z h
theorem LimOk.of {n : Nat} {l K : List (List Int)} (h : Tops leqI l K) (h1 : 1 ≤ n) (h6 : n ≤ 6) (hl : K.length ≤ 256) (hr : ∀ v ∈ l, v.length = n ∧ validB v = true) : LimOk n K :=
  ⟨h1, h6, hl, fun v hv => hr v ((h.2 v).1 hv).1, h.1, h.apart.imp fun {a b} hab => hab.1⟩
/-- The maximal vectors of a list, as limits. -/
def MaxTo (n : Nat) (l : List (List Int)) (w : World) (e : Ending) (w' : World) : Prop :=
  ∃ v qs, e = .returned (.tuple #[v, .int .i64 0]) ∧ RowsP w' v qs ∧ Good v ∧ w.grownBy w' none ∧ NewR w.heap.size v qs ∧ Tops leqI l (qs.map Prod.snd) ∧ LimOk n (qs.map Prod.snd) ∧ ∀ x ∈ l, ∃ u, Top leqI l u ∧ leqI x u = true
theorem maxTo {n : Nat} {l : List (List Int)} {v9 : Value} {qs q9 : List Row} {w w1 w2 : World} (h1 : 1 ≤ n) (h6 : n ≤ 6) (hr : ∀ x ∈ l, x.length = n ∧ validB x = true) (ht : Tops leqI l (qs.map Prod.snd)) (he : ∀ x ∈ l, ∃ u, Top leqI l u ∧ leqI x u = true) (hl : qs.length ≤ 256)
    (hm : q9.map Prod.snd = qs.map Prod.snd) (hr9 : RowsP w2 v9 q9) (hg9 : Good v9) (g1 : w.grownBy w1 none) (g2 : w1.grownBy w2 none) (hnew : NewR w1.heap.size v9 q9) : MaxTo n l w (.returned (.tuple #[v9, .int .i64 0])) w2 :=
  ⟨v9, q9, rfl, hr9, hg9, grown_trans g1 g2, ⟨fun g hg => Nat.le_trans g1.size (hnew.1 g hg), fun q hq g hg => Nat.le_trans g1.size (hnew.2 q hq g hg)⟩, hm ▸ ht, hm ▸ LimOk.of ht h1 h6 (by simpa using hl) hr, he⟩
set_option maxRecDepth 20000 in
set_option maxHeartbeats 1000000 in
theorem maximise_any (n : Nat) (v : Value) (ps : List Row) (w : World) (h : RowsP w v ps) (hg : Good v) (h1 : 1 ≤ n) (h6 : n ≤ 6) (hl : ps.length ≤ 256) (hn : ∀ p ∈ ps, p.2.length = n ∧ validB p.2 = true) :
    Calls Try.prog 19 #[.int .i64 n, v] w (MaxTo n (ps.map Prod.snd) w) := by
  have H := Lib.hid h; have HG := Lib.hid hg; have HN := Lib.hid hn; have H1 := Lib.hid h1; have H6 := Lib.hid h6; have HL := Lib.hid hl
  obtain ⟨a, cap, rfl, -, -, -⟩ := h
  clear hg hn
  go_enter Try.func19, Try.ntmps19
  go_wp2_with fail
  go_loop [17] (fun i => ∃ k : Nat, i = .int .i64 k ∧ k ≤ ps.length) (fun i => ps.length - (intOf i).toNat)
  case atStart => exact ⟨0, rfl, Nat.zero_le _⟩
  case round =>
    obtain ⟨k, rfl, hk⟩ := hrel
    by_cases hlt : k < ps.length
    · have h2 : (k : Int) < (ps.length : Int) := by omega
      have i1 : IntKind.i64.wrap ((k : Int) + 1) = (k : Int) + 1 := IntWalk.i64_in _ (by omega)
      obtain ⟨_, _, hv, _, hc, hrow⟩ := H.out
      simp only [Value.slice.injEq] at hv
      obtain ⟨rfl, -, rfl⟩ := hv
      obtain ⟨b, off, rfl, hx⟩ := RowsP.at hc hlt
      have HR := Lib.hid (hrow _ (List.getElem_mem hlt))
      have HQ := Lib.hid (HN.out _ (List.getElem_mem hlt))
      clear hc hrow
      generalize (ps[k]) = q at *
      obtain ⟨qv, xs⟩ := q
      obtain ⟨aq, cq, hqv⟩ : ∃ a c, qv = .slice a xs.length c := by obtain ⟨⟨a, c, h, -⟩, -⟩ := HR.out; exact ⟨a, c, h⟩
      subst hqv
      dsimp only at hx HR HQ
      go_wp2_with fail
      refine (one_ok fits_valid _ xs n _ HR.out.1 HQ.out.1 HQ.out.2).mono ?_
      rintro e w' ⟨rfl, rfl⟩
      go_wp2_with fail
      go_round
      case rel => exact ⟨k + 1, by go_num, by omega⟩
      case measure => (simp [intOf]; try omega)
    · have h2 : ¬ (k : Int) < (ps.length : Int) := by omega
      go_wp2_with fail
      refine (down_any _).mono ?_
      rintro e w1 ⟨rfl, hg1⟩
      have G1 := Lib.hid hg1
      clear hg1
      go_wp2_with fail
      refine (reduce_any (n := n) (f := leqI) (cmp := fun a b => compareI b a) (within_down_ok n) order_down (ord_leq n) (cf_down n) _ ps 256 _ (H.out.same G1.out) HG.out (fun p hp => (HN.out p hp).1) (by have := HL.out; omega) (by have := HL.out; omega)).mono ?_
      rintro e w2 ⟨v2, qs, rfl, ho, ht, he, hg2, hl2⟩
      have O2 := Lib.hid ho; have T2 := Lib.hid ht; have E2 := Lib.hid he; have G2 := Lib.hid (grown_trans G1.out hg2)
      have L2 : Hid (qs.length ≤ 256) := Lib.hid (by have := HL.out; rw [List.length_map] at hl2; omega)
      have HLR : Hid (∀ x ∈ ps.map Prod.snd, x.length = n ∧ validB x = true) := Lib.hid (fun x hx => by obtain ⟨r, hr, rfl⟩ := List.mem_map.1 hx; exact HN.out r hr)
      obtain ⟨a2, c2, rfl⟩ := ownP_sl ho
      clear ho ht he hg2 hl2
      go_wp2_with fail
      refine (limited_any _ qs _ O2.out.rows L2.out (fun q hq => by
        have h5 := (HLR.out _ ((T2.out.2 _).1 (List.mem_map_of_mem hq)).1).1
        have := H1.out
        have := H6.out
        omega)).mono ?_
      rintro e w9 ⟨v9, q9, rfl, hr9, hg9, hm9, hw9, hnew⟩
      have X1 := Lib.hid hr9; have X2 := Lib.hid hg9; have X3 := Lib.hid hm9; have X4 := Lib.hid hw9; have X5 := Lib.hid hnew
      clear hr9 hg9 hm9 hw9 hnew
      go_wp2_with fail
      go_ret2

      exact maxTo H1.out H6.out HLR.out T2.out E2.out L2.out X3.out X1.out X2.out G2.out X4.out X5.out
end Go.Proofs.Ytahffjoehjpfkaa
