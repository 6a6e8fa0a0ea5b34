/- The reference's Scan. -/
import Derived.Test.YthlollnpnangpaaDoorYv
import Derived.Test.YthlollnpnangpaaDoorYh
namespace Go.Proofs.YthlollnpnangpaaDoor
open Go.RowKit Go.Shelf
set_option linter.unusedVariables false
/-- One more token, out of a round. -/
theorem app_tok {ops : Array Oper} {rest : List Oper} {o : Oper} {a : Act} {w : World} {Q : Exit → Act → World → Prop} (hgd : o.guard = none) (s x : Operand)
    (ho : o.op = .call { callee := .builtin .append, args := #[s, x], argTypes := #[23, 23] }) (base : Nat) (v : Value) (ts : List Tk) (hs : a.eval s = v)
    (hown : OwnK w base v ts) (b : Nat) (k : Int) (z : Bs) (m : Int) (hx : a.eval x = .slice (some ⟨b, 0, none⟩) 1 1) (hnew : w.heap[b]? = some (.cells #[.int .i64 k, strV z, .int .i64 m] 27 (0, 0)))
    (hlen : ts.length ≤ 1000000) (hbase : base ≤ w.heap.size)
    (h : ∀ a' cap' w', OwnK w' base (.slice a' (ts.length + 1) cap') (ts ++ [(k, z, m)]) → w.grownBy w' v.ownBlock → wpList Tryd.prog ops Q rest (a.put o.dst (.slice a' (ts.length + 1) cap')) w') : wpList Tryd.prog ops Q (o :: rest) a w := by
  obtain ⟨i, hi, hz0, hz1, hz2⟩ := info_parts info_tok
  refine wpList_append_own (w := w) hgd s x 23 ho base 27 i _ 3 32 Tryd.underlying23 hi hz0 hz1 hz2 rfl (by decide) v ts.length (flatK ts) hs hown ⟨b, 0, none⟩ 1 1 (tkCells (k, z, m)) hx rfl ?_ ?_ ?_ ?_ hbase ?_
  · intro j u hu
    have e : (⟨b, 0, none⟩ : Addr).add j = ⟨b, j, none⟩ := by simp [Addr.add]; omega
    rw [e]
    unfold World.cell?
    dsimp only
    rw [hnew]
    match j, hu with
    | 0, hu => simpa [tkCells] using hu
    | 1, hu => simpa [tkCells] using hu
    | 2, hu => simpa [tkCells] using hu
    | j + 3, hu => simp [tkCells] at hu
  · intro u hu
    simp only [tkCells, List.mem_cons, List.mem_nil_iff, or_false] at hu
    rcases hu with rfl | rfl | rfl <;> rfl
  · unfold maxLen; omega
  · omega
  · intro v' w' h1 h2 _
    have h3 : OwnK w' base v' (ts ++ [(k, z, m)]) := by
      unfold OwnK
      rw [flatK_app, List.length_append]
      simpa [flatK] using h1
    obtain ⟨a', cap', rfl⟩ := h3.slice
    rw [List.length_append] at h3 ⊢
    exact h a' cap' w' h3 h2
theorem grown_ow {w wr W6 : World} {v : Value} {ts : List Tk} {o : Obj} (g : w.grownBy wr none) (h : OwnK wr w.heap.size v ts) (g6 : (wr.alloc o).grownBy W6 v.ownBlock) : w.grownBy W6 none :=
  grown_then (grown_trans g (World.grownBy_alloc wr o none)) g6 (fun j hj => .inl (h.fresh j hj).1)
theorem ScanR.ok {w w' : World} {text : Bs} {ts : List Tk} {v : Value} (h : scanL 0 (linesL text) = .ok ts) (g : w.grownBy w' none) (o : OwnK w' w.heap.size v ts) : ScanR w text (.returned (.tuple #[v, .int .i64 0, .int .i64 0])) w' := by
  refine ⟨g, ?_⟩
  rw [h]
  exact ⟨v, rfl, o⟩
theorem ScanR.err {w w' : World} {text : Bs} {n : Int} (h : scanL 0 (linesL text) = .error n) (g : w.grownBy w' none) : ScanR w text (.returned (.tuple #[.slice none 0 0, .int .i64 n, .int .i64 12])) w' := by
  refine ⟨g, ?_⟩
  rw [h]
theorem one_cases {c : UInt8} (s : Bs) (h10 : c ≠ 10) :
    (∃ j, 1 ≤ j ∧ j ≤ (c :: s).length ∧ oneL (c :: s) = (j, 0) ∧ ∀ n sm, restS n sm (c :: s) = restS n sm ((c :: s).drop j)) ∨
    (∃ p : Int × Bs, oneL (c :: s) = (p.2.length, p.1) ∧ 0 < p.2.length ∧ p.2.length ≤ (c :: s).length ∧ p.2 = (c :: s).take p.2.length ∧ 1 ≤ p.1 ∧ p.1 ≤ 3 ∧ ∀ n sm, restS n sm (c :: s) = addE [(p.1, p.2, n + 1)] (restS n true ((c :: s).drop p.2.length))) ∨
    (oneL (c :: s) = (0, 0) ∧ ∀ n sm, restS n sm (c :: s) = .error (n + 1)) := by
  by_cases hb : blkB c = true
  · left
    exact ⟨1, by omega, by simp, by simp only [oneL, hb, if_true], fun n sm => rest_blank n sm hb s⟩
  · have hb' : blkB c = false := by simpa using hb
    by_cases h35 : c = 35
    · left
      have e : c.toNat = 35 := by rw [h35]; rfl
      refine ⟨((c :: s).takeWhile (· != 10)).length, ?_, takeWhile_le' _, one_com e, fun n sm => (rest_com n sm h35 s).symm⟩
      rw [List.takeWhile_cons, if_pos (by simpa using h10)]
      simp
    · right
      have hok : okB c = true := by unfold okB; simp [h10, h35]
      have e35 : c.toNat ≠ 35 := fun e => h35 ((u8_lit (k := 35) (by decide)).2 e)
      have e1 : oneL (c :: s) = match firstT (c :: s) with | none => (0, 0) | some p => (p.2.length, p.1) := by
        simp only [oneL, hb', Bool.false_eq_true, if_false]
        rw [if_neg e35]
        cases firstT (c :: s) <;> rfl
      cases hf : firstT (c :: s) with
      | none => exact .inr ⟨by rw [e1, hf], fun n sm => rest_none n sm s hb' hok hf⟩
      | some p =>
        have h := rest_tok 0 true s hb' hok hf
        exact .inl ⟨p, by rw [e1, hf], h.2.2.1, h.2.2.2.1, h.2.1, h.2.2.2.2.1, h.2.2.2.2.2, fun n sm => (rest_tok n sm s hb' hok hf).1⟩
set_option maxRecDepth 100000 in
set_option maxHeartbeats 4000000 in
theorem rScan_any (text : Bs) (hlen : text.length ≤ 1000) (w : World) : Calls Tryd.prog 14 #[strV text] w (ScanR w text) := by
  have HOK : Hid (∀ ts v W, scanL 0 (linesL text) = .ok ts → w.grownBy W none → OwnK W w.heap.size v ts → ScanR w text (.returned (.tuple #[v, .int .i64 0, .int .i64 0])) W) := Lib.hid (fun ts v W h g o => ScanR.ok h g o)
  have HER : Hid (∀ n W, scanL 0 (linesL text) = .error n → w.grownBy W none → ScanR w text (.returned (.tuple #[.slice none 0 0, .int .i64 n, .int .i64 12])) W) := Lib.hid (fun n W h g => ScanR.err h g)
  have HST : Hid (scanL 0 (linesL text) = addE [] (restS 0 false text)) := Lib.hid (by
    rw [scan_segs _ 0 text (Nat.le_refl _), rest_start 0 text]
    cases restS 0 false text <;> simp [addE])
  generalize hS : scanL 0 (linesL text) = SE at *
  clear hS
  obtain ⟨s, hs⟩ : ∃ s : ByteArray, s = ⟨text.toArray⟩ := ⟨_, rfl⟩
  have hsz : s.size = text.length := by rw [hs]; rfl
  have HS := Lib.hid hs
  rw [show strV text = .string s by rw [hs]]
  clear hs
  have d2 : ¬ (4096 : Int) < (text.length : Int) := by omega
  go_enter Tryd.func14, Tryd.ntmps14
  go_wp2_with fail
  go_loopw [5, 6, 7, 8] (fun ov lv sv av wr => ∃ (k n : Nat) (b : Bool) (out : List Tk), av = .int .i64 k ∧ lv = .int .i64 ((n : Int) + 1) ∧ sv = .bool b ∧ n ≤ k ∧ out.length ≤ k ∧ k ≤ text.length + 1 ∧ Hid (OwnK wr w.heap.size ov out) ∧ Hid (w.grownBy wr none) ∧ Hid ((k = text.length + 1 ∧ SE = .ok out) ∨ (k ≤ text.length ∧ SE = addE out (restS n b (text.drop k))))) (fun _ _ _ i _ => text.length + 1 - (intOf i).toNat)
  case atStart => exact ⟨0, 0, false, [], rfl, rfl, rfl, Nat.le_refl _, Nat.le_refl _, Nat.zero_le _, Lib.hid (OwnK.nil _ _), Lib.hid (grown_refl _ _), Lib.hid (.inr ⟨Nat.zero_le _, HST.out⟩)⟩
  case round =>
    obtain ⟨k, n, b, out, rfl, rfl, rfl, hnk, hok, hk, ho, hg, hst⟩ := hrel
    clear HST
    have HO := Lib.hid hok
    obtain ⟨ov, oc, rfl⟩ := ho.out.slice
    have hol : (out.length : Int) ≤ 1001 := by omega
    have HSZ := Lib.hid hg.out.size
    by_cases hkl : k ≤ text.length
    · have h1 : (k : Int) ≤ (text.length : Int) := by omega
      have hst2 : SE = addE out (restS n b (text.drop k)) := by
        rcases hst.out with ⟨h, _⟩ | ⟨_, h⟩
        · omega
        · exact h
      have HST := Lib.hid hst2
      clear hst hst2
      by_cases heq : k = text.length
      · have e1 : ((k : Int) == (text.length : Int)) = true := beqT (by omega)
        have HEQ : Hid (text.drop k = []) := Lib.hid (List.drop_of_length_le (by omega))
        have HKE := Lib.hid heq
        clear heq hok
        cases b with
        | true =>
          have HF : Hid (SE = .ok (out ++ [(4, [], (n : Int) + 1)])) := Lib.hid (by rw [HST.out, HEQ.out, rest_nil]; rfl)
          have k2 : ¬ ((1024 : Int) < (out.length : Int) + 1) := by omega
          go_wp2_with (at_builtin; refine app_tok rfl _ _ rfl w.heap.size _ out rfl (ho.out.kept (World.grownBy_alloc _ _ none) (by simp)) _ 4 [] ((n : Int) + 1) rfl (heap_new _ rfl) (by have := HO.out; omega) (Nat.le_trans HSZ.out (World.grownBy_alloc _ _ none).size) ?_; intro a6 c6 W6 h6 g6; have H7 := Lib.hid h6; have G7 := Lib.hid (grown_ow hg.out ho.out g6); clear h6 g6)
          go_roundw
          case rel => exact ⟨k + 1, n + 1, false, _, by go_num, by go_num, rfl, by omega, by rw [List.length_append]; have := HO.out; simp; omega, by have := HKE.out; omega, H7, G7, Lib.hid (.inl ⟨by rw [HKE.out], HF.out⟩)⟩
          case measure => simp [intOf]; omega
        | false =>
          have HF : Hid (SE = .ok out) := Lib.hid (by rw [HST.out, HEQ.out, rest_nil]; simp [addE])
          have k2 : ¬ ((1024 : Int) < (out.length : Int)) := by omega
          go_wp2_with fail
          go_roundw
          case rel => exact ⟨k + 1, n + 1, false, out, by go_num, by go_num, rfl, by omega, by have := HO.out; omega, by have := HKE.out; omega, ho, hg, Lib.hid (.inl ⟨by rw [HKE.out], HF.out⟩)⟩
          case measure => simp [intOf]; omega
      · have e1 : ((k : Int) == (text.length : Int)) = false := beqF (by omega)
        have hks : k < s.size := by omega
        have hkt : k < text.length := by omega
        have HC : Hid (s[k] = text[k]) := Lib.hid (by have := HS.out; subst this; rfl)
        have HD0 : Hid (text.drop k = text[k] :: text.drop (k + 1)) := Lib.hid (List.drop_eq_getElem_cons hkt)
        generalize hc : s[k] = c at *
        have HD : Hid (text.drop k = c :: text.drop (k + 1)) := Lib.hid (by rw [HC.out]; exact HD0.out)
        clear HD0 heq hok
        by_cases h10 : c.toNat = 10
        · have e10 : ((c.toNat : Int) == 10) = true := beqT (by omega)
          have hc10 : c = 10 := (u8_lit (k := 10) (by decide)).2 h10
          have HN0 : Hid (SE = addE (out ++ (if b then [(4, [], (n : Int) + 1)] else [])) (restS ((n : Int) + 1) false (text.drop (k + 1)))) := Lib.hid (by rw [HST.out, HD.out, hc10, rest_nl, addE_add])
          clear h10 hc10
          cases b with
          | true =>
            have k2 : ¬ ((1024 : Int) < (out.length : Int) + 1) := by omega
            go_wp2_with (at_builtin; refine app_tok rfl _ _ rfl w.heap.size _ out rfl (ho.out.kept (World.grownBy_alloc _ _ none) (by simp)) _ 4 [] ((n : Int) + 1) rfl (heap_new _ rfl) (by have := HO.out; omega) (Nat.le_trans HSZ.out (World.grownBy_alloc _ _ none).size) ?_; intro a6 c6 W6 h6 g6; have H7 := Lib.hid h6; have G7 := Lib.hid (grown_ow hg.out ho.out g6); clear h6 g6)
            go_roundw
            case rel => exact ⟨k + 1, n + 1, false, _, by go_num, by go_num, rfl, by omega, by rw [List.length_append]; have := HO.out; simp; omega, by omega, H7, G7, Lib.hid (.inr ⟨by omega, HN0.out⟩)⟩
            case measure => simp [intOf]; omega
          | false =>
            have k2 : ¬ ((1024 : Int) < (out.length : Int)) := by omega
            go_wp2_with fail
            go_roundw
            case rel => exact ⟨k + 1, n + 1, false, out, by go_num, by go_num, rfl, by omega, by have := HO.out; omega, by omega, ho, hg, Lib.hid (.inr ⟨by omega, by simpa using HN0.out⟩)⟩
            case measure => simp [intOf]; omega
        · have e10 : ((c.toNat : Int) == 10) = false := beqF (by omega)
          have hc10 : c ≠ 10 := fun e => h10 (by rw [e]; rfl)
          have hx : s.extract k text.length = ⟨(text.drop k).toArray⟩ := by rw [HS.out]; exact str_drop text k
          have HONE : Hid (∀ W, Calls Tryd.prog 29 #[.string (s.extract k text.length)] W fun e w' => e = .returned (.tuple #[.int .i64 (oneL (c :: text.drop (k + 1))).1, .int .i64 (oneL (c :: text.drop (k + 1))).2]) ∧ w' = W) := Lib.hid (fun W => by
            rw [hx, HD.out]
            exact rone_any c _ (by rw [List.length_drop]; omega) W)
          have HCS := Lib.hid (one_cases (text.drop (k + 1)) hc10)
          have hdl : (c :: text.drop (k + 1)).length = text.length - k := by rw [← HD.out, List.length_drop]
          clear hx h10 hc10
          rcases HCS.out with ⟨j, hj1, hj2, hj3, hj4⟩ | ⟨p, hp1, hp2, hp3, hp4, hp5, hp6, hp7⟩ | ⟨hq1, hq2⟩
          · have HR : Hid (SE = addE out (restS n b (text.drop (k + j)))) := Lib.hid (by rw [HST.out, HD.out, hj4, ← HD.out, List.drop_drop])
            have hjk : k + j ≤ text.length := by omega
            have hj0 : ((j : Int) == 0) = false := beqF (by omega)
            rw [hj3] at HONE
            clear HCS hj3 hj4 hj2 hdl
            go_wp2_with (go_at_call 29; refine (HONE.out _).mono ?_; rintro e w' ⟨rfl, rfl⟩)
            go_roundw
            case rel => exact ⟨k + j, n, b, out, by go_num, rfl, rfl, by omega, by have := HO.out; omega, by omega, ho, hg, Lib.hid (.inr ⟨by omega, HR.out⟩)⟩
            case measure => simp [intOf]; omega
          · obtain ⟨kd, tx⟩ := p
            dsimp only at hp1 hp2 hp3 hp4 hp5 hp6 hp7
            have HR : Hid (SE = addE (out ++ [(kd, tx, (n : Int) + 1)]) (restS n true (text.drop (k + tx.length)))) := Lib.hid (by rw [HST.out, HD.out, hp7, ← HD.out, List.drop_drop, addE_add])
            have HTX : Hid ((s.extract k (k + tx.length)).data.toList = tx) := Lib.hid (by
              rw [HS.out, Lib.extract_eq]
              conv => rhs; rw [hp4, ← HD.out]
              simp)
            generalize hj : tx.length = j at *
            have hjk : k + j ≤ text.length := by omega
            have hj0 : ((j : Int) == 0) = false := beqF (by omega)
            have hkd : (0 : Int) < kd := by omega
            have k2 : ¬ ((1024 : Int) < (out.length : Int) + 1) := by omega
            rw [hp1] at HONE
            clear HCS hp1 hp3 hp4 hp7 hdl hj
            go_wp2_with (first | (go_at_call 29; refine (HONE.out _).mono ?_; rintro e w' ⟨rfl, rfl⟩) | (at_builtin; refine app_tok rfl _ _ rfl w.heap.size _ out rfl (ho.out.kept (World.grownBy_alloc _ _ none) (by simp)) _ kd (s.extract k (k + j)).data.toList ((n : Int) + 1) rfl (heap_new _ rfl) (by have := HO.out; omega) (Nat.le_trans HSZ.out (World.grownBy_alloc _ _ none).size) ?_; intro a6 c6 W6 h6 g6; have H7 := Lib.hid h6; have G7 := Lib.hid (grown_ow hg.out ho.out g6); clear h6 g6))
            go_roundw
            case rel => exact ⟨k + j, n, true, _, by go_num, rfl, rfl, by omega, by rw [List.length_append]; have := HO.out; simp; omega, by omega, H7, G7, Lib.hid (.inr ⟨by omega, by rw [HTX.out]; exact HR.out⟩)⟩
            case measure => simp [intOf]; omega
          · have HR : Hid (SE = .error ((n : Int) + 1)) := Lib.hid (by rw [HST.out, HD.out, hq2]; rfl)
            rw [hq1] at HONE
            clear HCS hq1 hq2 hdl
            go_wp2_with (go_at_call 29; refine (HONE.out _).mono ?_; rintro e w' ⟨rfl, rfl⟩)
            ((try simp only [Exit.inBlock, Exit.then]); refine bodyPost_ret (results_tmp3 rfl _ _ _) rfl ?_)
            exact HER.out _ _ HR.out hg.out
    · have h1 : ¬ (k : Int) ≤ (text.length : Int) := by omega
      have HF : Hid (SE = .ok out) := Lib.hid (by
        rcases hst.out with ⟨_, h⟩ | ⟨h, _⟩
        · exact h
        · exact absurd h hkl)
      go_wp2_with fail
      ((try simp only [Exit.inBlock, Exit.then]); refine bodyPost_ret (results_tmp3 rfl _ _ _) rfl ?_)
      exact HOK.out _ _ _ HF.out hg.out ho.out
end Go.Proofs.YthlollnpnangpaaDoor
