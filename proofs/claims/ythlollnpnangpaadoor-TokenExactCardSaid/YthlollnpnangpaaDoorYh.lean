/- token.Scan. -/
import Derived.Test.YthlollnpnangpaaDoorYg
namespace Go.Proofs.YthlollnpnangpaaDoor
open Go.RowKit Go.Shelf
set_option linter.unusedVariables false
attribute [local go_sem] Oper.semAt_some
theorem results_cell3 {fn : Func} {p q r : Tmp} {t1 t2 t3 : TypeId} (h : fn.results = #[.cell p t1, .cell q t2, .cell r t3]) (tmps : Array Value) (w : World) (a b c : Addr) (va vb vc : Value)
    (hp : tmps.getD p undef = .pointer (some a)) (hq : tmps.getD q undef = .pointer (some b)) (hr : tmps.getD r undef = .pointer (some c))
    (l1 : (loadVar t1 a).run Tryd.prog w = .ok va w) (l2 : (loadVar t2 b).run Tryd.prog w = .ok vb w) (l3 : (loadVar t3 c).run Tryd.prog w = .ok vc w) :
    (results fn tmps).run Tryd.prog w = .ok (.tuple #[va, vb, vc]) w := by
  have hp' : tmps[p]?.getD undef = .pointer (some a) := by simpa using hp
  have hq' : tmps[q]?.getD undef = .pointer (some b) := by simpa using hq
  have hr' : tmps[r]?.getD undef = .pointer (some c) := by simpa using hr
  simp [results, h, hp', hq', hr', asAddr, Sem.run_bind, Result.andThen, l1, l2, l3]
theorem load_one {t : TypeId} {a : Addr} {v : Value} {w : World} (ht : ∀ w, (isAgg t).run Tryd.prog w = .ok false w) (h : w.cell? a = some v) : (loadVar t a).run Tryd.prog w = .ok v w := by
  simp [loadVar, Sem.run_bind, ht, Result.andThen, h]
def ScanR (w : World) (text : Bs) (e : Ending) (w' : World) : Prop := w.grownBy w' none ∧ (match scanL 0 (linesL text) with
  | .ok ts => ∃ v, e = .returned (.tuple #[v, .int .i64 0, .int .i64 0]) ∧ OwnK w' w.heap.size v ts
  | .error n => e = .returned (.tuple #[.slice none 0 0, .int .i64 n, .int .i64 12]))
set_option maxRecDepth 100000 in
set_option maxHeartbeats 2000000 in
theorem Scan_any (text : Bs) (hlen : text.length ≤ 1000) (w : World) : Calls Tryd.prog 13 #[strV text] w (ScanR w text) := by
  have HLEN := Lib.hid hlen
  refine callsIn_wide.1 (callsIn_of_wp_marks (n := 20) Tryd.func13 rfl trivial (wpIn_wide.2 ?_) rfl)
  simp only [Tryd.ntmps13, List.size_toArray, List.length_cons, List.length_nil, Nat.reduceAdd, Nat.reduceSub, Array.replicate_succ, Array.replicate_zero, List.push_toArray, List.append_toArray, List.nil_append, List.cons_append]
  have d1 : decide ((4096 : Int) < (text.length : Int)) = false := by simp; omega
  have d2 : ¬ (4096 : Int) < (text.length : Int) := by omega
  obtain ⟨s, hse⟩ : ∃ s : ByteArray, s = ⟨text.toArray⟩ := ⟨_, rfl⟩
  have hsz : s.size = text.length := by rw [hse]; rfl
  have HSE := Lib.hid hse
  rw [show strV text = .string s by rw [hse]]
  clear hse
  go_wp2_with fail
  rw [show Value.string s = strV text by rw [HSE.out]]
  generalize hwb : World.alloc _ _ = wb
  have hwg : w.grownBy wb none := by rw [← hwb]; exact grown_aft (grown_aft (grown_aft (grown_aft (World.grownBy_alloc w _ none))))
  have hws : wb.heap.size = w.heap.size + 5 := by rw [← hwb]; show (((((w.heap.push _).push _).push _).push _).push _).size = _; simp
  have hbx : Boxed wb w.heap.size 23 (.slice none 0 0) ∧ Boxed wb (w.heap.size + 1) 3 (.int .i64 0) ∧ Boxed wb (w.heap.size + 2) 34 (.int .i64 0) ∧ Boxed wb (w.heap.size + 3) 23 (.slice none 0 0) ∧ Boxed wb (w.heap.size + 4) 3 (.int .i64 0) := by
    rw [← hwb]
    exact ⟨heap_old _ (heap_old _ (heap_old _ (heap_old _ (heap_new _ rfl)))), heap_old _ (heap_old _ (heap_old _ (heap_new _ (by show _ = (w.heap.push _).size; simp)))), heap_old _ (heap_old _ (heap_new _ (by show _ = ((w.heap.push _).push _).size; simp))), heap_old _ (heap_new _ (by show _ = (((w.heap.push _).push _).push _).size; simp)), heap_new _ (by show _ = ((((w.heap.push _).push _).push _).push _).size; simp)⟩
  have WG := Lib.hid hwg; have WS := Lib.hid hws; have BX := Lib.hid hbx
  clear hwb hwg hws hbx
  refine (Lines_any text _).mono ?_
  rintro e w2 ⟨rfl, hw2⟩
  have VG : Hid (wb.grownBy w2 none) := Lib.hid (by rw [← hw2]; exact World.grownBy_alloc _ _ none)
  have VS : Hid (w2.heap.size = wb.heap.size + 1) := Lib.hid (by rw [← hw2]; show (wb.heap.push _).size = _; simp)
  have VB : Hid (Boxed w2 wb.heap.size 9 (strV text)) := Lib.hid (by rw [← hw2]; exact heap_new _ rfl)
  clear hw2
  go_wp2_with fail
  refine wpIn_wide.1 (range_law (n := 20) (gf := 38) (lb := #[.pointer (some ⟨wb.heap.size, 0, none⟩)]) rfl (enters_of Tryd.func38 (by kernel_rfl) rfl)
    (fun x : Bs => #[strV x]) (fun _ => rfl) (KpS wb.heap.size) (fun h k => Eq.trans k h) ?kb (fun xs W => ∃ ts, scanL 0 xs = .ok ts ∧ TokW w (xs.length : Int) ts W) (fun xs W => ∃ n, scanL 0 xs = .error n ∧ FailW w n W)
    (fun pre x W => ∃ rest, linesL text = pre ++ x :: rest)
    (fun pre x a' W => (∃ rest, linesL text = pre ++ x :: rest) ∧ a' = { tmps := #[strV text, undef, .pointer (some ⟨w.heap.size, 0, none⟩), .pointer (some ⟨w.heap.size + 1, 0, none⟩), .pointer (some ⟨w.heap.size + 1 + 1, 0, none⟩), .pointer (some ⟨w.heap.size + 1 + 1 + 1, 0, none⟩), .pointer (some ⟨w.heap.size + 1 + 1 + 1 + 1, 0, none⟩), strV x, undef, undef, undef, strV text, .int .i64 (text.length : Int), .bool false, strV text, .func (.func 38) #[] #[.pointer (some ⟨wb.heap.size, 0, none⟩)], strV x, undef, undef, undef, undef, undef, undef, undef, undef, undef, undef, undef, undef, undef, undef, undef, undef, undef, undef, undef, undef, undef, undef, undef, undef, undef, undef, undef, undef, undef, undef, undef, undef, undef, undef, undef, undef, undef, undef, undef, undef, undef, undef, undef, undef, undef, undef, undef, undef, undef, undef, undef, undef, undef, undef], defers := [] })
    (fun xs => xs = linesL text) (fun xs => ∃ rest, linesL text = xs ++ rest) ?hI ?hIx ?hAx ?h0 ?hseq ?hassign ?hbody ?hdone ?hstop)
  case kb =>
    intro W o'
    exact World.putObj_heap_other (by have := VS.out; omega)
  case hI =>
    rintro xs W o' ⟨ts, h1, h2⟩
    exact ⟨ts, h1, h2.kept (grownBy_putObj' W _ o') (by rintro k ⟨⟩; have := VS.out; have := WS.out; omega)⟩
  case hIx =>
    rintro xs W o' ⟨n, h1, h2⟩
    exact ⟨n, h1, h2.kept (grownBy_putObj' W _ o') (by rintro k ⟨⟩; have := VS.out; have := WS.out; omega)⟩
  case hAx => exact fun pre x a' W o' h => h
  case h0 =>
    intro W hg hs
    have g2 : wb.grownBy W none := grown_trans VG.out hg
    refine ⟨[], rfl, grown_trans WG.out g2, BX.out.1.kept g2 (by simp), BX.out.2.1.kept g2 (by simp), BX.out.2.2.1.kept g2 (by simp), ⟨_, BX.out.2.2.2.1.kept g2 (by simp), OwnK.nil _ _⟩, BX.out.2.2.2.2.kept g2 (by simp), ?_⟩
    have := VS.out; have := WS.out; omega
  case hseq =>
    intro W1 hg1 hs1 B Bx hB hBx hB1 hI0 hY
    refine (lines1_any (w2.heap.size + 1) wb.heap.size (20 - 1 - 1) (20 - 1) text (by have := HLEN.out; omega) (fun xs W => ∃ ts, scanL 0 xs = .ok ts ∧ TokW w (xs.length : Int) ts W) (fun xs W => ∃ n, scanL 0 xs = .error n ∧ FailW w n W) B Bx ?_ ?_ hB (fun pre x rest W a1 a2 a3 => hY pre x W a1 ⟨rest, a2⟩ a3) W1 (VB.out.kept hg1 (by simp)) hI0 hB1).mono ?_
    · rintro xs A C ⟨ts, h1, h2⟩ g
      exact ⟨ts, h1, h2.kept g (by simp)⟩
    · rintro xs A C ⟨ts, h1, h2⟩ g
      exact ⟨ts, h1, h2.kept g (by rintro k ⟨⟩; have := WS.out; omega)⟩
    · rintro e W' ⟨h1, h2⟩
      exact ⟨h1, h2⟩
  case hassign =>
    rintro l pre x W K hI ⟨rest, h1⟩ hK
    gi_wp2
    exact hK _ _ (KeepsFrom.refl _ _) rfl hI ⟨⟨rest, h1⟩, rfl⟩
  case hdone =>
    rintro D xs W hD rfl ⟨ts, h1, h2⟩ hdef
    obtain ⟨v, b1, o1⟩ := h2.ob
    obtain ⟨a1, cc1, rfl⟩ := o1.slice
    have cO := b1.cell
    have c1 := h2.r1.cell; have c2 := h2.r2.cell; have c3 := h2.r3.cell; have f1 := h2.r1.frozen; have f2 := h2.r2.frozen; have f3 := h2.r3.frozen
    have H1 := Lib.hid h1; have H2 := Lib.hid h2; have O1 := Lib.hid o1; have HDEF := Lib.hid hdef; have HDD := Lib.hid hD
    have HDN := Lib.hid (h2.done b1 (by have := VS.out; have := WS.out; omega) hdef _ rfl)
    clear h1 h2 b1 o1 hdef hD
    go_wp2_with fail
    refine ⟨by simp, .inl ⟨_, _, rfl, run_takeDeferred HDN.out.1, ?_⟩⟩
    refine ⟨_, results_cell3 rfl _ _ ⟨w.heap.size, 0, none⟩ ⟨w.heap.size + 1, 0, none⟩ ⟨w.heap.size + 2, 0, none⟩ _ _ _ rfl rfl rfl (load_one Tryd.isAgg23 HDN.out.2.2.1) (load_one Tryd.isAgg3 HDN.out.2.2.2.1) (load_one Tryd.isAgg34 HDN.out.2.2.2.2.1), HDN.out.2.1, ?_⟩
    rw [H1.out]
    exact ⟨_, rfl, HDN.out.2.2.2.2.2⟩
  case hstop =>
    rintro D xs W hD ⟨rest, h3⟩ ⟨n, h1, h2⟩ hdef
    have gP := grownBy_putObj' W D (.deferred none)
    have hdw : w.heap.size + 6 ≤ D := by have := VS.out; have := WS.out; omega
    have HFW := Lib.hid (h2.kept gP (by rintro k ⟨⟩; omega))
    have HSE2 : Hid (scanL 0 (linesL text) = .error n) := Lib.hid (by rw [h3]; exact scan_error h1)
    clear h1 h2 h3 gP
    gi_wp2
    refine ⟨by simp, .inl ⟨_, _, rfl, run_takeDeferred hdef, ?_⟩⟩
    refine ⟨_, results_cell3 rfl _ _ ⟨w.heap.size, 0, none⟩ ⟨w.heap.size + 1, 0, none⟩ ⟨w.heap.size + 2, 0, none⟩ _ _ _ rfl rfl rfl (load_one Tryd.isAgg23 HFW.out.2.1.cell) (load_one Tryd.isAgg3 HFW.out.2.2.1.cell) (load_one Tryd.isAgg34 HFW.out.2.2.2.cell), HFW.out.1, ?_⟩
    rw [HSE2.out]
  case hbody =>
    rintro l pre x a' W ⟨ts, h1, h2⟩ ⟨⟨rest, h3⟩, rfl⟩
    have hdd : ∀ k : Nat, ((Fence.wide.inRound l).depth.isSome = true → 1 ≤ k) := fun k h => by cases h
    have HXL : Hid (x.length ≤ 1001 ∧ pre.length ≤ 1001 ∧ ts.length + bulk x ≤ 1001) := Lib.hid (by
      have e1 := lines_bulk _ text (Nat.le_refl _)
      rw [h3, List.map_append, List.sum_append, List.map_cons, List.sum_cons] at e1
      have e2 := scanL_le 0 pre ts h1
      have e3 := bulk_ge x
      have e4 := bulk_sum pre
      have := HLEN.out
      exact ⟨by omega, by omega, by omega⟩)
    have H1 := Lib.hid h1; have H2 := Lib.hid h2; have H3 := Lib.hid h3
    have cl := h2.lb.cell; have fl := h2.lb.frozen
    have hwn : IntKind.i64.wrap ((pre.length : Int) + 1) = (pre.length : Int) + 1 := IntWalk.i64_in _ (by have := HXL.out.2.1; omega)
    have FIN : Hid (∀ TS W', scanL 0 (pre ++ [x]) = .ok TS → InR w W ((pre.length : Int) + 1) TS W' → KeepsFrom w2.heap.size W W' ∧ KpS wb.heap.size W W' ∧ ∃ ts, scanL 0 (pre ++ [x]) = .ok ts ∧ TokW w ((pre ++ [x]).length : Int) ts W') := Lib.hid (fun TS W' h4 h5 => ⟨h5.2.1.from _, by rw [WS.out]; exact h5.2.2, TS, h4, by rw [show ((pre ++ [x]).length : Int) = (pre.length : Int) + 1 by simp]; exact h5.1⟩)
    have HIR := Lib.hid ((InR.start h2).line ((pre.length : Int) + 1))
    clear h1 h2 h3
    gi_wp2
    generalize hW1 : World.setCell W _ _ = W1
    have HR1 : Hid (InR w W ((pre.length : Int) + 1) ts W1) := Lib.hid (by rw [← hW1]; exact HIR.out)
    clear hW1 HIR cl fl hwn
    refine ⟨trivial, (CallsIn.inRound l (callsIn_wide.2 (trimSuffix_any x [10] (by have := HXL.out.1; omega) _))).mono ?_⟩
    rintro e w3 ⟨rfl, hw3⟩
    replace hw3 := hw3.symm
    subst hw3
    gi_wp2
    refine ⟨trivial, (CallsIn.inRound l (callsIn_wide.2 (cut_any (Lib.trimSuffix x [10]) (by have := HXL.out.1; have := Lib.trimSuffix_le x [10]; omega) _))).mono ?_⟩
    rintro e W2 ⟨⟨ya, yb, rfl⟩, hg2⟩
    have HR2 := Lib.hid (HR1.out.same hg2)
    clear hg2
    obtain ⟨v2, b2, o2⟩ := HR2.out.1.ob
    obtain ⟨av, cv, rfl⟩ := o2.slice
    have co := b2.cell
    clear b2 o2
    gi_wp2
    refine ⟨trivial, (CallsIn.inRound l (callsIn_wide.2 (trimLeft_any (conL x) _))).mono ?_⟩
    rintro e W3 ⟨rfl, hg3⟩
    have HR3 := Lib.hid (HR2.out.same hg3)
    clear hg3 co HR2 HR1
    have HT : Hid (toks (conL x) = (toks ((conL x).dropWhile blkB)).map (([] : List (Int × Bs)) ++ ·) ∧ ((conL x).dropWhile blkB).dropWhile blkB = (conL x).dropWhile blkB ∧ 0 + ((conL x).dropWhile blkB).length ≤ (conL x).length) := Lib.hid ⟨by rw [toks_drop]; simp, dropWhile_twice _, by have := dropWhile_le (p := blkB) (conL x); omega⟩
    gi_wp2
    gi_loopw [7] (fun i wr => ∃ (r : Bs) (done : List (Int × Bs)), i = strV r ∧ Hid (toks (conL x) = (toks r).map (done ++ ·) ∧ r.dropWhile blkB = r ∧ done.length + r.length ≤ (conL x).length) ∧ Hid (InR w W ((pre.length : Int) + 1) (ts ++ done.map (fun p => (p.1, p.2, (pre.length : Int) + 1))) wr)) (fun i _ => match i with | .string s => s.size | _ => 0)
    case atStart => exact ⟨_, [], rfl, HT, by simpa using HR3⟩
    case round =>
      clear HR3 HT
      obtain ⟨r, done, rfl, ht, hr⟩ := hrel
      cases r with
      | nil =>
        have HD : Hid (toks (conL x) = some done) := Lib.hid (by rw [ht.out.1]; show (some []).map _ = _; simp)
        have hn5 : (ts ++ done.map (fun p => (p.1, p.2, (pre.length : Int) + 1))).length = ts.length + done.length := by simp
        have hle : ts.length + done.length + 1 ≤ 1024 := by have h4 := HXL.out.2.2; have h5 := (toks_le _ _ _ (Nat.le_refl _) HD.out).1; have h6 := conL_le x; unfold bulk at h4; omega
        have HSC : Hid (scanL 0 (pre ++ [x]) = .ok (ts ++ tagL ((pre.length : Int) + 1) done)) := Lib.hid (by rw [scanL_snoc H1.out, HD.out]; simp)
        have hempty : done = [] ∧ (ts ++ done.map (fun p => (p.1, p.2, (pre.length : Int) + 1))) = ts ∧ tagL ((pre.length : Int) + 1) done = [] ∨ done.length ≠ 0 ∧ tagL ((pre.length : Int) + 1) done = done.map (fun p => (p.1, p.2, (pre.length : Int) + 1)) ++ [(4, [], (pre.length : Int) + 1)] := by
          cases done with
          | nil => left; simp [tagL]
          | cons d0 dn => right; simp [tagL]
        have HEM := Lib.hid hempty
        have HOLD : Hid (ts ++ (done.map (fun p => (p.1, p.2, (pre.length : Int) + 1)) ++ [(4, [], (pre.length : Int) + 1)]) = (ts ++ done.map (fun p => (p.1, p.2, (pre.length : Int) + 1))) ++ [(4, [], (pre.length : Int) + 1)]) := Lib.hid (by rw [List.append_assoc])
        generalize hTS : ts ++ done.map (fun p => (p.1, p.2, (pre.length : Int) + 1)) = TS at *
        obtain ⟨v5, b5, o5⟩ := hr.out.1.ob
        obtain ⟨a5, c5, rfl⟩ := o5.slice
        have B5 := Lib.hid b5; have O5 := Lib.hid o5
        have co := b5.cell; have fo := b5.frozen; have clr := hr.out.1.lb.cell
        have HSZ := Lib.hid hr.out.1.sz
        have HLE : Hid (TS.length + 1 ≤ 1024) := Lib.hid (by omega)
        have HNN := Lib.hid hn5
        clear b5 o5 hTS hle hn5
        rcases hempty with ⟨h7, h8, h9⟩ | ⟨h7, h8⟩
        · have k1 : ¬ ((ts.length : Int) < (TS.length : Int)) := by rw [h8]; omega
          have k2 : ¬ ((1024 : Int) < (TS.length : Int)) := by have := HLE.out; omega
          have HG := Lib.hid (FIN.out TS wr (by rw [HSC.out, h9, h8]; simp) hr.out)
          clear h7 h8 h9
          gi_wp2
          exact HG.out
        · have k1 : (ts.length : Int) < (TS.length : Int) := by have := HNN.out; omega
          have k2 : ¬ ((1024 : Int) < (TS.length : Int) + 1) := by have := HLE.out; omega
          have HSC2 : Hid (scanL 0 (pre ++ [x]) = .ok (TS ++ [(4, [], (pre.length : Int) + 1)])) := Lib.hid (by rw [HSC.out, h8, HOLD.out])
          clear h7 h8
          gi_wp2_with (gi_at_builtin; refine app_tokIn rfl _ _ rfl (w.heap.size + 8) _ TS rfl (O5.out.kept (World.grownBy_alloc wr _ none) (by simp)) _ 4 [] ((pre.length : Int) + 1) rfl (heap_new _ rfl) (by have := HLE.out; omega) (Nat.le_trans HSZ.out (World.grownBy_alloc wr _ none).size) ?_; intro a6 c6 W6 h6 g6; have HPU := Lib.hid (hr.out.push (b := none) B5.out (World.grownBy_alloc wr _ none) (by simp) (KeepsOthers.alloc _ _) h6 g6); have b6 := (hr.out.1.push (b := none) B5.out (World.grownBy_alloc wr _ none) (by simp) h6 g6).2; have c6b := b6.cell; have f6 := b6.frozen; have c8 := (b6.set (.slice a6 (TS.length + 1) c6)).cell; have HG := Lib.hid (FIN.out _ _ HSC2.out HPU.out); clear h6 g6 b6 HPU)
          exact HG.out
      | cons c r =>
        obtain ⟨sB, hsB⟩ : ∃ s : ByteArray, s = ⟨(c :: r).toArray⟩ := ⟨_, rfl⟩
        have hzB : sB.size = r.length + 1 := by rw [hsB]; rfl
        have HSB := Lib.hid hsB
        have hneB : (sB.toList == ByteArray.toList ⟨#[]⟩) = false := by rw [hsB, Lib.toList_data, Lib.toList_data]; rfl
        have hneB' : (sB.toList == []) = false := by rw [hsB, Lib.toList_data]; rfl
        have HF : Hid (∀ W, Calls Tryd.prog 28 #[.string sB] W fun e w' => FirstR (c :: r) e ∧ W.grownBy w' none) := Lib.hid (fun W => by rw [hsB]; exact first_any c r (by have := ht.out.2.2; have := conL_le x; have := Lib.trimSuffix_le x [10]; have := HXL.out.1; rw [List.length_cons] at *; omega) W)
        rw [show strV (c :: r) = .string sB by rw [hsB]]
        clear hsB
        gi_wp2
        refine ⟨trivial, (CallsIn.inRound l (callsIn_wide.2 (HF.out _))).mono ?_⟩
        rintro e W4 ⟨hf, hg4⟩
        have HR4 := Lib.hid (hr.out.same hg4)
        clear hg4 hneB hneB'
        cases hft : firstT (c :: r) with
        | none =>
          unfold FirstR at hf
          rw [hft] at hf
          obtain ⟨fk, fz, rfl⟩ := hf
          have g5 : W4.grownBy (W4.alloc (.cells #[.int .i64 fk, strV fz, .int .i64 0] 27)) none := World.grownBy_alloc _ _ none
          have clr := (HR4.out.1.lb.kept g5 (by simp)).cell
          have cr1 := (HR4.out.1.r1.kept g5 (by simp)).cell; have cr2 := (HR4.out.1.r2.kept g5 (by simp)).cell; have cr3 := (HR4.out.1.r3.kept g5 (by simp)).cell
          have fr1 := (HR4.out.1.r1.kept g5 (by simp)).frozen; have fr2 := (HR4.out.1.r2.kept g5 (by simp)).frozen; have fr3 := (HR4.out.1.r3.kept g5 (by simp)).frozen
          have HR5 := Lib.hid (HR4.out.same g5)
          clear g5
          gi_wp2
          have HNO : Hid (scanL 0 (pre ++ [x]) = .error ((pre.length : Int) + 1)) := Lib.hid (by
            have h5 : toks (conL x) = none := by rw [ht.out.1, toks_cons ht.out.2.1, hft]; rfl
            rw [scanL_snoc H1.out, h5]
            simp)
          have HG := Lib.hid (HR5.out.failed ((pre.length : Int) + 1))
          gi_region
          all_goals
            gi_wp2
            exact ⟨HG.out.1.from _, by rw [WS.out]; exact HG.out.2.1, _, HNO.out, HG.out.2.2⟩
        | some p =>
          unfold FirstR at hf
          rw [hft] at hf
          dsimp only at hf
          subst hf
          have hft2 := firstT_some hft
          have g5 : W4.grownBy (W4.alloc (.cells #[.int .i64 p.1, strV p.2, .int .i64 0] 27)) none := World.grownBy_alloc _ _ none
          have g6 : W4.grownBy (W4.alloc (.cells #[.int .i64 p.1, strV p.2, .int .i64 ((pre.length : Int) + 1)] 27)) none := World.grownBy_alloc _ _ none
          have clr := (HR4.out.1.lb.kept g5 (by simp)).cell
          have HNT : Hid (∃ NT, NT = ts ++ done.map (fun q => (q.1, q.2, (pre.length : Int) + 1))) := Lib.hid ⟨_, rfl⟩
          generalize hTS : ts ++ done.map (fun q => (q.1, q.2, (pre.length : Int) + 1)) = TS at *
          have HTS := Lib.hid hTS
          obtain ⟨v5, b5, o5⟩ := HR4.out.1.ob
          obtain ⟨a5, c5, rfl⟩ := o5.slice
          have HSZ := Lib.hid (HR4.out.same g6).1.sz
          have b56 := b5.kept g6 (by simp)
          have co := b56.cell
          have hle : TS.length + 1 ≤ 1023 := by
            have h4 := HXL.out.2.2; have h5 := ht.out.2.2; have h6 := conL_le x
            unfold bulk at h4
            rw [← hTS, List.length_append, List.length_map]
            rw [List.length_cons] at h5
            omega
          have HLE := Lib.hid hle
          have HOB : Hid (∀ g, (Value.slice a5 TS.length c5).ownBlock = some g → g ≠ W4.heap.size) := Lib.hid (fun g hg e => by have := (o5.fresh g hg).2; omega)
          have HCT : Hid ((W4.alloc (.cells #[.int .i64 p.1, strV p.2, .int .i64 ((pre.length : Int) + 1)] 27)).cell? ⟨W4.heap.size, 1, none⟩ = some (strV p.2)) := Lib.hid (by unfold World.cell?; dsimp only; rw [heap_new _ rfl]; rfl)
          have hpl : p.2.length ≤ r.length + 1 := hft2.2.1
          have hpl2 : (p.2.length : Int) ≤ (r.length : Int) + 1 := by omega
          have B5 := Lib.hid b56; have B55 := Lib.hid b5; have O5 := Lib.hid (o5.kept g6 (by simp)); have HFT := Lib.hid hft2
          have G56 := Lib.hid g6
          have hi5 : ((TS.length : Int) + 1 ≤ 1024) := by omega
          have k2 : ¬ ((1024 : Int) < (TS.length : Int) + 1) := by omega
          clear b5 o5 b56 hle hTS hft2 g5 g6 HNT
          gi_wp2_with (gi_at_builtin; refine app_tokIn rfl _ _ rfl (w.heap.size + 8) _ TS rfl (O5.out.kept (World.grownBy_alloc _ _ none) (by simp)) _ p.1 p.2 ((pre.length : Int) + 1) rfl (heap_new _ (by show _ = (W4.heap.push _).size; simp)) (by have := HLE.out; omega) (Nat.le_trans HSZ.out (World.grownBy_alloc _ _ none).size) ?_; intro a6 c6 W6 h6 g6; have HPU := Lib.hid (HR4.out.push (b := none) B55.out (grown_trans G56.out (World.grownBy_alloc _ _ none)) (by simp) ((KeepsOthers.alloc _ _).trans (KeepsOthers.alloc _ _)) h6 g6); have b6 := (HR4.out.1.push (b := none) B55.out (grown_trans G56.out (World.grownBy_alloc _ _ none)) (by simp) h6 g6).2; have c6b := b6.cell; have f6 := b6.frozen; have c8 := (b6.set (.slice a6 (TS.length + 1) c6)).cell; have ct : (W6.setCell ⟨w.heap.size + 1 + 1 + 1, 0, none⟩ (.slice a6 (TS.length + 1) c6)).cell? ⟨W4.heap.size, 1, none⟩ = some (strV p.2) := (grown_set W6 ⟨w.heap.size + 3, 0, none⟩ (.slice a6 (TS.length + 1) c6)).cell (g6.cell ((World.grownBy_alloc _ _ none).cell HCT.out (by simp)) (fun e => HOB.out _ e.symm rfl)) (by have := HR4.out.1.sz; simp; omega); clear h6 g6 b6)
          have hx : sB.extract p.2.length (r.length + 1) = ⟨((c :: r).drop p.2.length).toArray⟩ := by rw [HSB.out]; exact str_drop (c :: r) p.2.length
          rw [hx]
          refine ⟨trivial, (CallsIn.inRound l (callsIn_wide.2 (trimLeft_any ((c :: r).drop p.2.length) _))).mono ?_⟩
          rintro e W9 ⟨rfl, hg9⟩
          have HR9 := Lib.hid (HPU.out.same hg9)
          clear hg9 hx co c6b f6 c8 ct clr hpl2 hi5 k2
          gi_wp2
          go_roundw
          case rel =>
            refine ⟨_, done ++ [p], rfl, Lib.hid ⟨?_, dropWhile_twice _, ?_⟩, Lib.hid ?_⟩
            · rw [ht.out.1, toks_cons ht.out.2.1, hft, toks_drop]
              dsimp only
              rw [Option.map_map]
              congr 1
              funext z
              simp
            · have h5 := dropWhile_le (p := blkB) ((c :: r).drop p.2.length)
              have h6 := ht.out.2.2
              have h7 := HFT.out.1
              rw [List.length_drop] at h5
              rw [List.length_cons] at h5 h6
              rw [List.length_append, List.length_singleton]
              omega
            · have e : ts ++ (done ++ [p]).map (fun q => (q.1, q.2, (pre.length : Int) + 1)) = TS ++ [(p.1, p.2, (pre.length : Int) + 1)] := by rw [← HTS.out]; simp
              rw [e]
              exact HR9.out
          case measure =>
            have h5 := dropWhile_le (p := blkB) ((c :: r).drop p.2.length)
            have h7 := HFT.out.1
            rw [List.length_drop, List.length_cons] at h5
            show (((c :: r).drop p.2.length).dropWhile blkB).length < sB.size
            omega
end Go.Proofs.YthlollnpnangpaaDoor
