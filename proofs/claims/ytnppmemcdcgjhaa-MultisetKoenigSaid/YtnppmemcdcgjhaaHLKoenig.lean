/- MultisetKoenig: for every input it answers true. -/
import Derived.Test.YtnppmemcdcgjhaaHm
namespace Go.Proofs.Ytnppmemcdcgjhaa
open Go.ChangeShapes Go.WideShapes Go.ChangeAt Go.RowKit
set_option linter.unusedVariables false

theorem shl_run (n : Nat) (h : n ≤ 4) : ∀ W, (binOp .shl 3 (.int .i64 1) (.int .i64 (n : Int))).run Try.prog W = .ok (.int .i64 ((2 ^ n : Nat) : Int)) W := by
  intro W
  match n, h with
  | 0, _ => rfl
  | 1, _ => rfl
  | 2, _ => rfl
  | 3, _ => rfl
  | 4, _ => rfl
theorem fdiv_nat (k m : Nat) : (k : Int).fdiv (m : Int) = ((k / m : Nat) : Int) := by
  rw [Int.fdiv_eq_ediv_of_nonneg _ (Int.natCast_nonneg m)]; rfl
/-- A shift whose value is known. -/
theorem oper_shift {d : Nat} {op : BinOp} {t1 t2 ty : TypeId} {pos : String} {af : Array Edge} {gd : Option (Nat × Bool)} {x y : Operand} {a : Act} {w : World} {K : Act → World → Prop} {Q : Exit → Act → World → Prop} {v : Value} (hop : op = .shl ∨ op = .shr)
    (h : (binOp op t1 (a.eval x) (a.eval y)).run Try.prog w = .ok v w) (k : K (a.put (some d) v) w) : Oper.wp Try.prog { dst := some d, op := .binOp op t1 x y t2, type := ty, pos := pos, after := af, guard := gd } a w K Q := by
  rcases hop with rfl | rfl
  · unfold Oper.wp execOp
    simp [eqGuard, h, Result.andThen]
    exact k
  · unfold Oper.wp execOp
    simp [eqGuard, h, Result.andThen]
    exact k
theorem wpList_shift {ops : Array Oper} {rest : List Oper} {o : Oper} {a : Act} {w : World} {Q : Exit → Act → World → Prop} (op : BinOp) {t1 t2 : TypeId} {x y : Operand} {v vx vy : Value} (hop : o.op = .binOp op t1 x y t2) (hd : ∃ d, o.dst = some d) (hs : op = .shl ∨ op = .shr) (hw : Region.wanted o (yielded ops a.tmps) = true)
    (hx : a.eval x = vx) (hy : a.eval y = vy) (h : (binOp op t1 vx vy).run Try.prog w = .ok v w) (k : wpList Try.prog ops Q rest (a.put o.dst v) w) : wpList Try.prog ops Q (o :: rest) a w := by
  refine wpList_step fun K hK => ?_
  rw [if_pos hw]
  obtain ⟨d, hd⟩ := hd
  obtain ⟨dst, op', ty, pos, af, gd⟩ := o
  dsimp only at hop hd k
  subst hop hd
  exact oper_shift hs (by rw [hx, hy]; exact h) (hK _ _ k)
theorem shr_run (k i : Nat) (hk : k ≤ 16) (hi : i ≤ 4) : ∃ x : Nat, (∀ W, (binOp .shr 3 (.int .i64 (k : Int)) (.int .i64 (i : Int))).run Try.prog W = .ok (.int .i64 (x : Int)) W) ∧ x ≤ 16 ∧ (x % 2 = if k.testBit i then 1 else 0) := by
  refine ⟨k / 2 ^ i, fun W => ?_, Nat.le_trans (Nat.div_le_self _ _) hk, ?_⟩
  · match i, hi with
    | 0, _ => show Result.ok (Value.int .i64 (Int.fdiv (k : Int) ((2 ^ 0 : Nat) : Int))) W = _; rw [fdiv_nat]
    | 1, _ => show Result.ok (Value.int .i64 (Int.fdiv (k : Int) ((2 ^ 1 : Nat) : Int))) W = _; rw [fdiv_nat]
    | 2, _ => show Result.ok (Value.int .i64 (Int.fdiv (k : Int) ((2 ^ 2 : Nat) : Int))) W = _; rw [fdiv_nat]
    | 3, _ => show Result.ok (Value.int .i64 (Int.fdiv (k : Int) ((2 ^ 3 : Nat) : Int))) W = _; rw [fdiv_nat]
    | 4, _ => show Result.ok (Value.int .i64 (Int.fdiv (k : Int) ((2 ^ 4 : Nat) : Int))) W = _; rw [fdiv_nat]
  · rw [Nat.testBit_eq_decide_div_mod_eq]
    by_cases h : k / 2 ^ i % 2 = 1
    · simp [h]
    · simp [h]; omega
theorem and_run (x : Nat) (h : x ≤ 16) : bits .and .i64 (x : Int) 1 = ((x % 2 : Nat) : Int) := by
  have : ∀ y : Fin 17, bits .and .i64 ((y.val : Nat) : Int) 1 = ((y.val % 2 : Nat) : Int) := by decide
  exact this ⟨x, by omega⟩
theorem sees_next (T : List (List Bool)) (s i c : Nat) : seesB T s (i + 1) c = (seesB T s i c || (s.testBit i && tb T i c)) := by
  unfold seesB
  rw [List.range_succ, List.any_append]
  simp
theorem sn_next (T : List (List Bool)) (s rows c : Nat) : snB T s rows (c + 1) = snB T s rows c + (if seesB T s rows c then 1 else 0) := by
  unfold snB
  rw [List.range_succ, List.filter_append, List.length_append]
  congr 1
  cases h : seesB T s rows c <;> simp [h]
theorem sz_next (s i : Nat) : szB s (i + 1) = szB s i + (if s.testBit i then 1 else 0) := by
  unfold szB
  rw [List.range_succ, List.filter_append, List.length_append]
  congr 1
  cases h : s.testBit i <;> simp [h]
/-- One element of a table. -/
theorem TabD.bit {w : World} {d c i j cp : Nat} {a : Option Addr} {ps : List BRow} (h : TabD w d (.slice a ps.length cp) ps) (hc : ∀ q ∈ ps, q.2.length = c) (hi : i < ps.length) (hj : j < c) :
    ∃ b o b1 o1 c1, a = some ⟨b, o, none⟩ ∧ w.cell? ⟨b, o + i, none⟩ = some (.slice (some ⟨b1, o1, none⟩) c c1) ∧ w.cell? ⟨b1, o1 + j, none⟩ = some (.bool (tb (ps.map Prod.snd) i j)) ∧ True := by
  obtain ⟨⟨a1, c1, hv, -, hct, hrs⟩, -⟩ := h
  simp only [Value.slice.injEq] at hv
  obtain ⟨rfl, -, -⟩ := hv
  obtain ⟨b, o, rfl, hx⟩ := BRowsP.at hct hi
  have hl := hc _ (List.getElem_mem hi)
  obtain ⟨⟨ra, rc, hrv, -, hrc⟩, -⟩ := hrs _ (List.getElem_mem hi)
  obtain ⟨b1, o1, rfl, hy⟩ := Bools.at hrc (show j < (ps[i]).2.length by rw [hl]; exact hj)
  rw [hrv, hl] at hx
  refine ⟨b, o, b1, o1, rc, rfl, hx, ?_, trivial⟩
  rw [tb_row (by rw [List.length_map]; exact hi), List.getElem_map]
  exact hy
set_option maxRecDepth 100000 in
set_option maxHeartbeats 3000000 in
theorem walkMultisetKoenig (a0 : Option Addr) (len0 cap0 : Nat) (z0 : List Int) (w : World) (w0 : IsRow .i64 w a0 len0 cap0 z0) :
    Calls Try.prog 6 #[.slice a0 len0 cap0] w fun e w' => e = .returned (.bool true) ∧ Below w.heap.size w w' := by
  obtain ⟨hI, hlen⟩ := w0.ints
  generalize z0.take len0 = zs at hI hlen
  subst hlen
  have HI := Lib.hid hI
  clear hI w0
  by_cases hfew : (zs.length : Int) ≤ 400
  · go_enter Try.func6, Try.ntmps6
    go_wp2_with fail
    refine (awake03_any _).mono ?_
    rintro e w1 ⟨rfl, hg⟩
    have HG := Lib.hid hg
    clear hg
    go_wp2_with fail
    refine (few_any _ _ _ _).mono ?_
    rintro e w2 ⟨rfl, rfl⟩
    rw [decide_eq_true hfew]
    go_wp2_with fail
    refine (new_st (HI.out.same HG.out) HG.out).mono ?_
    rintro e w3 ⟨p, d, rfl, hs⟩
    have HS := Lib.hid hs
    clear hs HG HI
    go_wp2_with fail
    refine (next_st HS.out _ (by omega) (by omega)).mono ?_
    rintro e w4 ⟨y, rfl, hy0, hy1, hs, hg⟩
    replace HS := Lib.hid hs
    clear hs hg
    obtain ⟨r, hr⟩ : ∃ r : Nat, y = (r : Int) := ⟨(y).toNat, by omega⟩
    have hr1 : 0 ≤ r := by omega
    have hr2 : r ≤ 4 := by omega
    subst hr
    clear hy0 hy1
    go_wp2_with fail
    refine (next_st HS.out _ (by omega) (by omega)).mono ?_
    rintro e w5 ⟨y, rfl, hy0, hy1, hs, hg⟩
    replace HS := Lib.hid hs
    clear hs hg
    obtain ⟨c, hc⟩ : ∃ c : Nat, 1 + y = (c : Int) := ⟨(1 + y).toNat, by omega⟩
    have hc1 : 1 ≤ c := by omega
    have hc2 : c ≤ 5 := by omega
    go_wp2_with fail
    refine (table_st HS.out r c (by omega) (by omega)).mono ?_
    rintro e w6 ⟨v, ps, rfl, htd, hpl, hpc, hs, hg⟩
    obtain ⟨av, cv, rfl⟩ := htd.open
    obtain rfl : ps.length = r := hpl
    replace HS := Lib.hid hs; have V := Lib.hid htd; have HPC := Lib.hid hpc
    have HVL : Hid (validT (ps.map Prod.snd) = true) := Lib.hid (valid_tab (by omega) hpc (by omega))
    have HTL : Hid ((ps.map Prod.snd).length = ps.length) := Lib.hid (by simp)
    clear hs hg htd hpc hr1
    go_wp2_with fail
    refine (MostC_any _ ps _ V.out.1 HVL.out).mono ?_
    rintro e w7 ⟨n, rfl, hn, ⟨O, hO⟩, hg⟩
    have HN := Lib.hid hn; have HO := Lib.hid hO
    replace V := Lib.hid (V.out.step hg); replace HS := Lib.hid (HS.out.step hg)
    have HNL : Hid (n ≤ ps.length) := Lib.hid (by have := hn.le; rw [HTL.out] at this; exact this)
    clear hn hO hg
    have HCB : Hid (∀ r j, tb (ps.map Prod.snd) r j = true → j < c) := Lib.hid (fun r j hj => by
      obtain ⟨h1, h2⟩ := tb_lt hj
      have h3 : r < ps.length := by simpa using h1
      have := HPC.out _ (List.getElem_mem h3)
      simp at h2
      omega)
    generalize hT : ps.map Prod.snd = T at *
    have HT := Lib.hid hT
    have hp16 : Hid (2 ^ ps.length ≤ 16) := Lib.hid (Nat.le_trans (Nat.pow_le_pow_right (by decide) hr2) (by decide))
    have hshl := shl_run ps.length hr2
    generalize hPW : 2 ^ ps.length = PW at *
    have HPW := Lib.hid hPW
    clear hPW
    clear hT
    go_wp2_with fail
    go_loop [9, 10] (fun wv i => ∃ (k W : Nat), i = .int .i64 k ∧ wv = .int .i64 W ∧ k ≤ PW ∧ W ≤ 4 ∧ Hid ((∀ s, s < k → szB s ps.length ≤ snB T s ps.length c + W) ∧ (W = 0 ∨ ∃ s, s < k ∧ szB s ps.length = snB T s ps.length c + W))) (fun _ i => PW - (intOf i).toNat)
    case atStart => exact ⟨0, 0, rfl, rfl, Nat.zero_le _, by omega, Lib.hid ⟨by omega, .inl rfl⟩⟩
    case round =>
      obtain ⟨k, W, rfl, rfl, hk, hW, hI⟩ := hrel
      by_cases hkb : k < PW
      · have h2 : (k : Int) < (PW : Int) := by omega
        have hk16 : k < 16 := by have := hp16.out; omega
        go_wp2_with (first | (refine wpList_shift .shl rfl ⟨_, rfl⟩ (.inl rfl) rfl rfl rfl (hshl _) ?_) | (refine wpList_shift .shr rfl ⟨_, rfl⟩ (.inr rfl) rfl rfl rfl (hshr _) ?_))
        go_loop [12, 13] (fun sv i => ∃ j q : Nat, i = .int .i64 j ∧ sv = .int .i64 q ∧ j ≤ c ∧ q ≤ j ∧ Hid (q = snB T k ps.length j)) (fun _ i => c - (intOf i).toNat)
        case atStart => exact ⟨0, 0, rfl, rfl, Nat.zero_le _, Nat.le_refl _, Lib.hid rfl⟩
        case round =>
          obtain ⟨j, q, rfl, rfl, hj, hq, hQ⟩ := hrel
          by_cases hjb : j < c
          · have h3 : (j : Int) < (c : Int) := by omega
            have i1 : IntKind.i64.wrap ((j : Int) + 1) = (j : Int) + 1 := IntWalk.i64_in _ (by omega)
            have i2 : IntKind.i64.wrap ((q : Int) + 1) = (q : Int) + 1 := IntWalk.i64_in _ (by omega)
            go_wp2_with (first | (refine wpList_shift .shl rfl ⟨_, rfl⟩ (.inl rfl) rfl rfl rfl (hshl _) ?_) | (refine wpList_shift .shr rfl ⟨_, rfl⟩ (.inr rfl) rfl rfl rfl (hshr _) ?_))
            go_loop [14, 15] (fun bv i => ∃ (i' : Nat) (b : Bool), i = .int .i64 i' ∧ bv = .bool b ∧ i' ≤ ps.length ∧ Hid (b = seesB T k i' j)) (fun _ i => ps.length - (intOf i).toNat)
            case atStart => exact ⟨0, false, rfl, rfl, Nat.zero_le _, Lib.hid rfl⟩
            case round =>
              obtain ⟨i', b, rfl, rfl, hi, hB⟩ := hrel
              by_cases hib : i' < ps.length
              · have h4 : (i' : Int) < (ps.length : Int) := by omega
                have i3 : IntKind.i64.wrap ((i' : Int) + 1) = (i' : Int) + 1 := IntWalk.i64_in _ (by omega)
                have SB := Lib.hid (sees_next T k i' j)
                cases b with
                | true =>
                  go_wp2_with (first | (refine wpList_shift .shl rfl ⟨_, rfl⟩ (.inl rfl) rfl rfl rfl (hshl _) ?_) | (refine wpList_shift .shr rfl ⟨_, rfl⟩ (.inr rfl) rfl rfl rfl (hshr _) ?_))
                  go_round
                  case rel => exact ⟨i' + 1, true, by go_num, rfl, by omega, Lib.hid (by rw [SB.out, ← hB.out]; rfl)⟩
                  case measure => simp [intOf]; omega
                | false =>
                  obtain ⟨x, hshr, hx16, hxb⟩ := shr_run k i' (by omega) (by omega)
                  have HXB := Lib.hid hxb
                  clear hxb
                  cases htb : k.testBit i' with
                  | false =>
                    have hand : bits .and .i64 (x : Int) 1 = 0 := and_run x hx16 |>.trans (by rw [HXB.out, htb]; rfl)
                    have HTB := Lib.hid htb
                    clear htb hx16
                    go_wp2_with (first | (refine wpList_shift .shl rfl ⟨_, rfl⟩ (.inl rfl) rfl rfl rfl (hshl _) ?_) | (refine wpList_shift .shr rfl ⟨_, rfl⟩ (.inr rfl) rfl rfl rfl (hshr _) ?_))
                    go_round
                    case rel => exact ⟨i' + 1, false, by go_num, rfl, by omega, Lib.hid (by rw [SB.out, ← hB.out, HTB.out]; rfl)⟩
                    case measure => simp [intOf]; omega
                  | true =>
                    have hand : bits .and .i64 (x : Int) 1 = 1 := and_run x hx16 |>.trans (by rw [HXB.out, htb]; rfl)
                    have HTB := Lib.hid htb
                    clear htb hx16
                    obtain ⟨b0, o0, b1, o1, c1, rfl, he1, he2, -⟩ := V.out.bit HPC.out hib hjb
                    obtain ⟨bb, hbb⟩ : ∃ bb, tb T i' j = bb := ⟨_, rfl⟩
                    rw [HT.out, hbb] at he2
                    have HBB := Lib.hid hbb
                    clear hbb
                    go_wp2_with (first | (refine wpList_shift .shl rfl ⟨_, rfl⟩ (.inl rfl) rfl rfl rfl (hshl _) ?_) | (refine wpList_shift .shr rfl ⟨_, rfl⟩ (.inr rfl) rfl rfl rfl (hshr _) ?_))
                    go_round
                    case rel => exact ⟨i' + 1, bb, by go_num, rfl, by omega, Lib.hid (by rw [SB.out, ← hB.out, HTB.out, HBB.out]; rfl)⟩
                    case measure => simp [intOf]; omega
              · obtain rfl : i' = ps.length := by omega
                have h4 : ¬ (ps.length : Int) < (ps.length : Int) := by omega
                have SN := Lib.hid (sn_next T k ps.length j)
                cases b with
                | true =>
                  go_wp2_with (first | (refine wpList_shift .shl rfl ⟨_, rfl⟩ (.inl rfl) rfl rfl rfl (hshl _) ?_) | (refine wpList_shift .shr rfl ⟨_, rfl⟩ (.inr rfl) rfl rfl rfl (hshr _) ?_))
                  go_round
                  case rel => exact ⟨j + 1, q + 1, by go_num, by go_num, by omega, by omega, Lib.hid (by rw [SN.out, ← hB.out, hQ.out]; rfl)⟩
                  case measure => simp [intOf]; omega
                | false =>
                  go_wp2_with (first | (refine wpList_shift .shl rfl ⟨_, rfl⟩ (.inl rfl) rfl rfl rfl (hshl _) ?_) | (refine wpList_shift .shr rfl ⟨_, rfl⟩ (.inr rfl) rfl rfl rfl (hshr _) ?_))
                  go_round
                  case rel => exact ⟨j + 1, q, by go_num, rfl, by omega, by omega, Lib.hid (by rw [SN.out, ← hB.out, hQ.out]; rfl)⟩
                  case measure => simp [intOf]; omega
          · obtain rfl : j = c := by omega
            have h3 : ¬ (j : Int) < (j : Int) := by omega
            go_wp2_with (first | (refine wpList_shift .shl rfl ⟨_, rfl⟩ (.inl rfl) rfl rfl rfl (hshl _) ?_) | (refine wpList_shift .shr rfl ⟨_, rfl⟩ (.inr rfl) rfl rfl rfl (hshr _) ?_))
            go_loop [11, 16] (fun sv i => ∃ i' z : Nat, i = .int .i64 i' ∧ sv = .int .i64 z ∧ i' ≤ ps.length ∧ z ≤ i' ∧ Hid (z = szB k i')) (fun _ i => ps.length - (intOf i).toNat)
            case atStart => exact ⟨0, 0, rfl, rfl, Nat.zero_le _, Nat.le_refl _, Lib.hid rfl⟩
            case round =>
              obtain ⟨i', z, rfl, rfl, hi, hz, hZ⟩ := hrel
              by_cases hib : i' < ps.length
              · have h4 : (i' : Int) < (ps.length : Int) := by omega
                have i3 : IntKind.i64.wrap ((i' : Int) + 1) = (i' : Int) + 1 := IntWalk.i64_in _ (by omega)
                have i4 : IntKind.i64.wrap ((z : Int) + 1) = (z : Int) + 1 := IntWalk.i64_in _ (by omega)
                have i5 : IntKind.i64.wrap ((z : Int) + 0) = (z : Int) := IntWalk.i64_in _ (by omega) |>.trans (by omega)
                have SZ := Lib.hid (sz_next k i')
                obtain ⟨x, hshr, hx16, hxb⟩ := shr_run k i' (by omega) (by omega)
                have HXB := Lib.hid hxb
                clear hxb
                cases htb : k.testBit i' with
                | false =>
                  have hand : bits .and .i64 (x : Int) 1 = 0 := and_run x hx16 |>.trans (by rw [HXB.out, htb]; rfl)
                  have HTB := Lib.hid htb
                  clear htb hx16
                  go_wp2_with (first | (refine wpList_shift .shl rfl ⟨_, rfl⟩ (.inl rfl) rfl rfl rfl (hshl _) ?_) | (refine wpList_shift .shr rfl ⟨_, rfl⟩ (.inr rfl) rfl rfl rfl (hshr _) ?_))
                  go_round
                  case rel => exact ⟨i' + 1, z, by go_num, by first | rfl | go_num, by omega, by omega, Lib.hid (by rw [SZ.out, HTB.out, hZ.out]; rfl)⟩
                  case measure => simp [intOf]; omega
                | true =>
                  have hand : bits .and .i64 (x : Int) 1 = 1 := and_run x hx16 |>.trans (by rw [HXB.out, htb]; rfl)
                  have HTB := Lib.hid htb
                  clear htb hx16
                  go_wp2_with (first | (refine wpList_shift .shl rfl ⟨_, rfl⟩ (.inl rfl) rfl rfl rfl (hshl _) ?_) | (refine wpList_shift .shr rfl ⟨_, rfl⟩ (.inr rfl) rfl rfl rfl (hshr _) ?_))
                  go_round
                  case rel => exact ⟨i' + 1, z + 1, by go_num, by go_num, by omega, by omega, Lib.hid (by rw [SZ.out, HTB.out, hZ.out]; rfl)⟩
                  case measure => simp [intOf]; omega
              · obtain rfl : i' = ps.length := by omega
                have h4 : ¬ (ps.length : Int) < (ps.length : Int) := by omega
                have i6 : IntKind.i64.wrap ((z : Int) - (q : Int)) = (z : Int) - (q : Int) := IntWalk.i64_in _ (by omega)
                have i7 : IntKind.i64.wrap ((k : Int) + 1) = (k : Int) + 1 := IntWalk.i64_in _ (by omega)
                by_cases hmx : z ≤ q + W
                · have hm : max (W : Int) ((z : Int) - (q : Int)) = (W : Int) := by omega
                  have HI2 : Hid ((∀ s, s < k + 1 → szB s ps.length ≤ snB T s ps.length j + W) ∧ (W = 0 ∨ ∃ s, s < k + 1 ∧ szB s ps.length = snB T s ps.length j + W)) := Lib.hid ⟨fun s hs => by
                    by_cases e : s = k
                    · subst e; rw [← hZ.out, ← hQ.out]; exact hmx
                    · exact hI.out.1 s (by omega), hI.out.2.imp id (fun ⟨s, h1, h2⟩ => ⟨s, by omega, h2⟩)⟩
                  go_wp2_with (first | (refine wpList_shift .shl rfl ⟨_, rfl⟩ (.inl rfl) rfl rfl rfl (hshl _) ?_) | (refine wpList_shift .shr rfl ⟨_, rfl⟩ (.inr rfl) rfl rfl rfl (hshr _) ?_))
                  go_round
                  case rel => exact ⟨k + 1, W, by go_num, by first | rfl | go_num, by omega, hW, HI2⟩
                  case measure => simp [intOf]; omega
                · obtain ⟨W2, hW2⟩ : ∃ W2 : Nat, z = q + W2 := ⟨z - q, by omega⟩
                  have hm : max (W : Int) ((z : Int) - (q : Int)) = (W2 : Int) := by omega
                  have HI2 : Hid ((∀ s, s < k + 1 → szB s ps.length ≤ snB T s ps.length j + W2) ∧ (W2 = 0 ∨ ∃ s, s < k + 1 ∧ szB s ps.length = snB T s ps.length j + W2)) := Lib.hid ⟨fun s hs => by
                    by_cases e : s = k
                    · subst e; rw [← hZ.out, ← hQ.out]; omega
                    · have := hI.out.1 s (by omega); omega, .inr ⟨k, by omega, by rw [← hZ.out, ← hQ.out]; exact hW2⟩⟩
                  go_wp2_with (first | (refine wpList_shift .shl rfl ⟨_, rfl⟩ (.inl rfl) rfl rfl rfl (hshl _) ?_) | (refine wpList_shift .shr rfl ⟨_, rfl⟩ (.inr rfl) rfl rfl rfl (hshr _) ?_))
                  go_round
                  case rel => exact ⟨k + 1, W2, by go_num, by first | rfl | go_num, by omega, by omega, HI2⟩
                  case measure => simp [intOf]; omega
      · obtain rfl : k = PW := by omega
        have h2 : ¬ (k : Int) < (k : Int) := by omega
        have hNW : ((n : Nat) : Int) = (ps.length : Int) - (W : Int) := by
          have hnl := HNL.out
          obtain ⟨⟨M, hM, hMl⟩, -⟩ := HN.out
          have h5 : W ≤ ps.length - n := by
            rcases hI.out.2 with h | ⟨s, hs, h⟩
            · omega
            · have := koenig_le hM (cols := c) HCB.out s
              rw [HTL.out, hMl] at this
              omega
          obtain ⟨s, hs, h6⟩ := koenig_at HO.out c
          rw [HTL.out, HPW.out] at hs
          rw [HTL.out] at h6
          have h7 := hI.out.1 s hs
          omega
        have i6 : IntKind.i64.wrap ((ps.length : Int) - (W : Int)) = (ps.length : Int) - (W : Int) := IntWalk.i64_in _ (by omega)
        have hb : (((n : Nat) : Int) == (ps.length : Int) - (W : Int)) = true := by simp; omega
        go_wp2_with (first | (refine wpList_shift .shl rfl ⟨_, rfl⟩ (.inl rfl) rfl rfl rfl (hshl _) ?_) | (refine wpList_shift .shr rfl ⟨_, rfl⟩ (.inr rfl) rfl rfl rfl (hshr _) ?_))
        go_ret
        exact ⟨rfl, HS.out.below⟩
  · go_enter Try.func6, Try.ntmps6
    go_wp2_with fail
    refine (awake03_any _).mono ?_
    rintro e w1 ⟨rfl, hg⟩
    have HG := Lib.hid hg
    clear hg
    go_wp2_with fail
    refine (few_any _ _ _ _).mono ?_
    rintro e w2 ⟨rfl, rfl⟩
    rw [decide_eq_false (by omega)]
    go_wp2_with fail
    refine (awake03_any _).mono ?_
    rintro e w3 ⟨rfl, hg⟩
    have HG := Lib.hid (grown_trans HG.out hg)
    clear hg
    go_wp2_with fail
    go_ret
    exact ⟨rfl, below_of HG.out⟩

/-! ### MultisetKoenig: the statement, from its walk -/
set_option maxRecDepth 100000 in
theorem liftedMultisetKoenig (os : Os) (started : os.Started) (H : Type) (enc : TypeId × Value → H) :
    ReturnsInHanded {} Try.checked os 6 .any (Rows.multisetKoenigSpec.pre6 enc Try.prog Try.f6 Rows.multisetKoenigRow.domain false) (Rows.multisetKoenigSpec.post enc Try.prog Try.f6 false true false false) := by
  refine returnsInHanded_of_change (C := Try.checked) own started (by kernel_rfl) Try.func6
    (ChangeSpec.witness6 (enc := enc) (C := Try.checked) false ⟨#[], #[.slice none 0 0], []⟩ 8 (by kernel_rfl) (by kernel_rfl) (by kernel_rfl) (by kernel_rfl)) ?_
  intro W base args ds gs before hval0 hW hcnd _
  have hval : ∀ (j : Nat) t v, Try.f6.params[j]? = some t → args[j]? = some v → Value.okWide Try.prog W .any base t v := hval0
  have hW' := hW
  obtain ⟨p, q, hA0, hV, rfl, hfz, hnd⟩ := hW
  have hA : DataW.TrodAll enc Try.prog W 0 (fun _ => true) true Try.f6.params.toList args.toList ds p := hA0
  rw [Try.params6] at hA hval
  obtain ⟨v0, vs0, d0, ds0, p0, q0, hargs, rfl, rfl, h0, r0⟩ := trodAll_cons hA
  obtain ⟨rfl, rfl, rfl⟩ := trodAll_nil r0
  obtain rfl : args = #[v0] := by cases args; simp_all
  obtain ⟨rfl, rfl⟩ := trodVars_none hV
  obtain ⟨a0, len0, cap0, rfl⟩ := okWide_slice Try.underlying22 (hval 0 22 v0 rfl rfl)
  have k0 := h0
  have lt0 : ∀ x ∈ p0, x.block < W.heap.size := by obtain ⟨m, hm⟩ := k0; exact DataW.trod_lt m _ _ _ hm
  obtain ⟨z0, w0⟩ : ∃ zs, IsRow .i64 W a0 len0 cap0 zs := by
    obtain ⟨fuel, hf⟩ := h0
    rcases open_ints Try.underlying22 Try.underlying3 (by kernel_rfl) hf with ⟨hcs, _⟩ | ⟨x, l, c, zs, hcs, _, hl, hm, hz, _, hcell, hwz⟩
    · simp [Value.cells] at hcs
      obtain ⟨rfl, rfl, rfl⟩ := hcs
      exact ⟨[], .inl ⟨rfl, rfl, rfl, rfl⟩⟩
    · simp [Value.cells] at hcs
      obtain ⟨rfl, rfl, rfl⟩ := hcs
      exact ⟨zs, .inr ⟨_, rfl, hl, hm, by simpa using hz, hcell, hwz⟩⟩
  clear hA0 hval0
  refine (walkMultisetKoenig a0 len0 cap0 z0 W w0).mono fun e W' ⟨he, bel⟩ => ?_
  subst he
  exact ⟨_, rfl, _, _, _, [], _, [], hW', trodAll_mk1 (shut_bool Try.underlying4 _), (trodAll_cons_mk (Below.trod laidOut (by kernel_rfl) (of_decide_eq_true (by kernel_rfl)) k0 bel lt0) trodAll_mk0), rfl, bel.frame _, fun h => by cases h⟩

theorem multisetKoenig_holds : Rows.MultisetKoenigSaid :=
  OpenClaim.holds_of_wide 6 Try.f6 rfl rfl rfl rfl rfl rfl rfl ⟨rfl, rfl, rfl, rfl, rfl⟩ rfl rfl rfl rfl rfl (by kernel_rfl) Try.func6 (by kernel_rfl)
    (of_decide_eq_true (by kernel_rfl)) (by unfold Func.isWrapper; first | (rw [if_pos (by decide +kernel)]; kernel_rfl) | (rw [if_neg (by decide +kernel)]; exact ⟨rfl, rfl⟩))
    (fun os started H enc _ => liftedMultisetKoenig os started H enc)
#print axioms multisetKoenig_holds
end Go.Proofs.Ytnppmemcdcgjhaa
