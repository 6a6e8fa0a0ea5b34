/- Texts Ao, Nb in one. -/
import Derived.Test.YtpnghgihepnepaaDoorU1
import Derived.Deep.RegionHeld3
import Derived.Deep.DeepAppendRoom
import Derived.Test.YtpnghgihepnepaaDoorU2
namespace Go.Proofs.YtpnghgihepnepaaDoor
open Go.RowKit
set_option linter.unusedVariables false
/-! ### Appending one element, and where the slice lies then -/
theorem run_app_one (w : World) (base : Nat) (t ty e : TypeId) (z : Value) (bytes : Nat) (ht : Tryd.prog.underlying t = some (.slice e)) (hinfo : (Tryd.prog.info? e).map (fun i => (i.zero, i.size, i.bytes)) = some (some z, 1, bytes)) (hzs : z.cells.size = 1) (hby : bytes ≤ 64)
    (v : Value) (xs : List Value) (hown : w.ownsRow base e 1 v xs.length xs) (b : Nat) (y : Value) (hy : y.oneCell' = true) (hnew : w.cell? ⟨b, 0, none⟩ = some y) (hlen : xs.length ≤ 1000000000) (hbase : base ≤ w.heap.size) :
    ∃ v' w', (Builtin.append_ #[t, t] ty #[v, .slice (some ⟨b, 0, none⟩) 1 1]).run Tryd.prog w = .ok v' w' ∧ w'.ownsRow base e 1 v' (xs ++ [y]).length (xs ++ [y]) ∧ w.grownBy w' v.ownBlock ∧ ∀ g, v'.ownBlock = some g → v.ownBlock = some g ∨ w.heap.size ≤ g := by
  obtain ⟨i, hi, hz0, hz1, hz2⟩ := info_parts hinfo
  have hn : ∀ (j : Nat) u, [y][j]? = some u → w.cell? ((⟨b, 0, none⟩ : Addr).add j) = some u := by
    intro j u hu
    cases j with
    | zero => simp at hu; subst hu; simpa [Addr.add] using hnew
    | succ j => simp at hu
  have h1 : ∀ u ∈ [y], u.oneCell' = true := by intro u hu; simp at hu; subst hu; exact hy
  have hb2 : ∀ n, n ≤ 1000000001 → n * bytes ≤ 140737488355328 := fun n hn => Nat.le_trans (Nat.mul_le_mul hn hby) (by decide)
  obtain ⟨v', w', hr, h2, h3, -⟩ := run_append_own (P := Tryd.prog) w base t ty e i z 1 bytes ht hi hz0 hz1 hz2 hzs (by decide) v xs.length xs hown ⟨b, 0, none⟩ 1 1 [y] rfl hn h1 (by unfold maxLen; omega) (hb2 _ (by omega)) hbase
  refine ⟨v', w', hr, by simpa using h2, h3, ?_⟩
  rcases hown.2 with ⟨rfl, h0⟩ | ⟨g, cap, cur, rfl, hbg, hg, hnc, hcm, hcs, htake⟩
  · obtain ⟨v2, w2, hr2, h22, -⟩ := run_append_own (P := Tryd.prog) w w.heap.size t ty e i z 1 bytes ht hi hz0 hz1 hz2 hzs (by decide) (.slice none 0 0) xs.length xs ⟨hown.1, .inl ⟨rfl, h0⟩⟩ ⟨b, 0, none⟩ 1 1 [y] rfl hn h1 (by unfold maxLen; omega) (hb2 _ (by omega)) (Nat.le_refl _)
    rw [hr] at hr2
    cases hr2
    exact fun g hg => .inr (World.ownsRow.lt h22 g hg).1
  · by_cases hroom : xs.length + 1 ≤ cap
    · obtain ⟨w2, hr2, -, -⟩ := run_append_own_spare (P := Tryd.prog) w base t ty e i 1 ht hi hz1 g xs.length cap xs hown ⟨b, 0, none⟩ 1 1 [y] rfl hn h1 hroom
      rw [hr] at hr2
      cases hr2
      exact fun k hk => .inl hk
    · have holds : ∀ (j : Nat) u, xs[j]? = some u → w.cell? ((⟨g, 0, none⟩ : Addr).add j) = some u := hown.cells (g := g) rfl
      have hr2 := run_append_grow (P := Tryd.prog) w t ty e i z ht hi hz0 ⟨g, 0, none⟩ xs.length cap xs (by rw [hz1]; simp) holds ⟨b, 0, none⟩ 1 1 [y] (by rw [hz1]; rfl) hn (by omega) (by omega) (growslice_fits (by omega) (by rw [hz2]; have := hb2 (xs.length + 1) (by omega); omega))
      rw [hr] at hr2
      cases hr2
      intro k hk
      simp only [Value.ownBlock, Option.some.injEq] at hk
      exact .inr (by omega)
/-- The step, inside a region that draws its order. -/
theorem step_app_one {ops : Array Oper} {o : Oper} {a : Act} {w : World} {K : Act → World → Prop} {Q : Exit → Act → World → Prop} {E : Prop} (hgd : o.guard = none) (s x : Operand) (t e : TypeId) (z : Value) (bytes : Nat) (ht : Tryd.prog.underlying t = some (.slice e)) (hinfo : (Tryd.prog.info? e).map (fun i => (i.zero, i.size, i.bytes)) = some (some z, 1, bytes)) (hzs : z.cells.size = 1) (hby : bytes ≤ 64)
    (ho : o.op = .call { callee := .builtin .append, args := #[s, x], argTypes := #[t, t] }) (base : Nat) (v : Value) (xs : List Value) (hs : a.eval s = v)
    (hown : w.ownsRow base e 1 v xs.length xs) (b : Nat) (y : Value) (hy : y.oneCell' = true) (hx : a.eval x = .slice (some ⟨b, 0, none⟩) 1 1) (hnew : w.cell? ⟨b, 0, none⟩ = some y)
    (hlen : xs.length ≤ 1000000000) (hbase : base ≤ w.heap.size)
    (h : ∀ v' w', w'.ownsRow base e 1 v' (xs ++ [y]).length (xs ++ [y]) → w.grownBy w' v.ownBlock → (∀ g, v'.ownBlock = some g → v.ownBlock = some g ∨ w.heap.size ≤ g) → K (a.put o.dst v') w') : if Region.wanted o (yielded ops a.tmps) = true then Oper.wp Tryd.prog o a w K Q else E := by
  have hw : Region.wanted o (yielded ops a.tmps) = true := by simp [Region.wanted, hgd]
  rw [if_pos hw]
  obtain ⟨v', w', hr, h2, h3, h4⟩ := run_app_one w base t o.type e z bytes ht hinfo hzs hby v xs hown b y hy hnew hlen hbase
  unfold Oper.wp execOp
  simp only [ho, resolve, invoke, builtin, Sem.run_bind, Sem.run_pure, Result.andThen_ok, List.map_toArray, List.map_cons, List.map_nil, hs, hx, hr]
  exact h v' w' h2 h3 h4
theorem app_one {ops : Array Oper} {rest : List Oper} {o : Oper} {a : Act} {w : World} {Q : Exit → Act → World → Prop} (hgd : o.guard = none) (s x : Operand) (t e : TypeId) (z : Value) (bytes : Nat) (ht : Tryd.prog.underlying t = some (.slice e)) (hinfo : (Tryd.prog.info? e).map (fun i => (i.zero, i.size, i.bytes)) = some (some z, 1, bytes)) (hzs : z.cells.size = 1) (hby : bytes ≤ 64)
    (ho : o.op = .call { callee := .builtin .append, args := #[s, x], argTypes := #[t, t] }) (base : Nat) (v : Value) (xs : List Value) (hs : a.eval s = v)
    (hown : w.ownsRow base e 1 v xs.length xs) (b : Nat) (y : Value) (hy : y.oneCell' = true) (hx : a.eval x = .slice (some ⟨b, 0, none⟩) 1 1) (hnew : w.cell? ⟨b, 0, none⟩ = some y)
    (hlen : xs.length ≤ 1000000000) (hbase : base ≤ w.heap.size)
    (h : ∀ v' w', w'.ownsRow base e 1 v' (xs ++ [y]).length (xs ++ [y]) → w.grownBy w' v.ownBlock → (∀ g, v'.ownBlock = some g → v.ownBlock = some g ∨ w.heap.size ≤ g) → wpList Tryd.prog ops Q rest (a.put o.dst v') w') : wpList Tryd.prog ops Q (o :: rest) a w := by
  refine wpList_plain hgd fun K hK => ?_
  obtain ⟨v', w', hr, h2, h3, h4⟩ := run_app_one w base t o.type e z bytes ht hinfo hzs hby v xs hown b y hy hnew hlen hbase
  unfold Oper.wp execOp
  simp only [ho, resolve, invoke, builtin, Sem.run_bind, Sem.run_pure, Result.andThen_ok, List.map_toArray, List.map_cons, List.map_nil, hs, hx, hr]
  exact hK _ _ (h v' w' h2 h3 h4)

end Go.Proofs.YtpnghgihepnepaaDoor

namespace Go.Proofs.YtpnghgihepnepaaDoor
open Go.RowKit
set_option linter.unusedVariables false

theorem grown_aft {w w1 : World} {o : Obj} {row : Option Nat} (h : w.grownBy w1 row) : w.grownBy (w1.alloc o) row := grown_trans h (World.grownBy_alloc _ _ _)
/-- The rows of a matrix that is dealt. -/
def DealtM (c : Nat) (ps : List Row) : Prop := ∀ q ∈ ps, q.2.length = c ∧ ∀ x ∈ q.2, -16 ≤ x ∧ x ≤ 16
def MatDeal (r c : Nat) (w0 w : World) (p : Value) (d : Nat) (e : Ending) (w' : World) : Prop := ∃ v ps, e = .returned v ∧ List.length ps = r ∧ DealtM c ps ∧ MatO w' w.heap.size v ps ∧ St w0 w' p d ∧ w.grownBy w' (some d)
theorem one_st {w0 w : World} {p : Value} {d : Nat} (h : St w0 w p d) (n : Int) (h1 : 1 ≤ n) (h2 : n ≤ 4611686018427387904) :
    Calls Tryd.prog 29 #[p, .int .i64 n] w fun e w' => ∃ y : Bool, e = .returned (.bool y) ∧ St w0 w' p d ∧ w.grownBy w' (some d) :=
  (one_any p d n w h.1 h1 h2).mono fun e w' ⟨y, he, hd, hg⟩ => ⟨y, he, h.deal hd hg, hg⟩
/-- A row under way beside a matrix. -/
def RowBy (w : World) (base : Nat) (v : Value) (xs : List Int) (m : Value) (ps : List Row) : Prop := OwnI w base v xs ∧ ∀ g, v.ownBlock = some g → m.ownBlock ≠ some g ∧ ∀ p ∈ ps, p.1.ownBlock ≠ some g
theorem RowBy.nil (w : World) (base : Nat) (m : Value) (ps : List Row) : RowBy w base (.slice none 0 0) [] m ps := ⟨OwnI.nil _ _, by intro g hg; simp [Value.ownBlock] at hg⟩
theorem RowBy.kept {w w' : World} {base : Nat} {v : Value} {xs : List Int} {m : Value} {ps : List Row} {row : Option Nat} (h : RowBy w base v xs m ps) (g : w.grownBy w' row) (hr : ∀ k, row = some k → k < base) : RowBy w' base v xs m ps := ⟨h.1.kept g hr, h.2⟩
theorem own_lt_of {w : World} {base : Nat} {m : Value} {ps : List Row} (h : MatO w base m ps) {g : Nat} (hg : w.heap.size ≤ g) : m.ownBlock ≠ some g ∧ ∀ p ∈ ps, p.1.ownBlock ≠ some g :=
  ⟨fun e => by have := (h.own.fresh g e).2; omega, fun p hp e => by have := ((h.rows p hp).fresh g e).2; omega⟩
/-- One number more in the row. -/
theorem RowBy.push {w w1 : World} {base : Nat} {v v1 : Value} {xs : List Int} {m : Value} {ps : List Row} {y : Int} (hm : MatO w base m ps) (h : RowBy w base v xs m ps) (ho : w1.ownsRow base 3 1 v1 (xs.length + 1) (xs.map (Value.int .i64) ++ [Value.int .i64 y]))
    (hg : w.grownBy w1 v.ownBlock) {H : Nat} (hb : ∀ g, v1.ownBlock = some g → v.ownBlock = some g ∨ H ≤ g) (hH : w.heap.size = H) : RowBy w1 base v1 (xs ++ [y]) m ps ∧ MatO w1 base m ps := by
  subst hH
  refine ⟨⟨?_, fun g hg1 => ?_⟩, ?_⟩
  · unfold OwnI; simpa using ho
  · rcases hb g hg1 with h1 | h1
    · exact h.2 g h1
    · exact own_lt_of hm h1
  · refine ⟨⟨World.ownsRow.kept hm.own.1 hg ?_, fun q hq => ⟨(hm.own.2 q hq).1.kept hg (fun k hk e => (h.2 k hk).2 q hq e), (hm.own.2 q hq).2⟩⟩, fun q hq => (hm.rows q hq).keptB hg (fun k hk e => (h.2 k hk).2 q hq e), hm.apart⟩
    cases hv : m.ownBlock with
    | none => exact .inl rfl
    | some k => refine .inr (fun e => ?_); exact (h.2 k e.symm).1 hv
theorem rowby_own {w : World} {base : Nat} {v : Value} {xs : List Int} {m : Value} {ps : List Row} (h : RowBy w base v xs m ps) : w.ownsRow base 3 1 v (xs.map (Value.int .i64)).length (xs.map (Value.int .i64)) := by
  have := h.1; unfold OwnI at this; rw [List.length_map]; exact this
theorem ownI_sl' {w : World} {base : Nat} {v : Value} {xs : List Int} (h : OwnI w base v xs) : ∃ a c, v = .slice a xs.length c := by
  rcases h.2 with ⟨rfl, h0⟩ | ⟨g, cap, cur, rfl, hg, hh, hn, hm, hs, ht⟩
  · exact ⟨none, 0, by rw [h0]⟩
  · exact ⟨_, cap, rfl⟩
theorem two_cells {w : World} {B : Nat} {v0 v1 : Value} {e : TypeId} (h : w.heap[B]? = some (.cells #[v0, v1] e (0, 0))) : w.cell? ⟨B, 0, none⟩ = some v0 ∧ w.cell? ⟨B, 1, none⟩ = some v1 :=
  ⟨by unfold World.cell?; dsimp only; rw [h]; rfl, by unfold World.cell?; dsimp only; rw [h]; rfl⟩

set_option maxRecDepth 100000 in
set_option maxHeartbeats 2000000 in
theorem matrix_st {w0 w : World} {p : Value} {d : Nat} (h : St w0 w p d) (r c : Nat) (hr : r ≤ 20) (hc : c ≤ 20) :
    Calls Tryd.prog 13 #[p, .int .i64 (r : Int), .int .i64 (c : Int)] w (MatDeal r c w0 w p d) := by
  have HS := Lib.hid h; have HZ : Hid (w0.heap.size ≤ w.heap.size) := Lib.hid h.2.1.size
  have HD : Hid (∀ k, some d = some k → k < w.heap.size) := Lib.hid (by rintro k ⟨⟩; exact h.lt)
  clear h
  go_enter Tryd.func13, Tryd.ntmps13
  go_wp2_with fail
  go_loopw [7, 8] (fun o i wr => ∃ (k : Nat) (ps : List Row), i = .int .i64 k ∧ k ≤ r ∧ Hid (List.length ps = k) ∧ Hid (DealtM c ps) ∧ Hid (MatO wr w.heap.size o ps) ∧ Hid (St w0 wr p d) ∧ Hid (w.grownBy wr (some d))) (fun _ i _ => r - (intOf i).toNat)
  case atStart => exact ⟨0, [], rfl, Nat.zero_le _, Lib.hid rfl, Lib.hid (by intro q hq; simp at hq), Lib.hid (MatO.nil _ _), HS, Lib.hid (grown_refl _ _)⟩
  case round =>
    clear HS
    obtain ⟨k, ps, rfl, hk, hl, hdm, hM, hS, hG⟩ := hrel
    rename World => wk
    by_cases hkb : k < r
    · have e1 : (k : Int) < (r : Int) := by omega
      have i1 : IntKind.i64.wrap ((k : Int) + 1) = (k : Int) + 1 := IntWalk.i64_in _ (by omega)
      go_wp2_with fail
      go_loopw [9, 10] (fun o j wr => ∃ (q : Nat) (xs : List Int), j = .int .i64 q ∧ q ≤ c ∧ Hid (xs.length = q) ∧ Hid (∀ x ∈ xs, -16 ≤ x ∧ x ≤ 16) ∧ Hid (RowBy wr w.heap.size o xs u7 ps) ∧ Hid (MatO wr w.heap.size u7 ps) ∧ Hid (St w0 wr p d) ∧ Hid (w.grownBy wr (some d))) (fun _ j _ => c - (intOf j).toNat)
      case atStart => exact ⟨0, [], rfl, Nat.zero_le _, Lib.hid rfl, Lib.hid (by simp), Lib.hid (RowBy.nil _ _ _ _), hM, hS, hG⟩
      case round =>
        clear hM hS hG
        obtain ⟨q, xs, rfl, hq, hxl, hxb, hR, hM, hS, hG⟩ := hrel
        by_cases hqb : q < c
        · have e2 : (q : Int) < (c : Int) := by omega
          have i2 : IntKind.i64.wrap ((q : Int) + 1) = (q : Int) + 1 := IntWalk.i64_in _ (by omega)
          go_wp2_with fail
          refine (next_st hS.out 7 (by decide) (by decide)).mono ?_
          rintro e w1 ⟨y, rfl, hy0, hy1, hs, hg⟩
          have HS1 := Lib.hid hs; have HG1 := Lib.hid (grown_trans hG.out hg); have HR1 := Lib.hid (hR.out.kept hg HD.out); have HM1 := Lib.hid (hM.out.kept hg HD.out)
          have i3 : IntKind.i64.wrap (y - 3) = y - 3 := IntWalk.i64_in _ (by omega)
          clear hs hg
          go_wp2_with fail
          refine (one_st HS1.out 20 (by decide) (by decide)).mono ?_
          rintro e w2 ⟨y2, rfl, hs, hg⟩
          have HS2 := Lib.hid hs; have HG2 := Lib.hid (grown_trans HG1.out hg); have HR2 := Lib.hid (HR1.out.kept hg HD.out); have HM2 := Lib.hid (HM1.out.kept hg HD.out)
          clear hs hg HS1 HG1 HR1 HM1
          cases y2 with
          | false =>
            go_wp2_with (at_builtin; refine app_one rfl _ _ 22 3 (.int .i64 0) 8 Tryd.underlying22 info_int rfl (by decide) rfl w.heap.size u9 (xs.map (Value.int .i64)) rfl (rowby_own (HR2.out.kept (World.grownBy_alloc _ _ none) (by simp))) w2.heap.size (.int .i64 (y - 3)) rfl rfl (cell_new rfl) (by have := hxl.out; simp; omega) (Nat.le_trans HG2.out.size (World.grownBy_alloc _ _ none).size) ?_)
            intro v9 w9 ho9 hg9 hb9
            obtain ⟨hr9, hm9⟩ := RowBy.push (HM2.out.same (World.grownBy_alloc _ _ none)) (HR2.out.kept (World.grownBy_alloc _ _ none) (by simp)) ho9 hg9 hb9 (by simp)
            have HR9 := Lib.hid hr9; have HM9 := Lib.hid hm9
            have HRB : Hid (∀ j, u9.ownBlock = some j → w.heap.size ≤ j) := Lib.hid (fun j hj => (HR2.out.1.fresh j hj).1)
            have HG9 : Hid (w.grownBy w9 (some d)) := Lib.hid (grown_then (grown_aft HG2.out) hg9 (fun j hj => .inl (HRB.out j hj)))
            have HS9 : Hid (St w0 w9 p d) := Lib.hid ⟨(HS2.out.step (World.grownBy_alloc _ _ none)).1.kept hg9 (fun j hj => by have := HRB.out j hj; have := HD.out d rfl; omega), grown_then (HS2.out.step (World.grownBy_alloc _ _ none)).2.1 hg9 (fun j hj => .inl (by have := HRB.out j hj; have := HZ.out; omega)), HS2.out.2.2⟩
            have HX9 : Hid (∀ x ∈ xs ++ [(y - 3)], -16 ≤ x ∧ x ≤ 16) := Lib.hid (mem_snoc hxb.out ⟨by omega, by omega⟩)
            have HL9 : Hid ((xs ++ [(y - 3)]).length = q + 1) := Lib.hid (by have := hxl.out; simp; omega)
            clear ho9 hg9 hb9 hr9 hm9
            go_wp2_with fail
            go_roundw
            case rel => exact ⟨q + 1, xs ++ [(y - 3)], by go_num, by omega, HL9, HX9, HR9, HM9, HS9, HG9⟩
            case measure => simp [intOf]; omega
          | true =>
            have hbk := two_cells (heap_new (w := w2) (g := w2.heap.size) (.cells #[.int .i64 16, .int .i64 (-16)] 3) rfl)
            have HBK := Lib.hid hbk
            have HDW : Hid (d < w2.heap.size) := Lib.hid HS2.out.lt
            clear hbk
            go_wp2_with fail
            refine (next_st (HS2.out.step (World.grownBy_alloc _ _ none)) 2 (by decide) (by decide)).mono ?_
            rintro e w3 ⟨y3, rfl, hz0, hz1, hs, hg⟩
            obtain ⟨r3, rfl⟩ : ∃ n : Nat, y3 = (n : Int) := ⟨y3.toNat, by omega⟩
            have HS3 := Lib.hid hs; have HG3 := Lib.hid (grown_trans (grown_aft HG2.out) hg); have HR3 := Lib.hid ((HR2.out.kept (World.grownBy_alloc _ _ none) (by simp)).kept hg HD.out); have HM3 := Lib.hid ((HM2.out.same (World.grownBy_alloc _ _ none)).kept hg HD.out)
            obtain ⟨x3, hx3, hcx⟩ : ∃ x : Int, (-16 ≤ x ∧ x ≤ 16) ∧ w3.cell? ⟨w2.heap.size, r3, none⟩ = some (.int .i64 x) := by
              have hne : some w2.heap.size ≠ some d := by have := HDW.out; simp; omega
              obtain rfl | rfl : r3 = 0 ∨ r3 = 1 := by omega
              · exact ⟨16, by omega, hg.cell HBK.out.1 hne⟩
              · exact ⟨-16, by omega, hg.cell HBK.out.2 hne⟩
            have HX3 := Lib.hid hx3
            clear hs hg hx3
            go_wp2_with (at_builtin; refine app_one rfl _ _ 22 3 (.int .i64 0) 8 Tryd.underlying22 info_int rfl (by decide) rfl w.heap.size u9 (xs.map (Value.int .i64)) rfl (rowby_own (HR3.out.kept (World.grownBy_alloc _ _ none) (by simp))) w3.heap.size (.int .i64 x3) rfl rfl (cell_new rfl) (by have := hxl.out; simp; omega) (Nat.le_trans HG3.out.size (World.grownBy_alloc _ _ none).size) ?_)
            intro v9 w9 ho9 hg9 hb9
            obtain ⟨hr9, hm9⟩ := RowBy.push (HM3.out.same (World.grownBy_alloc _ _ none)) (HR3.out.kept (World.grownBy_alloc _ _ none) (by simp)) ho9 hg9 hb9 (by simp)
            have HR9 := Lib.hid hr9; have HM9 := Lib.hid hm9
            have HRB : Hid (∀ j, u9.ownBlock = some j → w.heap.size ≤ j) := Lib.hid (fun j hj => (HR3.out.1.fresh j hj).1)
            have HG9 : Hid (w.grownBy w9 (some d)) := Lib.hid (grown_then (grown_aft HG3.out) hg9 (fun j hj => .inl (HRB.out j hj)))
            have HS9 : Hid (St w0 w9 p d) := Lib.hid ⟨(HS3.out.step (World.grownBy_alloc _ _ none)).1.kept hg9 (fun j hj => by have := HRB.out j hj; have := HD.out d rfl; omega), grown_then (HS3.out.step (World.grownBy_alloc _ _ none)).2.1 hg9 (fun j hj => .inl (by have := HRB.out j hj; have := HZ.out; omega)), HS3.out.2.2⟩
            have HX9 : Hid (∀ x ∈ xs ++ [x3], -16 ≤ x ∧ x ≤ 16) := Lib.hid (mem_snoc hxb.out HX3.out)
            have HL9 : Hid ((xs ++ [x3]).length = q + 1) := Lib.hid (by have := hxl.out; simp; omega)
            clear ho9 hg9 hb9 hr9 hm9
            go_wp2_with fail
            go_roundw
            case rel => exact ⟨q + 1, xs ++ [x3], by go_num, by omega, HL9, HX9, HR9, HM9, HS9, HG9⟩
            case measure => simp [intOf]; omega
        · obtain rfl : q = c := by omega
          have e2 : ¬ (q : Int) < (q : Int) := by omega
          have HB9 : Hid (∀ x ∈ xs, -9223372036854775808 ≤ x ∧ x ≤ 9223372036854775807) := Lib.hid (fun x hx => by have := hxb.out x hx; omega)
          obtain ⟨ax, cx, rfl⟩ := ownI_sl' hR.out.1
          go_wp2_with (at_builtin; refine app_row rfl _ _ rfl w.heap.size u7 ps rfl (hM.out.own.same (World.grownBy_alloc _ _ none)) wr.heap.size (.slice ax xs.length cx, xs) rfl (cell_new rfl) ((hR.out.1.row HB9.out).same (World.grownBy_alloc _ _ none)) (fun g hg => (hR.out.2 g hg).1) (by have := hl.out; omega) (Nat.le_trans hG.out.size (World.grownBy_alloc _ _ none).size) ?_)
          intro v9 w9 ho9 hg9
          have hm9 := MatO.push (hM.out.same (World.grownBy_alloc wr (.cells #[.slice ax xs.length cx] 22) none)) (q := (.slice ax xs.length cx, xs)) ((hR.out.1).kept (World.grownBy_alloc _ _ none) (by simp)) hR.out.2 ho9 hg9
          have HM9 := Lib.hid hm9
          have HRB : Hid (∀ j, u7.ownBlock = some j → w.heap.size ≤ j) := Lib.hid (fun j hj => (hM.out.own.fresh j hj).1)
          have HG9 : Hid (w.grownBy w9 (some d)) := Lib.hid (grown_then (grown_aft hG.out) hg9 (fun j hj => .inl (HRB.out j hj)))
          have HS9 : Hid (St w0 w9 p d) := Lib.hid ⟨(hS.out.step (World.grownBy_alloc _ _ none)).1.kept hg9 (fun j hj => by have := HRB.out j hj; have := HD.out d rfl; omega), grown_then (hS.out.step (World.grownBy_alloc _ _ none)).2.1 hg9 (fun j hj => .inl (by have := HRB.out j hj; have := HZ.out; omega)), hS.out.2.2⟩
          have HD9 : Hid (DealtM q (ps ++ [(.slice ax xs.length cx, xs)])) := Lib.hid (fun p hp => by
            rcases List.mem_append.1 hp with hp | hp
            · exact hdm.out p hp
            · rw [List.mem_singleton.1 hp]; exact ⟨hxl.out, hxb.out⟩)
          have HL9 : Hid ((ps ++ [(Value.slice ax xs.length cx, xs)]).length = k + 1) := Lib.hid (by have := hl.out; simp; omega)
          clear ho9 hg9 hm9
          go_wp2_with fail
          go_roundw
          case rel => exact ⟨k + 1, _, by go_num, by omega, HL9, HD9, HM9, HS9, HG9⟩
          case measure => simp [intOf]; omega
    · obtain rfl : k = r := by omega
      have e1 : ¬ (k : Int) < (k : Int) := by omega
      go_wp2_with fail
      go_ret
      exact ⟨_, ps, rfl, hl.out, hdm.out, hM.out, hS.out, hG.out⟩

end Go.Proofs.YtpnghgihepnepaaDoor
