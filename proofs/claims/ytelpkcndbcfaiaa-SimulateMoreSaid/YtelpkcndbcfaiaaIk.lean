/- The front of Greatest and Holds: both systems are checked. -/
import Derived.Test.YtelpkcndbcfaiaaIj
import Derived.Test.YtelpkcndbcfaiaaId
import Derived.Test.YtelpkcndbcfaiaaLr
namespace Go.Proofs.Ytelpkcndbcfaiaa
open Go.RowKit
set_option linter.unusedVariables false
theorem oper_callI {a : Act} {w : World} {K : Act → World → Prop} {Q : Exit → Act → World → Prop} (d : Nat) (F : FuncId) (xs : List Operand) (tys : Array TypeId) (ty : TypeId) (pos : String) (af : Array Edge) (gd : Option (Nat × Bool))
    (fn : Func) (c : Code) (hf : Try.prog.funcs[F]? = some fn) (hname : (fn.name == "runtime.NumGoroutine") = false) (hb : fn.body = some c) (vs : List Value) (he : xs.map a.eval = vs) (Post : Ending → World → Prop) (hc : Calls Try.prog F vs.toArray w Post)
    (k : ∀ e w', Post e w' → ∃ v, e = .returned v ∧ K (a.put (some d) v) w') :
    Oper.wp Try.prog { dst := some d, op := .call { callee := .value (.func F), args := xs.toArray, argTypes := tys }, type := ty, pos := pos, after := af, guard := gd } a w K Q := by
  subst he
  unfold Oper.wp execOp
  have h1 : fn.name ≠ "runtime.NumGoroutine" := by simpa using hname
  have hrun : (callFunc F (xs.map a.eval).toArray).run Try.prog w = .ok (.enter F (xs.map a.eval).toArray) w := by simp [callFunc, hf, h1, hb]
  simp only [resolve, Deferred.ofValue, List.map_toArray]
  go_simp
  refine hc.mono ?_
  intro e w1 hp
  obtain ⟨v, rfl, hk⟩ := k e w1 hp
  exact hk
theorem wanted_noI {ops : List Oper} {o : Oper} {a : Act} (hgd : o.guard = none) : Region.wanted o (yielded ops.toArray a.tmps) = true := by simp [Region.wanted, hgd]
/-- What the operations of the front leave. -/
def FrontV (va vb : Value) (ca cb : Int) (i : Nat) (v : Value) (w : World) : Prop :=
  match i with
  | 0 => v = va
  | 1 => v = .int .i64 ca
  | 2 => v = vb
  | 3 => v = .int .i64 cb
  | 4 => ∃ G, v = .slice (some ⟨G, 0, none⟩) 2 2 ∧ w.cell? ⟨G, 0, none⟩ = some (.int .i64 ca) ∧ w.cell? ⟨G, 1, none⟩ = some (.int .i64 cb)
  | 5 | 6 => v = .int .i64 (orE ca cb)
  | _ => True
theorem FrontV.mono {va vb : Value} {ca cb : Int} (i : Nat) (v : Value) (w w' : World) (g : w.grownBy w' none) (h : FrontV va vb ca cb i v w) : FrontV va vb ca cb i v w' := by
  unfold FrontV at *
  split at h <;> first
    | exact h
    | (obtain ⟨b, h1, h2, h3⟩ := h; exact ⟨b, h1, g.cell h2 (by simp), g.cell h3 (by simp)⟩)
set_option maxRecDepth 100000 in
set_option maxHeartbeats 2000000 in
theorem greatest_front (a b : Option Addr) (n m c k : Nat) (sa sb : List ArcP) (w : World) (ha : SysL w (.slice a n c) sa) (hb : SysL w (.slice b m k) sb) (la : ∀ q ∈ sa, q.2.length ≤ 1000000000) (lb : ∀ q ∈ sb, q.2.length ≤ 1000000000) (hbad : orE (chkI sa) (chkI sb) ≠ 0) :
    Calls Try.prog 22 #[.agg #[.slice a n c], .agg #[.slice b m k]] w fun e w' => e = .returned (.tuple #[.slice none 0 0, .int .i64 (orE (chkI sa) (chkI sb))]) ∧ w.grownBy w' none := by
  have HA := Lib.hid ha; have HB := Lib.hid hb; have HLA := Lib.hid la; have HLB := Lib.hid lb; have HBAD := Lib.hid hbad
  clear ha hb la lb hbad
  go_enter Try.func22, Try.ntmps22
  go_wp2_with fail
  obtain ⟨H, hH⟩ : ∃ H, w.heap.size = H := ⟨_, rfl⟩
  rw [hH]
  obtain ⟨w2, hw2⟩ : ∃ w2, w2 = (w.alloc (.cells #[.slice a n c] 25)).alloc (.cells #[.slice b m k] 25) := ⟨_, rfl⟩
  have hg2 : w.grownBy w2 none := by rw [hw2]; exact grown_aft2 (World.grownBy_alloc _ _ _)
  have k0 : w2.cell? ⟨H, 0, none⟩ = some (.slice a n c) := by
    rw [hw2]
    refine (World.grownBy_alloc _ _ none).cell ?_ (by simp)
    rw [World.cell?, heap_new _ hH.symm]; rfl
  have k1 : w2.cell? ⟨H + 1, 0, none⟩ = some (.slice b m k) := by
    rw [hw2, World.cell?, heap_new _ (by show _ = (w.heap.push _).size; simp [hH])]; rfl
  rw [← hw2]
  have K0 := Lib.hid k0; have K1 := Lib.hid k1; have HG2 := Lib.hid hg2
  clear hw2 k0 k1 hg2 hH
  refine wp_told (FrontV (.agg #[.slice a n c]) (.agg #[.slice b m k]) (chkI sa) (chkI sb)) (by kernel_rfl) (by kernel_rfl) FrontV.mono ?_ ?_
  · refine ⟨?_, ?_, ?_, ?_, ?_, ?_, ?_, trivial⟩
    · intro x w3 hx hg hd
      have e0 : x.eval (.tmp 2) = .pointer (some ⟨H, 0, none⟩) := (hx.eval (s := 2) (by decide)).trans rfl
      have c0 := hg.cell K0.out (by simp)
      refine .inl ⟨wanted_noI rfl, ?_⟩
      unfold Oper.wp
      simp only [execOp, e0]
      go_simp
      exact ⟨_, rfl, rfl, grown_refl _ _⟩
    · intro x w3 hx hg hd
      have e0 : x.eval (.tmp 12) = .agg #[.slice a n c] := hd 0 (by decide) 12 rfl
      exact .inl ⟨wanted_noI rfl, oper_callI 13 17 _ _ _ _ _ _ Try.f17 _ Try.func17 (by kernel_rfl) rfl [.agg #[.slice a n c]] (by simp only [List.map_cons, List.map_nil]; rw [e0]) _ (Check_any _ sa _ ⟨_, rfl, HA.out.same (grown_trans HG2.out hg)⟩ HLA.out) (fun e w4 hh => ⟨_, hh.1, _, rfl, rfl, hh.2⟩)⟩
    · intro x w3 hx hg hd
      have e0 : x.eval (.tmp 3) = .pointer (some ⟨H + 1, 0, none⟩) := (hx.eval (s := 3) (by decide)).trans rfl
      have c0 := hg.cell K1.out (by simp)
      refine .inl ⟨wanted_noI rfl, ?_⟩
      unfold Oper.wp
      simp only [execOp, e0]
      go_simp
      exact ⟨_, rfl, rfl, grown_refl _ _⟩
    · intro x w3 hx hg hd
      have e0 : x.eval (.tmp 14) = .agg #[.slice b m k] := hd 2 (by decide) 14 rfl
      exact .inl ⟨wanted_noI rfl, oper_callI 15 17 _ _ _ _ _ _ Try.f17 _ Try.func17 (by kernel_rfl) rfl [.agg #[.slice b m k]] (by simp only [List.map_cons, List.map_nil]; rw [e0]) _ (Check_any _ sb _ ⟨_, rfl, HB.out.same (grown_trans HG2.out hg)⟩ HLB.out) (fun e w4 hh => ⟨_, hh.1, _, rfl, rfl, hh.2⟩)⟩
    · intro x w3 hx hg hd
      have e0 : x.eval (.tmp 13) = .int .i64 (chkI sa) := hd 1 (by decide) 13 rfl
      have e1 : x.eval (.tmp 15) = .int .i64 (chkI sb) := hd 3 (by decide) 15 rfl
      refine .inl ⟨wanted_noI rfl, ?_⟩
      unfold Oper.wp
      simp only [execOp]
      simp only [List.map_toArray, List.map_cons, List.map_nil, e0, e1]
      go_simp
      exact ⟨_, rfl, ⟨w3.heap.size, rfl, by rw [World.cell?, heap_new _ rfl]; rfl, by rw [World.cell?, heap_new _ rfl]; rfl⟩, World.grownBy_alloc _ _ none⟩
    · intro x w3 hx hg hd
      obtain ⟨G, e0, c0, c1⟩ := hd 4 (by decide) 16 rfl
      exact .inl ⟨wanted_noI rfl, oper_callI 17 43 _ _ _ _ _ _ Try.f43 _ Try.func43 (by kernel_rfl) rfl [.slice (some ⟨G, 0, none⟩) 2 2] (by simp only [List.map_cons, List.map_nil]; rw [e0]) _ (or_any (chkI sa) (chkI sb) G w3 c0 c1) (fun e w4 hh => ⟨_, hh.1, _, rfl, rfl, hh.2 ▸ grown_refl _ _⟩)⟩
    · intro x w3 hx hg hd
      have e0 : x.eval (.tmp 17) = .int .i64 (orE (chkI sa) (chkI sb)) := hd 5 (by decide) 17 rfl
      refine .inl ⟨wanted_noI rfl, ?_⟩
      unfold Oper.wp
      simp only [execOp, e0]
      go_simp
      exact ⟨_, rfl, rfl, grown_refl _ _⟩
  · intro vs w3 g2 hv
    have e6 : vs 6 = .int .i64 (orE (chkI sa) (chkI sb)) := hv 6 6 rfl
    have GG := Lib.hid (grown_trans HG2.out g2)
    have d1 : (orE (chkI sa) (chkI sb) != 0) = true := by simpa using HBAD.out
    simp only [putAll, Nat.reduceAdd, e6]
    clear hv e6 g2
    obtain ⟨E, hE⟩ : ∃ E, orE (chkI sa) (chkI sb) = E := ⟨_, rfl⟩
    have HE := Lib.hid hE
    rw [hE] at d1
    go_simp
    try rw [hE]
    clear hE
    go_wp2_with fail
    ((try simp only [Exit.inBlock, Exit.then]); refine bodyPost_ret (results_tmp2 rfl _ _ _) rfl ?_)
    exact ⟨by rw [HE.out]; rfl, GG.out⟩
end Go.Proofs.Ytelpkcndbcfaiaa
