/- hilbert.extend: all vectors that begin with some elements, handed out in a buffer of the iterator's own. -/
import Derived.Test.YtgcfafjgaifmiaaEd
import Derived.Test.YtgcfafjgaifmiaaEa
namespace Go.Proofs.Ytgcfafjgaifmiaa
open Go.RowKit Go.Shelf
set_option linter.unusedVariables false
attribute [local go_sem] Oper.semAt_some

/-- The buffer: block bf with c elements, of which the first are front. -/
def Buf (W : World) (bf c fl : Nat) (front : List Int) : Prop := W.ownsRow bf 3 1 (.slice (some ⟨bf, 0, none⟩) fl c) fl (front.map (Value.int .i64))
theorem Buf.len {W : World} {bf c fl : Nat} {front : List Int} (h : Buf W bf c fl front) : front.length = fl := by have := h.1; simpa using this
theorem Buf.fl_le {W : World} {bf c fl : Nat} {front : List Int} (h : Buf W bf c fl front) : fl ≤ c := by
  rcases h.2 with ⟨h', _⟩ | ⟨g, cap, cur, h', _, _, hn, _⟩
  · cases h'
  · simp only [Value.slice.injEq] at h'; omega
theorem Buf.lt {W : World} {bf c fl : Nat} {front : List Int} (h : Buf W bf c fl front) : bf < W.heap.size := by
  rcases h.2 with ⟨h', _⟩ | ⟨g, cap, cur, h', _, hb, _⟩
  · cases h'
  · simp only [Value.slice.injEq, Option.some.injEq, Addr.mk.injEq, and_true] at h'
    obtain ⟨rfl, -⟩ := h'
    exact (Array.getElem?_eq_some_iff.1 hb).1
theorem Buf.cells {W : World} {bf c fl : Nat} {front : List Int} (h : Buf W bf c fl front) : ∃ o : Obj, W.heap[bf]? = some o ∧ o.isCells = true := by
  rcases h.2 with ⟨h', _⟩ | ⟨g, cap, cur, h', _, hb, _⟩
  · cases h'
  · simp only [Value.slice.injEq, Option.some.injEq, Addr.mk.injEq, and_true] at h'
    obtain ⟨rfl, -⟩ := h'
    exact ⟨_, hb, rfl⟩
theorem Buf.blk {W W' : World} {bf c fl : Nat} {front : List Int} (h : Buf W bf c fl front) (e : W'.heap[bf]? = W.heap[bf]?) : Buf W' bf c fl front := by
  refine ⟨h.1, ?_⟩
  rcases h.2 with ⟨h', _⟩ | ⟨g, cap, cur, h', h1, hb, h2⟩
  · cases h'
  · have h'' := h'
    simp only [Value.slice.injEq, Option.some.injEq, Addr.mk.injEq, and_true] at h''
    obtain ⟨rfl, -⟩ := h''
    exact .inr ⟨_, cap, cur, h', h1, e.trans hb, h2⟩
theorem Buf.same {W W' : World} {bf c fl : Nat} {front : List Int} (h : Buf W bf c fl front) {row : Option Nat} (g : W.grownBy W' row) (hr : row ≠ some bf) : Buf W' bf c fl front := h.blk (g.block bf h.lt (fun e => hr e.symm))
/-- Without its last element. -/
theorem Buf.pop {W : World} {bf c fl : Nat} {front : List Int} {x : Int} (h : Buf W bf c (fl + 1) (front ++ [x])) : Buf W bf c fl front := by
  have hl := h.len
  rw [List.length_append, List.length_singleton] at hl
  refine ⟨by simp; omega, ?_⟩
  rcases h.2 with ⟨h', _⟩ | ⟨g, cap, cur, h', h1, hb, hn, hm, hc, ht⟩
  · cases h'
  · simp only [Value.slice.injEq, Option.some.injEq, Addr.mk.injEq, and_true] at h'
    obtain ⟨rfl, -, rfl⟩ := h'
    refine .inr ⟨_, _, cur, rfl, Nat.le_refl _, hb, by omega, hm, hc, ?_⟩
    have := congrArg (List.take (fl * 1)) ht
    rw [List.take_take, Nat.min_eq_left (by omega)] at this
    rw [this, List.map_append, List.take_append_of_le_length (by simp; omega), List.take_of_length_le (by simp; omega)]
theorem Buf.ints {W : World} {bf c fl : Nat} {front : List Int} (h : Buf W bf c fl front) (hb : ∀ x ∈ front, -9223372036854775808 ≤ x ∧ x ≤ 9223372036854775807) : Ints W (.slice (some ⟨bf, 0, none⟩) fl c) front :=
  OwnI.ints (base := bf) (by unfold OwnI; have := h.len; rw [this]; exact h) hb

/-- What a loop keeps of the buffer. -/
def KpB (bf : Nat) (W W' : World) : Prop := W'.heap[bf]? = W.heap[bf]?
theorem KpB.trans {bf : Nat} {A B C : World} (h : KpB bf A B) (k : KpB bf B C) : KpB bf A C := Eq.trans k h
def ExtTo (I : List (List Int) → World → Prop) (B : World → Prop) (bf c fl : Nat) (xs : List (List Int)) (front : List Int) (e : Ending) (W' : World) : Prop := e = .returned (.bool true) ∧ I xs W' ∧ B W' ∧ Buf W' bf c fl front
def partV (front : List Int) (k mst x : Nat) : List (List Int) := ((List.range x).flatMap (fun y => (vecs k (mst - y)).map (fun v => (y : Int) :: v))).map (front ++ ·)
theorem partV_next (front : List Int) (k mst x : Nat) : partV front k mst (x + 1) = partV front k mst x ++ (vecs k (mst - x)).map ((front ++ [(x : Int)]) ++ ·) := by
  unfold partV
  rw [List.range_succ, List.flatMap_append, List.map_append, List.flatMap_cons, List.flatMap_nil, List.append_nil, List.map_map]
  congr 1
  apply List.map_congr_left
  intro v _
  simp
theorem partV_len (front : List Int) (k mst x : Nat) : ∀ y, x ≤ y → (partV front k mst x).length ≤ (partV front k mst y).length
  | 0, h => by obtain rfl : x = 0 := by omega
               exact Nat.le_refl _
  | y + 1, h => by
    by_cases e : x = y + 1
    · rw [e]; exact Nat.le_refl _
    · have := partV_len front k mst x y (by omega)
      rw [partV_next front k mst y, List.length_append]
      omega
theorem vecs_len : ∀ (k m : Nat), (vecs k m).length ≤ (m + 1) ^ k
  | 0, m => by unfold vecs; simp
  | k + 1, m => by
    have key : ∀ x, x ≤ m + 1 → ((List.range x).flatMap (fun y => (vecs k (m - y)).map (fun v => (y : Int) :: v))).length ≤ x * (m + 1) ^ k := by
      intro x
      induction x with
      | zero => intro _; simp
      | succ x ih =>
        intro hx
        rw [List.range_succ, List.flatMap_append, List.length_append, List.flatMap_cons, List.flatMap_nil, List.append_nil, List.length_map, Nat.succ_mul]
        have h1 := ih (by omega)
        have h2 := vecs_len k (m - x)
        have h3 : (m - x + 1) ^ k ≤ (m + 1) ^ k := Nat.pow_le_pow_left (by omega) k
        omega
    unfold vecs
    have := key (m + 1) (Nat.le_refl _)
    rw [Nat.pow_succ, Nat.mul_comm]
    exact this
theorem anyDepthR {m m' : Nat} {P : Program} {l : Nat} {f : FuncId} {tmps : Array Value} {assign body : Code} {w : World} {R : Ending → World → Prop}
    (h : RoundIn Fence.wide m P l f tmps assign body w R) : RoundIn Fence.wide m' P l f tmps assign body w R := ⟨h.1, fun c cs _ => h.2 c cs (fun d h => by cases h)⟩
theorem anyDepthY {m : Nat} (m' : Nat) {P : Program} {l : Nat} {args : Array Value} {W : World} {R : Ending → World → Prop} (h : YieldAt Fence.wide m P l args W R) : YieldAt Fence.wide m' P l args W R := by
  obtain ⟨fn, tmps, assign, body, hy, hR⟩ := h
  exact ⟨fn, tmps, assign, body, hy, anyDepthR hR⟩
set_option maxRecDepth 100000 in
set_option maxHeartbeats 2000000 in
theorem extend_in (l bf c m N : Nat) (hc : c ≤ 6) (I : List (List Int) → World → Prop) (B : World → Prop) (hIn : ∀ xs A C, I xs A → A.grownBy C none → I xs C) (hIb : ∀ xs A C, I xs A → A.grownBy C (some bf) → I xs C)
    (hB : ∀ A C row, B A → A.grownBy C row → (∀ j, row = some j → ∃ o : Obj, A.heap[j]? = some o ∧ o.isCells = true) → B C)
    (hY : ∀ pre x W, I pre W → pre.length < N → (x.length = c ∧ ∀ z ∈ x, 0 ≤ z ∧ z ≤ 1000) → Buf W bf c c x → B W → YieldAt Fence.wide m Try.prog l #[.slice (some ⟨bf, 0, none⟩) c c] W fun e W' => e = .returned (.bool true) ∧ I (pre ++ [x]) W' ∧ KpB bf W W' ∧ B W') :
    ∀ (k : Nat) (n fl : Nat) (front : List Int) (mst : Nat) (pre : List (List Int)) (W : World), fl + k = c → mst ≤ 1000 → pre.length + (vecs k mst).length ≤ N → (∀ z ∈ front, 0 ≤ z ∧ z ≤ 1000) → I pre W → B W → Buf W bf c fl front →
      CallsIn Fence.wide n Try.prog 65 #[.slice (some ⟨bf, 0, none⟩) fl c, .int .i64 (c : Int), .int .i64 (mst : Int), .func (.yield l) #[] #[]] W (ExtTo I B bf c fl (pre ++ (vecs k mst).map (front ++ ·)) front) := by
  have hdd : ∀ k : Nat, (Fence.wide.depth.isSome = true → 1 ≤ k) := fun k h => by cases h
  intro k
  induction k with
  | zero =>
    intro n fl front mst pre W hk hmst hNN hfb hI0 hB0 hbuf
    obtain rfl : fl = c := by omega
    obtain ⟨fn, tmps, assign, body, hy, hR⟩ := anyDepthY (n - 1) (hY pre front W hI0 (by simp [vecs] at hNN; omega) ⟨hbuf.len, hfb⟩ hbuf hB0)
    have HR := Lib.hid hR; have HB := Lib.hid hbuf
    have k1 : ((fl : Int) == (fl : Int)) = true := by simp
    clear hY hIn hIb hB hI0 hB0 hbuf hR
    refine callsIn_of_wp Try.func65 rfl trivial ?_ rfl
    simp only [Try.ntmps65, List.size_toArray, List.length_cons, List.length_nil, Nat.reduceAdd, Nat.reduceSub, Array.replicate_succ, Array.replicate_zero, List.push_toArray, List.append_toArray, List.nil_append, List.cons_append]
    gi_wp2
    refine ⟨hdd _, HR.out.mono ?_⟩
    rintro e W3 ⟨rfl, hi3, hk3, hb3⟩
    have HF : Hid (ExtTo I B bf fl fl (pre ++ (vecs 0 mst).map (front ++ ·)) front (.returned (.bool true)) W3) := Lib.hid ⟨rfl, by simpa [vecs] using hi3, hb3, HB.out.blk hk3⟩
    clear hi3 hk3 hb3
    gi_wp2
    go_ret
    exact HF.out
  | succ k ih =>
    intro n fl front mst pre W hk hmst hNN hfb hI0 hB0 hbuf
    have IH := Lib.hid ih; have HIN := Lib.hid hIn; have HIB := Lib.hid hIb; have HBB := Lib.hid hB; have HFB := Lib.hid hfb
    have HS : Hid (I (pre ++ partV front k mst 0) W ∧ B W ∧ Buf W bf c fl front) := Lib.hid ⟨by simpa [partV] using hI0, hB0, hbuf⟩
    have k1 : ((fl : Int) == (c : Int)) = false := by simp; omega
    have HNN := Lib.hid hNN
    clear hNN
    have k2 : IntKind.i64.wrap ((mst : Int) + 1) = (mst : Int) + 1 := IntWalk.i64_in _ (by omega)
    obtain ⟨i0, hi, hz0, hz1, hz2⟩ := info_parts info_int
    clear hY hIn hIb hB hI0 hB0 hbuf ih hfb
    refine callsIn_of_wp Try.func65 rfl trivial ?_ rfl
    simp only [Try.ntmps65, List.size_toArray, List.length_cons, List.length_nil, Nat.reduceAdd, Nat.reduceSub, Array.replicate_succ, Array.replicate_zero, List.push_toArray, List.append_toArray, List.nil_append, List.cons_append]
    gi_wp2
    gi_loopw [19] (fun i wr => ∃ x : Nat, i = .int .i64 x ∧ x ≤ mst + 1 ∧ Hid (I (pre ++ partV front k mst x) wr ∧ B wr ∧ Buf wr bf c fl front)) (fun i wr => mst + 1 - (intOf i).toNat)
    case atStart => exact ⟨0, rfl, Nat.zero_le _, HS⟩
    case round =>
      clear HS
      obtain ⟨x, rfl, hx, HS⟩ := hrel
      by_cases hxb : x < mst + 1
      · have h3 : (x : Int) < (mst : Int) + 1 := by omega
        have i1 : IntKind.i64.wrap ((x : Int) + 1) = (x : Int) + 1 := IntWalk.i64_in _ (by omega)
        have i2 : IntKind.i64.wrap ((mst : Int) - (x : Int)) = ((mst - x : Nat) : Int) := by rw [IntWalk.i64_in _ (by omega)]; omega
        have HE := Lib.hid (partV_next front k mst x)
        have HB1 : Hid (wr.ownsRow bf 3 1 (.slice (some ⟨bf, 0, none⟩) fl c) fl (front.map (Value.int .i64))) := Lib.hid HS.out.2.2
        have hle := HS.out.2.2.fl_le
        have hkc : fl + 1 ≤ c := by omega
        gi_wp2_with (gi_at_builtin; refine wpListIn_append_fits _ rfl _ _ 22 rfl bf 3 i0 1 Try.underlying22 hi hz1 bf fl c (front.map (Value.int .i64)) rfl (HB1.out.alloc _) ⟨wr.heap.size, 0, none⟩ 1 1 [.int .i64 (x : Int)] rfl rfl (cell_one_new _ _ _) (by simp [Value.oneCell']) (by omega) ?_; intro w1 hown1 hg1)
        have HB3 : Hid (Buf w1 bf c (fl + 1) (front ++ [(x : Int)])) := Lib.hid (by unfold Buf; rw [List.map_append]; exact hown1)
        have HCB : Hid (∃ o : Obj, (wr.alloc (.cells #[.int .i64 (x : Int)] 3)).heap[bf]? = some o ∧ o.isCells = true) := Lib.hid (by
          obtain ⟨o, h1, h2⟩ := HS.out.2.2.cells
          exact ⟨o, heap_old _ h1, h2⟩)
        have HI1 : Hid (I (pre ++ partV front k mst x) w1) := Lib.hid (HIB.out _ _ _ (HIN.out _ _ _ HS.out.1 (World.grownBy_alloc _ _ none)) hg1)
        have HBB1 : Hid (B w1) := Lib.hid (HBB.out _ _ _ (HBB.out _ _ _ HS.out.2.1 (World.grownBy_alloc _ _ none) (by simp)) hg1 (fun j hj => by cases hj; exact HCB.out))
        have HFX : Hid (∀ z ∈ front ++ [(x : Int)], 0 ≤ z ∧ z ≤ 1000) := Lib.hid (fun z hz => by
          rcases List.mem_append.1 hz with h | h
          · exact HFB.out z h
          · rw [List.mem_singleton] at h; omega)
        have HFK : Hid (fl + 1 + k = c) := Lib.hid (by omega)
        have HMX : Hid (mst - x ≤ 1000) := Lib.hid (by omega)
        have HNX : Hid ((pre ++ partV front k mst x).length + (vecs k (mst - x)).length ≤ N) := Lib.hid (by
          have h1 := partV_len front k mst (x + 1) (mst + 1) (by omega)
          have h4 : (partV front k mst (x + 1)).length = (partV front k mst x).length + (vecs k (mst - x)).length := by rw [HE.out]; simp
          have h2 := HNN.out
          have h3 : (partV front k mst (mst + 1)).length = (vecs (k + 1) mst).length := by unfold partV; rw [List.length_map]; rfl
          rw [List.length_append]
          omega)
        clear hown1 hg1 hi hz0 hz1 hz2
        refine ⟨trivial, hdd _, (IH.out _ (fl + 1) (front ++ [(x : Int)]) (mst - x) _ w1 HFK.out HMX.out HNX.out HFX.out HI1.out HBB1.out HB3.out).mono ?_⟩
        rintro e W2 ⟨rfl, hi4, hb4, hbuf4⟩
        have HN : Hid (I (pre ++ partV front k mst (x + 1)) W2 ∧ B W2 ∧ Buf W2 bf c fl front) := Lib.hid ⟨by rw [HE.out, ← List.append_assoc]; exact hi4, hb4, hbuf4.pop⟩
        clear hi4 hb4 hbuf4
        gi_wp2
        go_roundw
        case rel => exact ⟨x + 1, by go_num, by omega, HN⟩
        case measure => (simp [intOf]; try omega)
      · obtain rfl : x = mst + 1 := by omega
        have h3 : ¬ (((mst + 1 : Nat)) : Int) < (mst : Int) + 1 := by omega
        have HF : Hid (ExtTo I B bf c fl (pre ++ (vecs (k + 1) mst).map (front ++ ·)) front (.returned (.bool true)) wr) := Lib.hid ⟨rfl, HS.out.1, HS.out.2.1, HS.out.2.2⟩
        gi_wp2
        go_ret
        exact HF.out
end Go.Proofs.Ytgcfafjgaifmiaa
