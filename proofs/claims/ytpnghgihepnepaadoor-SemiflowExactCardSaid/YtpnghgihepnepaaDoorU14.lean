/- Texts Wp, Wk in one. -/
import Derived.Test.YtpnghgihepnepaaDoorU13
import Derived.Test.YtpnghgihepnepaaDoorRows
namespace Go.Proofs.YtpnghgihepnepaaDoor
open Go.RowKit
set_option linter.unusedVariables false

def letterB (x : Int) : Bool := decide (0 ≤ x) && decide (x < 16)
def validW (xs : List Int) : Bool := decide (xs.length ≤ 12) && xs.all letterB
/-- The least places of a in b, from an index on. -/
def placesL : List Int → List Int → Nat → Option (List Int)
  | [], _, _ => some []
  | _ :: _, [], _ => none
  | x :: xs, y :: ys, i => if x = y then (placesL xs ys (i + 1)).map (fun l => (i : Int) :: l) else placesL (x :: xs) ys (i + 1)
def embedR (a b : List Int) : Option (List Int) := if validW a && validW b then placesL a b 0 else none
def leqW (a b : List Int) : Bool := (embedR a b).isSome
/-- Are the places ascending indices of b behind 'before', with the letters of a? -/
def provesL (b : List Int) : List Int → List Int → Int → Bool
  | [], [], _ => true
  | x :: xs, p :: ps, before => decide (before < p) && decide (p < b.length) && (b[p.toNat]?.getD 0 == x) && provesL b xs ps p
  | _, _, _ => false
def provesW (a b ps : List Int) : Bool := validW a && validW b && provesL b a ps (-1)

theorem validW_false {xs : List Int} {k : Nat} (h : (xs.take k).all letterB = false) : validW xs = false := by
  rw [validW, all_of_false _ _ _ h, Bool.and_false]
theorem validW_le {xs : List Int} (h : validW xs = true) : xs.length ≤ 12 ∧ ∀ x ∈ xs, 0 ≤ x ∧ x < 16 := by
  unfold validW at h
  rw [Bool.and_eq_true, List.all_eq_true] at h
  refine ⟨by simpa using h.1, fun x hx => ?_⟩
  have := h.2 x hx
  unfold letterB at this
  simpa using this

/-- The places that are found in the first letters of b: a fold. -/
def place1 (a acc : List Int) (i : Nat) (y : Int) : List Int := if acc.length < a.length ∧ a[acc.length]?.getD 0 = y then acc ++ [(i : Int)] else acc
def greedy (a : List Int) : List Int → Nat → List Int → List Int
  | [], _, acc => acc
  | y :: ys, i, acc => greedy a ys (i + 1) (place1 a acc i y)
theorem greedy_snoc (a : List Int) : ∀ (l : List Int) (y : Int) (i : Nat) (acc : List Int), greedy a (l ++ [y]) i acc = place1 a (greedy a l i acc) (i + l.length) y
  | [], y, i, acc => rfl
  | z :: l, y, i, acc => by
    simp only [List.cons_append, greedy]
    rw [greedy_snoc a l y (i + 1), List.length_cons, show i + 1 + l.length = i + (l.length + 1) by omega]
theorem greedy_take (a b : List Int) (k : Nat) (h : k < b.length) : greedy a (b.take (k + 1)) 0 [] = place1 a (greedy a (b.take k) 0 []) k (b[k]?.getD 0) := by
  rw [take_snoc' b k h, greedy_snoc, List.length_take, Nat.min_eq_left (Nat.le_of_lt h), Nat.zero_add]
theorem greedy_len (a : List Int) : ∀ (l : List Int) (i : Nat) (acc : List Int), acc.length ≤ a.length → (greedy a l i acc).length ≤ a.length
  | [], i, acc, h => by simpa [greedy] using h
  | z :: l, i, acc, h => by
    unfold greedy
    apply greedy_len
    unfold place1
    split
    · simp; omega
    · exact h
theorem greedy_places : ∀ (l a : List Int) (i : Nat) (acc : List Int), acc.length ≤ a.length →
    greedy a l i acc = (match placesL (a.drop acc.length) l i with | some ps => acc ++ ps | none => greedy a l i acc) ∧
    (placesL (a.drop acc.length) l i).isSome = decide ((greedy a l i acc).length = a.length)
  | [], a, i, acc, h => by
    unfold greedy
    by_cases he : acc.length = a.length
    · rw [he, List.drop_length]; simp [placesL]
    · rw [List.drop_eq_getElem_cons (by omega)]; simp [placesL, he]
  | y :: l, a, i, acc, h => by
    unfold greedy place1
    by_cases he : acc.length = a.length
    · rw [if_neg (by omega)]
      have ih := greedy_places l a (i + 1) acc h
      rw [he, List.drop_length] at ih ⊢
      simp only [placesL, List.append_nil] at ih ⊢
      exact ⟨ih.1, ih.2⟩
    · have hlt : acc.length < a.length := by omega
      rw [List.drop_eq_getElem_cons hlt]
      have hg : a[acc.length]?.getD 0 = a[acc.length] := by simp [hlt]
      by_cases hy : a[acc.length] = y
      · rw [if_pos ⟨hlt, by rw [hg]; exact hy⟩]
        have ih := greedy_places l a (i + 1) (acc ++ [(i : Int)]) (by simp; omega)
        rw [show (acc ++ [(i : Int)]).length = acc.length + 1 by simp] at ih
        unfold placesL
        rw [if_pos hy]
        cases hp : placesL (a.drop (acc.length + 1)) l (i + 1) with
        | none => rw [hp] at ih; exact ⟨by simp, by simpa using ih.2⟩
        | some ps => rw [hp] at ih; exact ⟨by simpa using ih.1, by simpa using ih.2⟩
      · rw [if_neg (by rw [hg]; omega)]
        have ih := greedy_places l a (i + 1) acc h
        rw [List.drop_eq_getElem_cons hlt] at ih
        unfold placesL
        rw [if_neg hy]
        exact ih
theorem greedy_some {a b : List Int} (h : (greedy a b 0 []).length = a.length) : placesL a b 0 = some (greedy a b 0 []) := by
  have := greedy_places b a 0 [] (Nat.zero_le _)
  simp only [List.length_nil, List.drop_zero, h, decide_true, List.nil_append] at this
  cases hp : placesL a b 0 with
  | none => rw [hp] at this; simp at this
  | some ps => rw [hp] at this; rw [this.1]
theorem greedy_none {a b : List Int} (h : (greedy a b 0 []).length ≠ a.length) : placesL a b 0 = none := by
  have := (greedy_places b a 0 [] (Nat.zero_le _)).2
  simpa [h] using this

/-- The last of some places, or what was before. -/
def lastP : List Int → Int → Int
  | [], before => before
  | p :: ps, _ => lastP ps p
theorem lastP_snoc : ∀ (ps : List Int) (p before : Int), lastP (ps ++ [p]) before = p
  | [], _, _ => rfl
  | _ :: ps, p, _ => lastP_snoc ps p _
def okP (b : List Int) (x p before : Int) : Bool := decide (before < p) && decide (p < b.length) && (b[p.toNat]?.getD 0 == x)
theorem provesL_cons (b : List Int) (x p : Int) (xs ps : List Int) (before : Int) : provesL b (x :: xs) (p :: ps) before = (okP b x p before && provesL b xs ps p) := rfl
theorem provesL_snoc (b : List Int) : ∀ (xs ps : List Int) (x p before : Int), xs.length = ps.length → provesL b (xs ++ [x]) (ps ++ [p]) before = (provesL b xs ps before && okP b x p (lastP ps before))
  | [], [], x, p, before, _ => by
    show (okP b x p before && true) = (true && okP b x p before)
    rw [Bool.and_true, Bool.true_and]
  | [], _ :: _, _, _, _, h => by simp at h
  | _ :: _, [], _, _, _, h => by simp at h
  | y :: xs, q :: ps, x, p, before, h => by
    simp only [List.cons_append, provesL_cons, lastP]
    rw [provesL_snoc b xs ps x p q (by simpa using h), Bool.and_assoc]
theorem provesL_split (b a ps : List Int) (k : Nat) (h : a.length = ps.length) (hk : k < a.length) :
    provesL b (a.take (k + 1)) (ps.take (k + 1)) (-1) = (provesL b (a.take k) (ps.take k) (-1) && okP b (a[k]?.getD 0) (ps[k]?.getD 0) (lastP (ps.take k) (-1))) := by
  rw [take_snoc' a k hk, take_snoc' ps k (by omega), provesL_snoc _ _ _ _ _ _ (by simp; omega)]
theorem provesL_false (b : List Int) : ∀ (a ps : List Int) (k : Nat) (before : Int), provesL b (a.take k) (ps.take k) before = false → a.length = ps.length → provesL b a ps before = false
  | [], [], k, before, h, _ => by simp [provesL] at h
  | [], _ :: _, _, _, _, h => by simp at h
  | _ :: _, [], _, _, _, h => by simp at h
  | x :: xs, p :: ps, 0, before, h, _ => by simp [provesL] at h
  | x :: xs, p :: ps, k + 1, before, h, hl => by
    simp only [List.take_succ_cons, provesL_cons, Bool.and_eq_false_iff] at h ⊢
    rcases h with h | h
    · exact .inl h
    · exact .inr (provesL_false b xs ps k p h (by simpa using hl))
theorem provesL_len (b : List Int) : ∀ (a ps : List Int) (before : Int), provesL b a ps before = true → a.length = ps.length
  | [], [], _, _ => rfl
  | [], _ :: _, _, h => by simp [provesL] at h
  | _ :: _, [], _, h => by simp [provesL] at h
  | x :: xs, p :: ps, before, h => by
    simp only [provesL_cons, Bool.and_eq_true] at h
    have := provesL_len b xs ps p h.2
    simp [this]

end Go.Proofs.YtpnghgihepnepaaDoor

namespace Go.Proofs.YtpnghgihepnepaaDoor
open Go.RowKit
set_option linter.unusedVariables false

theorem nan_any (x : Int) (w : World) :
    Calls Tryd.prog 68 #[.int .i64 x] w fun e w' => e = .returned (.bool false) ∧ w' = w := by
  go_enter Tryd.func68, Tryd.ntmps68
  go_wp2
  go_ret
  exact ⟨by simp, rfl⟩
theorem cmp_any (x y : Int) (w : World) :
    Calls Tryd.prog 50 #[.int .i64 x, .int .i64 y] w fun e w' => e = .returned (.int .i64 (orderI x y)) ∧ w' = w := by
  by_cases h1 : x < y
  · go_enter Tryd.func50, Tryd.ntmps50
    go_wp2_with (go_at_call 68; refine (nan_any _ _).mono ?_; rintro e w' ⟨rfl, rfl⟩)
    go_ret
    exact ⟨ret_int (by unfold orderI; rw [if_pos (by omega)]), rfl⟩
  · by_cases h2 : y < x
    · go_enter Tryd.func50, Tryd.ntmps50
      go_wp2_with (go_at_call 68; refine (nan_any _ _).mono ?_; rintro e w' ⟨rfl, rfl⟩)
      go_ret
      exact ⟨ret_int (by unfold orderI; rw [if_neg (by omega), if_pos (by omega)]), rfl⟩
    · go_enter Tryd.func50, Tryd.ntmps50
      go_wp2_with (go_at_call 68; refine (nan_any _ _).mono ?_; rintro e w' ⟨rfl, rfl⟩)
      go_ret
      exact ⟨ret_int (by unfold orderI; rw [if_neg (by omega), if_neg (by omega)]), rfl⟩

theorem slcmp_any (va vb : Value) (xs ys : List Int) (w : World) (h : Ints w va xs) (h' : Ints w vb ys) (hl' : xs.length = ys.length) :
    Calls Tryd.prog 33 #[va, vb] w fun e w' => e = .returned (.int .i64 (lexI xs ys)) ∧ w' = w := by
  obtain ⟨a, cap, rfl, hl, hb, hc⟩ := h
  obtain ⟨a', cap', rfl, hl1, hb', hc'⟩ := h'
  unfold maxLen at hl hl1
  clear hb hb'
  have HE := Lib.hid hl'
  have hle : xs.length ≤ ys.length := by omega
  have hge : ys.length ≤ xs.length := by omega
  clear hl'
  go_enter Tryd.func33, Tryd.ntmps33
  go_wp2
  go_loop [11] (fun i => ∃ k : Nat, k ≤ xs.length ∧ i = .int .i64 k ∧ lexI (xs.take k) (ys.take k) = 0) (fun i => xs.length - (intOf i).toNat)
  case atStart => exact ⟨0, Nat.zero_le _, rfl, by simp [lexI]⟩
  case round =>
    obtain ⟨k, hk, rfl, ha⟩ := hrel
    have HA := Lib.hid ha
    clear ha
    by_cases hlt : k < xs.length
    · have hlt' : k < ys.length := by omega
      have HS := Lib.hid (lexI_snoc xs ys k hlt hlt' HA.out)
      have HT := Lib.hid (lexI_at xs ys k hlt hlt' HA.out)
      obtain ⟨b, off, rfl, hx⟩ := Ints.at hc hlt
      obtain ⟨b', off', rfl, hx'⟩ := Ints.at hc' hlt'
      have h1 : (k : Int) < (xs.length : Int) := by omega
      have h2 : (k : Int) < (ys.length : Int) := by omega
      clear hc hc'
      generalize xs[k]?.getD 0 = x at *
      generalize ys[k]?.getD 0 = y at *
      by_cases hp : orderI x y = 0
      · have HP := Lib.hid hp
        have h3 : (orderI x y != 0) = false := by simp [hp]
        clear hp
        go_wp2_with (go_at_call 50; refine (cmp_any _ _ _).mono ?_; rintro e w' ⟨rfl, rfl⟩)
        go_round
        case rel => exact ⟨k + 1, by omega, by go_num, by rw [HS.out, HP.out]⟩
        case measure => simp [intOf]; omega
      · have HP := Lib.hid hp
        have h3 : (orderI x y != 0) = true := by simp [hp]
        clear hp
        go_wp2_with (go_at_call 50; refine (cmp_any _ _ _).mono ?_; rintro e w' ⟨rfl, rfl⟩)
        go_ret
        exact ⟨ret_int (HT.out HP.out).symm, rfl⟩
    · clear hc hc'
      go_wp2
      go_ret
      exact ⟨ret_int (by have ha := HA.out; rw [List.take_of_length_le (by omega), List.take_of_length_le (by have := HE.out; omega)] at ha; rw [ha]), rfl⟩

theorem lexI_neg : ∀ a b : List Int, lexI b a = -lexI a b
  | [], [] => by simp [lexI]
  | [], _ :: _ => by simp [lexI]
  | _ :: _, [] => by simp [lexI]
  | x :: xs, y :: ys => by
    have := lexI_neg xs ys
    unfold lexI
    split <;> split <;> first | omega | (split <;> omega) | skip
theorem lexI_range : ∀ a b : List Int, lexI a b = -1 ∨ lexI a b = 0 ∨ lexI a b = 1
  | [], [] => by simp [lexI]
  | [], _ :: _ => by simp [lexI]
  | _ :: _, [] => by simp [lexI]
  | x :: xs, y :: ys => by
    have := lexI_range xs ys
    unfold lexI
    split
    · omega
    · split <;> omega
theorem compareI_neg (a b : List Int) : compareI b a = -compareI a b := by
  have := lexI_neg a b
  unfold compareI
  split <;> split <;> first | omega | (split <;> omega) | skip
theorem lexI_trans : ∀ a b c : List Int, a.length = b.length → b.length = c.length → lexI a b ≤ 0 → lexI b c ≤ 0 → lexI a c ≤ 0
  | [], [], [], _, _, _, _ => by simp [lexI]
  | x :: xs, y :: ys, z :: zs, h, h', h1, h2 => by
    have := lexI_trans xs ys zs (by simpa using h) (by simpa using h')
    unfold lexI at h1 h2 ⊢
    split at h1 <;> split at h2 <;> split <;> first | omega | (split at h1 <;> first | omega | (split at h2 <;> first | omega | (split <;> first | omega | (apply this <;> omega)))) | (split at h2 <;> first | omega | (split <;> omega)) | (split at h1 <;> first | omega | (split <;> omega))
theorem cmp_trans (a b c : List Int) (h : compareI a b ≤ 0) : compareI b c ≤ 0 → compareI a c ≤ 0 := by
  intro h'
  have := lexI_trans a b c
  unfold compareI at h h' ⊢
  split
  · omega
  · split
    · split at h <;> split at h' <;> first | omega | (split at h <;> first | omega | (split at h' <;> omega)) | (split at h' <;> omega)
    · apply this
      all_goals (split at h <;> split at h' <;> first | omega | (split at h <;> first | omega | (split at h' <;> omega)) | (split at h' <;> omega))

end Go.Proofs.YtpnghgihepnepaaDoor
