/- Texts Bg in one. -/
import Derived.Test.YtpnghgihepnepaaDoorU13
namespace Go.Proofs.YtpnghgihepnepaaDoor
open Go.RowKit
set_option linter.unusedVariables false

def prodR (bs : List Row) (n : Nat) (row : List Int) : List Int := (List.range n).map (fun j => dotL row (colL bs j))
theorem prodR_len (bs : List Row) (n : Nat) (row : List Int) : (prodR bs n row).length = n := by unfold prodR; simp
theorem prodR_at {bs : List Row} {n j : Nat} (row : List Int) (hj : j < n) : (prodR bs n row)[j]?.getD 0 = dotL row (colL bs j) := by
  unfold prodR; rw [List.getElem?_map, List.getElem?_range hj]; rfl
def prA (F : Nat → List Int) (i t : Nat) : List Int := if t < i then F t else []
def prB (F : Nat → List Int) (n i j t : Nat) : List Int := if t < i then F t else if t = i then half (F i) (List.replicate n 0) j else []
def prC (F : Nat → List Int) (n i j : Nat) (z : Int) (t : Nat) : List Int := if t < i then F t else if t = i then (half (F i) (List.replicate n 0) j).set j z else []
theorem prB_new {F : Nat → List Int} {n r i : Nat} {ts : List Row} (h : TurR (prA F i) r ts) (hi : i < r) (v : Value) : TurR (prB F n i 0) r (ts.set i (v, List.replicate n 0)) := by
  refine ⟨by rw [List.length_set]; exact h.1, fun t ht => ?_⟩
  rw [List.getElem_set]
  unfold prB
  by_cases e : i = t
  · subst e; rw [if_pos rfl, if_neg (by omega), if_pos rfl, half_zero]
  · rw [if_neg e, h.2 t (by simpa using ht)]
    unfold prA
    by_cases e2 : t < i
    · rw [if_pos e2, if_pos e2]
    · rw [if_neg e2, if_neg e2, if_neg (fun h => e h.symm)]
theorem set_self {l : List Int} {j : Nat} {z : Int} (hj : j < l.length) (h : l[j]?.getD 0 = z) : l.set j z = l := by
  apply List.ext_getElem (by simp)
  intro t h1 h2
  rw [List.getElem_set]
  split
  · rename_i e; subst e; rw [List.getElem?_eq_getElem hj] at h; exact h.symm
  · rfl
theorem prC_start {F : Nat → List Int} {n r i j : Nat} {ts : List Row} (hF : ∀ t, t < r → (F t).length = n) (hi : i < r) (hj : j < n) (h : TurR (prB F n i j) r ts) : TurR (prC F n i j 0) r ts := by
  refine ⟨h.1, fun t ht => ?_⟩
  rw [h.2 t ht]
  unfold prB prC
  have hl : (F i).length = (List.replicate n (0 : Int)).length := by rw [hF i hi, List.length_replicate]
  rw [set_self (by rw [half_len hl (by rw [List.length_replicate]; omega), List.length_replicate]; exact hj) (by rw [half_at hl (by rw [List.length_replicate]; exact hj), List.getElem?_replicate, if_pos hj]; rfl)]
theorem prC_set {F : Nat → List Int} {n r i j : Nat} {z z' : Int} {ts : List Row} (h : TurR (prC F n i j z) r ts) (hi : i < ts.length) : TurR (prC F n i j z') r (ts.set i (ts[i].1, ts[i].2.set j z')) := by
  refine ⟨by rw [List.length_set]; exact h.1, fun t ht => ?_⟩
  rw [List.getElem_set]
  by_cases e : i = t
  · subst e
    rw [if_pos rfl]
    have h1 := h.2 i hi
    unfold prC at h1 ⊢
    rw [if_neg (by omega), if_pos rfl] at h1 ⊢
    dsimp only
    rw [h1, List.set_set]
  · rw [if_neg e, h.2 t (by simpa using ht)]
    unfold prC
    by_cases e2 : t < i
    · rw [if_pos e2, if_pos e2]
    · rw [if_neg e2, if_neg e2, if_neg (fun h => e h.symm), if_neg (fun h => e h.symm)]
theorem prC_end {F : Nat → List Int} {n r i j : Nat} {z : Int} {ts : List Row} (hF : ∀ t, t < r → (F t).length = n) (hi : i < r) (hj : j < n) (hz : (F i)[j]?.getD 0 = z) (h : TurR (prC F n i j z) r ts) : TurR (prB F n i (j + 1)) r ts := by
  refine ⟨h.1, fun t ht => ?_⟩
  rw [h.2 t ht]
  unfold prB prC
  have hl : (F i).length = (List.replicate n (0 : Int)).length := by rw [hF i hi, List.length_replicate]
  rw [← hz, half_next hl (by rw [List.length_replicate]; exact hj)]
theorem prB_end {F : Nat → List Int} {n r i : Nat} {ts : List Row} (hF : ∀ t, t < r → (F t).length = n) (hi : i < r) (h : TurR (prB F n i n) r ts) : TurR (prA F (i + 1)) r ts := by
  refine ⟨h.1, fun t ht => ?_⟩
  rw [h.2 t ht]
  unfold prB prA
  have hl : (F i).length = (List.replicate n (0 : Int)).length := by rw [hF i hi, List.length_replicate]
  have hf := half_full hl
  rw [List.length_replicate] at hf
  by_cases e : t < i
  · rw [if_pos e, if_pos (by omega)]
  · rw [if_neg e]
    by_cases e2 : t = i
    · subst e2; rw [if_pos rfl, if_pos (by omega), hf]
    · rw [if_neg e2, if_neg (by omega)]
theorem prA_start (F : Nat → List Int) (r : Nat) : TurR (prA F 0) r (List.replicate r (.slice none 0 0, [])) := by
  refine ⟨by simp, fun t ht => ?_⟩
  rw [List.getElem_replicate]
  unfold prA; rw [if_neg (by omega)]
def prodM (ms bs : List Row) (n : Nat) : List (List Int) := ms.map (fun q => prodR bs n q.2)
def prF (ms bs : List Row) (n : Nat) (t : Nat) : List Int := prodR bs n (ms[t]?.getD rowN).2
theorem prF_len (ms bs : List Row) (n t : Nat) : (prF ms bs n t).length = n := prodR_len _ _ _
theorem prA_end {ms bs : List Row} {n : Nat} {ts : List Row} (h : TurR (prA (prF ms bs n) ms.length) ms.length ts) : ts.map Prod.snd = prodM ms bs n := by
  apply List.ext_getElem
  · unfold prodM; simp [h.1]
  · intro t h1 h2
    have hl : t < ms.length := by simpa [h.1] using h1
    rw [List.getElem_map, h.2 t (by simpa using h1)]
    have e : (prodM ms bs n)[t] = prodR bs n ms[t].2 := by simp [prodM]
    rw [e]
    unfold prA prF
    rw [if_pos hl, List.getElem?_eq_getElem hl]; rfl
def MulTo (w : World) (ms bs : List Row) (n : Nat) (e : Ending) (w' : World) : Prop := ∃ v ts, e = .returned (.tuple #[v, .int .i64 0]) ∧ MatO w' w.heap.size v ts ∧ ts.map Prod.snd = prodM ms bs n ∧ w.grownBy w' none
theorem col_bd {c n : Nat} {bs : List Row} (h : MatOkP c n bs) {j : Nat} (hj : j < n) : ∀ x ∈ colL bs j, -16 ≤ x ∧ x ≤ 16 := by
  intro x hx
  unfold colL at hx
  obtain ⟨q, hq, rfl⟩ := List.mem_map.1 hx
  have := h.2.2.2.2.2.2 q hq
  have hjl : j < q.2.length := by omega
  rw [List.getElem?_eq_getElem hjl]
  exact this.2 _ (List.getElem_mem hjl)
/-! ### small -/
def SmallTo (w0 : World) (p : Value) (d bM : Nat) (v : Value) (r c : Nat) (wx : World) (row : Option Nat) (e : Ending) (w' : World) : Prop :=
  e = .returned v ∧ ∃ ps, MatO w' bM v ps ∧ MatOkP r c ps ∧ (∀ q ∈ ps, ∀ x ∈ q.2, -2 ≤ x ∧ x ≤ 2) ∧ St w0 w' p d ∧ wx.grownBy w' row
/-! ### What products are -/
theorem dot_comm : ∀ (a b : List Int), dotL a b = dotL b a
  | [], [] => rfl
  | [], _ :: _ => rfl
  | _ :: _, [] => rfl
  | x :: a, y :: b => by
    show x * y + dotL a b = y * x + dotL b a
    rw [dot_comm a b, Int.mul_comm]
theorem dot_full {a b : List Int} {n : Nat} (ha : a.length = n) (hb : b.length = n) : dotL a b = Bar.sumN n (fun i => a[i]?.getD 0 * b[i]?.getD 0) := by
  have := dot_sum a b n (by omega) (by omega)
  rw [List.take_of_length_le (by omega), List.take_of_length_le (by omega)] at this
  exact this
/-- A product is applied one after the other. -/
theorem dot_assoc {row v : List Int} {bs : List Row} {c n : Nat} (hr : row.length = c) (hb : bs.length = c) (hw : ∀ q ∈ bs, q.2.length = n) (hv : v.length = n) : dotL (prodR bs n row) v = dotL row (bs.map (fun q => dotL q.2 v)) := by
  rw [dot_full (prodR_len bs n row) hv, dot_full (n := c) hr (by rw [List.length_map]; exact hb)]
  rw [Bar.sumN_congr (g := fun i => Bar.sumN c (fun t => row[t]?.getD 0 * ((bs[t]?.getD rowN).2[i]?.getD 0 * v[i]?.getD 0))) (fun i hi => by
    rw [prodR_at row hi, dot_full (n := c) hr (by rw [colL_len]; exact hb), Int.mul_comm, ← sumN_mul]
    refine Bar.sumN_congr (fun t ht => ?_)
    rw [colL_at i (show t < bs.length by omega), List.getElem?_eq_getElem (show t < bs.length by omega)]
    show v[i]?.getD 0 * (row[t]?.getD 0 * bs[t].2[i]?.getD 0) = row[t]?.getD 0 * (bs[t].2[i]?.getD 0 * v[i]?.getD 0)
    grind), sumN_swap]
  refine Bar.sumN_congr (fun t ht => ?_)
  have htb : t < bs.length := by omega
  rw [sumN_mul, List.getElem?_map, List.getElem?_eq_getElem htb]
  show row[t]?.getD 0 * Bar.sumN n (fun i => bs[t].2[i]?.getD 0 * v[i]?.getD 0) = row[t]?.getD 0 * dotL bs[t].2 v
  rw [dot_full (hw _ (List.getElem_mem htb)) hv]
theorem prodM_at {ms bs ps : List Row} {n : Nat} (h : ps.map Prod.snd = prodM ms bs n) {i : Nat} (hi : i < ms.length) (hp : i < ps.length) : ps[i].2 = prodR bs n ms[i].2 := by
  have h1 : (ps.map Prod.snd)[i]'(by simpa using hp) = ps[i].2 := by simp
  rw [← h1]
  have h2 : (prodM ms bs n)[i]'(by unfold prodM; simpa using hi) = prodR bs n ms[i].2 := by simp [prodM]
  rw [← h2]
  simp only [h]
theorem prodM_len {ms bs ps : List Row} {n : Nat} (h : ps.map Prod.snd = prodM ms bs n) : ps.length = ms.length := by
  have := congrArg List.length h
  unfold prodM at this
  simpa using this
theorem turn_len {ms ts : List Row} {c : Nat} (h : ts.map Prod.snd = turnL ms c) : ts.length = c := by
  have := congrArg List.length h
  unfold turnL at this
  simpa using this
theorem turn_at {ms ts : List Row} {c : Nat} (h : ts.map Prod.snd = turnL ms c) {j : Nat} (hj : j < ts.length) : ts[j].2 = colL ms j := by
  have h1 : (ts.map Prod.snd)[j]'(by simpa using hj) = ts[j].2 := by simp
  rw [← h1]
  simp only [h]
  simp [turnL]
/-- A product that is transposed is the product of the transposed ones, turned round. -/
theorem prod_turn {ms bs xs ys : List Row} {r c n : Nat} (ha : ms.length = r) (haw : ∀ q ∈ ms, q.2.length = c) (hb : bs.length = c) (hx : xs.map Prod.snd = turnL ms c) (hy : ys.map Prod.snd = turnL bs n) {i j : Nat} (hi : i < r) (hj : j < n) :
    (prodR xs r ((ys[j]?.getD rowN).2))[i]?.getD 0 = dotL (ms[i]?.getD rowN).2 (colL bs j) := by
  have hjy : j < ys.length := by rw [turn_len hy]; exact hj
  have hia : i < ms.length := by omega
  rw [prodR_at _ hi, List.getElem?_eq_getElem hjy, List.getElem?_eq_getElem hia]
  show dotL ys[j].2 (colL xs i) = dotL ms[i].2 (colL bs j)
  rw [turn_at hy hjy, dot_comm]
  congr 1
  apply List.ext_getElem
  · rw [colL_len, turn_len hx, haw _ (List.getElem_mem hia)]
  · intro t h1 h2
    have htx : t < xs.length := by rw [colL_len] at h1; exact h1
    have e1 := colL_at i htx
    rw [turn_at hx htx, colL_at t hia, List.getElem?_eq_getElem h1, List.getElem?_eq_getElem h2] at e1
    exact e1

/-- A row, with its elements. -/
theorem MatO.rowc {w : World} {base g n cap : Nat} {ps : List Row} (h : MatO w base (.slice (some ⟨g, 0, none⟩) n cap) ps) {i : Nat} (hi : i < ps.length) (h1 : 1 ≤ ps[i].2.length) :
    ∃ b cb, w.cell? ⟨g, i, none⟩ = some (.slice (some ⟨b, 0, none⟩) ps[i].2.length cb) ∧ ∀ t, t < ps[i].2.length → w.cell? ⟨b, t, none⟩ = some (.int .i64 (ps[i].2[t]?.getD 0)) := by
  obtain ⟨b, cb, hb, -⟩ := h.row hi h1
  have hc := (h.own.cell i hi).1
  rw [hb] at hc
  exact ⟨b, cb, hc, fun t ht => (h.cell hi hb ht).1⟩
theorem MatO.lend {w : World} {base : Nat} {v : Value} {ps : List Row} {n : Nat} (h : MatO w base v ps) (hl : ps.length = n) (h1 : 1 ≤ n) : ∃ g c, v = .slice (some ⟨g, 0, none⟩) n c := by
  obtain ⟨g, c, hv, -⟩ := h.head (by omega)
  exact ⟨g, c, by rw [hv, hl]⟩
theorem prodR_bd {bs : List Row} {row : List Int} {c n : Nat} (hr : row.length = c) (hc : c ≤ 4) (h1 : ∀ x ∈ row, -2 ≤ x ∧ x ≤ 2) (hw : ∀ q ∈ bs, q.2.length = n) (h2 : ∀ q ∈ bs, ∀ x ∈ q.2, -2 ≤ x ∧ x ≤ 2) : ∀ x ∈ prodR bs n row, -16 ≤ x ∧ x ≤ 16 := by
  intro x hx
  unfold prodR at hx
  obtain ⟨j, hj, rfl⟩ := List.mem_map.1 hx
  have := dot_bd (A := 2) (B := 2) row (colL bs j) h1 (fun y hy => by
    unfold colL at hy
    obtain ⟨q, hq, rfl⟩ := List.mem_map.1 hy
    have hjl : j < q.2.length := by rw [hw q hq]; simpa using hj
    rw [List.getElem?_eq_getElem hjl]
    exact h2 q hq _ (List.getElem_mem hjl)) (by decide)
  omega

end Go.Proofs.YtpnghgihepnepaaDoor
