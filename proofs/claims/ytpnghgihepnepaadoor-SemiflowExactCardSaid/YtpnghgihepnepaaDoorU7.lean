/- Texts Ba, Bb in one. -/
import Derived.Lib.Hide
import Derived.Test.YtpnghgihepnepaaDoorU6
namespace Go.Proofs.YtpnghgihepnepaaDoor.Bar
set_option linter.unusedVariables false
abbrev Vec := Nat → Int
abbrev Form := List Nat → Int
def iota (R : Vec) : Form → List Nat → Int
  | _, [] => 0
  | F, x :: post => R x * F post - iota R (fun l => F (x :: l)) post
def Alt (F : Form) : Prop := ∀ pre x y post, F (pre ++ x :: y :: post) = - F (pre ++ y :: x :: post)
theorem Alt.cons {F : Form} (h : Alt F) (a : Nat) : Alt (fun l => F (a :: l)) := fun pre x y post => h (a :: pre) x y post
theorem iota_lin (R : Vec) (a b : Int) : ∀ (cs : List Nat) (F G : Form), iota R (fun l => a * F l + b * G l) cs = a * iota R F cs + b * iota R G cs
  | [], _, _ => by simp [iota]
  | x :: t, F, G => by
    unfold iota
    rw [iota_lin R a b t (fun l => F (x :: l)) (fun l => G (x :: l))]
    grind
theorem iota_congr (R : Vec) {F G : Form} (h : ∀ l, F l = G l) (cs : List Nat) : iota R F cs = iota R G cs := by
  rw [show F = G from funext h]
theorem iota_neg (R : Vec) (F : Form) (cs : List Nat) : iota R (fun l => - F l) cs = - iota R F cs := by
  have := iota_lin R (-1) 0 cs F F
  simp at this
  exact this
theorem iota_alt {F : Form} (R : Vec) (h : Alt F) : Alt (iota R F) := by
  intro pre
  induction pre generalizing F with
  | nil =>
    intro x y post
    have e : iota R (fun l => F (x :: y :: l)) post = - iota R (fun l => F (y :: x :: l)) post := by
      rw [← iota_neg]; exact iota_congr R (fun l => h [] x y l) post
    simp only [List.nil_append, iota]
    rw [e]; grind
  | cons a pre ih =>
    intro x y post
    have e1 := h pre x y post
    have e2 := ih (h.cons a) x y post
    simp only [List.cons_append, iota]
    rw [e1, e2]; grind
theorem iota_two (R S : Vec) : ∀ (cs : List Nat) (F : Form), iota R (iota S F) cs = - iota S (iota R F) cs
  | [], _ => by simp [iota]
  | x :: t, F => by
    have e : ∀ (R S : Vec), iota R (fun l => iota S F (x :: l)) t = S x * iota R F t - iota R (iota S (fun l => F (x :: l))) t := by
      intro R S
      have := iota_lin R (S x) (-1) t F (iota S (fun l => F (x :: l)))
      rw [iota_congr R (G := fun l => S x * F l + -1 * iota S (fun l => F (x :: l)) l) (fun l => by simp only [iota]; grind) t, this]
      grind
    have h1 := e R S
    have h2 := e S R
    have h3 := iota_two R S t (fun l => F (x :: l))
    show R x * iota S F t - iota R (fun l => iota S F (x :: l)) t = -(S x * iota R F t - iota S (fun l => iota R F (x :: l)) t)
    rw [h1, h2, h3]; grind
def W : List Vec → Form
  | [], [] => 1
  | [], _ :: _ => 0
  | R :: Rs, cs => iota R (W Rs) cs
theorem W_cons (R : Vec) (Rs : List Vec) : W (R :: Rs) = iota R (W Rs) := by
  funext cs; rw [W]
theorem W_alt (Rs : List Vec) : Alt (W Rs) := by
  induction Rs with
  | nil =>
    intro pre x y post
    have : ∀ (z : Nat) (l : List Nat), W [] (z :: l) = 0 := fun _ _ => by rw [W]
    cases pre with
    | nil => simp [this]
    | cons a pre => simp [this]
  | cons R Rs ih => rw [W_cons]; exact iota_alt R ih
theorem W_same (R : Vec) (Rs : List Vec) (cs : List Nat) : W (R :: R :: Rs) cs = 0 := by
  have := iota_two R R cs (W Rs)
  rw [W_cons, W_cons]; omega
theorem W_twist (R S : Vec) (Rs : List Vec) (cs : List Nat) : W (R :: S :: Rs) cs = - W (S :: R :: Rs) cs := by
  rw [W_cons, W_cons, W_cons, W_cons]; exact iota_two R S cs (W Rs)
/-- The newest first. -/
def tops (o : Nat → Vec) : Nat → List Vec
  | 0 => []
  | p + 1 => o p :: tops o p
def cols (c : Nat → Nat) : Nat → List Nat
  | 0 => []
  | p + 1 => c p :: cols c p
def upd (c : Nat → Nat) (l j : Nat) : Nat → Nat := fun t => if t = l then j else c t
theorem cols_congr {c d : Nat → Nat} : ∀ {p : Nat}, (∀ t, t < p → c t = d t) → cols c p = cols d p
  | 0, _ => rfl
  | p + 1, h => by unfold cols; rw [h p (by omega), cols_congr (fun t ht => h t (by omega))]
theorem tops_congr {c d : Nat → Vec} : ∀ {p : Nat}, (∀ t, t < p → c t = d t) → tops c p = tops d p
  | 0, _ => rfl
  | p + 1, h => by unfold tops; rw [h p (by omega), tops_congr (fun t ht => h t (by omega))]
theorem cols_new (c : Nat → Nat) (p j : Nat) : cols (upd c p j) (p + 1) = j :: cols c p := by
  show upd c p j p :: cols (upd c p j) p = _
  rw [cols_congr (c := upd c p j) (d := c) (fun t ht => by unfold upd; rw [if_neg (by omega)])]
  unfold upd; rw [if_pos rfl]
theorem alt_front {F : Form} (h : Alt F) (d : Nat → Nat) (a : Nat) : ∀ b, a < b → F (d a :: cols d b) = 0 := by
  intro b
  induction b generalizing F with
  | zero => intro h; omega
  | succ b ih =>
    intro hab
    unfold cols
    have e := h [] (d a) (d b) (cols d b)
    simp only [List.nil_append] at e
    by_cases h1 : a = b
    · subst h1; omega
    · have := ih (h.cons (d b)) (by omega)
      omega
theorem alt_rep {F : Form} (h : Alt F) (d : Nat → Nat) {a b : Nat} (hab : a < b) (e : d a = d b) : ∀ p, b < p → F (cols d p) = 0 := by
  intro p
  induction p generalizing F with
  | zero => intro h; omega
  | succ p ih =>
    intro hp
    unfold cols
    by_cases h1 : b = p
    · subst h1; rw [← e]; exact alt_front h d a _ hab
    · exact ih (h.cons (d p)) (by omega)
def sumN : Nat → (Nat → Int) → Int
  | 0, _ => 0
  | p + 1, f => f p + sumN p f
theorem sumN_congr {f g : Nat → Int} : ∀ {p : Nat}, (∀ l, l < p → f l = g l) → sumN p f = sumN p g
  | 0, _ => rfl
  | p + 1, h => by unfold sumN; rw [h p (by omega), sumN_congr (fun t ht => h t (by omega))]
theorem sumN_lin (a b : Int) (f g : Nat → Int) : ∀ p, sumN p (fun l => a * f l + b * g l) = a * sumN p f + b * sumN p g
  | 0 => by simp [sumN]
  | p + 1 => by simp only [sumN]; rw [sumN_lin a b f g p]; grind
theorem sumN_zero {f : Nat → Int} {p : Nat} (h : ∀ l, l < p → f l = 0) : sumN p f = 0 := by
  rw [sumN_congr (g := fun _ => 0) h]
  clear h
  induction p with
  | zero => rfl
  | succ p ih => unfold sumN; rw [ih]; rfl
theorem sumN_one {f : Nat → Int} {p k : Nat} (hk : k < p) (h : ∀ l, l < p → l ≠ k → f l = 0) : sumN p f = f k := by
  induction p with
  | zero => omega
  | succ p ih =>
    unfold sumN
    by_cases e : k = p
    · subst e; rw [sumN_zero (fun l hl => h l (by omega) (by omega))]; omega
    · rw [ih (by omega) (fun l hl hn => h l (by omega) hn), h p (by omega) (by omega)]; omega
theorem iota_cols {F : Form} (R : Vec) (h : Alt F) (c : Nat → Nat) (j : Nat) : ∀ p, iota R (fun l => F (j :: l)) (cols c p) = sumN p (fun l => R (c l) * F (cols (upd c l j) p)) := by
  intro p
  induction p generalizing F with
  | zero => rfl
  | succ p ih =>
    have e1 : iota R (fun l => F (j :: c p :: l)) (cols c p) = - iota R (fun l => F (c p :: j :: l)) (cols c p) := by
      rw [← iota_neg]; exact iota_congr R (fun l => h [] j (c p) l) _
    have e2 := ih (h.cons (c p))
    have e3 := cols_new c p j
    have e4 : ∀ l, l < p → R (c l) * F (c p :: cols (upd c l j) p) = R (c l) * F (cols (upd c l j) (p + 1)) := fun l hl => by
      have : cols (upd c l j) (p + 1) = c p :: cols (upd c l j) p := by
        show upd c l j p :: _ = _
        unfold upd; rw [if_neg (by omega)]
      rw [this]
    show R (c p) * F (j :: cols c p) - iota R (fun l => F (j :: c p :: l)) (cols c p) = R (c p) * F (cols (upd c p j) (p + 1)) + sumN p (fun l => R (c l) * F (cols (upd c l j) (p + 1)))
    rw [e1, e2, e3, sumN_congr e4]; omega
/-- What the numbers are. -/
def D (o : Nat → Vec) (c : Nat → Nat) (p : Nat) : Int := W (tops o p) (cols c p)
def X (o : Nat → Vec) (c : Nat → Nat) (p l j : Nat) : Int := W (tops o p) (cols (upd c l j) p)
def Y (o : Nat → Vec) (c : Nat → Nat) (p i j : Nat) : Int := W (o i :: tops o p) (j :: cols c p)
theorem X_self (o : Nat → Vec) (c : Nat → Nat) (p l : Nat) : X o c p l (c l) = D o c p := by
  unfold X D
  rw [cols_congr (c := upd c l (c l)) (d := c) (fun t _ => by unfold upd; split <;> simp_all)]
theorem X_other (o : Nat → Vec) (c : Nat → Nat) {p l t : Nat} (hl : l < p) (ht : t < p) (hlt : t ≠ l) : X o c p l (c t) = 0 := by
  unfold X
  have h1 : upd c l (c t) l = c t := by unfold upd; rw [if_pos rfl]
  have h2 : upd c l (c t) t = c t := by unfold upd; rw [if_neg hlt]
  by_cases h : l < t
  · exact alt_rep (W_alt _) _ h (by rw [h1, h2]) p ht
  · exact alt_rep (W_alt _) _ (show t < l by omega) (by rw [h1, h2]) p hl
theorem Y_piv (o : Nat → Vec) (c : Nat → Nat) {p t : Nat} (i : Nat) (ht : t < p) : Y o c p i (c t) = 0 := alt_front (W_alt _) c t p ht
theorem Y_eq (o : Nat → Vec) (c : Nat → Nat) (p i j : Nat) : Y o c p i j = o i j * D o c p - sumN p (fun l => o i (c l) * X o c p l j) := by
  unfold Y D X
  rw [W_cons]
  show o i j * W (tops o p) (cols c p) - iota (o i) (fun l => W (tops o p) (j :: l)) (cols c p) = _
  rw [iota_cols (o i) (W_alt _)]
theorem W_in (o : Nat → Vec) {t : Nat} : ∀ {p : Nat} (cs : List Nat), t < p → W (o t :: tops o p) cs = 0
  | 0, _, h => by omega
  | p + 1, cs, h => by
    unfold tops
    by_cases e : t = p
    · subst e; exact W_same _ _ _
    · rw [W_twist, W_cons]
      rw [iota_congr (o p) (G := fun _ => 0) (fun l => W_in o l (by omega)) cs]
      have := iota_lin (o p) 0 0 cs (fun _ => 0) (fun _ => 0)
      simp at this
      rw [this]; rfl
theorem Y_in (o : Nat → Vec) (c : Nat → Nat) {p t : Nat} (j : Nat) (ht : t < p) : Y o c p t j = 0 := W_in o _ ht
theorem cramer (o : Nat → Vec) (c : Nat → Nat) {p t : Nat} (j : Nat) (ht : t < p) : sumN p (fun l => o t (c l) * X o c p l j) = o t j * D o c p := by
  have h1 := Y_in o c j ht
  rw [Y_eq] at h1
  omega
theorem X_new (o : Nat → Vec) (c : Nat → Nat) (p j : Nat) : X o c (p + 1) p j = Y o c p p j := by
  unfold X Y
  rw [cols_new]; rfl
theorem D_new (o : Nat → Vec) (c : Nat → Nat) (p : Nat) : D o c (p + 1) = Y o c p p (c p) := rfl
/-! Spans -/
structure Lin (Q : Vec → Prop) : Prop where
  zero : Q (fun _ => 0)
  lin : ∀ (a b : Int) u v, Q u → Q v → Q (fun j => a * u j + b * v j)
theorem Lin.eq {Q : Vec → Prop} {u v : Vec} (h : Q u) (e : ∀ j, v j = u j) : Q v := by rw [show v = u from funext e]; exact h
theorem span_iota {Q : Vec → Prop} (hQ : Lin Q) (R : Vec) {F : Form} (h : ∀ pre post, Q (fun j => F (pre ++ j :: post))) : ∀ (post pre mid : List Nat), Q (fun j => iota R (fun l => F (pre ++ j :: (mid ++ l))) post)
  | [], pre, mid => by simp only [iota]; exact hQ.zero
  | x :: t, pre, mid => by
    have h1 := h pre (mid ++ t)
    have h2 := span_iota hQ R h t pre (mid ++ [x])
    have h3 := hQ.lin (R x) (-1) _ _ h1 h2
    refine Lin.eq h3 (fun j => ?_)
    simp only [iota, List.append_assoc, List.singleton_append]; omega
theorem span_step {Q : Vec → Prop} (hQ : Lin Q) {R : Vec} (hR : Q R) {F : Form} (h : ∀ pre post, Q (fun j => F (pre ++ j :: post))) : ∀ pre post, Q (fun j => iota R F (pre ++ j :: post)) := by
  intro pre
  induction pre generalizing F with
  | nil =>
    intro post
    have h2 := span_iota hQ R h post [] []
    have h3 := hQ.lin (F post) (-1) _ _ hR h2
    refine Lin.eq h3 (fun j => ?_)
    simp only [iota, List.nil_append]; grind
  | cons a pre ih =>
    intro post
    have h1 := h pre post
    have h2 := ih (F := fun l => F (a :: l)) (fun pre post => h (a :: pre) post) post
    have h3 := hQ.lin (R a) (-1) _ _ h1 h2
    refine Lin.eq h3 (fun j => ?_)
    simp only [iota, List.cons_append]; omega
theorem span_W {Q : Vec → Prop} (hQ : Lin Q) : ∀ {Rs : List Vec}, (∀ R ∈ Rs, Q R) → ∀ pre post, Q (fun j => W Rs (pre ++ j :: post))
  | [], _ => fun pre post => by
    refine Lin.eq hQ.zero (fun j => ?_)
    cases pre <;> (simp only [List.nil_append, List.cons_append]; rw [W])
  | R :: Rs, h => by
    rw [W_cons]
    exact span_step hQ (h R (by simp)) (span_W hQ (fun S hS => h S (by simp [hS])))
theorem mem_tops {o : Nat → Vec} {R : Vec} : ∀ {p : Nat}, R ∈ tops o p → ∃ t, t < p ∧ R = o t
  | 0, h => by simp [tops] at h
  | p + 1, h => by
    unfold tops at h
    rcases List.mem_cons.1 h with rfl | h
    · exact ⟨p, by omega, rfl⟩
    · obtain ⟨t, h1, h2⟩ := mem_tops h
      exact ⟨t, by omega, h2⟩
theorem cols_split (c : Nat → Nat) {l : Nat} : ∀ {p : Nat}, l < p → ∃ pre post, ∀ j, cols (upd c l j) p = pre ++ j :: post
  | 0, h => by omega
  | p + 1, h => by
    by_cases e : l = p
    · subst e
      refine ⟨[], cols c l, fun j => ?_⟩
      rw [cols_new]; rfl
    · obtain ⟨pre, post, h1⟩ := cols_split c (show l < p by omega)
      refine ⟨c p :: pre, post, fun j => ?_⟩
      unfold cols
      rw [h1 j]
      unfold upd; rw [if_neg (by omega)]; rfl
theorem X_span (o : Nat → Vec) (c : Nat → Nat) {Q : Vec → Prop} (hQ : Lin Q) {p l : Nat} (hl : l < p) (h : ∀ t, t < p → Q (o t)) : Q (X o c p l) := by
  obtain ⟨pre, post, h1⟩ := cols_split c hl
  have := span_W hQ (Rs := tops o p) (fun R hR => by obtain ⟨t, h2, rfl⟩ := mem_tops hR; exact h t h2) pre post
  exact Lin.eq this (fun j => by unfold X; rw [h1 j])
/-- What all rows annul is zero. -/
theorem annul (o : Nat → Vec) (c : Nat → Nat) {p : Nat} (hD : D o c p ≠ 0) (y : Nat → Int) (h : ∀ t, t < p → sumN p (fun l => o t (c l) * y l) = 0) : ∀ l, l < p → y l = 0 := by
  intro l hl
  have hQ : Lin (fun v => sumN p (fun l => v (c l) * y l) = 0) := by
    refine ⟨sumN_zero (fun l _ => by simp), fun a b u v hu hv => ?_⟩
    have := sumN_lin a b (fun l => u (c l) * y l) (fun l => v (c l) * y l) p
    rw [hu, hv] at this
    rw [sumN_congr (g := fun l => a * (u (c l) * y l) + b * (v (c l) * y l)) (fun l _ => by grind), this]; omega
  have h1 := X_span o c hQ hl h
  rw [sumN_one hl (fun l' hl' hn => by rw [X_other o c hl hl' hn]; simp), X_self] at h1
  rcases Int.mul_eq_zero.1 h1 with h2 | h2
  · exact absurd h2 hD
  · exact h2
theorem X_step (o : Nat → Vec) (c : Nat → Nat) {p l : Nat} (j : Nat) (hl : l < p) (hD : D o c p ≠ 0) : D o c p * X o c (p + 1) l j = X o c p l j * D o c (p + 1) - X o c p l (c p) * Y o c p p j := by
  have key := annul o c hD (fun l => D o c p * X o c (p + 1) l j + X o c p l (c p) * Y o c p p j - D o c (p + 1) * X o c p l j) (fun t ht => by
    have e1 := cramer o c (p := p + 1) (t := t) j (by omega)
    have e2 := cramer o c j ht
    have e3 := cramer o c (c p) ht
    replace e1 : o t (c p) * X o c (p + 1) p j + sumN p (fun l => o t (c l) * X o c (p + 1) l j) = o t j * D o c (p + 1) := e1
    rw [X_new] at e1
    have l1 := sumN_lin (D o c p) 1 (fun l => o t (c l) * X o c (p + 1) l j) (fun l => Y o c p p j * (o t (c l) * X o c p l (c p)) + (- D o c (p + 1)) * (o t (c l) * X o c p l j)) p
    have l2 := sumN_lin (Y o c p p j) (- D o c (p + 1)) (fun l => o t (c l) * X o c p l (c p)) (fun l => o t (c l) * X o c p l j) p
    rw [l2, e2, e3] at l1
    rw [sumN_congr (g := fun l => D o c p * (o t (c l) * X o c (p + 1) l j) + 1 * (Y o c p p j * (o t (c l) * X o c p l (c p)) + (- D o c (p + 1)) * (o t (c l) * X o c p l j))) (fun l _ => by grind), l1]
    grind) l hl
  grind
theorem Y_step (o : Nat → Vec) (c : Nat → Nat) {p : Nat} (i j : Nat) (hD : D o c p ≠ 0) : D o c p * Y o c (p + 1) i j = Y o c p i j * D o c (p + 1) - Y o c p i (c p) * Y o c p p j := by
  have e0 : Y o c (p + 1) i j = o i j * D o c (p + 1) - (o i (c p) * X o c (p + 1) p j + sumN p (fun l => o i (c l) * X o c (p + 1) l j)) := Y_eq o c (p + 1) i j
  rw [X_new] at e0
  rw [e0, Y_eq o c p i j, Y_eq o c p i (c p)]
  have l1 := sumN_lin (D o c (p + 1)) (- Y o c p p j) (fun l => o i (c l) * X o c p l j) (fun l => o i (c l) * X o c p l (c p)) p
  have l2 := sumN_lin (D o c p) 0 (fun l => o i (c l) * X o c (p + 1) l j) (fun _ => 0) p
  have e : sumN p (fun l => D o c p * (o i (c l) * X o c (p + 1) l j) + 0 * 0) = sumN p (fun l => D o c (p + 1) * (o i (c l) * X o c p l j) + - Y o c p p j * (o i (c l) * X o c p l (c p))) :=
    sumN_congr (fun l hl => by have := X_step o c j hl hD; grind)
  rw [e, l1] at l2
  grind
end Go.Proofs.YtpnghgihepnepaaDoor.Bar

namespace Go.Proofs.YtpnghgihepnepaaDoor
open Go.RowKit
set_option linter.unusedVariables false
/-! ### Bounds of minors -/
def fb (B : Nat) : Nat → Nat
  | 0 => 1
  | p + 1 => (p + 1) * B * fb B p
theorem iota_bd {R : Bar.Vec} {B M : Nat} (hR : ∀ x, (R x).natAbs ≤ B) : ∀ (n : Nat) {F : Bar.Form}, (∀ ds : List Nat, ds.length = n → (F ds).natAbs ≤ M) → ∀ cs : List Nat, cs.length = n + 1 → (Bar.iota R F cs).natAbs ≤ (n + 1) * B * M := by
  intro n
  induction n with
  | zero =>
    intro F hF cs hc
    match cs, hc with
    | [x], _ =>
      show (R x * F [] - 0).natAbs ≤ _
      rw [Int.sub_zero, Int.natAbs_mul, Nat.zero_add, Nat.one_mul]
      exact Nat.mul_le_mul (hR x) (hF [] rfl)
  | succ n ih =>
    intro F hF cs hc
    match cs, hc with
    | x :: t, hc =>
      have ht : t.length = n + 1 := by simpa using hc
      have h1 := ih (F := fun l => F (x :: l)) (fun ds hd => hF (x :: ds) (by simp [hd])) t ht
      have h2 := Nat.mul_le_mul (hR x) (hF t ht)
      rw [← Int.natAbs_mul] at h2
      show (R x * F t - Bar.iota R (fun l => F (x :: l)) t).natAbs ≤ _
      have h3 := Int.natAbs_sub_le (R x * F t) (Bar.iota R (fun l => F (x :: l)) t)
      have h4 : (n + 1 + 1) * B * M = (n + 1) * B * M + B * M := by
        rw [Nat.add_mul (n + 1) 1 B, Nat.add_mul, Nat.one_mul]
      omega
theorem W_bd {B : Nat} : ∀ (Rs : List Bar.Vec), (∀ R ∈ Rs, ∀ x, (R x).natAbs ≤ B) → ∀ cs : List Nat, cs.length = Rs.length → (Bar.W Rs cs).natAbs ≤ fb B Rs.length
  | [], _, cs, hc => by
    match cs, hc with
    | [], _ => rw [Bar.W]; exact Nat.le_refl _
  | R :: Rs, h, cs, hc => by
    rw [Bar.W_cons]
    exact iota_bd (h R (by simp)) Rs.length (fun ds hd => W_bd Rs (fun S hS => h S (by simp [hS])) ds hd) cs hc
theorem tops_len (o : Nat → Bar.Vec) : ∀ p, (Bar.tops o p).length = p
  | 0 => rfl
  | p + 1 => by show (Bar.tops o p).length + 1 = _; rw [tops_len]
theorem cols_len (c : Nat → Nat) : ∀ p, (Bar.cols c p).length = p
  | 0 => rfl
  | p + 1 => by show (Bar.cols c p).length + 1 = _; rw [cols_len]
theorem tops_bd {o : Nat → Bar.Vec} {B : Nat} (h : ∀ i j, (o i j).natAbs ≤ B) {p : Nat} : ∀ R ∈ Bar.tops o p, ∀ x, (R x).natAbs ≤ B := by
  intro R hR x
  obtain ⟨t, -, rfl⟩ := Bar.mem_tops hR
  exact h t x
theorem D_bd {o : Nat → Bar.Vec} {B : Nat} (h : ∀ i j, (o i j).natAbs ≤ B) (c : Nat → Nat) (p : Nat) : (Bar.D o c p).natAbs ≤ fb B p := by
  have := W_bd (Bar.tops o p) (tops_bd h) (Bar.cols c p) (by rw [tops_len, cols_len])
  rwa [tops_len] at this
theorem X_bd {o : Nat → Bar.Vec} {B : Nat} (h : ∀ i j, (o i j).natAbs ≤ B) (c : Nat → Nat) (p l j : Nat) : (Bar.X o c p l j).natAbs ≤ fb B p := by
  have := W_bd (Bar.tops o p) (tops_bd h) (Bar.cols (Bar.upd c l j) p) (by rw [tops_len, cols_len])
  rwa [tops_len] at this
theorem Y_bd {o : Nat → Bar.Vec} {B : Nat} (h : ∀ i j, (o i j).natAbs ≤ B) (c : Nat → Nat) (p i j : Nat) : (Bar.Y o c p i j).natAbs ≤ fb B (p + 1) := by
  have := W_bd (o i :: Bar.tops o p) (fun R hR x => by
    rcases List.mem_cons.1 hR with rfl | hR
    · exact h i x
    · exact tops_bd h R hR x) (j :: Bar.cols c p) (by simp [tops_len, cols_len])
  rw [List.length_cons, tops_len] at this
  exact this
theorem X_congr {o o' : Nat → Bar.Vec} {c c' : Nat → Nat} {p l : Nat} (j : Nat) (ho : ∀ t, t < p → o t = o' t) (hc : ∀ t, t < p → c t = c' t) : Bar.X o c p l j = Bar.X o' c' p l j := by
  unfold Bar.X
  rw [Bar.tops_congr ho, Bar.cols_congr (c := Bar.upd c l j) (d := Bar.upd c' l j) (fun t ht => by unfold Bar.upd; rw [hc t ht])]
theorem Y_congr {o o' : Nat → Bar.Vec} {c c' : Nat → Nat} {p i i' : Nat} (j : Nat) (ho : ∀ t, t < p → o t = o' t) (hc : ∀ t, t < p → c t = c' t) (hi : o i = o' i') : Bar.Y o c p i j = Bar.Y o' c' p i' j := by
  unfold Bar.Y
  rw [Bar.tops_congr ho, Bar.cols_congr hc, hi]
theorem D_congr {o o' : Nat → Bar.Vec} {c c' : Nat → Nat} {p : Nat} (ho : ∀ t, t < p → o t = o' t) (hc : ∀ t, t < p → c t = c' t) : Bar.D o c p = Bar.D o' c' p := by
  unfold Bar.D
  rw [Bar.tops_congr ho, Bar.cols_congr hc]
/-! ### The state of a reduction -/
def ov (os : List (List Int)) : Nat → Bar.Vec := fun i j => (os[i]?.getD [])[j]?.getD 0
def swapO (os : List (List Int)) (k i : Nat) : List (List Int) := (os.set k (os[i]?.getD [])).set i (os[k]?.getD [])
theorem swapO_at {os : List (List Int)} {k i : Nat} (hk : k < os.length) (hi : i < os.length) (t : Nat) : (swapO os k i)[t]?.getD [] = if t = i then os[k]?.getD [] else if t = k then os[i]?.getD [] else os[t]?.getD [] := by
  unfold swapO
  rw [List.getElem?_set]
  by_cases h1 : i = t
  · subst h1; rw [if_pos rfl, if_pos (by simpa using hi), if_pos rfl]; rfl
  · rw [if_neg h1, if_neg (fun h : t = i => h1 h.symm), List.getElem?_set]
    by_cases h2 : k = t
    · subst h2; rw [if_pos rfl, if_pos hk, if_pos rfl]; rfl
    · rw [if_neg h2, if_neg (fun h : t = k => h2 h.symm)]
theorem swapO_mem {os : List (List Int)} {k i : Nat} (hk : k < os.length) (hi : i < os.length) (r : List Int) : r ∈ swapO os k i ↔ r ∈ os := by
  have hl : (swapO os k i).length = os.length := by unfold swapO; simp
  have gd : ∀ (l : List (List Int)) t (h : t < l.length), l[t]?.getD [] = l[t] := fun l t h => by rw [List.getElem?_eq_getElem h]; rfl
  constructor
  · intro h
    obtain ⟨t, ht, rfl⟩ := List.getElem_of_mem h
    rw [← gd _ t ht, swapO_at hk hi]
    split
    · rw [gd _ k hk]; exact List.getElem_mem _
    · split
      · rw [gd _ i hi]; exact List.getElem_mem _
      · rw [gd _ t (by omega)]; exact List.getElem_mem _
  · intro h
    obtain ⟨t, ht, rfl⟩ := List.getElem_of_mem h
    have mem : ∀ s, s < os.length → (swapO os k i)[s]?.getD [] ∈ swapO os k i := fun s hs => by rw [gd _ s (by omega)]; exact List.getElem_mem _
    by_cases h1 : t = i
    · have := mem k hk
      rw [swapO_at hk hi] at this
      by_cases h3 : k = i
      · rw [if_pos h3, gd _ k hk] at this; subst h1; subst h3; exact this
      · rw [if_neg h3, if_pos rfl, gd _ i hi] at this; subst h1; exact this
    · by_cases h2 : t = k
      · have := mem i hi
        rw [swapO_at hk hi, if_pos rfl, gd _ k hk] at this; subst h2; exact this
      · have := mem t ht
        rw [swapO_at hk hi, if_neg h1, if_neg h2, gd _ t ht] at this; exact this
theorem swapT_at {ps : List Row} {k i : Nat} (hk : k < ps.length) (hi : i < ps.length) (t : Nat) : (swapT ps k i)[t]?.getD rowN = if t = i then ps[k]?.getD rowN else if t = k then ps[i]?.getD rowN else ps[t]?.getD rowN := by
  unfold swapT
  rw [List.getElem?_set]
  by_cases h1 : i = t
  · subst h1; rw [if_pos rfl, if_pos (by simpa using hi), if_pos rfl]; rfl
  · rw [if_neg h1, if_neg (fun h : t = i => h1 h.symm), List.getElem?_set]
    by_cases h2 : k = t
    · subst h2; rw [if_pos rfl, if_pos hk, if_pos rfl]; rfl
    · rw [if_neg h2, if_neg (fun h : t = k => h2 h.symm)]
/-- The elements of row i. -/
def ent (ps : List Row) (i j : Nat) : Int := (ps[i]?.getD rowN).2[j]?.getD 0
theorem findHit_none {ps : List Row} {c : Nat} : ∀ {n i}, findHit ps c n i = none → ∀ t, i ≤ t → t < i + n → ent ps t c = 0 := by
  intro n
  induction n with
  | zero => intro i h t h1 h2; omega
  | succ n ih =>
    intro i h t h1 h2
    unfold findHit at h
    split at h
    · cases h
    · rename_i e
      by_cases h3 : t = i
      · subst h3
        unfold hit at e
        unfold ent
        simpa using e
      · exact ih h t (by omega) (by omega)
structure BInv (M : List (List Int)) (m k : Nat) (s : RSt) (os : List (List Int)) (c : Nat → Nat) : Prop where
  len : s.1.length = os.length
  wide : ∀ q ∈ s.1, q.2.length = m
  mem : ∀ r, r ∈ os ↔ r ∈ M
  ln : os.length = M.length
  piv : ∀ l, l < s.2.1.length → s.2.1[l]?.getD 0 = (c l : Int)
  ple : s.2.1.length ≤ os.length
  asc : ∀ a b, a < b → b < s.2.1.length → c a < c b
  ck : ∀ l, l < s.2.1.length → c l < k
  fac : s.2.2 = Bar.D (ov os) c s.2.1.length
  ne : s.2.2 ≠ 0
  low : ∀ l, l < s.2.1.length → ∀ j, j < m → ent s.1 l j = Bar.X (ov os) c s.2.1.length l j
  high : ∀ i, s.2.1.length ≤ i → i < os.length → ∀ j, j < m → ent s.1 i j = Bar.Y (ov os) c s.2.1.length i j
  zero : ∀ i, s.2.1.length ≤ i → i < os.length → ∀ j, j < k → ent s.1 i j = 0
theorem ent_row {ps : List Row} {i : Nat} (hi : i < ps.length) (j : Nat) : ent ps i j = ps[i].2[j]?.getD 0 := by unfold ent; rw [List.getElem?_eq_getElem hi]; rfl
theorem elimP_ent {lead f : Int} {c k m : Nat} {top : List Int} {ps : List Row} (ht : top.length = m) (hm : ∀ q ∈ ps, q.2.length = m) {i j : Nat} (hi : i < ps.length) (hj : j < m) : ent (elimP lead f c k top ps) i j = if i = k then ent ps i j else (ent ps i j * lead - ent ps i c * top[j]?.getD 0).tdiv f := by
  rw [ent_row (by rw [elimP_len]; exact hi), ent_row hi, ent_row hi]
  have h1 : (elimP lead f c k top ps)[i]'(by rw [elimP_len]; exact hi) = _ := rowsE_at (fun row => elimRow lead (row[c]?.getD 0) f row top) k ps.length 0 ps i (by rw [rowsE_len]; exact hi)
  rw [h1]
  dsimp only
  by_cases e : i = k
  · rw [if_pos e, if_pos e]
  · rw [if_neg e, if_neg e, if_pos hi, elimRow_at (by rw [hm _ (List.getElem_mem hi)]; exact hj) (by rw [ht]; exact hj)]
theorem BInv.step {M : List (List Int)} {m k : Nat} {s : RSt} {os : List (List Int)} {c : Nat → Nat} (h : BInv M m k s os c) (hk : k < m) : ∃ os' c', BInv M m (k + 1) (redStep k s) os' c' := by
  obtain ⟨ps, pv, f⟩ := s
  obtain ⟨hlen, hwide, hmem, hln, hpiv, hple, hasc, hck, hfac, hne, hlow, hhigh, hzero⟩ := h
  dsimp only at *
  cases hh : findHit ps k (ps.length - pv.length) pv.length with
  | none =>
    have e : redStep k (ps, pv, f) = (ps, pv, f) := by unfold redStep; dsimp only; rw [hh]
    rw [e]
    have hz := findHit_none hh
    refine ⟨os, c, hlen, hwide, hmem, hln, hpiv, hple, hasc, fun l hl => by have := hck l hl; omega, hfac, hne, hlow, hhigh, fun i h1 h2 j hj => ?_⟩
    by_cases h3 : j = k
    · subst h3; exact hz i h1 (by omega)
    · exact hzero i h1 h2 j (by omega)
  | some t =>
    obtain ⟨e1, e2, e3⟩ := findHit_some hh
    have hp : pv.length < ps.length := by omega
    have ht : t < ps.length := by omega
    have htop := top_is (c := k) (k := 0) (f := f) hp ht
    have e : redStep k (ps, pv, f) = (elimP (ps[t].2[k]?.getD 0) f k pv.length ps[t].2 (swapT ps pv.length t), pv ++ [(k : Int)], ps[t].2[k]?.getD 0) := by
      unfold redStep; dsimp only; rw [hh]; dsimp only; rw [htop]
    rw [e]
    generalize hpd : pv.length = p at *
    have hpo : p < os.length := by omega
    have hto : t < os.length := by omega
    have hol : (swapO os p t).length = os.length := by unfold swapO; simp
    have hsl : (swapT ps p t).length = ps.length := swapT_len _ _ _
    have htl : ps[t].2.length = m := hwide _ (List.getElem_mem ht)
    have hsw : ∀ q ∈ swapT ps p t, q.2.length = m := fun q hq => by rw [swapT_eq hp ht] at hq; exact hwide q (swapP_mem hq)
    -- the order of the rows
    have so : ∀ i, i < p → ov (swapO os p t) i = ov os i := fun i hi => by
      unfold ov; funext j; rw [swapO_at hpo hto, if_neg (by omega), if_neg (by omega)]
    have sc : ∀ l, l < p → Bar.upd c p k l = c l := fun l hl => by unfold Bar.upd; rw [if_neg (by omega)]
    have scp : Bar.upd c p k p = k := by unfold Bar.upd; rw [if_pos rfl]
    have ent_s : ∀ i j, ent (swapT ps p t) i j = if i = t then ent ps p j else if i = p then ent ps t j else ent ps i j := fun i j => by
      unfold ent; rw [swapT_at hp ht]
      split
      · rfl
      · split <;> rfl
    have ov_s : ∀ i, ov (swapO os p t) i = if i = t then ov os p else if i = p then ov os t else ov os i := fun i => by
      unfold ov; funext j; rw [swapO_at hpo hto]
      split
      · rfl
      · split <;> rfl
    generalize hO : ov (swapO os p t) = o' at *
    generalize hC : Bar.upd c p k = c' at *
    have hD' : f = Bar.D o' c' p := by rw [hfac]; exact D_congr (fun i hi => (so i hi).symm) (fun l hl => (sc l hl).symm)
    have hlow' : ∀ l, l < p → ∀ j, j < m → ent (swapT ps p t) l j = Bar.X o' c' p l j := fun l hl j hj => by
      rw [ent_s, if_neg (by omega), if_neg (by omega), hlow l hl j hj]
      exact X_congr j (fun i hi => (so i hi).symm) (fun l hl => (sc l hl).symm)
    have yc : ∀ i i' j, ov os i = o' i' → Bar.Y (ov os) c p i j = Bar.Y o' c' p i' j := fun i i' j hi => Y_congr j (fun i hi => (so i hi).symm) (fun l hl => (sc l hl).symm) hi
    have hhigh' : ∀ i, p ≤ i → i < os.length → ∀ j, j < m → ent (swapT ps p t) i j = Bar.Y o' c' p i j := fun i h1 h2 j hj => by
      rw [ent_s]
      by_cases h3 : i = t
      · rw [if_pos h3, hhigh p (Nat.le_refl _) hpo j hj]; exact yc p i j (by rw [ov_s, if_pos h3])
      · rw [if_neg h3]
        by_cases h4 : i = p
        · rw [if_pos h4, hhigh t (by omega) hto j hj]; exact yc t i j (by rw [ov_s, if_neg h3, if_pos h4])
        · rw [if_neg h4, hhigh i h1 h2 j hj]; exact yc i i j (by rw [ov_s, if_neg h3, if_neg h4])
    have hzero' : ∀ i, p ≤ i → i < os.length → ∀ j, j < k → ent (swapT ps p t) i j = 0 := fun i h1 h2 j hj => by
      rw [ent_s]
      split
      · exact hzero p (Nat.le_refl _) hpo j hj
      · split
        · exact hzero t (by omega) hto j hj
        · exact hzero i h1 h2 j hj
    have hlead : ps[t].2[k]?.getD 0 = Bar.D o' c' (p + 1) := by
      rw [Bar.D_new, scp, ← hhigh' p (Nat.le_refl _) hpo k hk, ent_s, ent_row ht]
      by_cases h3 : p = t
      · rw [if_pos h3, ent_row hp]; subst h3; rfl
      · rw [if_neg h3, if_pos rfl]
    have htopj : ∀ j, j < m → ps[t].2[j]?.getD 0 = Bar.Y o' c' p p j := fun j hj => by
      rw [← hhigh' p (Nat.le_refl _) hpo j hj, ent_s, ent_row ht]
      by_cases h3 : p = t
      · rw [if_pos h3, ent_row hp]; subst h3; rfl
      · rw [if_neg h3, if_pos rfl]
    have hlz : Bar.D o' c' (p + 1) ≠ 0 := by
      rw [← hlead]
      unfold hit at e3
      rw [List.getElem?_eq_getElem ht] at e3
      simpa using e3
    have hDz : Bar.D o' c' p ≠ 0 := by rw [← hD']; exact hne
    have hpl : (pv ++ [(k : Int)]).length = p + 1 := by simp [hpd]
    have hkz : ∀ i, p ≤ i → i < os.length → ent (swapT ps p t) i k = Bar.Y o' c' p i k := fun i h1 h2 => hhigh' i h1 h2 k hk
    have hnew : ∀ i, i < os.length → ∀ j, j < m → ent (elimP (ps[t].2[k]?.getD 0) f k p ps[t].2 (swapT ps p t)) i j = if i ≤ p then Bar.X o' c' (p + 1) i j else Bar.Y o' c' (p + 1) i j := fun i hi j hj => by
      rw [elimP_ent htl hsw (by omega) hj, hlead, htopj j hj]
      by_cases h1 : i = p
      · rw [if_pos h1, if_pos (by omega), hhigh' i (by omega) hi j hj, h1, Bar.X_new]
      · rw [if_neg h1]
        by_cases h2 : i < p
        · rw [if_pos (by omega), hlow' i h2 j hj, hlow' i h2 k hk]
          have := Bar.X_step o' c' j h2 hDz
          rw [scp] at this
          rw [← this, hD', Int.mul_tdiv_cancel_left _ hDz]
        · rw [if_neg (by omega), hhigh' i (by omega) hi j hj, hhigh' i (by omega) hi k hk]
          have := Bar.Y_step o' c' i j hDz
          rw [scp] at this
          rw [← this, hD', Int.mul_tdiv_cancel_left _ hDz]
    refine ⟨swapO os p t, c', by dsimp only; rw [elimP_len]; omega, fun q hq => elimP_row htl hsw q hq, fun r => by rw [swapO_mem hpo hto]; exact hmem r, by omega, ?_, ?_, ?_, ?_, ?_, ?_, ?_, ?_, ?_⟩
    · intro l hl
      dsimp only at hl ⊢
      rw [hpl] at hl
      by_cases h1 : l < p
      · rw [List.getElem?_append_left (by omega), hpiv l h1, sc l h1]
      · obtain rfl : l = p := by omega
        rw [List.getElem?_append_right (by omega), scp, hpd, Nat.sub_self]; rfl
    · dsimp only; rw [hpl, hol]; omega
    · intro a b hab hb
      dsimp only at hb
      rw [hpl] at hb
      by_cases h1 : b < p
      · rw [sc a (by omega), sc b h1]; exact hasc a b hab h1
      · obtain rfl : b = p := by omega
        rw [sc a hab, scp]; exact hck a hab
    · intro l hl
      dsimp only at hl
      rw [hpl] at hl
      by_cases h1 : l < p
      · rw [sc l h1]; have := hck l h1; omega
      · obtain rfl : l = p := by omega
        rw [scp]; omega
    · dsimp only; rw [hpl, hO]; exact hlead
    · dsimp only; rw [hlead]; exact hlz
    · intro l hl j hj
      dsimp only at hl ⊢
      rw [hpl] at hl ⊢
      rw [hO, hnew l (by omega) j hj, if_pos (by omega)]
    · intro i h1 h2 j hj
      dsimp only at h1 ⊢
      rw [hpl] at h1 ⊢
      rw [hol] at h2
      rw [hO, hnew i h2 j hj, if_neg (by omega)]
    · intro i h1 h2 j hj
      dsimp only at h1 ⊢
      rw [hpl] at h1
      rw [hol] at h2
      rw [elimP_ent htl hsw (by omega) (by omega), if_neg (by omega)]
      by_cases h3 : j = k
      · subst h3; rw [Int.sub_self]; exact Int.zero_tdiv _
      · have z1 := hzero' i (by omega) h2 j (by omega)
        have z2 := hzero' p (Nat.le_refl _) hpo j (by omega)
        rw [hhigh' p (Nat.le_refl _) hpo j (by omega), ← htopj j (by omega)] at z2
        rw [z1, z2]; simp
theorem BInv.start {M : List (List Int)} {m : Nat} {qs : List Row} (hq : qs.map Prod.snd = M) (hm : ∀ r ∈ M, r.length = m) : BInv M m 0 (qs, [], 1) M (fun _ => 0) := by
  have hl : qs.length = M.length := by rw [← hq, List.length_map]
  refine ⟨hl, fun q hq' => hm _ (by rw [← hq]; exact List.mem_map_of_mem hq'), fun r => Iff.rfl, rfl, fun l h => ?_, Nat.zero_le _, fun a b _ h => ?_, fun l h => ?_, ?_, ?_, fun l h => ?_, fun i _ hi j hj => ?_, fun i _ _ j h => ?_⟩
  · simp at h
  · simp at h
  · simp at h
  · show (1 : Int) = Bar.W [] []
    rw [Bar.W]
  · show (1 : Int) ≠ 0
    decide
  · simp at h
  · show ent qs i j = Bar.W [ov M i] [j]
    rw [Bar.W_cons]
    show _ = ov M i j * Bar.W [] [] - 0
    rw [Bar.W]
    unfold ent ov
    rw [← hq, List.getElem?_map]
    cases qs[i]? with
    | none => simp [rowN]
    | some q => simp
  · omega
theorem BInv.all {M : List (List Int)} {m : Nat} {qs : List Row} (hq : qs.map Prod.snd = M) (hm : ∀ r ∈ M, r.length = m) : ∀ k, k ≤ m → ∃ os c, BInv M m k (redN (qs, [], 1) k) os c
  | 0, _ => ⟨M, _, BInv.start hq hm⟩
  | k + 1, h => by
    obtain ⟨os, c, hb⟩ := BInv.all hq hm k (by omega)
    exact hb.step (by omega)
end Go.Proofs.YtpnghgihepnepaaDoor
