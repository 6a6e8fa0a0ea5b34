/- Minors, and what an elimination without fractions does to them. -/
import Derived.Lib.Hide
namespace Go.Proofs.Ytpnghgihepnepaa.Bar
set_option linter.unusedVariables false
abbrev Vec := Nat → Int
abbrev Form := List Nat → Int
def iota (R : Vec) : Form → List Nat → Int
  | _, [] => 0
  | F, x :: post => R x * F post - iota R (fun l => F (x :: l)) post
def Alt (F : Form) : Prop := ∀ pre x y post, F (pre ++ x :: y :: post) = - F (pre ++ y :: x :: post)
theorem Alt.cons {F : Form} (h : Alt F) (a : Nat) : Alt (fun l => F (a :: l)) := fun pre x y post => h (a :: pre) x y post
theorem iota_lin (R : Vec) (a b : Int) : ∀ (cs : List Nat) (F G : Form), iota R (fun l => a * F l + b * G l) cs = a * iota R F cs + b * iota R G cs
  | [], _, _ => by simp [iota]
  | x :: t, F, G => by
    unfold iota
    rw [iota_lin R a b t (fun l => F (x :: l)) (fun l => G (x :: l))]
    grind
theorem iota_congr (R : Vec) {F G : Form} (h : ∀ l, F l = G l) (cs : List Nat) : iota R F cs = iota R G cs := by
  rw [show F = G from funext h]
theorem iota_neg (R : Vec) (F : Form) (cs : List Nat) : iota R (fun l => - F l) cs = - iota R F cs := by
  have := iota_lin R (-1) 0 cs F F
  simp at this
  exact this
theorem iota_alt {F : Form} (R : Vec) (h : Alt F) : Alt (iota R F) := by
  intro pre
  induction pre generalizing F with
  | nil =>
    intro x y post
    have e : iota R (fun l => F (x :: y :: l)) post = - iota R (fun l => F (y :: x :: l)) post := by
      rw [← iota_neg]; exact iota_congr R (fun l => h [] x y l) post
    simp only [List.nil_append, iota]
    rw [e]; grind
  | cons a pre ih =>
    intro x y post
    have e1 := h pre x y post
    have e2 := ih (h.cons a) x y post
    simp only [List.cons_append, iota]
    rw [e1, e2]; grind
theorem iota_two (R S : Vec) : ∀ (cs : List Nat) (F : Form), iota R (iota S F) cs = - iota S (iota R F) cs
  | [], _ => by simp [iota]
  | x :: t, F => by
    have e : ∀ (R S : Vec), iota R (fun l => iota S F (x :: l)) t = S x * iota R F t - iota R (iota S (fun l => F (x :: l))) t := by
      intro R S
      have := iota_lin R (S x) (-1) t F (iota S (fun l => F (x :: l)))
      rw [iota_congr R (G := fun l => S x * F l + -1 * iota S (fun l => F (x :: l)) l) (fun l => by simp only [iota]; grind) t, this]
      grind
    have h1 := e R S
    have h2 := e S R
    have h3 := iota_two R S t (fun l => F (x :: l))
    show R x * iota S F t - iota R (fun l => iota S F (x :: l)) t = -(S x * iota R F t - iota S (fun l => iota R F (x :: l)) t)
    rw [h1, h2, h3]; grind
def W : List Vec → Form
  | [], [] => 1
  | [], _ :: _ => 0
  | R :: Rs, cs => iota R (W Rs) cs
theorem W_cons (R : Vec) (Rs : List Vec) : W (R :: Rs) = iota R (W Rs) := by
  funext cs; rw [W]
theorem W_alt (Rs : List Vec) : Alt (W Rs) := by
  induction Rs with
  | nil =>
    intro pre x y post
    have : ∀ (z : Nat) (l : List Nat), W [] (z :: l) = 0 := fun _ _ => by rw [W]
    cases pre with
    | nil => simp [this]
    | cons a pre => simp [this]
  | cons R Rs ih => rw [W_cons]; exact iota_alt R ih
theorem W_same (R : Vec) (Rs : List Vec) (cs : List Nat) : W (R :: R :: Rs) cs = 0 := by
  have := iota_two R R cs (W Rs)
  rw [W_cons, W_cons]; omega
theorem W_twist (R S : Vec) (Rs : List Vec) (cs : List Nat) : W (R :: S :: Rs) cs = - W (S :: R :: Rs) cs := by
  rw [W_cons, W_cons, W_cons, W_cons]; exact iota_two R S cs (W Rs)
/-- The newest first. -/
def tops (o : Nat → Vec) : Nat → List Vec
  | 0 => []
  | p + 1 => o p :: tops o p
def cols (c : Nat → Nat) : Nat → List Nat
  | 0 => []
  | p + 1 => c p :: cols c p
def upd (c : Nat → Nat) (l j : Nat) : Nat → Nat := fun t => if t = l then j else c t
theorem cols_congr {c d : Nat → Nat} : ∀ {p : Nat}, (∀ t, t < p → c t = d t) → cols c p = cols d p
  | 0, _ => rfl
  | p + 1, h => by unfold cols; rw [h p (by omega), cols_congr (fun t ht => h t (by omega))]
theorem tops_congr {c d : Nat → Vec} : ∀ {p : Nat}, (∀ t, t < p → c t = d t) → tops c p = tops d p
  | 0, _ => rfl
  | p + 1, h => by unfold tops; rw [h p (by omega), tops_congr (fun t ht => h t (by omega))]
theorem cols_new (c : Nat → Nat) (p j : Nat) : cols (upd c p j) (p + 1) = j :: cols c p := by
  show upd c p j p :: cols (upd c p j) p = _
  rw [cols_congr (c := upd c p j) (d := c) (fun t ht => by unfold upd; rw [if_neg (by omega)])]
  unfold upd; rw [if_pos rfl]
theorem alt_front {F : Form} (h : Alt F) (d : Nat → Nat) (a : Nat) : ∀ b, a < b → F (d a :: cols d b) = 0 := by
  intro b
  induction b generalizing F with
  | zero => intro h; omega
  | succ b ih =>
    intro hab
    unfold cols
    have e := h [] (d a) (d b) (cols d b)
    simp only [List.nil_append] at e
    by_cases h1 : a = b
    · subst h1; omega
    · have := ih (h.cons (d b)) (by omega)
      omega
theorem alt_rep {F : Form} (h : Alt F) (d : Nat → Nat) {a b : Nat} (hab : a < b) (e : d a = d b) : ∀ p, b < p → F (cols d p) = 0 := by
  intro p
  induction p generalizing F with
  | zero => intro h; omega
  | succ p ih =>
    intro hp
    unfold cols
    by_cases h1 : b = p
    · subst h1; rw [← e]; exact alt_front h d a _ hab
    · exact ih (h.cons (d p)) (by omega)
def sumN : Nat → (Nat → Int) → Int
  | 0, _ => 0
  | p + 1, f => f p + sumN p f
theorem sumN_congr {f g : Nat → Int} : ∀ {p : Nat}, (∀ l, l < p → f l = g l) → sumN p f = sumN p g
  | 0, _ => rfl
  | p + 1, h => by unfold sumN; rw [h p (by omega), sumN_congr (fun t ht => h t (by omega))]
theorem sumN_lin (a b : Int) (f g : Nat → Int) : ∀ p, sumN p (fun l => a * f l + b * g l) = a * sumN p f + b * sumN p g
  | 0 => by simp [sumN]
  | p + 1 => by simp only [sumN]; rw [sumN_lin a b f g p]; grind
theorem sumN_zero {f : Nat → Int} {p : Nat} (h : ∀ l, l < p → f l = 0) : sumN p f = 0 := by
  rw [sumN_congr (g := fun _ => 0) h]
  clear h
  induction p with
  | zero => rfl
  | succ p ih => unfold sumN; rw [ih]; rfl
theorem sumN_one {f : Nat → Int} {p k : Nat} (hk : k < p) (h : ∀ l, l < p → l ≠ k → f l = 0) : sumN p f = f k := by
  induction p with
  | zero => omega
  | succ p ih =>
    unfold sumN
    by_cases e : k = p
    · subst e; rw [sumN_zero (fun l hl => h l (by omega) (by omega))]; omega
    · rw [ih (by omega) (fun l hl hn => h l (by omega) hn), h p (by omega) (by omega)]; omega
theorem iota_cols {F : Form} (R : Vec) (h : Alt F) (c : Nat → Nat) (j : Nat) : ∀ p, iota R (fun l => F (j :: l)) (cols c p) = sumN p (fun l => R (c l) * F (cols (upd c l j) p)) := by
  intro p
  induction p generalizing F with
  | zero => rfl
  | succ p ih =>
    have e1 : iota R (fun l => F (j :: c p :: l)) (cols c p) = - iota R (fun l => F (c p :: j :: l)) (cols c p) := by
      rw [← iota_neg]; exact iota_congr R (fun l => h [] j (c p) l) _
    have e2 := ih (h.cons (c p))
    have e3 := cols_new c p j
    have e4 : ∀ l, l < p → R (c l) * F (c p :: cols (upd c l j) p) = R (c l) * F (cols (upd c l j) (p + 1)) := fun l hl => by
      have : cols (upd c l j) (p + 1) = c p :: cols (upd c l j) p := by
        show upd c l j p :: _ = _
        unfold upd; rw [if_neg (by omega)]
      rw [this]
    show R (c p) * F (j :: cols c p) - iota R (fun l => F (j :: c p :: l)) (cols c p) = R (c p) * F (cols (upd c p j) (p + 1)) + sumN p (fun l => R (c l) * F (cols (upd c l j) (p + 1)))
    rw [e1, e2, e3, sumN_congr e4]; omega
/-- What the numbers are. -/
def D (o : Nat → Vec) (c : Nat → Nat) (p : Nat) : Int := W (tops o p) (cols c p)
def X (o : Nat → Vec) (c : Nat → Nat) (p l j : Nat) : Int := W (tops o p) (cols (upd c l j) p)
def Y (o : Nat → Vec) (c : Nat → Nat) (p i j : Nat) : Int := W (o i :: tops o p) (j :: cols c p)
theorem X_self (o : Nat → Vec) (c : Nat → Nat) (p l : Nat) : X o c p l (c l) = D o c p := by
  unfold X D
  rw [cols_congr (c := upd c l (c l)) (d := c) (fun t _ => by unfold upd; split <;> simp_all)]
theorem X_other (o : Nat → Vec) (c : Nat → Nat) {p l t : Nat} (hl : l < p) (ht : t < p) (hlt : t ≠ l) : X o c p l (c t) = 0 := by
  unfold X
  have h1 : upd c l (c t) l = c t := by unfold upd; rw [if_pos rfl]
  have h2 : upd c l (c t) t = c t := by unfold upd; rw [if_neg hlt]
  by_cases h : l < t
  · exact alt_rep (W_alt _) _ h (by rw [h1, h2]) p ht
  · exact alt_rep (W_alt _) _ (show t < l by omega) (by rw [h1, h2]) p hl
theorem Y_piv (o : Nat → Vec) (c : Nat → Nat) {p t : Nat} (i : Nat) (ht : t < p) : Y o c p i (c t) = 0 := alt_front (W_alt _) c t p ht
theorem Y_eq (o : Nat → Vec) (c : Nat → Nat) (p i j : Nat) : Y o c p i j = o i j * D o c p - sumN p (fun l => o i (c l) * X o c p l j) := by
  unfold Y D X
  rw [W_cons]
  show o i j * W (tops o p) (cols c p) - iota (o i) (fun l => W (tops o p) (j :: l)) (cols c p) = _
  rw [iota_cols (o i) (W_alt _)]
theorem W_in (o : Nat → Vec) {t : Nat} : ∀ {p : Nat} (cs : List Nat), t < p → W (o t :: tops o p) cs = 0
  | 0, _, h => by omega
  | p + 1, cs, h => by
    unfold tops
    by_cases e : t = p
    · subst e; exact W_same _ _ _
    · rw [W_twist, W_cons]
      rw [iota_congr (o p) (G := fun _ => 0) (fun l => W_in o l (by omega)) cs]
      have := iota_lin (o p) 0 0 cs (fun _ => 0) (fun _ => 0)
      simp at this
      rw [this]; rfl
theorem Y_in (o : Nat → Vec) (c : Nat → Nat) {p t : Nat} (j : Nat) (ht : t < p) : Y o c p t j = 0 := W_in o _ ht
theorem cramer (o : Nat → Vec) (c : Nat → Nat) {p t : Nat} (j : Nat) (ht : t < p) : sumN p (fun l => o t (c l) * X o c p l j) = o t j * D o c p := by
  have h1 := Y_in o c j ht
  rw [Y_eq] at h1
  omega
theorem X_new (o : Nat → Vec) (c : Nat → Nat) (p j : Nat) : X o c (p + 1) p j = Y o c p p j := by
  unfold X Y
  rw [cols_new]; rfl
theorem D_new (o : Nat → Vec) (c : Nat → Nat) (p : Nat) : D o c (p + 1) = Y o c p p (c p) := rfl
/-! Spans -/
structure Lin (Q : Vec → Prop) : Prop where
  zero : Q (fun _ => 0)
  lin : ∀ (a b : Int) u v, Q u → Q v → Q (fun j => a * u j + b * v j)
theorem Lin.eq {Q : Vec → Prop} {u v : Vec} (h : Q u) (e : ∀ j, v j = u j) : Q v := by rw [show v = u from funext e]; exact h
theorem span_iota {Q : Vec → Prop} (hQ : Lin Q) (R : Vec) {F : Form} (h : ∀ pre post, Q (fun j => F (pre ++ j :: post))) : ∀ (post pre mid : List Nat), Q (fun j => iota R (fun l => F (pre ++ j :: (mid ++ l))) post)
  | [], pre, mid => by simp only [iota]; exact hQ.zero
  | x :: t, pre, mid => by
    have h1 := h pre (mid ++ t)
    have h2 := span_iota hQ R h t pre (mid ++ [x])
    have h3 := hQ.lin (R x) (-1) _ _ h1 h2
    refine Lin.eq h3 (fun j => ?_)
    simp only [iota, List.append_assoc, List.singleton_append]; omega
theorem span_step {Q : Vec → Prop} (hQ : Lin Q) {R : Vec} (hR : Q R) {F : Form} (h : ∀ pre post, Q (fun j => F (pre ++ j :: post))) : ∀ pre post, Q (fun j => iota R F (pre ++ j :: post)) := by
  intro pre
  induction pre generalizing F with
  | nil =>
    intro post
    have h2 := span_iota hQ R h post [] []
    have h3 := hQ.lin (F post) (-1) _ _ hR h2
    refine Lin.eq h3 (fun j => ?_)
    simp only [iota, List.nil_append]; grind
  | cons a pre ih =>
    intro post
    have h1 := h pre post
    have h2 := ih (F := fun l => F (a :: l)) (fun pre post => h (a :: pre) post) post
    have h3 := hQ.lin (R a) (-1) _ _ h1 h2
    refine Lin.eq h3 (fun j => ?_)
    simp only [iota, List.cons_append]; omega
theorem span_W {Q : Vec → Prop} (hQ : Lin Q) : ∀ {Rs : List Vec}, (∀ R ∈ Rs, Q R) → ∀ pre post, Q (fun j => W Rs (pre ++ j :: post))
  | [], _ => fun pre post => by
    refine Lin.eq hQ.zero (fun j => ?_)
    cases pre <;> (simp only [List.nil_append, List.cons_append]; rw [W])
  | R :: Rs, h => by
    rw [W_cons]
    exact span_step hQ (h R (by simp)) (span_W hQ (fun S hS => h S (by simp [hS])))
theorem mem_tops {o : Nat → Vec} {R : Vec} : ∀ {p : Nat}, R ∈ tops o p → ∃ t, t < p ∧ R = o t
  | 0, h => by simp [tops] at h
  | p + 1, h => by
    unfold tops at h
    rcases List.mem_cons.1 h with rfl | h
    · exact ⟨p, by omega, rfl⟩
    · obtain ⟨t, h1, h2⟩ := mem_tops h
      exact ⟨t, by omega, h2⟩
theorem cols_split (c : Nat → Nat) {l : Nat} : ∀ {p : Nat}, l < p → ∃ pre post, ∀ j, cols (upd c l j) p = pre ++ j :: post
  | 0, h => by omega
  | p + 1, h => by
    by_cases e : l = p
    · subst e
      refine ⟨[], cols c l, fun j => ?_⟩
      rw [cols_new]; rfl
    · obtain ⟨pre, post, h1⟩ := cols_split c (show l < p by omega)
      refine ⟨c p :: pre, post, fun j => ?_⟩
      unfold cols
      rw [h1 j]
      unfold upd; rw [if_neg (by omega)]; rfl
theorem X_span (o : Nat → Vec) (c : Nat → Nat) {Q : Vec → Prop} (hQ : Lin Q) {p l : Nat} (hl : l < p) (h : ∀ t, t < p → Q (o t)) : Q (X o c p l) := by
  obtain ⟨pre, post, h1⟩ := cols_split c hl
  have := span_W hQ (Rs := tops o p) (fun R hR => by obtain ⟨t, h2, rfl⟩ := mem_tops hR; exact h t h2) pre post
  exact Lin.eq this (fun j => by unfold X; rw [h1 j])
/-- What all rows annul is zero. -/
theorem annul (o : Nat → Vec) (c : Nat → Nat) {p : Nat} (hD : D o c p ≠ 0) (y : Nat → Int) (h : ∀ t, t < p → sumN p (fun l => o t (c l) * y l) = 0) : ∀ l, l < p → y l = 0 := by
  intro l hl
  have hQ : Lin (fun v => sumN p (fun l => v (c l) * y l) = 0) := by
    refine ⟨sumN_zero (fun l _ => by simp), fun a b u v hu hv => ?_⟩
    have := sumN_lin a b (fun l => u (c l) * y l) (fun l => v (c l) * y l) p
    rw [hu, hv] at this
    rw [sumN_congr (g := fun l => a * (u (c l) * y l) + b * (v (c l) * y l)) (fun l _ => by grind), this]; omega
  have h1 := X_span o c hQ hl h
  rw [sumN_one hl (fun l' hl' hn => by rw [X_other o c hl hl' hn]; simp), X_self] at h1
  rcases Int.mul_eq_zero.1 h1 with h2 | h2
  · exact absurd h2 hD
  · exact h2
theorem X_step (o : Nat → Vec) (c : Nat → Nat) {p l : Nat} (j : Nat) (hl : l < p) (hD : D o c p ≠ 0) : D o c p * X o c (p + 1) l j = X o c p l j * D o c (p + 1) - X o c p l (c p) * Y o c p p j := by
  have key := annul o c hD (fun l => D o c p * X o c (p + 1) l j + X o c p l (c p) * Y o c p p j - D o c (p + 1) * X o c p l j) (fun t ht => by
    have e1 := cramer o c (p := p + 1) (t := t) j (by omega)
    have e2 := cramer o c j ht
    have e3 := cramer o c (c p) ht
    replace e1 : o t (c p) * X o c (p + 1) p j + sumN p (fun l => o t (c l) * X o c (p + 1) l j) = o t j * D o c (p + 1) := e1
    rw [X_new] at e1
    have l1 := sumN_lin (D o c p) 1 (fun l => o t (c l) * X o c (p + 1) l j) (fun l => Y o c p p j * (o t (c l) * X o c p l (c p)) + (- D o c (p + 1)) * (o t (c l) * X o c p l j)) p
    have l2 := sumN_lin (Y o c p p j) (- D o c (p + 1)) (fun l => o t (c l) * X o c p l (c p)) (fun l => o t (c l) * X o c p l j) p
    rw [l2, e2, e3] at l1
    rw [sumN_congr (g := fun l => D o c p * (o t (c l) * X o c (p + 1) l j) + 1 * (Y o c p p j * (o t (c l) * X o c p l (c p)) + (- D o c (p + 1)) * (o t (c l) * X o c p l j))) (fun l _ => by grind), l1]
    grind) l hl
  grind
theorem Y_step (o : Nat → Vec) (c : Nat → Nat) {p : Nat} (i j : Nat) (hD : D o c p ≠ 0) : D o c p * Y o c (p + 1) i j = Y o c p i j * D o c (p + 1) - Y o c p i (c p) * Y o c p p j := by
  have e0 : Y o c (p + 1) i j = o i j * D o c (p + 1) - (o i (c p) * X o c (p + 1) p j + sumN p (fun l => o i (c l) * X o c (p + 1) l j)) := Y_eq o c (p + 1) i j
  rw [X_new] at e0
  rw [e0, Y_eq o c p i j, Y_eq o c p i (c p)]
  have l1 := sumN_lin (D o c (p + 1)) (- Y o c p p j) (fun l => o i (c l) * X o c p l j) (fun l => o i (c l) * X o c p l (c p)) p
  have l2 := sumN_lin (D o c p) 0 (fun l => o i (c l) * X o c (p + 1) l j) (fun _ => 0) p
  have e : sumN p (fun l => D o c p * (o i (c l) * X o c (p + 1) l j) + 0 * 0) = sumN p (fun l => D o c (p + 1) * (o i (c l) * X o c p l j) + - Y o c p p j * (o i (c l) * X o c p l (c p))) :=
    sumN_congr (fun l hl => by have := X_step o c j hl hD; grind)
  rw [e, l1] at l2
  grind
end Go.Proofs.Ytpnghgihepnepaa.Bar
