/- slices.SortFunc at rows, by whatever comparator. -/
import Derived.Test.YtahffjoehjpfkaaGl
import Derived.Test.YtahffjoehjpfkaaRw
import Derived.Sort.LotA
namespace Go.Proofs.Ytahffjoehjpfkaa
open Go.RowKit Go.Shelf Go.Lib Go.Sort
set_option linter.unusedVariables false

theorem lexI_neg : ∀ a b : List Int, lexI b a = -lexI a b
  | [], [] => by simp [lexI]
  | [], _ :: _ => by simp [lexI]
  | _ :: _, [] => by simp [lexI]
  | x :: xs, y :: ys => by
    have := lexI_neg xs ys
    unfold lexI
    split <;> split <;> first | omega | (split <;> omega) | skip
theorem lexI_range : ∀ a b : List Int, lexI a b = -1 ∨ lexI a b = 0 ∨ lexI a b = 1
  | [], [] => by simp [lexI]
  | [], _ :: _ => by simp [lexI]
  | _ :: _, [] => by simp [lexI]
  | x :: xs, y :: ys => by
    have := lexI_range xs ys
    unfold lexI
    split
    · omega
    · split <;> omega
theorem compareI_neg (a b : List Int) : compareI b a = -compareI a b := by
  have := lexI_neg a b
  unfold compareI
  split <;> split <;> first | omega | (split <;> omega) | skip
theorem lexI_trans : ∀ a b c : List Int, a.length = b.length → b.length = c.length → lexI a b ≤ 0 → lexI b c ≤ 0 → lexI a c ≤ 0
  | [], [], [], _, _, _, _ => by simp [lexI]
  | x :: xs, y :: ys, z :: zs, h, h', h1, h2 => by
    have := lexI_trans xs ys zs (by simpa using h) (by simpa using h')
    unfold lexI at h1 h2 ⊢
    split at h1 <;> split at h2 <;> split <;> first | omega | (split at h1 <;> first | omega | (split at h2 <;> first | omega | (split <;> first | omega | (apply this <;> omega)))) | (split at h2 <;> first | omega | (split <;> omega)) | (split at h1 <;> first | omega | (split <;> omega))
theorem cmp_trans (a b c : List Int) (h : compareI a b ≤ 0) : compareI b c ≤ 0 → compareI a c ≤ 0 := by
  intro h'
  have := lexI_trans a b c
  unfold compareI at h h' ⊢
  split
  · omega
  · split
    · split at h <;> split at h' <;> first | omega | (split at h <;> first | omega | (split at h' <;> omega)) | (split at h' <;> omega)
    · apply this
      all_goals (split at h <;> split at h' <;> first | omega | (split at h <;> first | omega | (split at h' <;> omega)) | (split at h' <;> omega))

theorem ins_none (p : Option Addr) (cap : Nat) (fv : Value) (w : World) :
    Calls Try.prog 81 #[.slice p 0 cap, .int .i64 0, .int .i64 0, fv] w fun e w' => e = .returned (.tuple #[]) ∧ w' = w := by
  go_enter Try.func81, Try.ntmps81
  go_wp2
  refine wp_loop_rounds 1 ?_
  rw [rounds_succ]
  go_wp2
  go_end0
  exact ⟨rfl, rfl⟩
set_option maxHeartbeats 2000000 in
theorem pdq_none (p : Option Addr) (cap : Nat) (lim : Int) (fv : Value) (w : World) :
    Calls Try.prog 79 #[.slice p 0 cap, .int .i64 0, .int .i64 0, .int .i64 lim, fv] w fun e w' => e = .returned (.tuple #[]) ∧ w' = w := by
  go_enter Try.func79, Try.ntmps79
  go_wp2_with fail
  refine wp_loop_rounds 1 ?_
  rw [rounds_succ]
  go_wp2_with (go_at_call 81; refine (ins_none _ _ _ _).mono ?_; rintro e w' ⟨rfl, rfl⟩)
  (try simp only [Exit.inBlock, Exit.then]); refine bodyPost_ret (results_none rfl _ _ _) rfl ?_
  exact ⟨rfl, rfl⟩
theorem sort_none (p : Option Addr) (cap : Nat) (fv : Value) (w : World) :
    Calls Try.prog 69 #[.slice p 0 cap, fv] w fun e w' => e = .returned (.tuple #[]) ∧ w' = w := by
  have hl : ∀ W, Calls Try.prog 80 #[.int .u64 0] W fun e w' => e = .returned (.int .i64 (Lib.bitLen 0 : Nat)) ∧ w' = W :=
    fun W => Any.bits_Len (SlLaysF0.n15.bits (P := Try.prog) (ρ := Try.laysSlF6_f69_ren) { Try.laysSlF6_f69 with }) 0 W (by omega) (by omega)
  go_enter Try.func69, Try.ntmps69
  go_wp2_with (first | (go_at_call 80; refine (hl _).mono ?_; rintro e w' ⟨rfl, rfl⟩) | (go_at_call 79; refine (pdq_none _ _ _ _ _).mono ?_; rintro e w' ⟨rfl, rfl⟩))
  go_end0
  exact ⟨rfl, rfl⟩

/-- A row that lies apart from block g. -/
abbrev El (w : World) (g : Nat) : Type := { p : Row // RowOk w p ∧ ∀ k, p.1.ownBlock = some k → k ≠ g }
instance (w : World) (g : Nat) : Inhabited (El w g) := ⟨⟨(.slice none 0 0, []), ⟨⟨none, 0, rfl, Nat.zero_le _, by simp, .inl rfl⟩, Good.nil, by simp [Value.ownBlock]⟩, by simp [Value.ownBlock]⟩⟩
def encEl (w : World) (g : Nat) (x : El w g) : Value := x.1.1
theorem grownBy_sort {α : Type} [Inhabited α] (enc : α → Value) (w : World) (g n : Nat) (os : Array Obj) (d : Array α) : w.grownBy (sortWorld enc w g 0 n d os) (some g) := by
  refine ⟨rfl, rfl, rfl, by simp [sortWorld], fun k hk hne => ?_⟩
  unfold sortWorld
  rw [heap_grow_old _ _ (by simpa using hk)]
  have : g ≠ k := fun e => hne (by rw [e])
  simp [putRow, mapBlock, Sort.ahead, Array.getElem?_modify, this]


/-- What a comparator is. -/
def CmpOk (c : List Int → List Int → Int) : Prop := (∀ a b, c b a = -c a b) ∧ (∀ a b d, c a b ≤ 0 → c b d ≤ 0 → c a d ≤ 0) ∧ ∀ a b, c a b = 0 → a = b
theorem cmpOk_up : CmpOk compareI := ⟨fun a b => compareI_neg a b, fun a b d => cmp_trans a b d, fun a b h => (compareI_zero a b).1 h⟩
theorem cmpOk_down : CmpOk (fun a b => compareI b a) := ⟨fun a b => compareI_neg b a, fun a b d h k => cmp_trans d b a k h, fun a b h => ((compareI_zero b a).1 h).symm⟩
def cmpC (c : List Int → List Int → Int) (w : World) (g : Nat) (x y : El w g) : Int := c x.1.2 y.1.2
theorem swo_c {c : List Int → List Int → Int} (hc : CmpOk c) (w : World) (g : Nat) : Go.Sort.SWO (ltOf (cmpC c w g)) := by
  obtain ⟨hneg, htr, hz⟩ := hc
  refine ⟨fun x => ?_, fun x y z h1 h2 => ?_, fun x y z h1 h2 => ?_⟩
  · unfold ltOf cmpC
    have := hneg x.1.2 x.1.2
    simp only [decide_eq_false_iff_not]
    omega
  · unfold ltOf cmpC at *
    simp only [decide_eq_true_eq] at *
    have h3 := htr _ _ _ (Int.le_of_lt h1) (Int.le_of_lt h2)
    rcases Int.lt_or_eq_of_le h3 with h4 | h4
    · exact h4
    · have := hz _ _ h4
      rw [this] at h1
      have := hneg y.1.2 z.1.2
      omega
  · unfold ltOf cmpC at *
    simp only [decide_eq_false_iff_not, Int.not_lt] at *
    have h3 := hneg y.1.2 x.1.2
    have h4 := hneg z.1.2 y.1.2
    have h5 := htr z.1.2 y.1.2 x.1.2 (by have := hneg y.1.2 z.1.2; omega) (by have := hneg x.1.2 y.1.2; omega)
    have := hneg x.1.2 z.1.2
    omega
theorem sortc_any (fc : FuncId) (cmp : List Int → List Int → Int) (hent : ∀ args W, (callFunc fc args).run Try.prog W = .ok (.enter fc args) W)
    (hcp : ∀ (va vb : Value) (xs ys : List Int) (w : World), Ints w va xs → Ints w vb ys → Calls Try.prog fc #[va, vb] w fun e w' => e = .returned (.int .i64 (cmp xs ys)) ∧ w' = w)
    (hswo : CmpOk cmp) (v : Value) (ps : List Row) (base : Nat) (w : World) (h : OwnP w base v ps) (hlen : ps.length ≤ 1000000000000) :
    Calls Try.prog 69 #[v, .func (.func fc) #[] #[]] w fun e w' => e = .returned (.tuple #[]) ∧ ∃ ps' : List Row, ps'.Perm ps ∧ ps'.Pairwise (fun p q => cmp p.2 q.2 ≤ 0) ∧ OwnP w' base v ps' ∧ w.grownBy w' v.ownBlock := by
  rcases h.1.2 with ⟨rfl, h0⟩ | ⟨g, cap, cur, rfl, hbg, hh, hn, hm, hs, ht⟩
  · have : ps = [] := List.eq_nil_of_length_eq_zero h0
    subst this
    refine (sort_none _ _ _ _).mono ?_
    rintro e w' ⟨rfl, rfl⟩
    exact ⟨rfl, [], List.Perm.refl _, List.Pairwise.nil, h, grown_refl _ _⟩
  · have hall : ∀ p ∈ ps, RowOk w p ∧ ∀ k, p.1.ownBlock = some k → k ≠ g := fun p hp => ⟨(h.2 p hp).1, fun k hk e => (h.2 p hp).2 k hk (by rw [e]; rfl)⟩
    obtain ⟨d, hd⟩ : ∃ d : List (El w g), d.map Subtype.val = ps := ⟨ps.pmap (fun p hp => ⟨p, hp⟩) hall, by rw [List.map_pmap]; simp⟩
    have hdl : d.length = ps.length := by rw [← hd, List.length_map]
    have hdm : ∀ j (hj : j < d.length), encEl w g d[j] = (ps[j]'(by omega)).1 := by
      intro j hj
      unfold encEl
      subst hd
      simp
    have H0 : Holds (encEl w g) w g 0 d.toArray := by
      intro j hj
      have hj' : j < d.length := by simpa using hj
      have h1 := World.ownsRow.cellAt h.1 j (by omega)
      refine ⟨?_, World.ownsRow.frozenAt h.1 _⟩
      rw [Nat.zero_add, h1]
      simp only [List.getElem?_map]
      rw [List.getElem?_eq_getElem (by omega), getElem!_pos d.toArray j hj]
      simp only [Option.map_some, List.getElem_toArray, hdm j hj']
    have hsz : d.toArray.size = ps.length := by simpa using hdl
    have hcmp : CmpLays1 Try.prog fc #[] (encEl w g) (cmpC cmp w g) g 0 d.toArray.size w := by
      intro m os dk hdk x y
      have gx := x.2.1.1.kept (grownBy_sort (encEl w g) w g m os dk) (by rintro k ⟨⟩ e; exact x.2.2 _ e rfl)
      have gy := y.2.1.1.kept (grownBy_sort (encEl w g) w g m os dk) (by rintro k ⟨⟩ e; exact y.2.2 _ e rfl)
      refine (hcp _ _ _ _ _ gx gy).mono ?_
      rintro e w' ⟨rfl, rfl⟩
      exact ⟨rfl, 0, #[], by simp [World.drewN, grow]⟩
    have hone : OneCell (encEl w g) := fun x => slice_one x.2.1
    have hc := Any.slices_SortFunc Try.laysSlF6_f69 (encEl w g) hone (cmpC cmp w g) (swo_c hswo w g) fc #[] g 0 cap d.toArray w hent hcmp H0 (Array.getElem?_eq_some_iff.1 hh).1 (by omega)
    rw [hsz] at hc
    refine hc.mono ?_
    rintro e w' ⟨rfl, d', n, os, hP, hS, rfl⟩
    refine ⟨rfl, d'.toList.map Subtype.val, ?_, ?_, ?_, grownBy_sort _ _ _ _ _ _⟩
    · have h1 := hP.2.2
      rw [show d'.extract 0 ps.length = d' by rw [← hsz, ← hP.1]; exact Array.extract_size, show d.toArray.extract 0 ps.length = d.toArray by rw [← hsz]; exact Array.extract_size] at h1
      have h2 := h1.map Subtype.val
      rwa [show d.toArray.toList = d from rfl, hd] at h2
    · rw [List.pairwise_map, List.pairwise_iff_getElem]
      intro i j hi hj hij
      have hi' : i < d'.size := by simpa using hi
      have hj' : j < d'.size := by simpa using hj
      have h1 := hS i j (Nat.zero_le _) hij (by have := hP.1; omega)
      rw [getElem!_pos d' j hj', getElem!_pos d' i hi'] at h1
      unfold ltOf cmpC at h1
      simp only [decide_eq_false_iff_not, Int.not_lt] at h1
      have := hswo.1 d'[j].1.2 d'[i].1.2
      simp only [Array.getElem_toList]
      omega
    · have hl' : d'.size = ps.length := by rw [hP.1, hsz]
      have hheap : (sortWorld (encEl w g) w g 0 n d' os).heap[g]? = some (.cells (putCells (encEl w g) 0 d' cur) 22 (0, 0)) := by
        unfold sortWorld
        rw [heap_grow_old _ _ (by simpa using (Array.getElem?_eq_some_iff.1 hh).1)]
        simp [putRow, mapBlock, Sort.ahead, Array.getElem?_modify, hh, onCells]
      have hpl : (d'.toList.map Subtype.val).length = ps.length := by simp [hl']
      refine ⟨⟨by simp, .inr ⟨g, cap, _, by rw [hpl], hbg, hheap, by rw [hpl]; exact hn, hm, by simp [putCells, hs], ?_⟩⟩, ?_⟩
      · apply List.ext_getElem?
        intro j
        by_cases hj : j < ps.length
        · rw [List.getElem?_take_of_lt (by rw [hpl]; omega), Array.getElem?_toList]
          have hjd : j < d'.size := by omega
          simp [putCells, encEl, hjd, show j < cur.size by omega]
        · rw [List.getElem?_take_eq_none (by rw [hpl]; omega), List.getElem?_eq_none (by simp; omega)]
      · intro p hp
        obtain ⟨x, -, rfl⟩ := List.mem_map.1 hp
        refine ⟨x.2.1.kept (grownBy_sort _ _ _ _ _ _) (by rintro k ⟨⟩ e; exact x.2.2 _ e rfl), fun k hk e => ?_⟩
        simp only [Value.ownBlock, Option.some.injEq] at e
        exact x.2.2 k hk e.symm

end Go.Proofs.Ytahffjoehjpfkaa
