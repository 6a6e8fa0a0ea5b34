/- SortFunc at rows of one length, by slices.Compare. -/
import Derived.Test.YtgdnlibklopdiaaTl
import Derived.Test.YtgdnlibklopdiaaSg
namespace Go.Proofs.Ytgdnlibklopdiaa
open Go.RowKit Go.Shelf Go.Lib Go.Sort
set_option linter.unusedVariables false

abbrev ElN (w : World) (g n0 : Nat) : Type := { p : Row // RowOk w p ∧ (∀ k, p.1.ownBlock = some k → k ≠ g) ∧ p.2.length = n0 }
def encElN (w : World) (g n0 : Nat) (x : ElN w g n0) : Value := x.1.1
def cmpElN (w : World) (g n0 : Nat) (x y : ElN w g n0) : Int := compareI x.1.2 y.1.2

theorem swo_cmpN (w : World) (g n0 : Nat) [Inhabited (ElN w g n0)] : Go.Sort.SWO (ltOf (cmpElN w g n0)) := by
  have hneg := fun a b : List Int => compareI_neg a b
  refine ⟨fun x => ?_, fun x y z h1 h2 => ?_, fun x y z h1 h2 => ?_⟩
  · unfold ltOf cmpElN
    have := (compareI_zero x.1.2 x.1.2).2 rfl
    rw [this]; rfl
  · unfold ltOf cmpElN at *
    simp only [decide_eq_true_eq] at *
    have h3 := cmp_trans _ _ _ (Int.le_of_lt h1) (Int.le_of_lt h2)
    rcases Int.lt_or_eq_of_le h3 with h4 | h4
    · exact h4
    · have := (compareI_zero _ _).1 h4
      rw [this] at h1
      have := hneg y.1.2 z.1.2
      omega
  · unfold ltOf cmpElN at *
    simp only [decide_eq_false_iff_not, Int.not_lt] at *
    have h3 := hneg y.1.2 x.1.2
    have h4 := hneg z.1.2 y.1.2
    have h5 := cmp_trans z.1.2 y.1.2 x.1.2 (by have := hneg y.1.2 z.1.2; omega) (by have := hneg x.1.2 y.1.2; omega)
    have := hneg x.1.2 z.1.2
    omega

theorem sortn_any (n0 : Nat) (v : Value) (ps : List Row) (base : Nat) (w : World) (h : OwnP w base v ps) (hlen : ps.length ≤ 1000000000000) (hl0 : ∀ p ∈ ps, p.2.length = n0) :
    Calls Try.prog 81 #[v, .func (.func 82) #[] #[]] w fun e w' => e = .returned (.tuple #[]) ∧ ∃ ps' : List Row, ps'.Perm ps ∧ ps'.Pairwise (fun p q => compareI p.2 q.2 ≤ 0) ∧ OwnP w' base v ps' ∧ w.grownBy w' v.ownBlock := by
  rcases h.1.2 with ⟨rfl, h0⟩ | ⟨g, cap, cur, rfl, hbg, hh, hn, hm, hs, ht⟩
  · have : ps = [] := List.eq_nil_of_length_eq_zero h0
    subst this
    refine (sort_none _ _ _ _).mono ?_
    rintro e w' ⟨rfl, rfl⟩
    exact ⟨rfl, [], List.Perm.refl _, List.Pairwise.nil, h, grown_refl _ _⟩
  · by_cases hps : ps = []
    · subst hps
      simp only [List.length_nil]
      refine (sort_none _ _ _ _).mono ?_
      rintro e w' ⟨rfl, rfl⟩
      exact ⟨rfl, [], List.Perm.refl _, List.Pairwise.nil, h, grown_refl _ _⟩
    have hall : ∀ p ∈ ps, RowOk w p ∧ (∀ k, p.1.ownBlock = some k → k ≠ g) ∧ p.2.length = n0 := fun p hp => ⟨(h.2 p hp).1, fun k hk e => (h.2 p hp).2 k hk (by rw [e]; rfl), hl0 p hp⟩
    haveI : Inhabited (ElN w g n0) := ⟨⟨ps.head hps, hall _ (List.head_mem hps)⟩⟩
    obtain ⟨d, hd⟩ : ∃ d : List (ElN w g n0), d.map Subtype.val = ps := ⟨ps.pmap (fun p hp => ⟨p, hp⟩) hall, by rw [List.map_pmap]; simp⟩
    have hdl : d.length = ps.length := by rw [← hd, List.length_map]
    have hdm : ∀ j (hj : j < d.length), encElN w g n0 d[j] = (ps[j]'(by omega)).1 := by
      intro j hj
      unfold encElN
      subst hd
      simp
    have H0 : Holds (encElN w g n0) w g 0 d.toArray := by
      intro j hj
      have hj' : j < d.length := by simpa using hj
      have h1 := World.ownsRow.cellAt h.1 j (by omega)
      refine ⟨?_, World.ownsRow.frozenAt h.1 _⟩
      rw [Nat.zero_add, h1]
      simp only [List.getElem?_map]
      rw [List.getElem?_eq_getElem (by omega), getElem!_pos d.toArray j hj]
      simp only [Option.map_some, List.getElem_toArray, hdm j hj']
    have hsz : d.toArray.size = ps.length := by simpa using hdl
    have hcmp : CmpLays1 Try.prog 82 #[] (encElN w g n0) (cmpElN w g n0) g 0 d.toArray.size w := by
      intro m os dk hdk x y
      have gx := x.2.1.1.kept (grownBy_sort (encElN w g n0) w g m os dk) (by rintro k ⟨⟩ e; exact x.2.2.1 _ e rfl)
      have gy := y.2.1.1.kept (grownBy_sort (encElN w g n0) w g m os dk) (by rintro k ⟨⟩ e; exact y.2.2.1 _ e rfl)
      refine (slcmp_any _ _ _ _ _ gx gy (by rw [x.2.2.2, y.2.2.2])).mono ?_
      rintro e w' ⟨rfl, rfl⟩
      exact ⟨by unfold cmpElN; rw [compare_lex (by rw [x.2.2.2, y.2.2.2])], 0, #[], by simp [World.drewN, grow]⟩
    have hone : OneCell (encElN w g n0) := fun x => slice_one x.2.1
    have hc := Any.slices_SortFunc Try.laysSlF6_f81 (encElN w g n0) hone (cmpElN w g n0) (swo_cmpN w g n0) 82 #[] g 0 cap d.toArray w (enters_of Try.func82 (by kernel_rfl) rfl) hcmp H0 (Array.getElem?_eq_some_iff.1 hh).1 (by omega)
    rw [hsz] at hc
    refine hc.mono ?_
    rintro e w' ⟨rfl, d', n, os, hP, hS, rfl⟩
    refine ⟨rfl, d'.toList.map Subtype.val, ?_, ?_, ?_, grownBy_sort _ _ _ _ _ _⟩
    · have h1 := hP.2.2
      rw [show d'.extract 0 ps.length = d' by rw [← hsz, ← hP.1]; exact Array.extract_size, show d.toArray.extract 0 ps.length = d.toArray by rw [← hsz]; exact Array.extract_size] at h1
      have h2 := h1.map Subtype.val
      rwa [show d.toArray.toList = d from rfl, hd] at h2
    · rw [List.pairwise_map, List.pairwise_iff_getElem]
      intro i j hi hj hij
      have hi' : i < d'.size := by simpa using hi
      have hj' : j < d'.size := by simpa using hj
      have h1 := hS i j (Nat.zero_le _) hij (by have := hP.1; omega)
      rw [getElem!_pos d' j hj', getElem!_pos d' i hi'] at h1
      unfold ltOf cmpElN at h1
      simp only [decide_eq_false_iff_not, Int.not_lt] at h1
      have := compareI_neg d'[j].1.2 d'[i].1.2
      simp only [Array.getElem_toList]
      omega
    · have hl' : d'.size = ps.length := by rw [hP.1, hsz]
      have hheap : (sortWorld (encElN w g n0) w g 0 n d' os).heap[g]? = some (.cells (putCells (encElN w g n0) 0 d' cur) 22 (0, 0)) := by
        unfold sortWorld
        rw [heap_grow_old _ _ (by simpa using (Array.getElem?_eq_some_iff.1 hh).1)]
        simp [putRow, mapBlock, Sort.ahead, Array.getElem?_modify, hh, onCells]
      have hpl : (d'.toList.map Subtype.val).length = ps.length := by simp [hl']
      refine ⟨⟨by simp, .inr ⟨g, cap, _, by rw [hpl], hbg, hheap, by rw [hpl]; exact hn, hm, by simp [putCells, hs], ?_⟩⟩, ?_⟩
      · apply List.ext_getElem?
        intro j
        by_cases hj : j < ps.length
        · rw [List.getElem?_take_of_lt (by rw [hpl]; omega), Array.getElem?_toList]
          have hjd : j < d'.size := by omega
          simp [putCells, encElN, hjd, show j < cur.size by omega]
        · rw [List.getElem?_take_eq_none (by rw [hpl]; omega), List.getElem?_eq_none (by simp; omega)]
      · intro p hp
        obtain ⟨x, -, rfl⟩ := List.mem_map.1 hp
        refine ⟨x.2.1.kept (grownBy_sort _ _ _ _ _ _) (by rintro k ⟨⟩ e; exact x.2.2.1 _ e rfl), fun k hk e => ?_⟩
        simp only [Value.ownBlock, Option.some.injEq] at e
        exact x.2.2.1 k hk e.symm

end Go.Proofs.Ytgdnlibklopdiaa
