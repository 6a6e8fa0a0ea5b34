/- slices.SortFunc at words: the contract. -/
import Derived.Test.YtaenkbcclgpphaaSf
namespace Go.Proofs.Ytaenkbcclgpphaa
open Go.RowKit Go.Shelf Go.Lib Go.Sort
set_option linter.unusedVariables false


theorem sort_any (v : Value) (ps : List Row) (base : Nat) (w : World) (h : OwnP w base v ps) (hlen : ps.length ≤ 1000000000000) :
    Calls Try.prog 68 #[v, .func (.func 19) #[] #[]] w fun e w' => e = .returned (.tuple #[]) ∧ ∃ ps' : List Row, ps'.Perm ps ∧ ps'.Pairwise (fun p q => compareI p.2 q.2 ≤ 0) ∧ OwnP w' base v ps' ∧ w.grownBy w' v.ownBlock := by
  rcases h.1.2 with ⟨rfl, h0⟩ | ⟨g, cap, cur, rfl, hbg, hh, hn, hm, hs, ht⟩
  · have : ps = [] := List.eq_nil_of_length_eq_zero h0
    subst this
    refine (sort_none _ _ _ _).mono ?_
    rintro e w' ⟨rfl, rfl⟩
    exact ⟨rfl, [], List.Perm.refl _, List.Pairwise.nil, h, grown_refl _ _⟩
  · have hall : ∀ p ∈ ps, RowOk w p ∧ ∀ k, p.1.ownBlock = some k → k ≠ g := fun p hp => ⟨(h.2 p hp).1, fun k hk e => (h.2 p hp).2 k hk (by rw [e]; rfl)⟩
    obtain ⟨d, hd⟩ : ∃ d : List (El w g), d.map Subtype.val = ps := ⟨ps.pmap (fun p hp => ⟨p, hp⟩) hall, by rw [List.map_pmap]; simp⟩
    have hdl : d.length = ps.length := by rw [← hd, List.length_map]
    have hdm : ∀ j (hj : j < d.length), encEl w g d[j] = (ps[j]'(by omega)).1 := by
      intro j hj
      unfold encEl
      subst hd
      simp
    have H0 : Holds (encEl w g) w g 0 d.toArray := by
      intro j hj
      have hj' : j < d.length := by simpa using hj
      have h1 := World.ownsRow.cellAt h.1 j (by omega)
      refine ⟨?_, World.ownsRow.frozenAt h.1 _⟩
      rw [Nat.zero_add, h1]
      simp only [List.getElem?_map]
      rw [List.getElem?_eq_getElem (by omega), getElem!_pos d.toArray j hj]
      simp only [Option.map_some, List.getElem_toArray, hdm j hj']
    have hsz : d.toArray.size = ps.length := by simpa using hdl
    have hcmp : CmpLays1 Try.prog 19 #[] (encEl w g) (cmpEl w g) g 0 d.toArray.size w := by
      intro m os dk hdk x y
      have gx := x.2.1.1.kept (grownBy_sort (encEl w g) w g m os dk) (by rintro k ⟨⟩ e; exact x.2.2 _ e rfl)
      have gy := y.2.1.1.kept (grownBy_sort (encEl w g) w g m os dk) (by rintro k ⟨⟩ e; exact y.2.2 _ e rfl)
      refine (wcompare_any _ _ _ _ _ gx gy).mono ?_
      rintro e w' ⟨rfl, rfl⟩
      exact ⟨rfl, 0, #[], by simp [World.drewN, grow]⟩
    have hone : OneCell (encEl w g) := fun x => slice_one x.2.1
    have hc := Any.slices_SortFunc Try.laysSlF6_f68 (encEl w g) hone (cmpEl w g) (swo_cmp w g) 19 #[] g 0 cap d.toArray w (enters_of Try.func19 (by kernel_rfl) rfl) hcmp H0 (Array.getElem?_eq_some_iff.1 hh).1 (by omega)
    rw [hsz] at hc
    refine hc.mono ?_
    rintro e w' ⟨rfl, d', n, os, hP, hS, rfl⟩
    refine ⟨rfl, d'.toList.map Subtype.val, ?_, ?_, ?_, grownBy_sort _ _ _ _ _ _⟩
    · have h1 := hP.2.2
      rw [show d'.extract 0 ps.length = d' by rw [← hsz, ← hP.1]; exact Array.extract_size, show d.toArray.extract 0 ps.length = d.toArray by rw [← hsz]; exact Array.extract_size] at h1
      have h2 := h1.map Subtype.val
      rwa [show d.toArray.toList = d from rfl, hd] at h2
    · rw [List.pairwise_map, List.pairwise_iff_getElem]
      intro i j hi hj hij
      have hi' : i < d'.size := by simpa using hi
      have hj' : j < d'.size := by simpa using hj
      have h1 := hS i j (Nat.zero_le _) hij (by have := hP.1; omega)
      rw [getElem!_pos d' j hj', getElem!_pos d' i hi'] at h1
      unfold ltOf cmpEl at h1
      simp only [decide_eq_false_iff_not, Int.not_lt] at h1
      have := compareI_neg d'[j].1.2 d'[i].1.2
      simp only [Array.getElem_toList]
      omega
    · have hl' : d'.size = ps.length := by rw [hP.1, hsz]
      have hheap : (sortWorld (encEl w g) w g 0 n d' os).heap[g]? = some (.cells (putCells (encEl w g) 0 d' cur) 22 (0, 0)) := by
        unfold sortWorld
        rw [heap_grow_old _ _ (by simpa using (Array.getElem?_eq_some_iff.1 hh).1)]
        simp [putRow, mapBlock, Sort.ahead, Array.getElem?_modify, hh, onCells]
      have hpl : (d'.toList.map Subtype.val).length = ps.length := by simp [hl']
      refine ⟨⟨by simp, .inr ⟨g, cap, _, by rw [hpl], hbg, hheap, by rw [hpl]; exact hn, hm, by simp [putCells, hs], ?_⟩⟩, ?_⟩
      · apply List.ext_getElem?
        intro j
        by_cases hj : j < ps.length
        · rw [List.getElem?_take_of_lt (by rw [hpl]; omega), Array.getElem?_toList]
          have hjd : j < d'.size := by omega
          simp [putCells, encEl, hjd, show j < cur.size by omega]
        · rw [List.getElem?_take_eq_none (by rw [hpl]; omega), List.getElem?_eq_none (by simp; omega)]
      · intro p hp
        obtain ⟨x, -, rfl⟩ := List.mem_map.1 hp
        refine ⟨x.2.1.kept (grownBy_sort _ _ _ _ _ _) (by rintro k ⟨⟩ e; exact x.2.2 _ e rfl), fun k hk e => ?_⟩
        simp only [Value.ownBlock, Option.some.injEq] at e
        exact x.2.2 k hk e.symm

end Go.Proofs.Ytaenkbcclgpphaa
