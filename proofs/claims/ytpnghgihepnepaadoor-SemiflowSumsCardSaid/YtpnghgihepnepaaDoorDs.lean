/- slices.SortFunc at rows of one length, by slices.Compare. -/
import Derived.Test.YtpnghgihepnepaaDoorWk
import Derived.Test.YtpnghgihepnepaaDoorRw
import Derived.Test.YtpnghgihepnepaaDoorSq
import Derived.Sort.LotA
namespace Go.Proofs.YtpnghgihepnepaaDoor
open Go.RowKit Go.Shelf Go.Lib Go.Sort
set_option linter.unusedVariables false

theorem ins_none (p : Option Addr) (cap : Nat) (fv : Value) (w : World) :
    Calls Tryd.prog 58 #[.slice p 0 cap, .int .i64 0, .int .i64 0, fv] w fun e w' => e = .returned (.tuple #[]) ∧ w' = w := by
  go_enter Tryd.func58, Tryd.ntmps58
  go_wp2
  refine wp_loop_rounds 1 ?_
  rw [rounds_succ]
  go_wp2
  go_end0
  exact ⟨rfl, rfl⟩
set_option maxHeartbeats 2000000 in
theorem pdq_none (p : Option Addr) (cap : Nat) (lim : Int) (fv : Value) (w : World) :
    Calls Tryd.prog 48 #[.slice p 0 cap, .int .i64 0, .int .i64 0, .int .i64 lim, fv] w fun e w' => e = .returned (.tuple #[]) ∧ w' = w := by
  go_enter Tryd.func48, Tryd.ntmps48
  go_wp2_with fail
  refine wp_loop_rounds 1 ?_
  rw [rounds_succ]
  go_wp2_with (go_at_call 58; refine (ins_none _ _ _ _).mono ?_; rintro e w' ⟨rfl, rfl⟩)
  (try simp only [Exit.inBlock, Exit.then]); refine bodyPost_ret (results_none rfl _ _ _) rfl ?_
  exact ⟨rfl, rfl⟩
theorem sort_none (p : Option Addr) (cap : Nat) (fv : Value) (w : World) :
    Calls Tryd.prog 32 #[.slice p 0 cap, fv] w fun e w' => e = .returned (.tuple #[]) ∧ w' = w := by
  have hl : ∀ W, Calls Tryd.prog 49 #[.int .u64 0] W fun e w' => e = .returned (.int .i64 (Lib.bitLen 0 : Nat)) ∧ w' = W :=
    fun W => Any.bits_Len (SlLaysF0.n15.bits (P := Tryd.prog) (ρ := Tryd.laysSlF6_f32_ren) { Tryd.laysSlF6_f32 with }) 0 W (by omega) (by omega)
  go_enter Tryd.func32, Tryd.ntmps32
  go_wp2_with (first | (go_at_call 49; refine (hl _).mono ?_; rintro e w' ⟨rfl, rfl⟩) | (go_at_call 48; refine (pdq_none _ _ _ _ _).mono ?_; rintro e w' ⟨rfl, rfl⟩))
  go_end0
  exact ⟨rfl, rfl⟩

/-- A row of a length that lies apart from block g. -/
abbrev El (w : World) (g m : Nat) : Type := { p : Row // RowOk w p ∧ (∀ k, p.1.ownBlock = some k → k ≠ g) ∧ p.2.length = m }
def encEl (w : World) (g m : Nat) (x : El w g m) : Value := x.1.1
def cmpEl (w : World) (g m : Nat) (x y : El w g m) : Int := compareI x.1.2 y.1.2
theorem swo_cmp (w : World) (g m : Nat) : Go.Sort.SWO (ltOf (cmpEl w g m)) := by
  have hneg := fun a b : List Int => compareI_neg a b
  refine ⟨fun x => ?_, fun x y z h1 h2 => ?_, fun x y z h1 h2 => ?_⟩
  · unfold ltOf cmpEl
    have := (compareI_zero x.1.2 x.1.2).2 rfl
    rw [this]; rfl
  · unfold ltOf cmpEl at *
    simp only [decide_eq_true_eq] at *
    have h3 := cmp_trans _ _ _ (Int.le_of_lt h1) (Int.le_of_lt h2)
    rcases Int.lt_or_eq_of_le h3 with h4 | h4
    · exact h4
    · have := (compareI_zero _ _).1 h4
      rw [this] at h1
      have := hneg y.1.2 z.1.2
      omega
  · unfold ltOf cmpEl at *
    simp only [decide_eq_false_iff_not, Int.not_lt] at *
    have h3 := hneg y.1.2 x.1.2
    have h4 := hneg z.1.2 y.1.2
    have h5 := cmp_trans z.1.2 y.1.2 x.1.2 (by have := hneg y.1.2 z.1.2; omega) (by have := hneg x.1.2 y.1.2; omega)
    have := hneg x.1.2 z.1.2
    omega

theorem grownBy_sort {α : Type} [Inhabited α] (enc : α → Value) (w : World) (g n : Nat) (os : Array Obj) (d : Array α) : w.grownBy (sortWorld enc w g 0 n d os) (some g) := by
  refine ⟨rfl, rfl, rfl, by simp [sortWorld], fun k hk hne => ?_⟩
  unfold sortWorld
  rw [heap_grow_old _ _ (by simpa using hk)]
  have : g ≠ k := fun e => hne (by rw [e])
  simp [putRow, mapBlock, Sort.ahead, Array.getElem?_modify, this]

theorem sortm_any (v : Value) (ps : List Row) (base m : Nat) (w : World) (h : OwnP w base v ps) (hlen : ps.length ≤ 1000000000000) (hml : ∀ p ∈ ps, p.2.length = m) (hne : ps ≠ []) :
    Calls Tryd.prog 32 #[v, .func (.func 33) #[] #[]] w fun e w' => e = .returned (.tuple #[]) ∧ ∃ ps' : List Row, ps'.Perm ps ∧ ps'.Pairwise (fun p q => compareI p.2 q.2 ≤ 0) ∧ OwnP w' base v ps' ∧ w.grownBy w' v.ownBlock := by
  rcases h.1.2 with ⟨rfl, h0⟩ | ⟨g, cap, cur, rfl, hbg, hh, hn, hm, hs, ht⟩
  · have : ps = [] := List.eq_nil_of_length_eq_zero h0
    subst this
    refine (sort_none _ _ _ _).mono ?_
    rintro e w' ⟨rfl, rfl⟩
    exact ⟨rfl, [], List.Perm.refl _, List.Pairwise.nil, h, grown_refl _ _⟩
  · have hall : ∀ p ∈ ps, RowOk w p ∧ (∀ k, p.1.ownBlock = some k → k ≠ g) ∧ p.2.length = m := fun p hp => ⟨(h.2 p hp).1, fun k hk e => (h.2 p hp).2 k hk (by rw [e]; rfl), hml p hp⟩
    obtain ⟨p0, hp0⟩ : ∃ p, p ∈ ps := List.exists_mem_of_ne_nil _ hne
    haveI : Inhabited (El w g m) := ⟨⟨p0, hall p0 hp0⟩⟩
    obtain ⟨d, hd⟩ : ∃ d : List (El w g m), d.map Subtype.val = ps := ⟨ps.pmap (fun p hp => ⟨p, hp⟩) hall, by rw [List.map_pmap]; simp⟩
    have hdl : d.length = ps.length := by rw [← hd, List.length_map]
    have hdm : ∀ j (hj : j < d.length), encEl w g m d[j] = (ps[j]'(by omega)).1 := by
      intro j hj
      unfold encEl
      subst hd
      simp
    have H0 : Holds (encEl w g m) w g 0 d.toArray := by
      intro j hj
      have hj' : j < d.length := by simpa using hj
      have h1 := World.ownsRow.cellAt h.1 j (by omega)
      refine ⟨?_, World.ownsRow.frozenAt h.1 _⟩
      rw [Nat.zero_add, h1]
      simp only [List.getElem?_map]
      rw [List.getElem?_eq_getElem (by omega), getElem!_pos d.toArray j hj]
      simp only [Option.map_some, List.getElem_toArray, hdm j hj']
    have hsz : d.toArray.size = ps.length := by simpa using hdl
    have hcmp : CmpLays1 Tryd.prog 33 #[] (encEl w g m) (cmpEl w g m) g 0 d.toArray.size w := by
      intro m' os dk hdk x y
      have gx := x.2.1.1.kept (grownBy_sort (encEl w g m) w g m' os dk) (by rintro k ⟨⟩ e; exact x.2.2.1 _ e rfl)
      have gy := y.2.1.1.kept (grownBy_sort (encEl w g m) w g m' os dk) (by rintro k ⟨⟩ e; exact y.2.2.1 _ e rfl)
      refine (slcmp_any _ _ _ _ _ gx gy (by rw [x.2.2.2, y.2.2.2])).mono ?_
      rintro e w' ⟨rfl, rfl⟩
      exact ⟨by unfold cmpEl compareI; rw [if_neg (by rw [x.2.2.2, y.2.2.2]; omega), if_neg (by rw [x.2.2.2, y.2.2.2]; omega)], 0, #[], by simp [World.drewN, grow]⟩
    have hone : OneCell (encEl w g m) := fun x => slice_one x.2.1
    have hc := Any.slices_SortFunc Tryd.laysSlF6_f32 (encEl w g m) hone (cmpEl w g m) (swo_cmp w g m) 33 #[] g 0 cap d.toArray w (enters_of Tryd.func33 (by kernel_rfl) rfl) hcmp H0 (Array.getElem?_eq_some_iff.1 hh).1 (by omega)
    rw [hsz] at hc
    refine hc.mono ?_
    rintro e w' ⟨rfl, d', n, os, hP, hS, rfl⟩
    refine ⟨rfl, d'.toList.map Subtype.val, ?_, ?_, ?_, grownBy_sort _ _ _ _ _ _⟩
    · have h1 := hP.2.2
      rw [show d'.extract 0 ps.length = d' by rw [← hsz, ← hP.1]; exact Array.extract_size, show d.toArray.extract 0 ps.length = d.toArray by rw [← hsz]; exact Array.extract_size] at h1
      have h2 := h1.map Subtype.val
      rwa [show d.toArray.toList = d from rfl, hd] at h2
    · rw [List.pairwise_map, List.pairwise_iff_getElem]
      intro i j hi hj hij
      have hi' : i < d'.size := by simpa using hi
      have hj' : j < d'.size := by simpa using hj
      have h1 := hS i j (Nat.zero_le _) hij (by have := hP.1; omega)
      rw [getElem!_pos d' j hj', getElem!_pos d' i hi'] at h1
      unfold ltOf cmpEl at h1
      simp only [decide_eq_false_iff_not, Int.not_lt] at h1
      have := compareI_neg d'[j].1.2 d'[i].1.2
      simp only [Array.getElem_toList]
      omega
    · have hl' : d'.size = ps.length := by rw [hP.1, hsz]
      have hheap : (sortWorld (encEl w g m) w g 0 n d' os).heap[g]? = some (.cells (putCells (encEl w g m) 0 d' cur) 22 (0, 0)) := by
        unfold sortWorld
        rw [heap_grow_old _ _ (by simpa using (Array.getElem?_eq_some_iff.1 hh).1)]
        simp [putRow, mapBlock, Sort.ahead, Array.getElem?_modify, hh, onCells]
      have hpl : (d'.toList.map Subtype.val).length = ps.length := by simp [hl']
      refine ⟨⟨by simp, .inr ⟨g, cap, _, by rw [hpl], hbg, hheap, by rw [hpl]; exact hn, hm, by simp [putCells, hs], ?_⟩⟩, ?_⟩
      · apply List.ext_getElem?
        intro j
        by_cases hj : j < ps.length
        · rw [List.getElem?_take_of_lt (by rw [hpl]; omega), Array.getElem?_toList]
          have hjd : j < d'.size := by omega
          simp [putCells, encEl, hjd, show j < cur.size by omega]
        · rw [List.getElem?_take_eq_none (by rw [hpl]; omega), List.getElem?_eq_none (by simp; omega)]
      · intro p hp
        obtain ⟨x, -, rfl⟩ := List.mem_map.1 hp
        refine ⟨x.2.1.kept (grownBy_sort _ _ _ _ _ _) (by rintro k ⟨⟩ e; exact x.2.2.1 _ e rfl), fun k hk e => ?_⟩
        simp only [Value.ownBlock, Option.some.injEq] at e
        exact x.2.2.1 k hk e.symm


end Go.Proofs.YtpnghgihepnepaaDoor
