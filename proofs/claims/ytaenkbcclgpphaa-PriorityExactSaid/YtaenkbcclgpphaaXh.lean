/- Contracts of the reference of words: headed. -/
import Derived.Test.YtaenkbcclgpphaaXg
namespace Go.Proofs.Ytaenkbcclgpphaa
open Go.RowKit
set_option linter.unusedVariables false

theorem ownI_lit (w : World) (base : Nat) (x : Int) (hb : base ≤ w.heap.size) : OwnI (w.alloc (.cells #[.int .i64 x] 3)) base (.slice (some ⟨w.heap.size, 0, none⟩) 1 1) [x] :=
  World.ownsRow_lit w #[.int .i64 x] 1 hb (by decide) rfl
theorem headed_take (x : Int) (ps : List Row) (k : Nat) (h : k < ps.length) : ((ps.take (k + 1)).map Prod.snd).map (fun l => x :: l) = ((ps.take k).map Prod.snd).map (fun l => x :: l) ++ [x :: (ps[k]).2] := by
  rw [snd_take ps k h, List.map_append]; rfl

set_option maxRecDepth 100000 in
set_option maxHeartbeats 2000000 in
theorem headed_any (x : Int) (vl : Value) (ps : List Row) (w : World) (h : RowsP w vl ps) (hx : -9223372036854775808 ≤ x ∧ x ≤ 9223372036854775807) (hl : ps.length ≤ 100000) (hrl : ∀ p ∈ ps, p.2.length ≤ 100000) :
    Calls Try.prog 78 #[.int .i64 x, vl] w (MadeF ((ps.map Prod.snd).map (fun l => x :: l)) w) := by
  have H := Lib.hid h; have HX := Lib.hid hx; have HRL := Lib.hid hrl
  obtain ⟨a, cap, rfl, -, -, -⟩ := h
  clear hrl hx
  go_enter Try.func78, Try.ntmps78
  go_wp2_with fail
  go_loopw [5, 6] (fun v i wr => ∃ (k : Nat) (qs : List Row), i = .int .i64 k ∧ k ≤ ps.length ∧ qs.length = k ∧ Hid (qs.map Prod.snd = ((ps.take k).map Prod.snd).map (fun l => x :: l)) ∧ Hid (OwnP wr w.heap.size v qs) ∧ Hid (w.grownBy wr none) ∧ Hid (∀ p ∈ qs, ∀ g, p.1.ownBlock = some g → w.heap.size ≤ g)) (fun _ i _ => ps.length - (intOf i).toNat)
  case atStart => exact ⟨0, [], rfl, Nat.zero_le _, rfl, Lib.hid rfl, Lib.hid (OwnP.nil _ _), Lib.hid (grown_refl _ _), Lib.hid (by simp)⟩
  case round =>
    obtain ⟨k, qs, rfl, hk, hql, hm, ho, hg, hf⟩ := hrel
    obtain ⟨ao, co, rfl⟩ := ho.out.slice
    have hqk : qs.length ≤ k := by omega
    have HQ := Lib.hid hql
    clear hql
    by_cases hlt : k < ps.length
    · have g1 : (k : Int) < (ps.length : Int) := by omega
      obtain ⟨_, _, hv, _, hc, hrow⟩ := H.out.same hg.out
      simp only [Value.slice.injEq] at hv
      obtain ⟨rfl, -, -⟩ := hv
      obtain ⟨b, off, rfl, hy⟩ := RowsP.at hc hlt
      have P1 := Lib.hid (hrow _ (List.getElem_mem hlt))
      have PL := Lib.hid (HRL.out _ (List.getElem_mem hlt))
      have HS := Lib.hid (headed_take x ps k hlt)
      clear hc hrow
      generalize ps[k] = p at *
      obtain ⟨pv, px⟩ := p
      dsimp only at hy
      have hy2 : (wr.alloc (.cells #[.int .i64 x] 3)).cell? ⟨b, off + k, none⟩ = some pv := (World.grownBy_alloc _ _ none).cell hy (by simp)
      have hl1 : [x].length + px.length ≤ 1000000000000 := by have := PL.out; simp at this ⊢; omega
      have hl2 : qs.length ≤ 1000000000000 := by omega
      have hsz := hg.out.size
      go_wp2_with (at_builtin; refine app_ints rfl (.tmp 15) (.tmp 19) rfl wr.heap.size (.slice (some ⟨wr.heap.size, 0, none⟩) 1 1) [x] (by kernel_rfl) (ownI_lit wr wr.heap.size x (Nat.le_refl _)) pv px (by kernel_rfl) (P1.out.same (World.grownBy_alloc _ _ none)).1 P1.out.2.1 hl1 (World.grownBy_alloc _ _ none).size ?_)
      intro v' w2 ho2 hg2
      have O2 := Lib.hid ho2
      have G2 : Hid (wr.grownBy w2 none) := Lib.hid (grown_then (World.grownBy_alloc _ _ none) hg2 (fun j hj => by simp only [Value.ownBlock, Option.some.injEq] at hj; exact .inl (by omega)))
      have OW := Lib.hid (ho.out.same G2.out)
      have F2 := Lib.hid (copy_far ho.out (ho2.mono (Nat.le_refl _)))
      have hsz2 := G2.out.size
      have HB : Hid (∀ y ∈ [x] ++ px, -9223372036854775808 ≤ y ∧ y ≤ 9223372036854775807) := Lib.hid (by intro y hy'; rcases List.mem_append.1 hy' with h | h; rw [List.mem_singleton.1 h]; exact HX.out; exact P1.out.bdd y h)
      have R2 := Lib.hid (ho2.row HB.out)
      have hfr : Hid (∀ g, v'.ownBlock = some g → w.heap.size ≤ g) := Lib.hid (fun g hg' => Nat.le_trans hsz (ho2.fresh g hg').1)
      clear ho2 hg2
      obtain ⟨a2, c2, rfl⟩ := ownI_open O2.out
      go_wp2_with (at_builtin; refine app_row rfl (.tmp 13) (.tmp 21) rfl w.heap.size (.slice ao qs.length co) qs (by kernel_rfl) (OW.out.same (World.grownBy_alloc _ _ none)) w2.heap.size (.slice a2 ([x] ++ px).length c2, [x] ++ px) (by kernel_rfl) (cell_new rfl) (R2.out.same (World.grownBy_alloc _ _ none)) F2.out hl2 (Nat.le_trans (Nat.le_trans hsz hsz2) (World.grownBy_alloc w2 _ none).size) ?_)
      intro v3 w3 ho3 hg3
      have O3 := Lib.hid ho3
      have G3 : Hid (w.grownBy w3 none) := Lib.hid (grown_then (grown_trans (grown_trans hg.out G2.out) (World.grownBy_alloc _ _ none)) hg3 (fun j hj => .inl (OW.out.fresh j hj).1))
      have F3 : Hid (∀ p ∈ qs ++ [(Value.slice a2 ([x] ++ px).length c2, [x] ++ px)], ∀ g, p.1.ownBlock = some g → w.heap.size ≤ g) := Lib.hid (by
        intro p hp g hg'
        rcases List.mem_append.1 hp with h | h
        · exact hf.out p h g hg'
        · rw [List.mem_singleton.1 h] at hg'; exact hfr.out g hg')
      clear ho3 hg3
      go_wp2_with fail
      go_roundw
      case rel => exact ⟨k + 1, _, by go_num, by omega, by have := HQ.out; simp; omega, Lib.hid (by rw [List.map_append, hm.out, HS.out]; rfl), O3, G3, F3⟩
      case measure => simp [intOf]; omega
    · have g1 : ¬ (k : Int) < (ps.length : Int) := by omega
      go_wp2_with fail
      go_ret
      exact ⟨_, qs, rfl, ho.out, by rw [hm.out, List.take_of_length_le (l := ps) (i := k) (by omega), List.map_map], hg.out, hf.out⟩

end Go.Proofs.Ytaenkbcclgpphaa
