/- The reference's embedding. -/
import Derived.Test.YtnppmemcdcgjhaaMd
import Derived.Test.YtnppmemcdcgjhaaKh
namespace Go.Proofs.Ytnppmemcdcgjhaa
open Go.RowKit Tr
set_option linter.unusedVariables false

def RtTo (p : Prop) (n : Nat) (w : World) (e : Ending) (w' : World) : Prop := ∃ v xs B, e = .returned (.tuple #[v, .bool B]) ∧ OwnI w' w.heap.size v xs ∧ (B = true ↔ p) ∧ xs.length ≤ n ∧ (∀ x ∈ xs, 0 ≤ x ∧ x ≤ 2000000) ∧ w.grownBy w' none
/-- What is left to be embedded. -/
def GI (ss ts : List Tr) (κ ν : Nat) : Prop := EmbL ss ts ↔ EmbL (ss.drop κ) (ts.drop ν)
theorem GI.start (ss ts : List Tr) : GI ss ts 0 0 := by unfold GI; simp
theorem GI.skip {ss ts : List Tr} {κ ν : Nat} (h : GI ss ts κ ν) (hκ : κ < ss.length) (hν : ν < ts.length) (hn : ¬ Emb ss[κ] ts[ν]) : GI ss ts κ (ν + 1) := by
  have e1 := List.drop_eq_getElem_cons hκ
  have e2 := List.drop_eq_getElem_cons hν
  refine h.trans ?_
  rw [e1, e2]
  exact ⟨fun h => embL_skip h hn, fun h => .skip h⟩
theorem GI.next {ss ts : List Tr} {κ ν : Nat} (h : GI ss ts κ ν) (hκ : κ < ss.length) (hν : ν < ts.length) (hy : Emb ss[κ] ts[ν]) : GI ss ts (κ + 1) (ν + 1) := by
  have e1 := List.drop_eq_getElem_cons hκ
  have e2 := List.drop_eq_getElem_cons hν
  refine h.trans ?_
  rw [e1, e2]
  exact ⟨embL_take, fun h => .take hy h⟩
theorem GI.done {ss ts : List Tr} {ν : Nat} (h : GI ss ts ss.length ν) : EmbL ss ts := by
  have e : ss.drop ss.length = [] := List.drop_length
  exact h.2 (by rw [e]; exact .nil)
theorem GI.fail {ss ts : List Tr} {κ : Nat} (h : GI ss ts κ ts.length) (hκ : κ < ss.length) : ¬ EmbL ss ts := fun he => by
  have := h.1 he
  rw [List.drop_length, List.drop_eq_getElem_cons hκ] at this
  exact embL_nil this
theorem ownI_sl {w : World} {base : Nat} {v : Value} {xs : List Int} (h : OwnI w base v xs) : ∃ a c, v = .slice a xs.length c := by
  rcases h.2 with ⟨rfl, h0⟩ | ⟨g, cap, cur, rfl, hg, hh, hn, hm, hs, ht⟩
  · exact ⟨none, 0, by rw [h0]⟩
  · exact ⟨_, cap, rfl⟩
def Bx2 (w : World) (g : Nat) (x y : Value) : Prop := w.cell? ⟨g, 1, none⟩ = some x ∧ w.cell? ⟨g + 1, 1, none⟩ = some y ∧ g + 2 ≤ w.heap.size
theorem Bx2.kept {w w' : World} {g : Nat} {x y : Value} {row : Option Nat} (h : Bx2 w g x y) (hg : w.grownBy w' row) (hr : ∀ k, row = some k → g + 2 ≤ k) : Bx2 w' g x y :=
  ⟨hg.cell h.1 (fun e => by have := hr g e.symm; omega), hg.cell h.2.1 (fun e => by have := hr (g + 1) e.symm; omega), Nat.le_trans h.2.2 hg.size⟩
theorem Bx2.same {w w' : World} {g : Nat} {x y : Value} (h : Bx2 w g x y) (hg : w.grownBy w' none) : Bx2 w' g x y := h.kept hg (by simp)
/-- The contract of inside, for a second tree. -/
def InsideP (k : Tr) : Prop := ∀ (s : Tr) (P Q : Nat → Prop) (y z : Value) (w : World) (f : Nat), TrK P w y s → TrK Q w z k → size s ≤ 100000 → f + size k ≤ 100000 →
  Calls Try.prog 62 #[.agg #[.int .i64 s.label, y], .agg #[.int .i64 k.label, z], .int .i64 (f : Int)] w (RtTo (Emb s k) (size s) w)

set_option maxRecDepth 100000 in
set_option maxHeartbeats 1500000 in
theorem rooted_of (t : Tr) (IH0 : ∀ k, size k < size t → InsideP k) (s : Tr) (P Q : Nat → Prop) (y z : Value) (w : World) (f : Nat) (h : TrK P w y s) (h' : TrK Q w z t) (hs : size s ≤ 100000) (hf : f + size t ≤ 100000) :
    Calls Try.prog 70 #[.agg #[.int .i64 s.label, y], .agg #[.int .i64 t.label, z], .int .i64 (f : Int)] w (RtTo (Rooted s t) (size s) w) := by
  obtain ⟨a, cap, rfl⟩ := h.slice
  obtain ⟨a', cap', rfl⟩ := h'.slice
  have H := Lib.hid h.bound; have H' := Lib.hid h'.bound; have HS := Lib.hid hs; have IH := Lib.hid IH0
  have hkl : s.kids.length ≤ 100000 := by have := sizeL_len s.kids; rw [size_eq] at hs; omega
  have htl : t.kids.length ≤ 100000 := by have := sizeL_len t.kids; rw [size_eq] at hf; omega
  have HF : Hid (f + size t ≤ 100000) := Lib.hid hf
  have hf2 : f ≤ 100000 := by omega
  have i0 : IntKind.i64.wrap ((f : Int) + 1) = (f : Int) + 1 := IntWalk.i64_in _ (by omega)
  clear h h' hs IH0 hf
  by_cases hlab : s.label = t.label
  case neg =>
    have k1 : (s.label != t.label) = true := by simpa using hlab
    have HN : Hid (¬ Rooted s t) := Lib.hid (fun h => hlab h.1)
    clear hlab
    go_enter Try.func70, Try.ntmps70
    go_wp2_with fail
    go_ret2
    exact ⟨_, [], false, rfl, OwnI.nil _ _, ⟨(fun e => by cases e), fun h => absurd h HN.out⟩, Nat.zero_le _, by simp, grown_after (World.grownBy_alloc _ _ none)⟩
  have k1 : (s.label != t.label) = false := by simp [hlab]
  have HL := Lib.hid hlab
  clear hlab
  go_enter Try.func70, Try.ntmps70
  go_wp2_with fail
  have hsz1 : (w.alloc (.cells #[.int .i64 s.label, .slice a s.kids.length cap] 45)).heap.size = w.heap.size + 1 := by show (w.heap.push _).size = _; simp
  have hsz2 : ((w.alloc (.cells #[.int .i64 s.label, .slice a s.kids.length cap] 45)).alloc (.cells #[.int .i64 t.label, .slice a' t.kids.length cap'] 45)).heap.size = w.heap.size + 2 := by show ((w.heap.push _).push _).size = _; simp
  have hx := box_cells w (.int .i64 s.label) (.slice a s.kids.length cap) 45
  have hy := box_cells (w.alloc (.cells #[.int .i64 s.label, .slice a s.kids.length cap] 45)) (.int .i64 t.label) (.slice a' t.kids.length cap') 45
  have hg1 := World.grownBy_alloc w (.cells #[.int .i64 s.label, .slice a s.kids.length cap] 45) none
  have hg2 := World.grownBy_alloc (w.alloc (.cells #[.int .i64 s.label, .slice a s.kids.length cap] 45)) (.cells #[.int .i64 t.label, .slice a' t.kids.length cap'] 45) none
  have ho := ownI_one ((w.alloc (.cells #[.int .i64 s.label, .slice a s.kids.length cap] 45)).alloc (.cells #[.int .i64 t.label, .slice a' t.kids.length cap'] 45)) (f : Int)
  have hg3 := World.grownBy_alloc ((w.alloc (.cells #[.int .i64 s.label, .slice a s.kids.length cap] 45)).alloc (.cells #[.int .i64 t.label, .slice a' t.kids.length cap'] 45)) (.cells #[.int .i64 (f : Int)] 3) none
  rw [hsz1] at hy
  rw [hsz2] at ho
  have HG0 := Lib.hid (grown_trans (grown_trans hg1 hg2) hg3)
  have HO0 := Lib.hid ho
  have HSZ : Hid (w.heap.size + 2 ≤ (((w.alloc (.cells #[.int .i64 s.label, .slice a s.kids.length cap] 45)).alloc (.cells #[.int .i64 t.label, .slice a' t.kids.length cap'] 45)).alloc (.cells #[.int .i64 (f : Int)] 3)).heap.size) := Lib.hid (by have := hg3.size; rw [hsz2] at this; exact this)
  have HBX := Lib.hid (show Bx2 _ w.heap.size _ _ from ⟨hg3.cell (hg2.cell hx.2 (by simp)) (by simp), hg3.cell hy.2 (by simp), HSZ.out⟩)
  clear hx hy hg1 hg2 hg3 ho hsz1 hsz2 HSZ
  generalize ((w.alloc (.cells #[.int .i64 s.label, .slice a s.kids.length cap] 45)).alloc (.cells #[.int .i64 t.label, .slice a' t.kids.length cap'] 45)).alloc (.cells #[.int .i64 (f : Int)] 3) = wb at *
  go_loopw [8, 9, 10, 11] (fun o p k i wr => ∃ (κ ν q : Nat) (xs : List Int), i = .int .i64 κ ∧ k = .int .i64 ν ∧ κ ≤ s.kids.length ∧ ν ≤ t.kids.length ∧ p = .int .i64 (q : Int) ∧ Hid (q = f + 1 + sizeL (t.kids.take ν)) ∧ q ≤ 100000 ∧ Hid (OwnI wr (w.heap.size + 2) o xs) ∧ Hid (xs.length ≤ 1 + sizeL (s.kids.take κ)) ∧ Hid (∀ x ∈ xs, 0 ≤ x ∧ x ≤ 2000000) ∧ Hid (GI s.kids t.kids κ ν) ∧ Hid (Bx2 wr w.heap.size (.slice a s.kids.length cap) (.slice a' t.kids.length cap')) ∧ Hid (w.grownBy wr none)) (fun _ _ _ i _ => s.kids.length - (intOf i).toNat)
  case atStart => exact ⟨0, 0, f + 1, [(f : Int)], rfl, rfl, Nat.zero_le _, Nat.zero_le _, by go_num, Lib.hid (by simp [sizeL]), by have := HF.out; have := size_pos t; omega, HO0, Lib.hid (by simp), Lib.hid (by simp; omega), Lib.hid (GI.start _ _), HBX, HG0⟩
  case round =>
    clear HO0 HBX HG0
    obtain ⟨κ, ν, q, xs, rfl, rfl, hκ, hν, rfl, hQ, hq, hO, hXL, hXB, hGI, hBX, hG⟩ := hrel
    rename World => wk
    have hb0 := hBX.out.1; have hb1 := hBX.out.2.1
    by_cases hκb : κ < s.kids.length
    · have e1 : (κ : Int) < (s.kids.length : Int) := by omega
      have i1 : IntKind.i64.wrap ((κ : Int) + 1) = (κ : Int) + 1 := IntWalk.i64_in _ (by omega)
      go_wp2_with fail
      clear hb0 hb1
      go_loopw [8, 9, 10, 12] (fun o p k fd wr => ∃ (ν q : Nat) (xs : List Int) (B : Bool), k = .int .i64 ν ∧ fd = .bool B ∧ ν ≤ t.kids.length ∧ p = .int .i64 (q : Int) ∧ Hid (q = f + 1 + sizeL (t.kids.take ν)) ∧ q ≤ 100000 ∧ Hid (OwnI wr (w.heap.size + 2) o xs) ∧ Hid (xs.length ≤ 1 + sizeL (s.kids.take (if B then κ + 1 else κ))) ∧ Hid (∀ x ∈ xs, 0 ≤ x ∧ x ≤ 2000000) ∧ Hid (GI s.kids t.kids (if B then κ + 1 else κ) ν) ∧ Hid (Bx2 wr w.heap.size (.slice a s.kids.length cap) (.slice a' t.kids.length cap')) ∧ Hid (w.grownBy wr none)) (fun _ _ k _ _ => t.kids.length - (intOf k).toNat)
      case atStart => exact ⟨ν, q, xs, false, rfl, rfl, hν, rfl, hQ, hq, hO, by simpa using hXL, hXB, by simpa using hGI, hBX, hG⟩
      case round =>
        clear hO hXL hXB hGI hBX hG hν hQ hq
        obtain ⟨ν, q, xs, B, rfl, rfl, hν, rfl, hQ, hq, hO, hXL, hXB, hGI, hBX, hG⟩ := hrel
        have hb0 := hBX.out.1; have hb1 := hBX.out.2.1
        by_cases hνb : ν < t.kids.length
        · have e2 : (ν : Int) < (t.kids.length : Int) := by omega
          have i2 : IntKind.i64.wrap ((ν : Int) + 1) = (ν : Int) + 1 := IntWalk.i64_in _ (by omega)
          cases B with
          | true =>
            go_wp2_with fail
            go_roundw
            case rel => exact ⟨κ + 1, ν, q, xs, by go_num, rfl, by omega, hν, rfl, hQ, hq, hO, by simpa using hXL, hXB, by simpa using hGI, hBX, hG⟩
            case measure => simp [intOf]; omega
          | false =>
            have hd0 : decide ((ν : Int) < (t.kids.length : Int)) = true := decide_eq_true e2
            obtain ⟨b, off, a2, cap2, rfl, -, c1, c2, hK⟩ := (H.out.same hG.out).kid hκb
            obtain ⟨b', off', a3, cap3, rfl, hbl, c3, c4, hK'⟩ := (H'.out.same hG.out).kid hνb
            have HK := Lib.hid (hK.same (grown_drew wr none)); have HK' := Lib.hid (hK'.same (grown_drew wr none))
            have HKS := Lib.hid (size_kid (List.getElem_mem hκb)); have HKT := Lib.hid (size_kid (List.getElem_mem hνb))
            have HTS := Lib.hid (take_sz hνb); have HTL := Lib.hid (take_szle t.kids (ν + 1)); have HSE := Lib.hid (size_eq t); have HSS := Lib.hid (take_sz hκb)
            have hfb : q + size t.kids[ν] ≤ 100000 := by have := hQ.out; have := HTS.out; have := HTL.out; have := HSE.out; have := HF.out; omega
            have HFB := Lib.hid hfb
            have C1 := Lib.hid c1; have C2 := Lib.hid c2; have C3 := Lib.hid c3; have C4 := Lib.hid c4; have B0 := Lib.hid hb0; have B1 := Lib.hid hb1
            have hnn : ∀ g : Nat, some g ≠ (none : Option Nat) := by intro g; simp
            have hik := IH.out _ HKT.out
            unfold InsideP at hik
            have IK := Lib.hid hik
            have HKL : Hid (size s.kids[κ] ≤ 100000) := Lib.hid (by have := HS.out; have := HKS.out; omega)
            clear hK hK' hfb hik
            go_wp2_with fail
            have GX : Hid (wr.grownBy wr.drew none) := Lib.hid (grown_drew _ none)
            go_region_held3 (fun w' => w'.cell? ⟨w.heap.size, 1, none⟩ = some (.slice (some ⟨b, off, none⟩) s.kids.length cap) ∧ w'.cell? ⟨w.heap.size + 1, 1, none⟩ = some (.slice (some ⟨b', off', none⟩) t.kids.length cap') ∧ w'.cell? ⟨b, off + κ * 2, none⟩ = some (.int .i64 s.kids[κ].label) ∧ w'.cell? ⟨b, off + κ * 2 + 1, none⟩ = some (.slice a2 s.kids[κ].kids.length cap2) ∧ w'.cell? ⟨b', off' + ν * 2, none⟩ = some (.int .i64 t.kids[ν].label) ∧ w'.cell? ⟨b', off' + ν * 2 + 1, none⟩ = some (.slice a3 t.kids[ν].kids.length cap3)) (first | exact ⟨GX.out.cell B0.out (hnn _), GX.out.cell B1.out (hnn _), GX.out.cell C1.out (hnn _), GX.out.cell C2.out (hnn _), GX.out.cell C3.out (hnn _), GX.out.cell C4.out (hnn _)⟩) (first
              | (go_at_call 62; (with_reducible refine (IK.out _ _ _ _ _ _ _ HK.out HK'.out HKL.out HFB.out).mono ?_); rintro e w5 ⟨v5, ys, B5, rfl, ho5, hB5, hl5, hx5, hg5⟩; have O5 := Lib.hid ho5; have E5 := Lib.hid hB5; have L5 := Lib.hid hl5; have X5 := Lib.hid hx5; have W5 := Lib.hid hg5; replace GX : Hid (wr.grownBy w5 none) := Lib.hid (grown_trans GX.out hg5); clear ho5 hB5 hl5 hx5 hg5))
            have G5 := Lib.hid (grown_trans hG.out GX.out); have BX5 := Lib.hid (hBX.out.same GX.out); have O6 : Hid (OwnI w5 (w.heap.size + 2) u8 xs) := Lib.hid (World.ownsRow.kept hO.out GX.out (by cases u8.ownBlock <;> simp))
            have D3 := Lib.hid (GX.out.cell C3.out (hnn _)); have D4 := Lib.hid (GX.out.cell C4.out (hnn _)); have HBL := Lib.hid hbl.2
            have hmm : (wr.drew.heap.size : Nat) = wr.heap.size := rfl
            have HK5 := Lib.hid (HK'.out.same W5.out)
            clear c1 c2 c3 c4 hb0 hb1 C1 C2 C3 C4 B0 B1 HK HK' hbl
            rename_i hHd
            clear hHd
            cases B5 with
            | true =>
              go_wp2_with (at_builtin; refine app_ints rfl _ _ rfl (w.heap.size + 2) u8 xs rfl O6.out v5 ys rfl (O5.out.ints (fun x hx => by have := X5.out x hx; omega)) O5.out.good (by have h1 := hXL.out; have h2 := L5.out; have := HKS.out; have := HS.out; have := take_szle s.kids κ; have := size_eq s; simp only [Bool.false_eq_true, if_false] at h1; omega) BX5.out.2.2 ?_)
              intro v6 w6 ho6 hg6
              have hrow : ∀ j, u8.ownBlock = some j → w.heap.size + 2 ≤ j := fun j hj => (O6.out.fresh j hj).1
              have G6 : Hid (w.grownBy w6 none) := Lib.hid (grown_then G5.out hg6 (fun j hj => .inl (by have := hrow j hj; omega)))
              have BX6 := Lib.hid (BX5.out.kept hg6 hrow)
              have HO6 := Lib.hid ho6
              have c3 := hg6.cell D3.out (fun e => by have := hrow b' e.symm; have := HBL.out; omega); have c4 := hg6.cell D4.out (fun e => by have := hrow b' e.symm; have := HBL.out; omega)
              have HLX : Hid ((xs ++ ys).length ≤ 1 + sizeL (s.kids.take (κ + 1))) := Lib.hid (by have h1 := hXL.out; have h2 := L5.out; have h3 := HSS.out; simp only [Bool.false_eq_true, if_false] at h1; rw [List.length_append]; omega)
              have HBX : Hid (∀ x ∈ xs ++ ys, 0 ≤ x ∧ x ≤ 2000000) := Lib.hid (fun x hx => by
                rcases List.mem_append.1 hx with h | h
                · exact hXB.out x h
                · exact X5.out x h)
              have HGN : Hid (GI s.kids t.kids (κ + 1) (ν + 1)) := Lib.hid ((by simpa using hGI.out : GI s.kids t.kids κ ν).next hκb hνb (E5.out.1 (by simp)))
              have hb1 := BX6.out.2.1
              have HK6 := Lib.hid (HK5.out.kept hg6 (fun j hj hb => by have := hrow j hj; have := hb.2; omega))
              have HKS6 : Hid (size t.kids[ν] ≤ 100000) := Lib.hid (by have := HFB.out; omega)
              clear ho6 hg6 hrow
              go_wp2_with fail
              refine (rwalk_any t.kids[ν] _ _ HK6.out HKS6.out).mono ?_
              rintro e w7 ⟨v7, rfl, ho7, hg7⟩
              obtain ⟨a7, c7, rfl⟩ := ownI_sl ho7
              have hln : ((pre t.kids[ν]).map label).length = size t.kids[ν] := by rw [List.length_map, len_pre]
              rw [hln]
              have i5 : IntKind.i64.wrap ((q : Int) + (size t.kids[ν] : Int)) = (q : Int) + (size t.kids[ν] : Int) := IntWalk.i64_in _ (by have := HFB.out; omega)
              have BX7 := Lib.hid (BX6.out.same hg7); have G7 := Lib.hid (grown_trans G6.out hg7)
              have HO7 : Hid (OwnI w7 (w.heap.size + 2) v6 (xs ++ ys)) := Lib.hid (World.ownsRow.kept HO6.out hg7 (by cases v6.ownBlock <;> simp))
              have HQ7 : Hid (q + size t.kids[ν] = f + 1 + sizeL (t.kids.take (ν + 1))) := Lib.hid (by have := hQ.out; have := HTS.out; omega)
              have hq7 : q + size t.kids[ν] ≤ 100000 := HFB.out
              clear hln ho7 hg7
              go_wp2_with fail
              go_roundw
              case rel => exact ⟨ν + 1, q + size t.kids[ν], xs ++ ys, true, by go_num, rfl, by omega, by go_num, HQ7, hq7, HO7, by simpa using HLX, HBX, by simpa using HGN, BX7, G7⟩
              case measure => simp [intOf]; omega
            | false =>
              have HGN : Hid (GI s.kids t.kids κ (ν + 1)) := Lib.hid ((by simpa using hGI.out : GI s.kids t.kids κ ν).skip hκb hνb (fun h => by have := E5.out.2 h; cases this))
              have c3 := D3.out; have c4 := D4.out; have hb1 := BX5.out.2.1
              have HKS6 : Hid (size t.kids[ν] ≤ 100000) := Lib.hid (by have := HFB.out; omega)
              go_wp2_with fail
              refine (rwalk_any t.kids[ν] _ _ HK5.out HKS6.out).mono ?_
              rintro e w7 ⟨v7, rfl, ho7, hg7⟩
              obtain ⟨a7, c7, rfl⟩ := ownI_sl ho7
              have hln : ((pre t.kids[ν]).map label).length = size t.kids[ν] := by rw [List.length_map, len_pre]
              rw [hln]
              have i5 : IntKind.i64.wrap ((q : Int) + (size t.kids[ν] : Int)) = (q : Int) + (size t.kids[ν] : Int) := IntWalk.i64_in _ (by have := HFB.out; omega)
              have BX7 := Lib.hid (BX5.out.same hg7); have G7 := Lib.hid (grown_trans G5.out hg7)
              have HO7 : Hid (OwnI w7 (w.heap.size + 2) u8 xs) := Lib.hid (World.ownsRow.kept O6.out hg7 (by cases u8.ownBlock <;> simp))
              have HQ7 : Hid (q + size t.kids[ν] = f + 1 + sizeL (t.kids.take (ν + 1))) := Lib.hid (by have := hQ.out; have := HTS.out; omega)
              have hq7 : q + size t.kids[ν] ≤ 100000 := HFB.out
              clear hln ho7 hg7
              go_wp2_with fail
              go_roundw
              case rel => exact ⟨ν + 1, q + size t.kids[ν], xs, false, by go_num, rfl, by omega, by go_num, HQ7, hq7, HO7, hXL, hXB, by simpa using HGN, BX7, G7⟩
              case measure => simp [intOf]; omega
        · obtain rfl : ν = t.kids.length := by omega
          have e2 : ¬ (t.kids.length : Int) < (t.kids.length : Int) := by omega
          cases B with
          | true =>
            go_wp2_with fail
            go_roundw
            case rel => exact ⟨κ + 1, t.kids.length, q, xs, by go_num, rfl, by omega, hν, rfl, hQ, hq, hO, by simpa using hXL, hXB, by simpa using hGI, hBX, hG⟩
            case measure => simp [intOf]; omega
          | false =>
            have HN : Hid (¬ Rooted s t) := Lib.hid (fun h => (by simpa using hGI.out : GI s.kids t.kids κ t.kids.length).fail hκb h.2)
            go_wp2_with fail
            go_ret2
            exact ⟨_, [], false, rfl, OwnI.nil _ _, ⟨(fun e => by cases e), fun h => absurd h HN.out⟩, Nat.zero_le _, by simp, hG.out⟩
    · obtain rfl : κ = s.kids.length := by omega
      have e1 : ¬ (s.kids.length : Int) < (s.kids.length : Int) := by omega
      have HY : Hid (Rooted s t) := Lib.hid ⟨HL.out, hGI.out.done⟩
      go_wp2_with fail
      go_ret2
      exact ⟨_, xs, true, rfl, OwnI.mono hO.out (by omega), ⟨fun _ => HY.out, fun _ => rfl⟩, by have := hXL.out; rw [List.take_length] at this; rw [size_eq]; omega, hXB.out, hG.out⟩

end Go.Proofs.Ytnppmemcdcgjhaa
