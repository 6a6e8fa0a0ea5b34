/- Joined tokens are scanned to the same tokens. -/
import Derived.Test.YthlollnpnangpaaDoorYr
import Derived.Test.YthlollnpnangpaaDoorYn
namespace Go.Proofs.YthlollnpnangpaaDoor
set_option linter.unusedVariables false
/-- A token that stands as it is before a space or an end. -/
def good (p : Int × Bs) : Prop := 1 ≤ p.1 ∧ p.1 ≤ 3 ∧ p.2 ≠ [] ∧ (∀ c ∈ p.2, c ≠ 10 ∧ c ≠ 35 ∧ blkB c = false) ∧ ∀ b : Bs, (b = [] ∨ ∃ r, b = 32 :: r) → firstT (p.2 ++ b) = some p
theorem wrd_plain {c : UInt8} (h : wrdB c = true) : c ≠ 10 ∧ c ≠ 35 ∧ blkB c = false := by
  have key : ∀ c : Fin 256, wrdB (UInt8.ofFin c) = true → UInt8.ofFin c ≠ 10 ∧ UInt8.ofFin c ≠ 35 ∧ blkB (UInt8.ofFin c) = false := by decide +kernel
  exact key c.toFin h
theorem take_run (s : Bs) : s.take (runN s) = s.takeWhile wrdB := by
  unfold runN
  exact take_takeWhile s
theorem all_takeWhile {p : UInt8 → Bool} : ∀ s : Bs, ∀ c ∈ s.takeWhile p, p c = true
  | [], c, h => by cases h
  | a :: s, c, h => by
    rw [List.takeWhile_cons] at h
    split at h
    · next hp =>
      rcases List.mem_cons.1 h with rfl | h
      · exact hp
      · exact all_takeWhile s c h
    · cases h
theorem run_space {x b : Bs} (hx : ∀ c ∈ x, wrdB c = true) (hb : b = [] ∨ ∃ r, b = 32 :: r) : runN (x ++ b) = x.length := by
  induction x with
  | nil =>
    rcases hb with rfl | ⟨r, rfl⟩ <;> rfl
  | cons c x ih =>
    unfold runN at *
    rw [List.cons_append, List.takeWhile_cons, if_pos (hx c (by simp)), List.length_cons, ih (fun d hd => hx d (by simp [hd])), List.length_cons]
theorem first_good {s : Bs} {p : Int × Bs} (h : firstT s = some p) : good p := by
  obtain ⟨h1, h2, h3, h4, h5⟩ := firstT_some h
  have hne : p.2 ≠ [] := by intro e; rw [e] at h1; simp at h1
  unfold firstT at h
  split at h
  · next h0 =>
    have hw : ∀ c ∈ s.take (runN s), wrdB c = true := fun c hc => by rw [take_run] at hc; exact all_takeWhile s c hc
    have hpos : 0 < (s.take (runN s)).length := by rw [List.length_take]; have := runN_le s; omega
    have key : ∀ (k : Int), firstT s = some (k, s.take (runN s)) → ∀ b : Bs, (b = [] ∨ ∃ r, b = 32 :: r) → firstT (s.take (runN s) ++ b) = some (k, s.take (runN s)) := fun k hk b hb => by
      have e : firstT (s.take (runN s) ++ b) = if isWord (s.take (runN s)) then some (1, s.take (runN s)) else if isNum (s.take (runN s)) then some (2, s.take (runN s)) else none := by
        unfold firstT
        rw [run_space hw hb, if_pos hpos, List.take_left' rfl]
      rw [e, ← hk]
      unfold firstT
      rw [if_pos h0]
    split at h
    · next hq =>
      cases h
      exact ⟨Int.le_refl 1, (by decide : (1 : Int) ≤ 3), hne, fun c hc => wrd_plain (hw c hc), key 1 (by unfold firstT; rw [if_pos h0, if_pos hq])⟩
    · next hq =>
      split at h
      · next hr =>
        cases h
        exact ⟨(by decide : (1 : Int) ≤ 2), (by decide : (2 : Int) ≤ 3), hne, fun c hc => wrd_plain (hw c hc), key 2 (by unfold firstT; rw [if_pos h0, if_neg hq, if_pos hr])⟩
      · cases h
  · split at h
    · cases h
    · next c r h0 =>
      split at h
      · cases h
        refine ⟨by decide, by decide, hne, by decide, fun b hb => ?_⟩
        rcases hb with rfl | ⟨r, rfl⟩ <;> rfl
      · next hn =>
        split at h
        · next hm =>
          cases h
          refine ⟨(by decide : (1 : Int) ≤ 3), Int.le_refl 3, hne, fun d hd => ?_, fun b hb => ?_⟩
          · simp at hd
            subst hd
            rcases hm with rfl | rfl | rfl | rfl <;> decide
          · rcases hb with rfl | ⟨r', rfl⟩ <;> rcases hm with rfl | rfl | rfl | rfl <;> rfl
        · cases h
theorem toks_good : ∀ (n : Nat) (s : Bs) (ts : List (Int × Bs)), s.length ≤ n → toks s = some ts → ∀ p ∈ ts, good p
  | n, s, ts, hn, h => by
    cases hd : s.dropWhile blkB with
    | nil => rw [toks_nil hd] at h; cases h; simp
    | cons c r =>
      rw [toks_cons hd] at h
      cases hf : firstT (c :: r) with
      | none => rw [hf] at h; cases h
      | some p =>
        rw [hf] at h
        dsimp only at h
        have h2 := firstT_some hf
        have h1 := dropWhile_le (p := blkB) s
        rw [hd] at h1
        cases hq : toks ((c :: r).drop p.2.length) with
        | none => rw [hq] at h; cases h
        | some q =>
          rw [hq] at h
          cases h
          cases n with
          | zero => simp at h1; omega
          | succ n =>
            intro x hx
            rcases List.mem_cons.1 hx with rfl | hx
            · exact first_good hf
            · exact toks_good n _ q (by rw [List.length_drop]; simp only [List.length_cons] at h1 h2 ⊢; omega) hq x hx
/-- The tokens of one line, as Join writes them. -/
def lineJ : Bool → List (Int × Bs) → Bs
  | _, [] => []
  | b, p :: ts => (if b then [] else [32]) ++ p.2 ++ lineJ false ts
theorem lineJ_head : ∀ ts : List (Int × Bs), lineJ false ts = [] ∨ ∃ r, lineJ false ts = 32 :: r
  | [] => .inl rfl
  | p :: ts => .inr ⟨p.2 ++ lineJ false ts, rfl⟩
theorem toks_line : ∀ (ts : List (Int × Bs)) (b : Bool), (∀ p ∈ ts, good p) → toks (lineJ b ts) = some ts
  | [], b, _ => rfl
  | p :: ts, b, h => by
    obtain ⟨g1, g2, g3, g4, g5⟩ := h p (by simp)
    have hd : (lineJ b (p :: ts)).dropWhile blkB = p.2 ++ lineJ false ts := by
      cases hp : p.2 with
      | nil => exact absurd hp g3
      | cons c r =>
        have hc := (g4 c (by rw [hp]; simp)).2.2
        show ((if b then [] else [32]) ++ p.2 ++ lineJ false ts).dropWhile blkB = _
        rw [hp]
        cases b
        · show ([32] ++ (c :: r) ++ lineJ false ts).dropWhile blkB = _
          rw [List.append_assoc, List.cons_append, List.dropWhile_cons, if_pos (by decide), List.nil_append, List.cons_append, List.dropWhile_cons, if_neg (by rw [hc]; simp)]
        · show ([] ++ (c :: r) ++ lineJ false ts).dropWhile blkB = _
          rw [List.nil_append, List.cons_append, List.dropWhile_cons, if_neg (by rw [hc]; simp)]
    have hf := g5 _ (lineJ_head ts)
    cases hp : p.2 ++ lineJ false ts with
    | nil => exact absurd (List.append_eq_nil_iff.1 hp).1 g3
    | cons c r =>
      rw [hp] at hd hf
      rw [toks_cons hd, hf]
      dsimp only
      rw [← hp, List.drop_left' rfl, toks_line ts false (fun x hx => h x (by simp [hx]))]
      rfl
/-- Blocks of tokens, a line each. -/
def outL : Int → List (List (Int × Bs)) → List (Int × Bs × Int)
  | _, [] => []
  | n, b :: bl => tagL (n + 1) b ++ outL (n + 1) bl
def joinB (bl : List (List (Int × Bs))) : Bs := bl.flatMap (fun b => lineJ true b ++ [10])
def GoodB (bl : List (List (Int × Bs))) : Prop := ∀ b ∈ bl, b ≠ [] ∧ ∀ p ∈ b, good p
theorem scan_blocks : ∀ (n m : Int) (a : List Bs) (ts : List (Int × Bs × Int)), scanL n a = .ok ts → ∃ bl, GoodB bl ∧ ts.map (fun t => (t.1, t.2.1)) = (outL m bl).map (fun t => (t.1, t.2.1))
  | n, m, [], ts, h => by simp [scanL] at h; subst h; exact ⟨[], (by intro b hb; cases hb), rfl⟩
  | n, m, l :: a, ts, h => by
    simp only [scanL] at h
    cases ht : toks (conL l) with
    | none => rw [ht] at h; cases h
    | some t0 =>
      rw [ht] at h
      dsimp only at h
      cases hs : scanL (n + 1) a with
      | error e => rw [hs] at h; cases h
      | ok q =>
        rw [hs] at h
        cases h
        by_cases h0 : t0 = []
        · obtain ⟨bl, h1, h2⟩ := scan_blocks (n + 1) m a q hs
          refine ⟨bl, h1, ?_⟩
          rw [List.map_append, h2, strip_tag, h0]
          rfl
        · obtain ⟨bl, h1, h2⟩ := scan_blocks (n + 1) (m + 1) a q hs
          refine ⟨t0 :: bl, fun b hb => ?_, ?_⟩
          · rcases List.mem_cons.1 hb with rfl | hb
            · exact ⟨h0, toks_good _ _ _ (Nat.le_refl _) ht⟩
            · exact h1 b hb
          · show _ = (tagL (m + 1) t0 ++ outL (m + 1) bl).map _
            rw [List.map_append, List.map_append, h2, strip_tag, strip_tag]
theorem join_tag : ∀ (b : List (Int × Bs)) (n : Int) (g : Bool) (r : List (Int × Bs × Int)), (∀ p ∈ b, good p) → joinF g (b.map (fun p => (p.1, p.2, n)) ++ (4, [], n) :: r) = lineJ g b ++ [10] ++ joinF true r
  | [], n, g, r, _ => rfl
  | p :: b, n, g, r, h => by
    have hk : ¬ p.1 = 4 := by have := (h p (by simp)).2.1; omega
    show joinF g ((p.1, p.2, n) :: (b.map (fun p => (p.1, p.2, n)) ++ (4, [], n) :: r)) = _
    rw [joinF]
    dsimp only
    rw [if_neg hk, join_tag b n false r (fun x hx => h x (by simp [hx]))]
    show _ = ((if g then [] else [32]) ++ p.2 ++ lineJ false b) ++ [10] ++ joinF true r
    simp only [List.append_assoc]
theorem join_out : ∀ (bl : List (List (Int × Bs))) (n : Int), GoodB bl → joinL (outL n bl) = joinB bl
  | [], n, _ => rfl
  | b :: bl, n, h => by
    have h0 := h b (by simp)
    show joinF true (tagL (n + 1) b ++ outL (n + 1) bl) = _
    unfold tagL
    rw [if_neg h0.1, List.append_assoc]
    show joinF true (b.map _ ++ (4, [], n + 1) :: outL (n + 1) bl) = _
    rw [join_tag b (n + 1) true _ h0.2]
    show _ ++ joinL (outL (n + 1) bl) = _
    rw [join_out bl (n + 1) (fun x hx => h x (by simp [hx]))]
    simp [joinB]
theorem line_plain : ∀ (b : List (Int × Bs)) (g : Bool), (∀ p ∈ b, good p) → ∀ c ∈ lineJ g b, c ≠ 10 ∧ c ≠ 35
  | [], g, _, c, hc => by cases hc
  | p :: b, g, h, c, hc => by
    have hc' : c ∈ (if g then ([] : Bs) else [32]) ++ p.2 ++ lineJ false b := hc
    rw [List.mem_append, List.mem_append] at hc'
    rcases hc' with (hc' | hc') | hc'
    · cases g
      · simp at hc'; subst hc'; decide
      · cases hc'
    · have := (h p (by simp)).2.2.2.1 c hc'
      exact ⟨this.1, this.2.1⟩
    · exact line_plain b false (fun x hx => h x (by simp [hx])) c hc'
theorem scan_join : ∀ (bl : List (List (Int × Bs))) (n : Int), GoodB bl → scanL n (linesL (joinB bl)) = .ok (outL n bl)
  | [], n, _ => rfl
  | b :: bl, n, h => by
    have h0 := h b (by simp)
    have hp := line_plain b true h0.2
    have e : joinB (b :: bl) = lineJ true b ++ 10 :: joinB bl := by simp [joinB]
    have hc : conL (lineJ true b ++ [10]) = lineJ true b := by
      unfold conL
      rw [trim_10 _ (fun c hc => (hp c hc).1), takeWhile_all (List.all_eq_true.2 fun x hx => by simpa using (hp x hx).2)]
    rw [e, lines_x10 (fun c hc => (hp c hc).1)]
    simp only [scanL, hc, toks_line b true h0.2, scan_join bl (n + 1) (fun x hx => h x (by simp [hx]))]
    rfl
/-- How many ends of lines. -/
def ends (l : List (Int × Bs × Int)) : Nat := l.countP (fun t => decide (t.1 = 4))
theorem out_line : ∀ (bl : List (List (Int × Bs))) (n : Int), GoodB bl → ∀ i (h : i < (outL n bl).length), ((outL n bl)[i]).2.2 = n + 1 + (ends ((outL n bl).take i) : Int)
  | [], n, _, i, h => by simp [outL] at h
  | b :: bl, n, hg, i, h => by
    have h0 := hg b (by simp)
    have e : outL n (b :: bl) = (b.map (fun p => (p.1, p.2, n + 1)) ++ [(4, [], n + 1)]) ++ outL (n + 1) bl := by
      show tagL (n + 1) b ++ _ = _
      unfold tagL
      rw [if_neg h0.1]
    have hno : ∀ l : List (Int × Bs), (∀ p ∈ l, good p) → ends (l.map (fun p => (p.1, p.2, n + 1))) = 0 := fun l hl => by
      unfold ends
      rw [List.countP_eq_zero]
      intro t ht
      obtain ⟨p, hp, rfl⟩ := List.mem_map.1 ht
      have := (hl p hp).2.1
      simp; omega
    simp only [e] at h ⊢
    have hlen : (b.map (fun p => (p.1, p.2, n + 1)) ++ [((4 : Int), ([] : Bs), n + 1)]).length = b.length + 1 := by simp
    by_cases hi : i < b.length + 1
    · rw [List.getElem_append_left (by rw [hlen]; exact hi), List.take_append_of_le_length (by rw [hlen]; omega)]
      have h3 : ends ((b.map (fun p => (p.1, p.2, n + 1)) ++ [((4 : Int), ([] : Bs), n + 1)]).take i) = 0 := by
        rw [List.take_append_of_le_length (by simp; omega), ← List.map_take]
        exact hno _ (fun p hp => h0.2 p (List.mem_of_mem_take hp))
      rw [h3]
      have h4 : ∀ t ∈ b.map (fun p => (p.1, p.2, n + 1)) ++ [((4 : Int), ([] : Bs), n + 1)], t.2.2 = n + 1 := fun t ht => by
        rcases List.mem_append.1 ht with ht | ht
        · obtain ⟨p, -, rfl⟩ := List.mem_map.1 ht; rfl
        · simp at ht; subst ht; rfl
      rw [h4 _ (List.getElem_mem _)]
      simp
    · have hi2 : b.length + 1 ≤ i := by omega
      have h5 : i - (b.length + 1) < (outL (n + 1) bl).length := by rw [List.length_append, hlen] at h; omega
      rw [List.getElem_append_right (by rw [hlen]; exact hi2)]
      simp only [hlen]
      have h8 : (b.map (fun p => (p.1, p.2, n + 1)) ++ [((4 : Int), ([] : Bs), n + 1)]).take i = b.map (fun p => (p.1, p.2, n + 1)) ++ [((4 : Int), ([] : Bs), n + 1)] := List.take_of_length_le (by rw [hlen]; exact hi2)
      rw [out_line bl (n + 1) (fun x hx => hg x (by simp [hx])) _ h5, List.take_append, hlen, h8]
      have h6 : ∀ (x y : List (Int × Bs × Int)), ends (x ++ y) = ends x + ends y := fun x y => List.countP_append
      rw [h6, h6, hno b h0.2]
      have h7 : ends [((4 : Int), ([] : Bs), n + 1)] = 1 := rfl
      rw [h7]
      omega
theorem ends_le (l : List (Int × Bs × Int)) : ends l ≤ l.length := List.countP_le_length
theorem ends_next (l : List (Int × Bs × Int)) (i : Nat) (h : i < l.length) : ends (l.take (i + 1)) = ends (l.take i) + if l[i].1 = 4 then 1 else 0 := by
  rw [List.take_succ_eq_append_getElem h]
  unfold ends
  rw [List.countP_append]
  by_cases e : l[i].1 = 4
  · rw [if_pos e]; simp [e]
  · rw [if_neg e]; simp [e]
theorem toks_sum : ∀ (n : Nat) (s : Bs) (ts : List (Int × Bs)), s.length ≤ n → toks s = some ts → (ts.map (fun p => p.2.length)).sum ≤ s.length ∧ ts.length ≤ (ts.map (fun p => p.2.length)).sum
  | n, s, ts, hn, h => by
    cases hd : s.dropWhile blkB with
    | nil => rw [toks_nil hd] at h; cases h; simp
    | cons c r =>
      rw [toks_cons hd] at h
      cases hf : firstT (c :: r) with
      | none => rw [hf] at h; cases h
      | some p =>
        rw [hf] at h
        dsimp only at h
        have h2 := firstT_some hf
        have h1 := dropWhile_le (p := blkB) s
        rw [hd] at h1
        cases hq : toks ((c :: r).drop p.2.length) with
        | none => rw [hq] at h; cases h
        | some q =>
          rw [hq] at h
          cases h
          cases n with
          | zero => simp at h1; omega
          | succ n =>
            have hl : ((c :: r).drop p.2.length).length = r.length + 1 - p.2.length := by rw [List.length_drop, List.length_cons]
            simp only [List.length_cons] at h1 h2
            have ih := toks_sum n _ q (by omega) hq
            rw [List.map_cons, List.sum_cons, List.length_cons]
            omega
def wt (t : Int × Bs × Int) : Nat := if t.1 = 4 then 1 else 1 + t.2.1.length
theorem join_wt : ∀ (ts : List (Int × Bs × Int)) (g : Bool), (joinF g ts).length ≤ (ts.map wt).sum
  | [], g => by simp [joinF]
  | t :: ts, g => by
    have i1 := join_wt ts true
    have i2 := join_wt ts false
    rw [List.map_cons, List.sum_cons]
    unfold joinF wt
    split
    · rw [List.length_cons]; unfold wt at i1; omega
    · rw [List.length_append, List.length_append]
      unfold wt at i2
      cases g <;> simp <;> omega
theorem wt_tag (n : Int) : ∀ b : List (Int × Bs), (∀ p ∈ b, good p) → ((b.map (fun p => (p.1, p.2, n))).map wt).sum = b.length + (b.map (fun p => p.2.length)).sum
  | [], _ => rfl
  | p :: b, h => by
    have ih := wt_tag n b (fun x hx => h x (by simp [hx]))
    have hk : ¬ p.1 = 4 := by have := (h p (by simp)).2.1; omega
    simp only [List.map_cons, List.sum_cons, List.length_cons] at ih ⊢
    rw [ih]
    unfold wt
    dsimp only
    rw [if_neg hk]
    omega
theorem scan_wt : ∀ (n : Int) (a : List Bs) (ts : List (Int × Bs × Int)), scanL n a = .ok ts → (ts.map wt).sum ≤ 2 * (a.map bulk).sum
  | n, [], ts, h => by simp [scanL] at h; subst h; simp
  | n, l :: a, ts, h => by
    simp only [scanL] at h
    cases ht : toks (conL l) with
    | none => rw [ht] at h; cases h
    | some t0 =>
      rw [ht] at h
      dsimp only at h
      cases hs : scanL (n + 1) a with
      | error e => rw [hs] at h; cases h
      | ok q =>
        rw [hs] at h
        cases h
        have ih := scan_wt (n + 1) a q hs
        have h1 := toks_sum _ _ _ (Nat.le_refl _) ht
        have h2 := conL_le l
        have hgd := toks_good _ _ _ (Nat.le_refl _) ht
        rw [List.map_append, List.sum_append, List.map_cons, List.sum_cons]
        have h3 : ((tagL (n + 1) t0).map wt).sum ≤ 2 * bulk l := by
          unfold tagL bulk
          split
          · simp
          · rw [List.map_append, List.sum_append, wt_tag (n + 1) t0 hgd]
            simp [wt]
            omega
        omega
/-- The joined text is short. -/
theorem join_short {s : Bs} {ts : List (Int × Bs × Int)} (hs : s.length ≤ 195) (h : scanL 0 (linesL s) = .ok ts) : (joinL ts).length ≤ 392 := by
  have h1 := join_wt ts true
  have h2 := scan_wt 0 _ ts h
  have h3 := lines_bulk _ s (Nat.le_refl _)
  unfold joinL
  omega
/-- What comes back. -/
theorem back_scan {s : Bs} {ts : List (Int × Bs × Int)} (h : scanL 0 (linesL s) = .ok ts) : ∃ us, scanL 0 (linesL (joinL ts)) = .ok us ∧ us.length = ts.length ∧ (∀ i (h1 : i < ts.length) (h2 : i < us.length), us[i].1 = ts[i].1 ∧ us[i].2.1 = ts[i].2.1 ∧ us[i].2.2 = 1 + (ends (us.take i) : Int)) := by
  obtain ⟨bl, hg, he⟩ := scan_blocks 0 0 _ ts h
  have hj : joinL ts = joinB bl := by rw [← join_out bl 0 hg]; exact join_strip _ _ true he
  refine ⟨outL 0 bl, by rw [hj]; exact scan_join bl 0 hg, ?_, fun i h1 h2 => ?_⟩
  · have := congrArg List.length he
    rw [List.length_map, List.length_map] at this
    exact this.symm
  · have e1 : (ts.map (fun t => (t.1, t.2.1)))[i]? = ((outL 0 bl).map (fun t => (t.1, t.2.1)))[i]? := by rw [he]
    rw [List.getElem?_map, List.getElem?_map, List.getElem?_eq_getElem h1, List.getElem?_eq_getElem h2] at e1
    simp only [Option.map_some, Option.some.injEq, Prod.mk.injEq] at e1
    have e2 := out_line bl 0 hg i h2
    exact ⟨e1.1.symm, e1.2.symm, by rw [e2]; omega⟩
end Go.Proofs.YthlollnpnangpaaDoor
