/- limit: lists searched by the three closures. -/
import Derived.Test.YtahffjoehjpfkaaZe
namespace Go.Proofs.Ytahffjoehjpfkaa
open Go.RowKit
set_option linter.unusedVariables false

theorem same_grown {w w' : World} {p : Prop} (h : p ∧ w' = w) : p ∧ w.grownBy w' none := ⟨h.1, h.2 ▸ grown_refl _ _⟩
/-- A cell that holds a vector. -/
def Held (w : World) (c : Nat) (p : Row) : Prop := w.cell? ⟨c, 0, none⟩ = some p.1 ∧ RowOk w p
theorem Held.same {w w' : World} {c : Nat} {p : Row} (h : Held w c p) (g : w.grownBy w' none) : Held w' c p := ⟨g.cell h.1 (by simp), h.2.same g⟩
/-- A side whose second function is fw, and a vector. -/
def Held2 (w : World) (cs fw c : Nat) (p : Row) : Prop := w.cell? ⟨cs, 1, none⟩ = some (.func (.func fw) #[] #[]) ∧ Held w c p
theorem Held2.same {w w' : World} {cs fw c : Nat} {p : Row} (h : Held2 w cs fw c p) (g : w.grownBy w' none) : Held2 w' cs fw c p := ⟨g.cell h.1 (by simp), h.2.same g⟩
def HeldF (w : World) (c fc : Nat) : Prop := w.cell? ⟨c, 0, none⟩ = some (.func (.func fc) #[] #[])
theorem HeldF.same {w w' : World} {c fc : Nat} (h : HeldF w c fc) (g : w.grownBy w' none) : HeldF w' c fc := g.cell h (by simp)
def Enters (fc : FuncId) : Prop := ∀ args W, (callFunc fc args).run Try.prog W = .ok (.enter fc args) W
/-- A function that compares vectors of one length. -/
def WithinOk (fw : FuncId) (f : List Int → List Int → Bool) (n : Nat) : Prop := Enters fw ∧ ∀ (va vb : Value) (xs ys : List Int) (w : World), Ints w va xs → Ints w vb ys → xs.length = n → ys.length = n → Calls Try.prog fw #[va, vb] w fun e w' => e = .returned (.bool (f xs ys)) ∧ w' = w
/-- A function that tells a kind of vectors. -/
def FitsOk (fc : FuncId) (P : List Int → Bool) : Prop := Enters fc ∧ ∀ (v : Value) (xs : List Int) (w : World), Ints w v xs → Calls Try.prog fc #[v] w fun e w' => e = .returned (.bool (P xs)) ∧ w' = w

theorem pred_contains (p q : Row) (c : Nat) (w : World) (h : Held w c p) (hq : RowOk w q) (hl : p.2.length = q.2.length) :
    Calls Try.prog 64 #[q.1, .pointer (some ⟨c, 0, none⟩)] w fun e w' => e = .returned (.bool (leqI p.2 q.2)) ∧ w.grownBy w' none := by
  obtain ⟨hc, hp⟩ := h
  have HP := Lib.hid hp; have HQ := Lib.hid hq; have HL := Lib.hid hl
  clear hp hq hl
  obtain ⟨v, xs⟩ := q
  obtain ⟨u, ys⟩ := p
  dsimp only at hc
  go_enter Try.func64, Try.ntmps64
  go_wp2_with fail
  refine ((lim_atMost _ _ _ _ _ HP.out.1 HQ.out.1 HL.out).mono fun _ _ h => same_grown h).mono ?_
  rintro e w' ⟨rfl, hg⟩
  have HG := Lib.hid hg
  clear hg
  go_wp2_with fail
  go_ret
  exact ⟨rfl, HG.out⟩
theorem pred_reduce {fw n : Nat} {f : List Int → List Int → Bool} (hf : WithinOk fw f n) (p q : Row) (cs c : Nat) (w : World) (h : Held2 w cs fw c p) (hq : RowOk w q) (hl : p.2.length = n) (hl' : q.2.length = n) :
    Calls Try.prog 70 #[q.1, .pointer (some ⟨cs, 0, none⟩), .pointer (some ⟨c, 0, none⟩)] w fun e w' => e = .returned (.bool (f p.2 q.2)) ∧ w.grownBy w' none := by
  obtain ⟨h0, hc, hp⟩ := h
  have HP := Lib.hid hp; have HQ := Lib.hid hq; have HL := Lib.hid hl; have HL' := Lib.hid hl'; have HF := Lib.hid hf.2
  have hent := hf.1
  unfold Enters at hent
  clear hp hq hl hl' hf
  obtain ⟨v, xs⟩ := q
  obtain ⟨u, ys⟩ := p
  dsimp only at hc
  go_enter Try.func70, Try.ntmps70
  go_wp2_with fail
  refine ((HF.out _ _ _ _ _ HP.out.1 HQ.out.1 HL.out HL'.out).mono fun _ _ h => same_grown h).mono ?_
  rintro e w' ⟨rfl, hg⟩
  have HG := Lib.hid hg
  clear hg
  go_wp2_with fail
  go_ret
  exact ⟨rfl, HG.out⟩
theorem pred_all {fc : Nat} {P : List Int → Bool} (hf : FitsOk fc P) (q : Row) (c : Nat) (w : World) (h : HeldF w c fc) (hq : RowOk w q) :
    Calls Try.prog 66 #[q.1, .pointer (some ⟨c, 0, none⟩)] w fun e w' => e = .returned (.bool (!P q.2)) ∧ w.grownBy w' none := by
  have HQ := Lib.hid hq; have HF := Lib.hid hf.2
  have hent := hf.1
  unfold Enters at hent
  unfold HeldF at h
  clear hq hf
  obtain ⟨v, xs⟩ := q
  go_enter Try.func66, Try.ntmps66
  go_wp2_with fail
  refine ((HF.out _ _ _ HQ.out.1).mono fun _ _ h => same_grown h).mono ?_
  rintro e w' ⟨rfl, hg⟩
  have HG := Lib.hid hg
  clear hg
  go_wp2_with fail
  go_ret
  exact ⟨rfl, HG.out⟩

def IdxP (B : Bool) (w : World) (e : Ending) (w' : World) : Prop := ∃ k : Int, e = .returned (.int .i64 k) ∧ decide (0 ≤ k) = B ∧ w.grownBy w' none
theorem any_snoc (P : Row → Bool) (ps : List Row) (k : Nat) (h : k < ps.length) : (ps.take (k + 1)).any P = ((ps.take k).any P || P (ps[k])) := by
  rw [List.take_succ_eq_append_getElem h, List.any_append]; simp
theorem any_hit (P : Row → Bool) (ps : List Row) (k : Nat) (h : k < ps.length) (hp : P (ps[k]) = true) : ps.any P = true := List.any_eq_true.2 ⟨ps[k], List.getElem_mem h, hp⟩
set_option maxHeartbeats 2000000 in
theorem index_contains (v : Value) (ps : List Row) (c n : Nat) (p : Row) (hpn : p.2.length = n) (w : World) (h : RowsP w v ps) (hn : ∀ q ∈ ps, q.2.length = n) (hp : Held w c p) :
    Calls Try.prog 76 #[v, .func (.func 64) #[] #[.pointer (some ⟨c, 0, none⟩)]] w (IdxP (ps.any (fun q => leqI p.2 q.2)) w) := by
  have HPN := Lib.hid hpn
  clear hpn
  have H := Lib.hid h
  have HP := Lib.hid hp; have HN := Lib.hid hn
  clear hp hn
  obtain ⟨a, cap, rfl, hl, -, -⟩ := h
  unfold maxLen at hl
  go_enter Try.func76, Try.ntmps76
  go_wp2_with fail
  go_loopw [8] (fun i wr => ∃ k : Nat, k ≤ ps.length ∧ i = .int .i64 k ∧ Hid ((ps.take k).any (fun q => leqI p.2 q.2) = false) ∧ Hid (w.grownBy wr none)) (fun i _ => ps.length - (intOf i).toNat)
  case atStart => exact ⟨0, Nat.zero_le _, rfl, Lib.hid (by simp), Lib.hid (grown_refl _ _)⟩
  case round =>
    obtain ⟨k, hk, rfl, hn, hg⟩ := hrel
    by_cases hlt : k < ps.length
    · obtain ⟨_, _, hv, _, hc, hrow⟩ := H.out.same hg.out
      simp only [Value.slice.injEq] at hv
      obtain ⟨rfl, -, -⟩ := hv
      obtain ⟨b, off, rfl, hx⟩ := RowsP.at hc hlt
      have HR := Lib.hid (hrow _ (List.getElem_mem hlt))
      have HQ := Lib.hid (HN.out _ (List.getElem_mem hlt))
      have HS := Lib.hid (any_snoc (fun q => leqI p.2 q.2) ps k hlt)
      have HT := Lib.hid (any_hit (fun q => leqI p.2 q.2) ps k hlt)
      have HC := Lib.hid (HP.out.same hg.out)
      have h1 : (k : Int) < (ps.length : Int) := by omega
      clear hc hrow
      generalize (ps[k]) = q at *
      go_wp2_with fail
      refine (pred_contains p q c _ HC.out HR.out (HPN.out.trans HQ.out.symm)).mono ?_
      rintro e w1 ⟨rfl, hg1⟩
      have HG := Lib.hid (grown_trans hg.out hg1)
      clear hg1
      cases hb : leqI p.2 q.2
      · go_wp2_with fail
        go_roundw
        case rel => exact ⟨k + 1, by omega, by go_num, Lib.hid (by rw [HS.out, hn.out, hb]; rfl), HG⟩
        case measure => simp [intOf]; omega
      · go_wp2_with fail
        go_ret
        exact ⟨k, rfl, by rw [HT.out hb]; simp, HG.out⟩
    · have hne : (ps.any (fun q => leqI p.2 q.2)) = false := by have := hn.out; rwa [List.take_of_length_le (by omega)] at this
      have HNE := Lib.hid hne
      clear hne
      go_wp2_with fail
      go_ret
      exact ⟨-1, rfl, by rw [HNE.out]; rfl, hg.out⟩

theorem has_contains (v : Value) (ps : List Row) (c n : Nat) (p : Row) (hpn : p.2.length = n) (w : World) (h : RowsP w v ps) (hn : ∀ q ∈ ps, q.2.length = n) (hp : Held w c p) :
    Calls Try.prog 63 #[v, .func (.func 64) #[] #[.pointer (some ⟨c, 0, none⟩)]] w fun e w' => e = .returned (.bool (ps.any (fun q => leqI p.2 q.2))) ∧ w.grownBy w' none := by
  have HPN := Lib.hid hpn
  clear hpn
  have H := Lib.hid h
  have HP := Lib.hid hp; have HN := Lib.hid hn
  clear hp hn
  obtain ⟨a, cap, rfl, -, -, -⟩ := h
  go_enter Try.func63, Try.ntmps63
  go_wp2_with fail
  refine (index_contains (hpn := HPN.out) (ps := ps) (w := w) (h := H.out) (hn := HN.out) (hp := HP.out)).mono ?_
  rintro e w' ⟨k, rfl, hk, hg⟩
  have HK := Lib.hid hk; have HG := Lib.hid hg
  clear hk hg
  go_wp2_with fail
  go_ret
  exact ⟨ret_bool HK.out, HG.out⟩
set_option maxHeartbeats 2000000 in
theorem index_reduce (v : Value) (ps : List Row) {fw n : Nat} {f : List Int → List Int → Bool} (hf : WithinOk fw f n) (cs c : Nat) (p : Row) (hpn : p.2.length = n) (w : World) (h : RowsP w v ps) (hn : ∀ q ∈ ps, q.2.length = n) (hp : Held2 w cs fw c p) :
    Calls Try.prog 76 #[v, .func (.func 70) #[] #[.pointer (some ⟨cs, 0, none⟩), .pointer (some ⟨c, 0, none⟩)]] w (IdxP (ps.any (fun q => f p.2 q.2)) w) := by
  have HPN := Lib.hid hpn; have HF := Lib.hid hf
  clear hpn hf
  have H := Lib.hid h
  have HP := Lib.hid hp; have HN := Lib.hid hn
  clear hp hn
  obtain ⟨a, cap, rfl, hl, -, -⟩ := h
  unfold maxLen at hl
  go_enter Try.func76, Try.ntmps76
  go_wp2_with fail
  go_loopw [8] (fun i wr => ∃ k : Nat, k ≤ ps.length ∧ i = .int .i64 k ∧ Hid ((ps.take k).any (fun q => f p.2 q.2) = false) ∧ Hid (w.grownBy wr none)) (fun i _ => ps.length - (intOf i).toNat)
  case atStart => exact ⟨0, Nat.zero_le _, rfl, Lib.hid (by simp), Lib.hid (grown_refl _ _)⟩
  case round =>
    obtain ⟨k, hk, rfl, hn, hg⟩ := hrel
    by_cases hlt : k < ps.length
    · obtain ⟨_, _, hv, _, hc, hrow⟩ := H.out.same hg.out
      simp only [Value.slice.injEq] at hv
      obtain ⟨rfl, -, -⟩ := hv
      obtain ⟨b, off, rfl, hx⟩ := RowsP.at hc hlt
      have HR := Lib.hid (hrow _ (List.getElem_mem hlt))
      have HQ := Lib.hid (HN.out _ (List.getElem_mem hlt))
      have HS := Lib.hid (any_snoc (fun q => f p.2 q.2) ps k hlt)
      have HT := Lib.hid (any_hit (fun q => f p.2 q.2) ps k hlt)
      have HC := Lib.hid (HP.out.same hg.out)
      have h1 : (k : Int) < (ps.length : Int) := by omega
      clear hc hrow
      generalize (ps[k]) = q at *
      go_wp2_with fail
      refine (pred_reduce HF.out p q cs c _ HC.out HR.out HPN.out HQ.out).mono ?_
      rintro e w1 ⟨rfl, hg1⟩
      have HG := Lib.hid (grown_trans hg.out hg1)
      clear hg1
      cases hb : f p.2 q.2
      · go_wp2_with fail
        go_roundw
        case rel => exact ⟨k + 1, by omega, by go_num, Lib.hid (by rw [HS.out, hn.out, hb]; rfl), HG⟩
        case measure => simp [intOf]; omega
      · go_wp2_with fail
        go_ret
        exact ⟨k, rfl, by rw [HT.out hb]; simp, HG.out⟩
    · have hne : (ps.any (fun q => f p.2 q.2)) = false := by have := hn.out; rwa [List.take_of_length_le (by omega)] at this
      have HNE := Lib.hid hne
      clear hne
      go_wp2_with fail
      go_ret
      exact ⟨-1, rfl, by rw [HNE.out]; rfl, hg.out⟩

theorem has_reduce (v : Value) (ps : List Row) {fw n : Nat} {f : List Int → List Int → Bool} (hf : WithinOk fw f n) (cs c : Nat) (p : Row) (hpn : p.2.length = n) (w : World) (h : RowsP w v ps) (hn : ∀ q ∈ ps, q.2.length = n) (hp : Held2 w cs fw c p) :
    Calls Try.prog 63 #[v, .func (.func 70) #[] #[.pointer (some ⟨cs, 0, none⟩), .pointer (some ⟨c, 0, none⟩)]] w fun e w' => e = .returned (.bool (ps.any (fun q => f p.2 q.2))) ∧ w.grownBy w' none := by
  have HPN := Lib.hid hpn; have HF := Lib.hid hf
  clear hpn hf
  have H := Lib.hid h
  have HP := Lib.hid hp; have HN := Lib.hid hn
  clear hp hn
  obtain ⟨a, cap, rfl, -, -, -⟩ := h
  go_enter Try.func63, Try.ntmps63
  go_wp2_with fail
  refine (index_reduce (hf := HF.out) (hpn := HPN.out) (ps := ps) (w := w) (h := H.out) (hn := HN.out) (hp := HP.out)).mono ?_
  rintro e w' ⟨k, rfl, hk, hg⟩
  have HK := Lib.hid hk; have HG := Lib.hid hg
  clear hk hg
  go_wp2_with fail
  go_ret
  exact ⟨ret_bool HK.out, HG.out⟩
set_option maxHeartbeats 2000000 in
theorem index_all (v : Value) (ps : List Row) {fc n : Nat} {P : List Int → Bool} (hf : FitsOk fc P) (c : Nat) (w : World) (h : RowsP w v ps) (hn : ∀ q ∈ ps, q.2.length = q.2.length + n * 0) (hp : HeldF w c fc) :
    Calls Try.prog 76 #[v, .func (.func 66) #[] #[.pointer (some ⟨c, 0, none⟩)]] w (IdxP (ps.any (fun q => !P q.2)) w) := by
  have HF := Lib.hid hf
  clear hf
  have H := Lib.hid h
  have HP := Lib.hid hp; have HN := Lib.hid hn
  clear hp hn
  obtain ⟨a, cap, rfl, hl, -, -⟩ := h
  unfold maxLen at hl
  go_enter Try.func76, Try.ntmps76
  go_wp2_with fail
  go_loopw [8] (fun i wr => ∃ k : Nat, k ≤ ps.length ∧ i = .int .i64 k ∧ Hid ((ps.take k).any (fun q => !P q.2) = false) ∧ Hid (w.grownBy wr none)) (fun i _ => ps.length - (intOf i).toNat)
  case atStart => exact ⟨0, Nat.zero_le _, rfl, Lib.hid (by simp), Lib.hid (grown_refl _ _)⟩
  case round =>
    obtain ⟨k, hk, rfl, hn, hg⟩ := hrel
    by_cases hlt : k < ps.length
    · obtain ⟨_, _, hv, _, hc, hrow⟩ := H.out.same hg.out
      simp only [Value.slice.injEq] at hv
      obtain ⟨rfl, -, -⟩ := hv
      obtain ⟨b, off, rfl, hx⟩ := RowsP.at hc hlt
      have HR := Lib.hid (hrow _ (List.getElem_mem hlt))
      have HQ := Lib.hid (HN.out _ (List.getElem_mem hlt))
      have HS := Lib.hid (any_snoc (fun q => !P q.2) ps k hlt)
      have HT := Lib.hid (any_hit (fun q => !P q.2) ps k hlt)
      have HC := Lib.hid (HP.out.same hg.out)
      have h1 : (k : Int) < (ps.length : Int) := by omega
      clear hc hrow
      generalize (ps[k]) = q at *
      go_wp2_with fail
      refine (pred_all HF.out q c _ HC.out HR.out).mono ?_
      rintro e w1 ⟨rfl, hg1⟩
      have HG := Lib.hid (grown_trans hg.out hg1)
      clear hg1
      cases hb : (!P q.2)
      · go_wp2_with fail
        go_roundw
        case rel => exact ⟨k + 1, by omega, by go_num, Lib.hid (by rw [HS.out, hn.out, hb]; rfl), HG⟩
        case measure => simp [intOf]; omega
      · go_wp2_with fail
        go_ret
        exact ⟨k, rfl, by rw [HT.out hb]; simp, HG.out⟩
    · have hne : (ps.any (fun q => !P q.2)) = false := by have := hn.out; rwa [List.take_of_length_le (by omega)] at this
      have HNE := Lib.hid hne
      clear hne
      go_wp2_with fail
      go_ret
      exact ⟨-1, rfl, by rw [HNE.out]; rfl, hg.out⟩

theorem has_all (v : Value) (ps : List Row) {fc n : Nat} {P : List Int → Bool} (hf : FitsOk fc P) (c : Nat) (w : World) (h : RowsP w v ps) (hn : ∀ q ∈ ps, q.2.length = q.2.length + n * 0) (hp : HeldF w c fc) :
    Calls Try.prog 63 #[v, .func (.func 66) #[] #[.pointer (some ⟨c, 0, none⟩)]] w fun e w' => e = .returned (.bool (ps.any (fun q => !P q.2))) ∧ w.grownBy w' none := by
  have HF := Lib.hid hf
  clear hf
  have H := Lib.hid h
  have HP := Lib.hid hp; have HN := Lib.hid hn
  clear hp hn
  obtain ⟨a, cap, rfl, -, -, -⟩ := h
  go_enter Try.func63, Try.ntmps63
  go_wp2_with fail
  refine (index_all (hf := HF.out) (ps := ps) (w := w) (h := H.out) (hn := HN.out) (hp := HP.out)).mono ?_
  rintro e w' ⟨k, rfl, hk, hg⟩
  have HK := Lib.hid hk; have HG := Lib.hid hg
  clear hk hg
  go_wp2_with fail
  go_ret
  exact ⟨ret_bool HK.out, HG.out⟩
end Go.Proofs.Ytahffjoehjpfkaa
