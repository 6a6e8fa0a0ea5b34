/- limit: meet. -/
import Derived.Test.YtahffjoehjpfkaaZh
namespace Go.Proofs.Ytahffjoehjpfkaa
open Go.RowKit
set_option linter.unusedVariables false

def BdL (xs : List Int) : Prop := ∀ x ∈ xs, -9223372036854775808 ≤ x ∧ x ≤ 9223372036854775807
/-- A function that makes the vector of what two sets have in common. -/
def OverlapOk (fl : FuncId) (g : List Int → List Int → List Int) (n : Nat) : Prop := Enters fl ∧ (∀ xs ys : List Int, xs.length = n → ys.length = n → (g xs ys).length = n ∧ (BdL xs → BdL ys → BdL (g xs ys))) ∧
  ∀ (va vb : Value) (xs ys : List Int) (w : World), Ints w va xs → Ints w vb ys → xs.length = n → ys.length = n → Calls Try.prog fl #[va, vb] w (Made (g xs ys) w)
/-- The functions of a side, in a cell. -/
def SideAt (w : World) (c : Nat) (fv fw fo fl fe fb fa : FuncId) : Prop := w.heap[c]? = some (.cells #[.func (.func fv) #[] #[], .func (.func fw) #[] #[], .func (.func fo) #[] #[], .func (.func fl) #[] #[], .func (.func fe) #[] #[], .func (.func fb) #[] #[], .func (.func fa) #[] #[]] 53 (0, 0))
theorem SideAt.same {w w' : World} {c : Nat} {fv fw fo fl fe fb fa : FuncId} (h : SideAt w c fv fw fo fl fe fb fa) (g : w.grownBy w' none) : SideAt w' c fv fw fo fl fe fb fa := (g.block c (Array.getElem?_eq_some_iff.1 h).1 (by simp)).trans h
theorem SideAt.at {w : World} {c : Nat} {fv fw fo fl fe fb fa : FuncId} (h : SideAt w c fv fw fo fl fe fb fa) : w.cell? ⟨c, 0, none⟩ = some (.func (.func fv) #[] #[]) ∧ w.cell? ⟨c, 1, none⟩ = some (.func (.func fw) #[] #[]) ∧ w.cell? ⟨c, 2, none⟩ = some (.func (.func fo) #[] #[]) ∧ w.cell? ⟨c, 3, none⟩ = some (.func (.func fl) #[] #[]) ∧ w.cell? ⟨c, 4, none⟩ = some (.func (.func fe) #[] #[]) ∧ w.cell? ⟨c, 5, none⟩ = some (.func (.func fb) #[] #[]) ∧ w.cell? ⟨c, 6, none⟩ = some (.func (.func fa) #[] #[]) := by
  unfold SideAt at h
  refine ⟨?_, ?_, ?_, ?_, ?_, ?_, ?_⟩ <;> (rw [World.cell?, h]; rfl)
theorem meets_snoc (g : List Int → List Int → List Int) (a b : List (List Int)) (x : List Int) : meetsL g (a ++ [x]) b = meetsL g a b ++ b.map (fun u => g x u) := by simp [meetsL]
theorem meets_len (g : List Int → List Int → List Int) (a b : List (List Int)) : (meetsL g a b).length = a.length * b.length := by
  induction a with
  | nil => simp [meetsL]
  | cons x a ih =>
    unfold meetsL at ih ⊢
    rw [List.flatMap_cons, List.length_append, ih, List.length_map, List.length_cons, Nat.add_mul]
    omega
theorem Ints.bd1 {w : World} {v : Value} {xs : List Int} (h : Ints w v xs) : BdL xs := by obtain ⟨-, -, -, -, h, -⟩ := h; exact h
theorem OwnP.good1 {w : World} {base : Nat} {v : Value} {ps : List Row} (h : OwnP w base v ps) : Good v := by
  rcases h.1.2 with ⟨rfl, h0⟩ | ⟨g, cap, cur, rfl, _, _, hn, _⟩
  · exact Good.nil
  · exact Good.some _ hn
set_option maxRecDepth 20000 in
set_option maxHeartbeats 2000000 in
theorem meet_any {fv fw fo fl fe fb fa : FuncId} {n : Nat} {f : List Int → List Int → Bool} {cmp : List Int → List Int → Int} {g : List Int → List Int → List Int} (hf : WithinOk fw f n) (ho : OrderOk fo cmp) (hl : OverlapOk fl g n) (hord : Ord f n)
    (hcf : ∀ a b : List Int, a.length = n → b.length = n → cmp a b ≤ 0 → f a b = true → a = b) (va vb : Value) (ps rs : List Row) (most : Int) (w : World) (h : RowsP w va ps) (h' : RowsP w vb rs) (hn : ∀ p ∈ ps, p.2.length = n) (hn' : ∀ p ∈ rs, p.2.length = n)
    (hm : ((ps.length * rs.length : Nat) : Int) ≤ most) (hlen : ps.length ≤ 100000000) (hlen' : rs.length ≤ 1000) :
    Calls Try.prog 41 #[SideV fv fw fo fl fe fb fa, va, vb, .int .i64 most] w (RedTo f (meetsL g (ps.map Prod.snd) (rs.map Prod.snd)) w) := by
  have H := Lib.hid h; have H' := Lib.hid h'; have HN := Lib.hid hn; have HN' := Lib.hid hn'; have HF := Lib.hid hf; have HO := Lib.hid ho; have HOV := Lib.hid hl; have HORD := Lib.hid hord; have HCF := Lib.hid hcf; have HM := Lib.hid hm
  have HMUL : Hid (∀ k j, k ≤ ps.length → j ≤ rs.length → k * rs.length + j ≤ 1000000000000) := Lib.hid (fun k j hk hj => by
    have : k * rs.length ≤ 100000000 * 1000 := Nat.mul_le_mul (by omega) hlen'
    omega)
  have hent := hl.1
  unfold Enters at hent
  obtain ⟨aa, ca, rfl, -, -, -⟩ := h
  obtain ⟨ab, cb, rfl, -, -, -⟩ := h'
  clear hn hn' hf ho hl hord hcf hm
  go_enter Try.func41, Try.ntmps41
  go_wp2_with fail
  have k0 : SideAt (w.alloc (.cells #[.func (.func fv) #[] #[], .func (.func fw) #[] #[], .func (.func fo) #[] #[], .func (.func fl) #[] #[], .func (.func fe) #[] #[], .func (.func fb) #[] #[], .func (.func fa) #[] #[]] 53)) w.heap.size fv fw fo fl fe fb fa := heap_new _ rfl
  have hg0 : w.grownBy (w.alloc (.cells #[.func (.func fv) #[] #[], .func (.func fw) #[] #[], .func (.func fo) #[] #[], .func (.func fl) #[] #[], .func (.func fe) #[] #[], .func (.func fb) #[] #[], .func (.func fa) #[] #[]] 53)) none := World.grownBy_alloc _ _ none
  generalize (w.alloc (.cells #[.func (.func fv) #[] #[], .func (.func fw) #[] #[], .func (.func fo) #[] #[], .func (.func fl) #[] #[], .func (.func fe) #[] #[], .func (.func fb) #[] #[], .func (.func fa) #[] #[]] 53)) = W0 at *
  have K0 := Lib.hid k0; have G0 := Lib.hid hg0
  clear k0 hg0
  have O0 : Hid (OwnP W0 W0.heap.size (.slice none 0 0) []) := Lib.hid (OwnP.nil _ _)
  go_loopw [16, 9] (fun i lv wr => ∃ (k : Nat) (al : Option Addr) (cl : Nat) (qs : List Row), i = .int .i64 k ∧ lv = .slice al qs.length cl ∧ k ≤ ps.length ∧ Hid (OwnP wr W0.heap.size (.slice al qs.length cl) qs ∧ qs.map Prod.snd = meetsL g ((ps.map Prod.snd).take k) (rs.map Prod.snd)) ∧ Hid (W0.grownBy wr none)) (fun i _ _ => ps.length - (intOf i).toNat)
  case atStart => exact ⟨0, none, 0, [], rfl, rfl, Nat.zero_le _, Lib.hid ⟨O0.out, by simp [meetsL]⟩, Lib.hid (grown_refl _ _)⟩
  case round =>
    obtain ⟨k, al, cl, qs, rfl, rfl, hk, hq, hg⟩ := hrel
    rename World => wk
    by_cases hlt : k < ps.length
    · have h1 : (k : Int) < (ps.length : Int) := by omega
      have i1 : IntKind.i64.wrap ((k : Int) + 1) = (k : Int) + 1 := IntWalk.i64_in _ (by omega)
      obtain ⟨_, _, hv, _, hc, hrow⟩ := (H.out.same G0.out).same hg.out
      simp only [Value.slice.injEq] at hv
      obtain ⟨rfl, -, rfl⟩ := hv
      obtain ⟨b, off, rfl, hx⟩ := RowsP.at hc hlt
      obtain ⟨_, _, -, -, -, hrow0⟩ := H.out.same G0.out
      have HR := Lib.hid (hrow0 _ (List.getElem_mem hlt))
      have HQ := Lib.hid (HN.out _ (List.getElem_mem hlt))
      have HKS : Hid (meetsL g ((ps.map Prod.snd).take (k + 1)) (rs.map Prod.snd) = meetsL g ((ps.map Prod.snd).take k) (rs.map Prod.snd) ++ (rs.map Prod.snd).map (fun u => g (ps[k]).2 u)) := Lib.hid (by
        rw [List.take_succ_eq_append_getElem (by simpa using hlt), meets_snoc]
        simp)
      clear hc hrow hrow0
      generalize (ps[k]) = q at *
      obtain ⟨qv, xs⟩ := q
      obtain ⟨aq, cq, hqv⟩ : ∃ a c, qv = .slice a xs.length c := by obtain ⟨⟨a, c, h, -⟩, -⟩ := HR.out; exact ⟨a, c, h⟩
      subst hqv
      dsimp only at hx HR HQ HKS
      have HG1 := hg
      go_wp2_with fail
      go_loopw [22, 9] (fun i lv wi => ∃ (j : Nat) (al : Option Addr) (cl : Nat) (qs : List Row), i = .int .i64 j ∧ lv = .slice al qs.length cl ∧ j ≤ rs.length ∧ Hid (OwnP wi W0.heap.size (.slice al qs.length cl) qs ∧ qs.map Prod.snd = meetsL g ((ps.map Prod.snd).take k) (rs.map Prod.snd) ++ ((rs.map Prod.snd).take j).map (fun u => g xs u)) ∧ Hid (W0.grownBy wi none)) (fun i _ _ => rs.length - (intOf i).toNat)
      case atStart => exact ⟨0, al, cl, qs, rfl, rfl, Nat.zero_le _, Lib.hid ⟨hq.out.1, by rw [hq.out.2]; simp⟩, HG1⟩
      case round =>
        clear hq HG1
        obtain ⟨j, al2, cl2, qs2, rfl, rfl, hj, hq, hgi⟩ := hrel
        rename World => wr
        by_cases hlt2 : j < rs.length
        · have h2 : (j : Int) < (rs.length : Int) := by omega
          have i2 : IntKind.i64.wrap ((j : Int) + 1) = (j : Int) + 1 := IntWalk.i64_in _ (by omega)
          have hgw := hgi.out
          obtain ⟨_, _, hv, _, hc, hrow⟩ := (H'.out.same G0.out).same hgw
          simp only [Value.slice.injEq] at hv
          obtain ⟨rfl, -, rfl⟩ := hv
          obtain ⟨b2, off2, rfl, hx2⟩ := RowsP.at hc hlt2
          have HR2 := Lib.hid (hrow _ (List.getElem_mem hlt2))
          have HQ2 := Lib.hid (HN'.out _ (List.getElem_mem hlt2))
          have HKS2 : Hid (((rs.map Prod.snd).take (j + 1)).map (fun u => g xs u) = ((rs.map Prod.snd).take j).map (fun u => g xs u) ++ [g xs (rs[j]).2]) := Lib.hid (by
            rw [List.take_succ_eq_append_getElem (by simpa using hlt2)]
            simp)
          have HQL : Hid (qs2.length = k * rs.length + j) := Lib.hid (by
            have h5 := congrArg List.length hq.out.2
            simp only [List.length_map, List.length_append, meets_len, List.length_take] at h5
            rw [h5, Nat.min_eq_left (by omega), Nat.min_eq_left (by omega)])
          have HGW := Lib.hid hgw
          obtain ⟨-, -, -, c3, -⟩ := (K0.out.same hgw).at
          clear hc hrow hgw
          generalize (rs[j]) = r at *
          obtain ⟨rv, ys⟩ := r
          obtain ⟨ar, cr, hrv⟩ : ∃ a c, rv = .slice a ys.length c := by obtain ⟨⟨a, c, h, -⟩, -⟩ := HR2.out; exact ⟨a, c, h⟩
          subst hrv
          dsimp only at hx2 HR2 HQ2 HKS2
          go_wp2_with fail
          clear c3
          refine (HOV.out.2.2 (.slice aq xs.length cq) (.slice ar ys.length cr) xs ys _ (HR.out.same hgi.out).1 HR2.out.1 HQ.out HQ2.out).mono ?_
          rintro e w5 ⟨gv, rfl, ho5, hg5⟩
          have hbd : BdL (g xs ys) := (HOV.out.2.1 xs ys HQ.out HQ2.out).2 (HR.out.1.bd1) (HR2.out.1.bd1)
          have R5 := Lib.hid (ho5.row hbd)
          have F5 := Lib.hid ho5.fresh
          have G5 := Lib.hid hg5
          have HLG := Lib.hid (HOV.out.2.1 xs ys HQ.out HQ2.out).1
          obtain ⟨ag, cg, rfl⟩ := ownI_sl' ho5
          clear ho5 hg5 hbd
          have HFAR : Hid (∀ z, Value.ownBlock (.slice ag (g xs ys).length cg) = some z → Value.ownBlock (.slice al2 qs2.length cl2) ≠ some z) := Lib.hid (fun z hz e => by
            have h5 := (F5.out z hz).1
            have h6 := (hq.out.1.fresh z e).2
            omega)
          have HB5 : Hid (W0.heap.size ≤ (w5.alloc (.cells #[.slice ag (g xs ys).length cg] 22)).heap.size) := Lib.hid (grown_trans HGW.out (grown_trans G5.out (World.grownBy_alloc w5 (.cells #[.slice ag (g xs ys).length cg] 22) none))).size
          have hml : qs2.length ≤ 1000000000000 := by rw [HQL.out]; exact HMUL.out k j hk hj
          go_wp2_with (at_builtin; refine app_row_at rfl _ _ rfl W0.heap.size _ qs2 rfl (hq.out.1.same (grown_trans G5.out (World.grownBy_alloc _ _ none))) w5.heap.size (.slice ag (g xs ys).length cg, g xs ys) rfl (by rw [World.cell?, heap_new _ rfl]; rfl) (R5.out.same (World.grownBy_alloc _ _ none)) HFAR.out hml HB5.out ?_)
          intro a6 n6 c6 w6 hn6 ho6 hg6 hfr6
          have O6 := Lib.hid ho6
          have G6 : Hid (W0.grownBy w6 none) := Lib.hid (grown_then (grown_trans hgi.out (grown_trans G5.out (World.grownBy_alloc _ _ none))) hg6 (fun z hz => .inl (hq.out.1.fresh z hz).1))
          have hn6' : n6 = qs2.length + 1 := hn6.trans (by simp)
          subst hn6'
          clear ho6 hg6 hn6 hfr6
          go_wp2_with fail
          go_roundw
          case rel => exact ⟨j + 1, a6, c6, qs2 ++ [(.slice ag (g xs ys).length cg, g xs ys)], by go_num, by simp, by omega, Lib.hid ⟨by simpa using O6.out, by rw [HKS2.out, List.map_append, hq.out.2]; simp⟩, G6⟩
          case measure => (simp [intOf]; try omega)
        · have h2 : ¬ (j : Int) < (rs.length : Int) := by omega
          have HK : Hid (qs2.map Prod.snd = meetsL g ((ps.map Prod.snd).take (k + 1)) (rs.map Prod.snd)) := Lib.hid (by
            have h5 : (rs.map Prod.snd).take j = rs.map Prod.snd := List.take_of_length_le (by simp; omega)
            rw [hq.out.2, HKS.out, h5])
          go_wp2_with fail
          go_roundw
          case rel => exact ⟨k + 1, al2, cl2, qs2, by go_num, rfl, by omega, Lib.hid ⟨hq.out.1, HK.out⟩, hgi⟩
          case measure => (simp [intOf]; try omega)
    · have h1 : ¬ (k : Int) < (ps.length : Int) := by omega
      have HK : Hid (qs.map Prod.snd = meetsL g (ps.map Prod.snd) (rs.map Prod.snd)) := Lib.hid (by have := hq.out.2; rwa [List.take_of_length_le (by simp; omega)] at this)
      have HQL : Hid (qs.length = ps.length * rs.length) := Lib.hid (by
        have h5 := congrArg List.length HK.out
        simpa only [List.length_map, meets_len] using h5)
      have HNQ : Hid (∀ p ∈ qs, p.2.length = n) := Lib.hid (fun p hp => by
        have h5 : p.2 ∈ qs.map Prod.snd := List.mem_map_of_mem hp
        rw [HK.out] at h5
        obtain ⟨x, hx, h6⟩ := List.mem_flatMap.1 h5
        obtain ⟨y, hy, h7⟩ := List.mem_map.1 h6
        obtain ⟨p1, hp1, rfl⟩ := List.mem_map.1 hx
        obtain ⟨p2, hp2, rfl⟩ := List.mem_map.1 hy
        rw [← h7]
        exact (HOV.out.2.1 _ _ (HN.out _ hp1) (HN'.out _ hp2)).1)
      obtain ⟨c0, c1, c2, c3, c4, c5, c6⟩ := (K0.out.same hg.out).at
      go_wp2_with fail
      clear c0 c1 c2 c3 c4 c5 c6
      refine (reduce_any (n := n) (f := f) (cmp := cmp) HF.out HO.out HORD.out HCF.out _ qs most _ hq.out.1.rows hq.out.1.good1 HNQ.out (by rw [HQL.out]; exact HM.out) (by have := HMUL.out ps.length 0 (Nat.le_refl _) (Nat.zero_le _); rw [HQL.out]; omega)).mono ?_
      rintro e w7 ⟨v7, q7, rfl, ho7, ht7, he7, hg7, hl7⟩
      rw [HK.out] at ht7 he7
      have O7 := Lib.hid ho7; have T7 := Lib.hid ht7; have E7 := Lib.hid he7; have G7 := Lib.hid hg7
      have L7 : Hid (q7.length ≤ (meetsL g (ps.map Prod.snd) (rs.map Prod.snd)).length) := Lib.hid (by rw [← HK.out]; exact hl7)
      clear ho7 ht7 he7 hg7 hl7
      go_wp2_with fail
      go_ret
      exact ⟨_, q7, rfl, O7.out.mono (by have h5 := G0.out.size; have h6 := hg.out.size; omega), T7.out, E7.out, grown_trans G0.out (grown_trans hg.out G7.out), L7.out⟩
end Go.Proofs.Ytahffjoehjpfkaa
