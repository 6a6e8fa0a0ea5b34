/- limit: reduce. -/
import Derived.Test.YtahffjoehjpfkaaZg
namespace Go.Proofs.Ytahffjoehjpfkaa
open Go.RowKit
set_option linter.unusedVariables false

abbrev SideV (fv fw fo fl fe fb fa : FuncId) : Value := .agg #[.func (.func fv) #[] #[], .func (.func fw) #[] #[], .func (.func fo) #[] #[], .func (.func fl) #[] #[], .func (.func fe) #[] #[], .func (.func fb) #[] #[], .func (.func fa) #[] #[]]
/-- A function that orders vectors. -/
def OrderOk (fo : FuncId) (cmp : List Int → List Int → Int) : Prop := Enters fo ∧ CmpOk cmp ∧ ∀ (va vb : Value) (xs ys : List Int) (w : World), Ints w va xs → Ints w vb ys → Calls Try.prog fo #[va, vb] w fun e w' => e = .returned (.int .i64 (cmp xs ys)) ∧ w' = w
def RedTo (f : List Int → List Int → Bool) (l : List (List Int)) (w : World) (e : Ending) (w' : World) : Prop :=
  ∃ v qs, e = .returned v ∧ OwnP w' w.heap.size v qs ∧ Tops f l (qs.map Prod.snd) ∧ (∀ x ∈ l, ∃ u, Top f l u ∧ f x u = true) ∧ w.grownBy w' none ∧ qs.length ≤ l.length
theorem order_up : OrderOk 31 compareI := ⟨enters_of Try.func31 (by kernel_rfl) rfl, cmpOk_up, fun va vb xs ys w h h' => compare_any va vb xs ys w h h'⟩
theorem order_down : OrderOk 52 (fun a b => compareI b a) := ⟨enters_of Try.func52 (by kernel_rfl) rfl, cmpOk_down, fun va vb xs ys w h h' => ord_down va vb xs ys w h h'⟩
theorem ownP_sl {w : World} {base : Nat} {v : Value} {ps : List Row} (h : OwnP w base v ps) : ∃ a c, v = .slice a ps.length c := by
  obtain ⟨a, c, h, -⟩ := h.rows
  exact ⟨a, c, h⟩
theorem cmp_len {a b : List Int} (h : a.length = b.length) : compareI a b = lexI a b := by unfold compareI; rw [if_neg (by omega), if_neg (by omega)]
theorem sorted_asc {n : Nat} {qs : List Row} (hn : ∀ q ∈ qs, q.2.length = n) (h : qs.Pairwise (fun p q => compareI p.2 q.2 ≤ 0)) : (qs.map Prod.snd).Pairwise (fun a b => lexI b a ≠ -1) := by
  rw [List.pairwise_map]
  refine List.Pairwise.imp_of_mem ?_ h
  intro p q hp hq h1
  have e := (hn p hp).trans (hn q hq).symm
  have h2 := compareI_neg p.2 q.2
  rw [cmp_len e, cmp_len e.symm] at *
  omega
set_option maxRecDepth 20000 in
set_option maxHeartbeats 2000000 in
theorem reduce_any {fv fw fo fl fe fb fa : FuncId} {n : Nat} {f : List Int → List Int → Bool} {cmp : List Int → List Int → Int} (hf : WithinOk fw f n) (ho : OrderOk fo cmp) (hord : Ord f n)
    (hcf : ∀ a b : List Int, a.length = n → b.length = n → cmp a b ≤ 0 → f a b = true → a = b) (v : Value) (ps : List Row) (most : Int) (w : World) (h : RowsP w v ps) (hgd : Good v) (hn : ∀ p ∈ ps, p.2.length = n)
    (hm : (ps.length : Int) ≤ most) (hlen : ps.length ≤ 1000000000000) :
    Calls Try.prog 37 #[SideV fv fw fo fl fe fb fa, v, .int .i64 most] w (RedTo f (ps.map Prod.snd) w) := by
  have H := Lib.hid h; have HGD := Lib.hid hgd; have HN := Lib.hid hn; have HF := Lib.hid hf; have HO := Lib.hid ho; have HORD := Lib.hid hord; have HCF := Lib.hid hcf; have HM := Lib.hid hm; have HL := Lib.hid hlen
  have hent := ho.1
  unfold Enters at hent
  obtain ⟨a, cap, rfl, -, -, -⟩ := h
  clear hgd hn hf ho hord hcf hm hlen
  go_enter Try.func37, Try.ntmps37
  go_wp2_with fail
  have k0 : (w.alloc (.cells #[.func (.func fv) #[] #[], .func (.func fw) #[] #[], .func (.func fo) #[] #[], .func (.func fl) #[] #[], .func (.func fe) #[] #[], .func (.func fb) #[] #[], .func (.func fa) #[] #[]] 53)).heap[w.heap.size]? = some (.cells #[.func (.func fv) #[] #[], .func (.func fw) #[] #[], .func (.func fo) #[] #[], .func (.func fl) #[] #[], .func (.func fe) #[] #[], .func (.func fb) #[] #[], .func (.func fa) #[] #[]] 53 (0, 0)) := heap_new _ rfl
  have hg0 : w.grownBy (w.alloc (.cells #[.func (.func fv) #[] #[], .func (.func fw) #[] #[], .func (.func fo) #[] #[], .func (.func fl) #[] #[], .func (.func fe) #[] #[], .func (.func fb) #[] #[], .func (.func fa) #[] #[]] 53)) none := World.grownBy_alloc _ _ none
  generalize (w.alloc (.cells #[.func (.func fv) #[] #[], .func (.func fw) #[] #[], .func (.func fo) #[] #[], .func (.func fl) #[] #[], .func (.func fe) #[] #[], .func (.func fb) #[] #[], .func (.func fa) #[] #[]] 53)) = W0 at *
  have K0 : Hid (∀ W, W0.grownBy W none → W.cell? ⟨w.heap.size, 1, none⟩ = some (.func (.func fw) #[] #[]) ∧ W.cell? ⟨w.heap.size, 2, none⟩ = some (.func (.func fo) #[] #[])) := Lib.hid (fun W g => ⟨g.cell (by rw [World.cell?, k0]; rfl) (by simp), g.cell (by rw [World.cell?, k0]; rfl) (by simp)⟩)
  have G0 := Lib.hid hg0
  have hlt0 : w.heap.size < W0.heap.size := (Array.getElem?_eq_some_iff.1 k0).1
  clear k0 hg0
  refine (cloneR_any _ ps W0 (H.out.same G0.out) HGD.out HL.out).mono ?_
  rintro e w1 ⟨v1, rfl, ho1, hg1⟩
  have O1 := Lib.hid ho1; have G1 := Lib.hid hg1
  obtain ⟨a1, c1, rfl⟩ := ownP_sl ho1
  have hc := (K0.out w1 hg1).2
  clear ho1 hg1
  go_wp2_with fail
  refine (sortc_any fo cmp HO.out.1 HO.out.2.2 HO.out.2.1 _ _ _ _ O1.out HL.out).mono ?_
  rintro e w2 ⟨rfl, ps', hp, hs, ho2, hg2⟩
  have hpl : ps'.length = ps.length := hp.length_eq
  have O2 := Lib.hid ho2
  have G2 : Hid (W0.grownBy w2 none) := Lib.hid (grown_then G1.out hg2 (fun j hj => .inl (O1.out.fresh j hj).1))
  have HP := Lib.hid hp; have HS := Lib.hid hs
  have HN2 : Hid (∀ p ∈ ps', p.2.length = n) := Lib.hid (fun p hp' => HN.out p (hp.mem_iff.1 hp'))
  rw [← hpl]
  have HM2 : Hid ((ps'.length : Int) ≤ most) := Lib.hid (by have := HM.out; omega)
  have HL2 : Hid (ps'.length ≤ 1000000000000) := Lib.hid (by have := HL.out; omega)
  clear hp hs ho2 hg2 hpl hc O1 G1
  have hl12 : ps'.length ≤ 1000000000000 := HL2.out
  go_wp2_with fail
  go_loopw [18, 7] (fun i kv wr => ∃ (k : Nat) (ak : Option Addr) (ck : Nat) (qs : List Row), i = .int .i64 k ∧ kv = .slice ak qs.length ck ∧ k ≤ ps'.length ∧ Hid (OwnP wr w2.heap.size (.slice ak qs.length ck) qs ∧ qs.map Prod.snd = keepL f ((ps'.map Prod.snd).take k)) ∧ Hid (w2.grownBy wr none)) (fun i _ _ => ps'.length - (intOf i).toNat)
  case atStart => exact ⟨0, none, 0, [], rfl, rfl, Nat.zero_le _, Lib.hid ⟨OwnP.nil _ _, rfl⟩, Lib.hid (grown_refl _ _)⟩
  case round =>
    obtain ⟨k, ak, ck, qs, rfl, rfl, hk, hq, hg⟩ := hrel
    by_cases hlt : k < ps'.length
    · have h1 : (k : Int) < (ps'.length : Int) := by omega
      have i1 : IntKind.i64.wrap ((k : Int) + 1) = (k : Int) + 1 := IntWalk.i64_in _ (by omega)
      obtain ⟨_, _, hv, _, hc, hrow⟩ := O2.out.rows.same hg.out
      simp only [Value.slice.injEq] at hv
      obtain ⟨rfl, -, rfl⟩ := hv
      obtain ⟨b, off, rfl, hx⟩ := RowsP.at hc hlt
      have HR := Lib.hid (hrow _ (List.getElem_mem hlt))
      have HR2 := Lib.hid (O2.out.2 _ (List.getElem_mem hlt)).1
      have HQ := Lib.hid (HN2.out _ (List.getElem_mem hlt))
      have HKS : Hid (keepL f ((ps'.map Prod.snd).take (k + 1)) = keepStep f (keepL f ((ps'.map Prod.snd).take k)) (ps'[k]).2) := Lib.hid (by
        rw [List.take_succ_eq_append_getElem (by simpa using hlt), keepL_snoc]
        simp)
      clear hc hrow
      generalize (ps'[k]) = q at *
      obtain ⟨qv, xs⟩ := q
      obtain ⟨aq, cq, hqv⟩ : ∃ a c, qv = .slice a xs.length c := by obtain ⟨⟨a, c, h, -⟩, -⟩ := HR.out; exact ⟨a, c, h⟩
      subst hqv
      dsimp only at hx HR HR2 HQ HKS
      have hkl : qs.length ≤ k := by
        have h5 := congrArg List.length hq.out.2
        have h6 := keepL_len f ((ps'.map Prod.snd).take k)
        rw [List.length_map] at h5
        rw [List.length_take] at h6
        omega
      have HNQ : Hid (∀ q ∈ qs, q.2.length = n) := Lib.hid (fun q hq' => by
        have h5 : q.2 ∈ qs.map Prod.snd := List.mem_map_of_mem hq'
        rw [hq.out.2] at h5
        obtain ⟨r, hr, e⟩ := List.mem_map.1 (List.mem_of_mem_take (keepL_sub f _ _ h5))
        rw [← e]
        exact HN2.out r hr)
      go_wp2_with fail
      have kb : (wr.alloc (.cells #[.slice aq xs.length cq] 22)).heap[wr.heap.size]? = some (.cells #[.slice aq xs.length cq] 22 (0, 0)) := heap_new _ rfl
      have hgb : wr.grownBy (wr.alloc (.cells #[.slice aq xs.length cq] 22)) none := World.grownBy_alloc _ _ none
      generalize (wr.alloc (.cells #[.slice aq xs.length cq] 22)) = Wb at *
      have GB := Lib.hid hgb
      have HCB : Hid (∀ W, Wb.grownBy W none → W.cell? ⟨wr.heap.size, 0, none⟩ = some (.slice aq xs.length cq)) := Lib.hid (fun W g => g.cell (by rw [World.cell?, kb]; rfl) (by simp))
      clear kb hgb
      refine (has_reduce (hf := HF.out) (cs := w.heap.size) (c := wr.heap.size) (p := (.slice aq xs.length cq, xs)) (hpn := HQ.out) (h := (hq.out.1.same GB.out).rows) (hn := HNQ.out)
        (hp := ⟨(K0.out _ (grown_trans G2.out (grown_trans hg.out GB.out))).1, HCB.out _ (grown_refl _ _), HR.out.same GB.out⟩)).mono ?_
      rintro e w4 ⟨rfl, hg4⟩
      have HANY : Hid (qs.any (fun q => f xs q.2) = (keepL f ((ps'.map Prod.snd).take k)).any (fun u => f xs u)) := Lib.hid (by rw [← hq.out.2, List.any_map]; rfl)
      have G4 := Lib.hid (grown_trans GB.out hg4)
      have hcb := HCB.out w4 hg4
      have hm1 : ¬ most < (qs.length : Int) := by have := HM2.out; omega
      have hm2 : ¬ most < ((qs.length + 1 : Nat) : Int) := by have := HM2.out; omega
      clear hg4
      cases hb : qs.any (fun q => f xs q.2)
      · have HKS2 : Hid (keepL f ((ps'.map Prod.snd).take (k + 1)) = qs.map Prod.snd ++ [xs]) := Lib.hid (by rw [HKS.out, keepStep, if_neg (by rw [← HANY.out, hb]; simp), hq.out.2])
        have HFAR : Hid (∀ g, Value.ownBlock (.slice aq xs.length cq) = some g → Value.ownBlock (.slice ak qs.length ck) ≠ some g) := Lib.hid (fun g hg' e => by
          have h5 := (hq.out.1.fresh g e).1
          have h6 := HR2.out.2.2 g hg'
          omega)
        have HB5 : Hid (w2.heap.size ≤ (w4.alloc (.cells #[.slice aq xs.length cq] 22)).heap.size) := Lib.hid (grown_trans hg.out (grown_trans G4.out (World.grownBy_alloc w4 (.cells #[.slice aq xs.length cq] 22) none))).size
        clear hb
        go_wp2_with (at_builtin; refine app_row_at rfl _ _ rfl w2.heap.size _ qs rfl (hq.out.1.same (grown_trans G4.out (World.grownBy_alloc _ _ none))) w4.heap.size (.slice aq xs.length cq, xs) rfl (by rw [World.cell?, heap_new _ rfl]; rfl) (HR.out.same (grown_trans G4.out (World.grownBy_alloc _ _ none))) HFAR.out (by omega) HB5.out ?_)
        intro a5 n5 c5 w5 hn5 ho5 hg5 hfr5
        have O5 := Lib.hid ho5
        have G5 : Hid (w2.grownBy w5 none) := Lib.hid (grown_then (grown_trans hg.out (grown_trans G4.out (World.grownBy_alloc _ _ none))) hg5 (fun j hj => .inl (hq.out.1.fresh j hj).1))
        have hn5' : n5 = qs.length + 1 := hn5.trans (by simp)
        subst hn5'
        clear ho5 hg5 hn5 hfr5
        go_wp2_with fail
        go_roundw
        case rel => exact ⟨k + 1, a5, c5, qs ++ [(.slice aq xs.length cq, xs)], by go_num, by simp, by omega, Lib.hid ⟨by simpa using O5.out, by rw [HKS2.out]; simp⟩, G5⟩
        case measure => (simp [intOf]; try omega)
      · have HKS2 : Hid (keepL f ((ps'.map Prod.snd).take (k + 1)) = qs.map Prod.snd) := Lib.hid (by rw [HKS.out, keepStep, if_pos (by rw [← HANY.out, hb]), hq.out.2])
        clear hb
        go_wp2_with fail
        go_roundw
        case rel => exact ⟨k + 1, ak, ck, qs, by go_num, rfl, by omega, Lib.hid ⟨hq.out.1.same G4.out, HKS2.out.symm⟩, Lib.hid (grown_trans hg.out G4.out)⟩
        case measure => (simp [intOf]; try omega)
    · have h1 : ¬ (k : Int) < (ps'.length : Int) := by omega
      have HQK : Hid (qs.map Prod.snd = keepL f (ps'.map Prod.snd)) := Lib.hid (by have := hq.out.2; rwa [List.take_of_length_le (by simp; omega)] at this)
      have hql : qs.length ≤ ps'.length := by
        have h5 := congrArg List.length HQK.out
        have h6 := keepL_len f (ps'.map Prod.snd)
        simp only [List.length_map] at h5 h6
        omega
      have HQL := Lib.hid hql
      clear hql
      go_wp2_with fail
      refine (sortc_any _ _ order_up.1 order_up.2.2 order_up.2.1 _ _ _ _ hq.out.1 (by have := HQL.out; have := HL2.out; omega)).mono ?_
      rintro e w6 ⟨rfl, qs', hp6, hs6, ho6, hg6⟩
      have O6 := Lib.hid ho6; have P6 := Lib.hid hp6; have S6 := Lib.hid hs6
      have G6 : Hid (w2.grownBy w6 none) := Lib.hid (grown_then hg.out hg6 (fun j hj => .inl (hq.out.1.fresh j hj).1))
      clear hp6 hs6 ho6 hg6
      go_wp2_with fail
      go_ret
      have hns : ∀ x ∈ ps'.map Prod.snd, x.length = n := fun x hx => by obtain ⟨r, hr, rfl⟩ := List.mem_map.1 hx; exact HN2.out r hr
      have hpw : (ps'.map Prod.snd).Pairwise (fun a b => f a b = true → a = b) := by
        rw [List.pairwise_map]
        refine List.Pairwise.imp_of_mem ?_ HS.out
        intro p q hp hq' h5 h6
        exact HCF.out _ _ (HN2.out p hp) (HN2.out q hq') h5 h6
      have htop := tops_of HORD.out (n := n) (l := ps.map Prod.snd) (s := ps'.map Prod.snd) (K := qs'.map Prod.snd) (fun x hx => by obtain ⟨r, hr, rfl⟩ := List.mem_map.1 hx; exact HN.out r hr) (fun x => (HP.out.map Prod.snd).mem_iff) hpw
        (fun x => by rw [(P6.out.map Prod.snd).mem_iff, HQK.out])
        ((P6.out.map Prod.snd).nodup_iff.2 (by rw [HQK.out]; exact (keepL_top HORD.out _ hns hpw).2))
        (sorted_asc (n := n) (fun q hq' => by
          have h5 : q.2 ∈ qs.map Prod.snd := List.mem_map_of_mem (P6.out.mem_iff.1 hq')
          rw [HQK.out] at h5
          exact hns _ (keepL_sub f _ _ h5)) S6.out)
      refine ⟨_, qs', rfl, O6.out.mono (by have := G0.out.size; have := G2.out.size; omega), htop.1, htop.2, grown_trans G0.out (grown_trans G2.out G6.out), ?_⟩
      have h5 := P6.out.length_eq
      have h6 := HQL.out
      have h7 := HP.out.length_eq
      rw [List.length_map]
      omega
end Go.Proofs.Ytahffjoehjpfkaa
