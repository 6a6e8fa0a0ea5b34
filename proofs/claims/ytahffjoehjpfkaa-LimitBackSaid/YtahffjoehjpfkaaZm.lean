/- limit: complement. -/
import Derived.Test.YtahffjoehjpfkaaZl
namespace Go.Proofs.Ytahffjoehjpfkaa
open Go.RowKit
set_option linter.unusedVariables false

theorem ownP_lit1 {w : World} {p : Row} (h : RowOk w p) : OwnP (w.alloc (.cells #[p.1] 22)) w.heap.size (.slice (some ⟨w.heap.size, 0, none⟩) 1 1) [p] :=
  ⟨World.ownsRow_lit w #[p.1] 1 (Nat.le_refl _) (by decide) rfl, fun q hq => by
    obtain rfl : q = p := by simpa using hq
    refine ⟨h.same (World.grownBy_alloc _ _ none), fun g hg e => ?_⟩
    simp only [Value.ownBlock, Option.some.injEq] at e
    have := h.2.2 g hg
    omega⟩
def BoundOk (fb : FuncId) (P : Int → Bool) : Prop := Enters fb ∧ ∀ x w, Calls Try.prog fb #[.int .i64 x] w fun e w' => e = .returned (.bool (P x)) ∧ w' = w
def EscOk (fe : FuncId) (esc : List Int → Nat → List Int) (n : Nat) : Prop := Enters fe ∧ ∀ (v : Value) (xs : List Int) (i : Nat) (w : World), Ints w v xs → xs.length = n → i < n → (0 ≤ xs[i]?.getD 0 ∧ xs[i]?.getD 0 ≤ 1099511627776) →
  Calls Try.prog fe #[v, .int .i64 i] w (Made (esc xs i) w) ∧ (esc xs i).length = n ∧ BdL (esc xs i)
def BegOk (fa : FuncId) (L : List Int) (n : Nat) : Prop := Enters fa ∧ L.length = n ∧ BdL L ∧ ∀ w, Calls Try.prog fa #[.int .i64 n] w (Made L w)
/-- The vectors outside the set of a vector, by the elements that exclude something. -/
def outL (P : Int → Bool) (esc : List Int → Nat → List Int) (xs : List Int) (j : Nat) : List (List Int) := ((List.range j).filter (fun i => P (xs[i]?.getD 0))).map (esc xs)
theorem outL_succ (P : Int → Bool) (esc : List Int → Nat → List Int) (xs : List Int) (j : Nat) : outL P esc xs (j + 1) = outL P esc xs j ++ (if P (xs[j]?.getD 0) = true then [esc xs j] else []) := by
  unfold outL
  rw [List.range_succ, List.filter_append, List.map_append]
  congr 1
  by_cases h : P (xs[j]?.getD 0) = true
  · rw [if_pos h]; simp [h]
  · rw [if_neg h]; simp [h]
theorem outL_len (P : Int → Bool) (esc : List Int → Nat → List Int) (xs : List Int) (j : Nat) : (outL P esc xs j).length ≤ j := by
  unfold outL
  rw [List.length_map]
  exact Nat.le_trans (List.length_filter_le _ _) (by simp)
/-- What is left of all vectors behind some vectors' sets. -/
inductive Chain (f : List Int → List Int → Bool) (g : List Int → List Int → List Int) (P : Int → Bool) (esc : List Int → Nat → List Int) (L : List Int) (n : Nat) : List (List Int) → List (List Int) → Prop
  | start : Chain f g P esc L n [] [L]
  | step {l R R' : List (List Int)} {v : List Int} : Chain f g P esc L n l R → Tops f (meetsL g R (outL P esc v n)) R' → (∀ x ∈ meetsL g R (outL P esc v n), ∃ u, Top f (meetsL g R (outL P esc v n)) u ∧ f x u = true) → Chain f g P esc L n (l ++ [v]) R'
def CompTo (f : List Int → List Int → Bool) (g : List Int → List Int → List Int) (P : Int → Bool) (esc : List Int → Nat → List Int) (L : List Int) (n : Nat) (l : List (List Int)) (w : World) (e : Ending) (w' : World) : Prop :=
  ∃ R, Chain f g P esc L n l R ∧ (∀ x ∈ R, x.length = n) ∧ w.grownBy w' none ∧ ((R.length ≤ 256 ∧ ∃ v qs, e = .returned (.tuple #[v, .int .i64 0]) ∧ RowsP w' v qs ∧ Good v ∧ qs.map Prod.snd = R ∧ NewR w.heap.size v qs) ∨ (256 < R.length ∧ e = .returned (.tuple #[.slice none 0 0, .int .i64 1])))
theorem limited_no (v : Value) (qs : List Row) (w : World) (h : RowsP w v qs) (hl : 256 < qs.length) :
    Calls Try.prog 36 #[v] w fun e w' => e = .returned (.tuple #[.slice none 0 0, .int .i64 1]) ∧ w' = w := by
  obtain ⟨a, cap, rfl, -, -, -⟩ := h
  have h1 : (256 : Int) < (qs.length : Int) := by omega
  clear hl
  go_enter Try.func36, Try.ntmps36
  go_wp2_with fail
  go_ret2
  exact ⟨rfl, rfl⟩
theorem pow4 (k : Nat) (h : k ≤ 12) : 4 ^ k ≤ 16777216 := Nat.le_trans (Nat.pow_le_pow_right (by omega) h) (by decide)
set_option maxRecDepth 20000 in
set_option maxHeartbeats 4000000 in
theorem complement_any {av aw ao al ae ab aa fv fw fo fl fe fb fa : FuncId} {n : Nat} {V : List Int → Bool} {P : Int → Bool} {esc : List Int → Nat → List Int} {L : List Int} {f : List Int → List Int → Bool} {cmp : List Int → List Int → Int} {g : List Int → List Int → List Int}
    (hv : FitsOk av V) (hvb : ∀ xs : List Int, xs.length = n → V xs = true → ∀ i : Nat, i < n → 0 ≤ xs[i]?.getD 0 ∧ xs[i]?.getD 0 ≤ 1099511627776) (hb : BoundOk ab P) (he : EscOk ae esc n) (hbeg : BegOk fa L n)
    (hf : WithinOk fw f n) (ho : OrderOk fo cmp) (hl : OverlapOk fl g n) (hord : Ord f n) (hcf : ∀ a b : List Int, a.length = n → b.length = n → cmp a b ≤ 0 → f a b = true → a = b)
    (v : Value) (ps : List Row) (w : World) (h : RowsP w v ps) (h1 : 1 ≤ n) (h4 : n ≤ 4) (h12 : ps.length ≤ 12) (hn : ∀ p ∈ ps, p.2.length = n ∧ V p.2 = true) :
    Calls Try.prog 26 #[.int .i64 n, v, SideV av aw ao al ae ab aa, SideV fv fw fo fl fe fb fa] w (CompTo f g P esc L n (ps.map Prod.snd) w) := by
  have H := Lib.hid h; have HV := Lib.hid hv; have HVB := Lib.hid hvb; have HB := Lib.hid hb; have HE := Lib.hid he; have HBEG := Lib.hid hbeg; have HF := Lib.hid hf; have HO := Lib.hid ho; have HOV := Lib.hid hl; have HORD := Lib.hid hord; have HCF := Lib.hid hcf; have HN := Lib.hid hn
  have e1 := hb.1; have e2 := he.1; have e3 := hbeg.1
  unfold Enters at e1 e2 e3
  obtain ⟨a, cap, rfl, -, -, -⟩ := h
  clear hv hvb hb he hbeg hf ho hl hord hcf hn
  go_enter Try.func26, Try.ntmps26
  go_wp2_with fail
  have k6 : SideAt ((w.alloc (.cells #[.func (.func av) #[] #[], .func (.func aw) #[] #[], .func (.func ao) #[] #[], .func (.func al) #[] #[], .func (.func ae) #[] #[], .func (.func ab) #[] #[], .func (.func aa) #[] #[]] 53)).alloc (.cells #[.func (.func fv) #[] #[], .func (.func fw) #[] #[], .func (.func fo) #[] #[], .func (.func fl) #[] #[], .func (.func fe) #[] #[], .func (.func fb) #[] #[], .func (.func fa) #[] #[]] 53)) w.heap.size av aw ao al ae ab aa := heap_old _ (heap_new _ rfl)
  have k7 : SideAt ((w.alloc (.cells #[.func (.func av) #[] #[], .func (.func aw) #[] #[], .func (.func ao) #[] #[], .func (.func al) #[] #[], .func (.func ae) #[] #[], .func (.func ab) #[] #[], .func (.func aa) #[] #[]] 53)).alloc (.cells #[.func (.func fv) #[] #[], .func (.func fw) #[] #[], .func (.func fo) #[] #[], .func (.func fl) #[] #[], .func (.func fe) #[] #[], .func (.func fb) #[] #[], .func (.func fa) #[] #[]] 53)) (w.heap.size + 1) fv fw fo fl fe fb fa := heap_new _ (by show _ = (w.heap.push _).size; simp)
  have hg0 : w.grownBy ((w.alloc (.cells #[.func (.func av) #[] #[], .func (.func aw) #[] #[], .func (.func ao) #[] #[], .func (.func al) #[] #[], .func (.func ae) #[] #[], .func (.func ab) #[] #[], .func (.func aa) #[] #[]] 53)).alloc (.cells #[.func (.func fv) #[] #[], .func (.func fw) #[] #[], .func (.func fo) #[] #[], .func (.func fl) #[] #[], .func (.func fe) #[] #[], .func (.func fb) #[] #[], .func (.func fa) #[] #[]] 53)) none := grown_trans (World.grownBy_alloc _ _ none) (World.grownBy_alloc _ _ none)
  generalize ((w.alloc (.cells #[.func (.func av) #[] #[], .func (.func aw) #[] #[], .func (.func ao) #[] #[], .func (.func al) #[] #[], .func (.func ae) #[] #[], .func (.func ab) #[] #[], .func (.func aa) #[] #[]] 53)).alloc (.cells #[.func (.func fv) #[] #[], .func (.func fw) #[] #[], .func (.func fo) #[] #[], .func (.func fl) #[] #[], .func (.func fe) #[] #[], .func (.func fb) #[] #[], .func (.func fa) #[] #[]] 53)) = W0 at *
  have K6 := Lib.hid k6; have K7 := Lib.hid k7; have G0 := Lib.hid hg0
  obtain ⟨c60, c61, c62, c63, c64, c65, c66⟩ := k6.at
  obtain ⟨c70, c71, c72, c73, c74, c75, c76⟩ := k7.at
  clear k6 k7 hg0 c61 c62 c63 c64 c65 c66 c70 c71 c72 c73 c74 c75
  go_loop [30] (fun i => ∃ k : Nat, i = .int .i64 k ∧ k ≤ ps.length) (fun i => ps.length - (intOf i).toNat)
  case atStart => exact ⟨0, rfl, Nat.zero_le _⟩
  case round =>
    obtain ⟨k, rfl, hk⟩ := hrel
    by_cases hlt : k < ps.length
    · have h2 : (k : Int) < (ps.length : Int) := by omega
      have i1 : IntKind.i64.wrap ((k : Int) + 1) = (k : Int) + 1 := IntWalk.i64_in _ (by omega)
      obtain ⟨_, _, hv, _, hc, hrow⟩ := H.out.same G0.out
      simp only [Value.slice.injEq] at hv
      obtain ⟨rfl, -, rfl⟩ := hv
      obtain ⟨b, off, rfl, hx⟩ := RowsP.at hc hlt
      have HR := Lib.hid (hrow _ (List.getElem_mem hlt))
      have HQ := Lib.hid (HN.out _ (List.getElem_mem hlt))
      clear hc hrow
      generalize (ps[k]) = q at *
      obtain ⟨qv, xs⟩ := q
      obtain ⟨aq, cq, hqv⟩ : ∃ a c, qv = .slice a xs.length c := by obtain ⟨⟨a, c, h, -⟩, -⟩ := HR.out; exact ⟨a, c, h⟩
      subst hqv
      dsimp only at hx HR HQ
      go_wp2_with fail
      refine (one_ok HV.out _ xs n _ HR.out.1 HQ.out.1 HQ.out.2).mono ?_
      rintro e w' ⟨rfl, rfl⟩
      go_wp2_with fail
      go_round
      case rel => exact ⟨k + 1, by go_num, by omega⟩
      case measure => (simp [intOf]; try omega)
    · have h2 : ¬ (k : Int) < (ps.length : Int) := by omega
      go_wp2_with fail
      refine (HBEG.out.2.2.2 _).mono ?_
      rintro e w1 ⟨v1, rfl, ho1, hg1⟩
      have R1 := Lib.hid (ho1.row HBEG.out.2.2.1); have G1 := Lib.hid (grown_trans G0.out hg1); have GW1 := Lib.hid hg1
      obtain ⟨a1, c1, rfl⟩ := ownI_sl' ho1
      clear ho1 hg1 c60 c76
      go_wp2_with fail
      have ho2 := ownP_lit1 R1.out
      have hg2 := World.grownBy_alloc w1 (.cells #[.slice a1 L.length c1] 22) none
      dsimp only at ho2
      generalize (w1.alloc (.cells #[.slice a1 L.length c1] 22)) = W2 at *
      have O2 := Lib.hid ho2; have GW2 := Lib.hid (grown_trans GW1.out hg2)
      clear ho2 hg2
      go_loopw [50, 13] (fun i rv wr => ∃ (t : Nat) (ar : Option Addr) (cr : Nat) (rs : List Row), i = .int .i64 t ∧ rv = .slice ar rs.length cr ∧ t ≤ ps.length ∧ Hid (RowsP wr (.slice ar rs.length cr) rs ∧ Chain f g P esc L n ((ps.map Prod.snd).take t) (rs.map Prod.snd) ∧ rs.length ≤ 4 ^ t ∧ ∀ r ∈ rs, r.2.length = n) ∧ Hid (W0.grownBy wr none)) (fun i _ _ => ps.length - (intOf i).toNat)
      case atStart => exact ⟨0, _, 1, [(.slice a1 L.length c1, L)], rfl, rfl, Nat.zero_le _, Lib.hid ⟨O2.out.rows, .start, by simp, fun r hr => by rw [List.mem_singleton.1 hr]; exact HBEG.out.2.1⟩, GW2⟩
      case round =>
        obtain ⟨t, ar, cr, rs, rfl, rfl, ht, hq, hg⟩ := hrel
        rename World => wk
        by_cases hlt2 : t < ps.length
        · have h3 : (t : Int) < (ps.length : Int) := by omega
          have i1 : IntKind.i64.wrap ((t : Int) + 1) = (t : Int) + 1 := IntWalk.i64_in _ (by omega)
          obtain ⟨_, _, hv, _, hc, -⟩ := (H.out.same G0.out).same hg.out
          simp only [Value.slice.injEq] at hv
          obtain ⟨rfl, -, rfl⟩ := hv
          obtain ⟨b, off, rfl, hx⟩ := RowsP.at hc hlt2
          obtain ⟨_, _, -, -, -, hrow0⟩ := H.out.same G0.out
          have HR := Lib.hid (hrow0 _ (List.getElem_mem hlt2))
          have HQ := Lib.hid (HN.out _ (List.getElem_mem hlt2))
          have HTK : Hid ((ps.map Prod.snd).take (t + 1) = (ps.map Prod.snd).take t ++ [(ps[t]).2]) := Lib.hid (by rw [List.take_succ_eq_append_getElem (by simpa using hlt2)]; simp)
          clear hc hrow0
          generalize (ps[t]) = q at *
          obtain ⟨qv, xs⟩ := q
          obtain ⟨aq, cq, hqv⟩ : ∃ a c, qv = .slice a xs.length c := by obtain ⟨⟨a, c, h, -⟩, -⟩ := HR.out; exact ⟨a, c, h⟩
          subst hqv
          dsimp only at hx HR HQ HTK
          have HON : Hid (OwnP wk wk.heap.size (.slice none 0 0) []) := Lib.hid (OwnP.nil _ _)
          have hxn : xs.length ≤ 4 := by rw [HQ.out.1]; exact h4
          go_wp2_with fail
          have hgs := hg
          go_loopw [56, 16] (fun i lv wr => ∃ (j : Nat) (al : Option Addr) (cl : Nat) (os : List Row), i = .int .i64 j ∧ lv = .slice al os.length cl ∧ j ≤ xs.length ∧ Hid (OwnP wr wk.heap.size (.slice al os.length cl) os ∧ os.map Prod.snd = outL P esc xs j ∧ ∀ r ∈ os, r.2.length = n) ∧ Hid (wk.grownBy wr none)) (fun i _ _ => xs.length - (intOf i).toNat)
          case atStart => exact ⟨0, none, 0, [], rfl, rfl, Nat.zero_le _, Lib.hid ⟨HON.out, rfl, by simp⟩, Lib.hid (grown_refl wk none)⟩
          case round =>
            obtain ⟨j, al, cl, os, rfl, rfl, hj, hp, hgi⟩ := hrel
            rename World => wr
            by_cases hlt3 : j < xs.length
            · have h5 : (j : Int) < (xs.length : Int) := by omega
              have i2 : IntKind.i64.wrap ((j : Int) + 1) = (j : Int) + 1 := IntWalk.i64_in _ (by omega)
              obtain ⟨_, _, hv, _, _, hcc⟩ := (HR.out.same (grown_trans hg.out hgi.out)).1
              dsimp only at hv
              simp only [Value.slice.injEq] at hv
              obtain ⟨rfl, -, rfl⟩ := hv
              obtain ⟨b2, off2, rfl, hx2⟩ := Ints.at hcc hlt3
              obtain ⟨-, -, -, -, c4, c5, -⟩ := (K6.out.same (grown_trans hg.out hgi.out)).at
              have HS := Lib.hid (outL_succ P esc xs j)
              have HES := Lib.hid (HE.out.2 _ xs j wr (HR.out.same (grown_trans hg.out hgi.out)).1 HQ.out.1 (by rw [← HQ.out.1]; exact hlt3) (HVB.out xs HQ.out.1 HQ.out.2 j (by rw [← HQ.out.1]; exact hlt3)))
              have hol : os.length ≤ j := by
                have h6 := congrArg List.length hp.out.2.1
                have h7 := outL_len P esc xs j
                rw [List.length_map] at h6
                omega
              clear hcc
              generalize xs[j]?.getD 0 = x at *
              go_wp2_with fail
              refine (HB.out.2 x _).mono ?_
              rintro e w' ⟨rfl, rfl⟩
              cases hpx : P x
              · have HS2 : Hid (os.map Prod.snd = outL P esc xs (j + 1)) := Lib.hid (by rw [HS.out, hpx, hp.out.2.1]; simp)
                clear hpx c4 c5
                go_wp2_with fail
                go_roundw
                case rel => exact ⟨j + 1, al, cl, os, by go_num, rfl, by omega, Lib.hid ⟨hp.out.1, HS2.out, hp.out.2.2⟩, hgi⟩
                case measure => (simp [intOf]; try omega)
              · have HS2 : Hid (outL P esc xs (j + 1) = os.map Prod.snd ++ [esc xs j]) := Lib.hid (by rw [HS.out, hpx, hp.out.2.1]; simp)
                clear hpx c5
                go_wp2_with fail
                clear c4
                refine HES.out.1.mono ?_
                rintro e w5 ⟨gv, rfl, ho5, hg5⟩
                have R5 := Lib.hid (ho5.row HES.out.2.2)
                have F5 := Lib.hid ho5.fresh
                have G5 := Lib.hid hg5
                obtain ⟨ag, cg, rfl⟩ := ownI_sl' ho5
                clear ho5 hg5
                have HFAR : Hid (∀ z, Value.ownBlock (.slice ag (esc xs j).length cg) = some z → Value.ownBlock (.slice al os.length cl) ≠ some z) := Lib.hid (fun z hz e => by
                  have h6 := (F5.out z hz).1
                  have h7 := (hp.out.1.fresh z e).2
                  omega)
                have HB5 : Hid (wk.heap.size ≤ (w5.alloc (.cells #[.slice ag (esc xs j).length cg] 22)).heap.size) := Lib.hid (grown_trans hgi.out (grown_trans G5.out (World.grownBy_alloc w5 (.cells #[.slice ag (esc xs j).length cg] 22) none))).size
                go_wp2_with (at_builtin; refine app_row_at rfl _ _ rfl wk.heap.size _ os rfl (hp.out.1.same (grown_trans G5.out (World.grownBy_alloc _ _ none))) w5.heap.size (.slice ag (esc xs j).length cg, esc xs j) rfl (by rw [World.cell?, heap_new _ rfl]; rfl) (R5.out.same (World.grownBy_alloc _ _ none)) HFAR.out (by omega) HB5.out ?_)
                intro a6 n6 c6 w6 hn6 ho6 hg6 hfr6
                have O6 := Lib.hid ho6
                have G6 : Hid (wk.grownBy w6 none) := Lib.hid (grown_then (grown_trans hgi.out (grown_trans G5.out (World.grownBy_alloc _ _ none))) hg6 (fun z hz => .inl (hp.out.1.fresh z hz).1))
                have hn6' : n6 = os.length + 1 := hn6.trans (by simp)
                subst hn6'
                clear ho6 hg6 hn6 hfr6
                go_wp2_with fail
                go_roundw
                case rel => exact ⟨j + 1, a6, c6, os ++ [(.slice ag (esc xs j).length cg, esc xs j)], by go_num, by simp, by omega, Lib.hid ⟨by simpa using O6.out, by rw [HS2.out]; simp, fun r hr => by
                  rcases List.mem_append.1 hr with h6 | h6
                  · exact hp.out.2.2 r h6
                  · rw [List.mem_singleton.1 h6]; exact HES.out.2.1⟩, G6⟩
                case measure => (simp [intOf]; try omega)
            · have h5 : ¬ (j : Int) < (xs.length : Int) := by omega
              obtain rfl : j = xs.length := by omega
              have HOU : Hid (os.map Prod.snd = outL P esc xs n) := Lib.hid (by rw [hp.out.2.1, HQ.out.1])
              have HOL : Hid (os.length ≤ 4) := Lib.hid (by
                have h6 := congrArg List.length hp.out.2.1
                have h7 := outL_len P esc xs xs.length
                rw [List.length_map] at h6
                omega)
              have HRL : Hid (rs.length ≤ 16777216) := Lib.hid (Nat.le_trans hq.out.2.2.1 (pow4 t (by omega)))
              obtain ⟨c0, c1', c2, c3, c4, c5, c6⟩ := (K7.out.same (grown_trans hg.out hgi.out)).at
              go_wp2_with fail
              clear c0 c1' c2 c3 c4 c5 c6
              refine (meet_any (n := n) (f := f) (cmp := cmp) (g := g) HF.out HO.out HOV.out HORD.out HCF.out _ _ rs os 9223372036854775807 _ (hq.out.1.same hgi.out) hp.out.1.rows hq.out.2.2.2 hp.out.2.2 (by
                have h6 : rs.length * os.length ≤ 16777216 * 4 := Nat.mul_le_mul HRL.out HOL.out
                omega) (by have := HRL.out; omega) (by have := HOL.out; omega)).mono ?_
              rintro e w7 ⟨v7, q7, rfl, ho7, ht7, he7, hg7, hl7⟩
              have O7 := Lib.hid ho7; have T7 := Lib.hid ht7; have E7 := Lib.hid he7; have G7 := Lib.hid (grown_trans hg.out (grown_trans hgi.out hg7))
              have L7 : Hid (q7.length ≤ 4 ^ (t + 1)) := Lib.hid (by
                rw [meets_len, List.length_map, List.length_map] at hl7
                have h6 : rs.length * os.length ≤ 4 ^ t * 4 := Nat.mul_le_mul hq.out.2.2.1 HOL.out
                rw [Nat.pow_succ]
                omega)
              have N7 : Hid (∀ r ∈ q7, r.2.length = n) := Lib.hid (fun r hr => by
                have h6 := ((T7.out.2 _).1 (List.mem_map_of_mem hr)).1
                obtain ⟨x, hx, h7⟩ := List.mem_flatMap.1 h6
                obtain ⟨y, hy, h8⟩ := List.mem_map.1 h7
                obtain ⟨p1, hp1, rfl⟩ := List.mem_map.1 hx
                obtain ⟨p2, hp2, rfl⟩ := List.mem_map.1 hy
                rw [← h8]
                exact (HOV.out.2.1 _ _ (hq.out.2.2.2 p1 hp1) (hp.out.2.2 p2 hp2)).1)
              have CH : Hid (Chain f g P esc L n ((ps.map Prod.snd).take (t + 1)) (q7.map Prod.snd)) := Lib.hid (by
                rw [HTK.out]
                rw [HOU.out] at ht7 he7
                exact .step hq.out.2.1 ht7 he7)
              obtain ⟨a7, c7, rfl⟩ := ownP_sl ho7
              clear ho7 ht7 he7 hg7 hl7
              go_wp2_with fail
              go_roundw
              case rel => exact ⟨t + 1, a7, c7, q7, by go_num, rfl, by omega, Lib.hid ⟨O7.out.rows, CH.out, L7.out, N7.out⟩, G7⟩
              case measure => (simp [intOf]; try omega)
        · have h3 : ¬ (t : Int) < (ps.length : Int) := by omega
          have HCH : Hid (Chain f g P esc L n (ps.map Prod.snd) (rs.map Prod.snd)) := Lib.hid (by have := hq.out.2.1; rwa [List.take_of_length_le (by simp; omega)] at this)
          have HNR : Hid (∀ x ∈ rs.map Prod.snd, x.length = n) := Lib.hid (fun x hx => by obtain ⟨r, hr, rfl⟩ := List.mem_map.1 hx; exact hq.out.2.2.2 r hr)
          by_cases hbig : rs.length ≤ 256
          · have HBG := Lib.hid hbig
            clear hbig
            go_wp2_with fail
            refine (limited_any _ rs _ hq.out.1 HBG.out (fun r hr => by have := hq.out.2.2.2 r hr; omega)).mono ?_
            rintro e w9 ⟨v9, q9, rfl, hr9, hg9, hm9, hw9, hnew⟩
            have X1 := Lib.hid hr9; have X2 := Lib.hid hg9; have X3 := Lib.hid hm9; have X4 := Lib.hid hw9; have X5 := Lib.hid hnew
            clear hr9 hg9 hm9 hw9 hnew
            go_wp2_with fail
            go_ret2
            have hsz : w.heap.size ≤ wk.heap.size := Nat.le_trans G0.out.size hg.out.size
            exact ⟨_, HCH.out, HNR.out, grown_trans G0.out (grown_trans hg.out X4.out), .inl ⟨by simpa using HBG.out, _, q9, rfl, X1.out, X2.out, X3.out, ⟨fun g hg => Nat.le_trans hsz (X5.out.1 g hg), fun q hq g hg => Nat.le_trans hsz (X5.out.2 q hq g hg)⟩⟩⟩
          · have HBG := Lib.hid (Nat.lt_of_not_le hbig)
            clear hbig
            go_wp2_with fail
            refine (limited_no _ rs _ hq.out.1 HBG.out).mono ?_
            rintro e w9 ⟨rfl, rfl⟩
            go_wp2_with fail
            go_ret2
            exact ⟨_, HCH.out, HNR.out, grown_trans G0.out hg.out, .inr ⟨by simpa using HBG.out, rfl⟩⟩
end Go.Proofs.Ytahffjoehjpfkaa
