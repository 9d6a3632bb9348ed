/- For every rule and every list of forms, valid or not, the two say alike whether the one is a rule with the other as literals, and the program's leaves its arguments as they were: the law FnExactRuleValid returns true, whatever the input, with no condition beyond the statement's own. -/
import Derived.Test.YtnogpaflibghhaaRows
import Derived.Test.YtnogpaflibghhaaRuleBoth
import Derived.Test.YtnogpaflibghhaaRuleKit
import Derived.Test.YtnogpaflibghhaaFormsS
import Derived.Test.YtnogpaflibghhaaOpen
import Derived.Test.YtnogpaflibghhaaFacts
import Derived.Deep.RegionWith
namespace Go.Proofs.Ytnogpaflibghhaa.exRuleValid
open Go.ChangeShapes Go.WideShapes Go.ChangeAt Go.RowKit
open Go.ChangeMaps (open_string shut_string)
set_option linter.unusedVariables false
set_option linter.unusedSimpArgs false
/-- a rule of its own memory, as it reads -/
theorem own_reads {φ : Nat → Prop} {w : World} {p t : Fm} {z0 : Option Addr} {z1 : Nat} {z2 : Option Addr} {z3 : Nat} {z4 : Option Addr} {z5 : Nat} {z6 : Option Addr} {z7 : Nat} {b1 b2 : List Nat}
    (h1 : OwnV w p (.agg #[.int .i64 p.kind, .string p.name, .int .i64 p.n, .slice z0 p.scopes.length z1, .slice z2 p.kids.length z3]) b1) (h2 : OwnV w t (.agg #[.int .i64 t.kind, .string t.name, .int .i64 t.n, .slice z4 t.scopes.length z5, .slice z6 t.kids.length z7]) b2)
    (hb : ∀ c ∈ b1 ++ b2, φ c) : RlIn φ w p t (.agg #[.int .i64 p.kind, .string p.name, .int .i64 p.n, .slice z0 p.scopes.length z1, .slice z2 p.kids.length z3, .int .i64 t.kind, .string t.name, .int .i64 t.n, .slice z4 t.scopes.length z5, .slice z6 t.kids.length z7]) :=
  ⟨z0, z1, z2, z3, z4, z5, z6, z7, rfl, OwnV.inV _ _ _ (fun c hc => hb c (List.mem_append_left _ hc)) h1, OwnV.inV _ _ _ (fun c hc => hb c (List.mem_append_right _ hc)) h2⟩
set_option maxRecDepth 100000 in
set_option maxHeartbeats 8000000 in
theorem walk (w : World) (p t : Fm) (v : Value) (hv : RlIn (· < w.heap.size) w p t v) (ks : List Fm) (u : Value) (hu : FormsV w ks u) :
    Calls Try.prog 3 #[v, u] w fun e w' => e = .returned (.bool true) ∧ Below w.heap.size w w' := by
  have HV := Lib.hid hv
  obtain ⟨c0, c1, c2, c3, c4, c5, c6, c7, rfl, _⟩ := hv
  obtain ⟨la, lcap, rfl, hu⟩ := hu
  have HU := Lib.hid hu
  clear hu
  have HA0 : Hid (Below w.heap.size w (w.alloc (.cells #[.int .i64 p.kind, .string p.name, .int .i64 p.n, .slice c0 p.scopes.length c1, .slice c2 p.kids.length c3, .int .i64 t.kind, .string t.name, .int .i64 t.n, .slice c4 t.scopes.length c5, .slice c6 t.kids.length c7] 27))) := below_alloc w _
  go_enter Try.func3, Try.ntmps3
  go_wp2_with fail
  refine (szRule_any w.heap.size p t _ _ 1048576 (by simp) (RlIn.later (same_below HA0.out) HV.out) (by omega)).mono ?_
  rintro e w1 ⟨rfl, hb1⟩
  obtain ⟨N, hN⟩ : ∃ N, p.sz + t.sz = N := ⟨_, rfl⟩
  rw [hN]
  have HN := Lib.hid hN
  clear hN
  have hs1 : w.heap.size < w1.heap.size := by have := hb1.size; simp at this; omega
  have HX1 := Lib.hid ((RlBox.fresh w p t c0 c1 c2 c3 c4 c5 c6 c7 27).later hb1)
  have HB1 : Hid (Below w.heap.size w w1) := (below_alloc w _).trans (hb1.mono (by simp))
  clear hb1
  rcases leftS2 N with hl | ⟨hsf, hl⟩
  · go_wp2_with fail
    go_ret
    exact ⟨rfl, HB1.out⟩
  rw [hl]
  clear hl
  have hp1 : 0 ≤ (1048576 : Int) - (N : Int) := by omega
  go_wp2_with fail
  refine (szFormS_row w.heap.size ks la lcap w1 (1048576 - (N : Int)) (by omega) (HU.out.later (same_below HB1.out)) (by omega)).mono ?_
  rintro e w2 ⟨rfl, hb2⟩
  have hs2 := hb2.size
  have HX2 := Lib.hid (HX1.out.later hb2)
  have HB2 : Hid (Below w.heap.size w w2) := HB1.out.trans (hb2.mono (by omega))
  clear hb2 HX1
  rcases leftS3 N (szAll ks) hsf with hl | ⟨hss, hl⟩
  · go_wp2_with fail
    go_ret
    exact ⟨rfl, HB2.out⟩
  have hszk : szAll ks ≤ 1048576 := by omega
  have hcp : p.count ≤ 1048577 := by have h1 := p.count_le; have h2 := HN.out; omega
  have hct : t.count ≤ 1048577 := by have h1 := t.count_le; have h2 := HN.out; omega
  have HCN : Hid (∀ g ∈ ks, g.count ≤ 1048577) := fun g hg => by have h1 := count_szAll ks g hg; have h2 := g.count_le; omega
  obtain ⟨x0, x1, x2, x3, x4, x5, x6, x7, x8, x9⟩ := HX2.out
  obtain ⟨R, hR⟩ : ∃ R, ruleB p t ks = R := ⟨_, rfl⟩
  have HRR := Lib.hid hR
  clear hR
  go_wp2_with fail
  refine (toRule_any w.heap.size p t _ w2 (by omega) (RlIn.later (same_below HB2.out) HV.out) (by have := HN.out; omega)).mono ?_
  rintro e w3 ⟨pa0, pa1, pa2, pa3, pa4, pa5, pa6, pa7, bp, bq, rfl, ho1, ho2, hnw, hpl, hb3⟩
  have hs3 := hb3.size
  have HQ3 : Hid (RlIn (· < w3.heap.size) w3 p t (.agg #[.int .i64 p.kind, .string p.name, .int .i64 p.n, .slice pa0 p.scopes.length pa1, .slice pa2 p.kids.length pa3, .int .i64 t.kind, .string t.name, .int .i64 t.n, .slice pa4 t.scopes.length pa5, .slice pa6 t.kids.length pa7])) := own_reads ho1 ho2 (fun c hc => (hnw.2 c hc).2)
  have HX3 := Lib.hid (HX2.out.later hb3)
  have HB3 : Hid (Below w.heap.size w w3) := HB2.out.trans (hb3.mono (by omega))
  clear hb3 ho1 ho2 hnw hpl x0 x1 x2 x3 x4 x5 x6 x7 x8 x9 HX2
  go_wp2_with fail
  refine (toFormS_row w.heap.size ks la lcap w3 (by omega) (HU.out.later (same_below HB3.out)) hszk).mono ?_
  rintro e w4 ⟨qa, qc, br, rfl, hqo, hqn, hb4⟩
  have hs4 := hb4.size
  have HQ4 := Lib.hid (KidsOwn.readsS hqo (φ := (· < w4.heap.size)) (fun b hb => (hqn.2 b hb).2))
  have HQF : Hid (RlIn (· < w4.heap.size) w4 p t (.agg #[.int .i64 p.kind, .string p.name, .int .i64 p.n, .slice pa0 p.scopes.length pa1, .slice pa2 p.kids.length pa3, .int .i64 t.kind, .string t.name, .int .i64 t.n, .slice pa4 t.scopes.length pa5, .slice pa6 t.kids.length pa7])) := RlIn.mono (fun k (hk : k < w3.heap.size) => by show k < w4.heap.size; omega) (RlIn.later (same_below hb4) HQ3.out)
  have HX4 := Lib.hid (HX3.out.later hb4)
  have HB4 : Hid (Below w.heap.size w w4) := HB3.out.trans (hb4.mono (by omega))
  clear hqo hqn hb4 HX3 HQ3
  go_wp2_with fail
  refine (specRuleValid_any w4.heap.size p t ks qa qc _ w4 (Nat.le_refl _) HQ4.out HQF.out HCN.out (by omega) (by omega)).mono ?_
  rintro e w5 ⟨rfl, hb5⟩
  rw [HRR.out]
  have hs5 := hb5.size
  have HX5 := Lib.hid (HX4.out.later hb5)
  have HB5 : Hid (Below w.heap.size w w5) := HB4.out.trans (hb5.mono (by omega))
  clear hb5 HX4 HQ4 HQF
  obtain ⟨x0, x1, x2, x3, x4, x5, x6, x7, x8, x9⟩ := HX5.out
  go_wp2_with fail
  refine (toRule_any w.heap.size p t _ w5 (by omega) (RlIn.later (same_below HB5.out) HV.out) (by have := HN.out; omega)).mono ?_
  rintro e w6 ⟨ya0, ya1, ya2, ya3, ya4, ya5, ya6, ya7, bp, bq, rfl, ho1, ho2, hnw, hpl, hb6⟩
  have hs6 := hb6.size
  have HB6 : Hid (Below w.heap.size w w6) := HB5.out.trans (hb6.mono (by omega))
  have hb67 := below_alloc w6 (.cells #[.int .i64 p.kind, .string p.name, .int .i64 p.n, .slice ya0 p.scopes.length ya1, .slice ya2 p.kids.length ya3, .int .i64 t.kind, .string t.name, .int .i64 t.n, .slice ya4 t.scopes.length ya5, .slice ya6 t.kids.length ya7] 35)
  have HX6 := Lib.hid ((HX5.out.later hb6).later hb67)
  have HY6 : Hid (RlIn (Pl w6.heap.size w6) w6 p t (.agg #[.int .i64 p.kind, .string p.name, .int .i64 p.n, .slice ya0 p.scopes.length ya1, .slice ya2 p.kids.length ya3, .int .i64 t.kind, .string t.name, .int .i64 t.n, .slice ya4 t.scopes.length ya5, .slice ya6 t.kids.length ya7])) := own_reads ho1 ho2 (fun c hc => ⟨(hnw.2 c hc).2, hpl c hc⟩)
  have HBA : Hid (Below w.heap.size w (w6.alloc (.cells #[.int .i64 p.kind, .string p.name, .int .i64 p.n, .slice ya0 p.scopes.length ya1, .slice ya2 p.kids.length ya3, .int .i64 t.kind, .string t.name, .int .i64 t.n, .slice ya4 t.scopes.length ya5, .slice ya6 t.kids.length ya7] 35))) := HB6.out.trans (hb67.mono (by omega))
  clear hb6 hb67 ho1 ho2 hnw hpl x0 x1 x2 x3 x4 x5 x6 x7 x8 x9 HX5
  go_wp2_with fail
  refine (toFormS_row w.heap.size ks la lcap _ (by simp; omega) (HU.out.later (same_below HBA.out)) hszk).mono ?_
  rintro e w7 ⟨za, zc, bz, rfl, hzo, hzn, hb7⟩
  rw [size_alloc'] at hzn
  have hs7 : w6.heap.size + 1 ≤ w7.heap.size := by have := hb7.size; simpa using this
  have hb67 : Below w6.heap.size w6 w7 := (below_alloc w6 _).trans (hb7.mono (by simp))
  have HZ7 := Lib.hid (KidsOwn.readsS hzo (φ := (· < w7.heap.size)) (fun b hb => (hzn.2 b hb).2))
  have HX7 := Lib.hid (HX6.out.later hb7)
  have HW7 := Lib.hid ((RlBox.fresh w6 p t ya0 ya1 ya2 ya3 ya4 ya5 ya6 ya7 35).later hb7)
  have HY7 : Hid (RlIn (Pl w7.heap.size w7) w7 p t (.agg #[.int .i64 p.kind, .string p.name, .int .i64 p.n, .slice ya0 p.scopes.length ya1, .slice ya2 p.kids.length ya3, .int .i64 t.kind, .string t.name, .int .i64 t.n, .slice ya4 t.scopes.length ya5, .slice ya6 t.kids.length ya7])) := RlIn.mono (fun k (hk : Pl w6.heap.size w6 k) => ⟨by have := hk.1; omega, hk.2.same (hb67.block k hk.1)⟩) (RlIn.later (fun k hk => hb67.block k hk.1) HY6.out)
  have HB7 : Hid (Below w.heap.size w w7) := HB6.out.trans (hb67.mono (by omega))
  clear hzo hzn hb7 hb67 HX6 HY6 HBA
  obtain ⟨x0, x1, x2, x3, x4, x5, x6, x7, x8, x9⟩ := HX7.out
  obtain ⟨y0, y1, y2, y3, y4, y5, y6, y7, y8, y9⟩ := HW7.out
  go_wp2_with fail
  refine (implRuleValid_any p t ks za zc _ w7 HZ7.out HY7.out (by omega)).mono ?_
  rintro e w8 ⟨rfl, hb8⟩
  rw [HRR.out]
  have hs8 := hb8.size
  have HX8 := Lib.hid (HX7.out.later hb8)
  have HW8 := Lib.hid (HW7.out.later hb8)
  have HY8 : Hid (RlIn (· < w7.heap.size) w8 p t (.agg #[.int .i64 p.kind, .string p.name, .int .i64 p.n, .slice ya0 p.scopes.length ya1, .slice ya2 p.kids.length ya3, .int .i64 t.kind, .string t.name, .int .i64 t.n, .slice ya4 t.scopes.length ya5, .slice ya6 t.kids.length ya7])) := RlIn.mono (fun k (hk : Pl w7.heap.size w7 k) => hk.1) (RlIn.later (fun k hk => hb8.block k hk.1) HY7.out)
  have HZ8 := Lib.hid (HZ7.out.later (same_below hb8))
  have HB8 : Hid (Below w.heap.size w w8) := HB7.out.trans (hb8.mono (by omega))
  have hbb : (R != R) = false := by simp
  clear hb8 x0 x1 x2 x3 x4 x5 x6 x7 x8 x9 y0 y1 y2 y3 y4 y5 y6 y7 y8 y9 HX7 HW7 HY7 HZ7
  obtain ⟨x0, x1, x2, x3, x4, x5, x6, x7, x8, x9⟩ := HX8.out
  obtain ⟨y0, y1, y2, y3, y4, y5, y6, y7, y8, y9⟩ := HW8.out
  have hl0 : w.heap.size < w8.heap.size := by omega
  have hl6 : w6.heap.size < w8.heap.size := by omega
  go_wp2_with fail
  go_region_with (first
    | (go_at_call 18; refine (toRule_any w.heap.size p t _ w8.drew (by show _ ≤ w8.heap.size; omega) (RlIn.later (w := w) (w' := w8.drew) (same_below HB8.out.drew) HV.out) (by have := HN.out; omega)).mono ?_; rintro e w9 ⟨ra0, ra1, ra2, ra3, ra4, ra5, ra6, ra7, bp, bq, rfl, ho1, ho2, hnw, hpl, hb9⟩; have HR9 : Hid (RlIn (· < w9.heap.size) w9 p t (.agg #[.int .i64 p.kind, .string p.name, .int .i64 p.n, .slice ra0 p.scopes.length ra1, .slice ra2 p.kids.length ra3, .int .i64 t.kind, .string t.name, .int .i64 t.n, .slice ra4 t.scopes.length ra5, .slice ra6 t.kids.length ra7])) := own_reads ho1 ho2 (fun c hc => (hnw.2 c hc).2); clear ho1 ho2 hnw hpl; have hb9' : Below w8.heap.size w8 w9 := ((Below.refl w8.heap.size w8).drew).trans hb9; have y0_9 := cell_later' hb9' y0; have y1_9 := cell_later' hb9' y1; have y2_9 := cell_later' hb9' y2; have y3_9 := cell_later' hb9' y3; have y4_9 := cell_later' hb9' y4; have y5_9 := cell_later' hb9' y5; have y6_9 := cell_later' hb9' y6; have y7_9 := cell_later' hb9' y7; have y8_9 := cell_later' hb9' y8; have y9_9 := cell_later' hb9' y9; have hs9 : w8.heap.size ≤ w9.heap.size := hb9'.size; have HB9 : Hid (Below w.heap.size w w9) := HB8.out.trans (hb9'.mono (by omega)); have HY9 : Hid (RlIn (· < w7.heap.size) w9 p t (.agg #[.int .i64 p.kind, .string p.name, .int .i64 p.n, .slice ya0 p.scopes.length ya1, .slice ya2 p.kids.length ya3, .int .i64 t.kind, .string t.name, .int .i64 t.n, .slice ya4 t.scopes.length ya5, .slice ya6 t.kids.length ya7])) := RlIn.later (w := w8) (w' := w9) (fun k (hk : k < w7.heap.size) => hb9'.block k (by omega)) HY8.out; have HZ9 : Hid (FormsIn (· < w7.heap.size) w9 za zc ks) := HZ8.out.later (w := w8) (w' := w9) (fun k (hk : k < w7.heap.size) => hb9'.block k (by omega)); clear hb9 hb9')
    | (go_at_call 21; refine (eqRule_any w9.heap.size p t _ _ _ (Nat.le_refl _) (RlIn.mono (fun k (hk : k < w7.heap.size) => by show k < w9.heap.size; omega) HY9.out) HR9.out).mono ?_; rintro e w10 ⟨rfl, hb10⟩; have hs10 := hb10.size; have HB10 : Hid (Below w.heap.size w w10) := HB9.out.trans (hb10.mono (by omega)); have HZ10 : Hid (FormsIn (· < w7.heap.size) w10 za zc ks) := HZ9.out.later (w := w9) (w' := w10) (fun k (hk : k < w7.heap.size) => hb10.block k (by omega)); clear hb10))
  all_goals
    go_wp2_with fail
    refine (toFormS_row w.heap.size ks la lcap w10 (by omega) (HU.out.later (same_below HB10.out)) hszk).mono ?_
    rintro e w11 ⟨ta, tc, bt, rfl, hto, htn, hb11⟩
    have hs11 := hb11.size
    have HT11 := Lib.hid (KidsOwn.readsS hto (φ := (· < w11.heap.size)) (fun b hb => (htn.2 b hb).2))
    have HZ11 : Hid (FormsIn (· < w11.heap.size) w11 za zc ks) := FormsIn.mono (fun k (hk : k < w7.heap.size) => by show k < w11.heap.size; omega) (HZ10.out.later (w := w10) (w' := w11) (fun k (hk : k < w7.heap.size) => hb11.block k (by omega)))
    have HB11 : Hid (Below w.heap.size w w11) := HB10.out.trans (hb11.mono (by omega))
    clear hto htn hb11
    go_wp2_with fail
    refine (eqFormS_row w11.heap.size ks za ta zc tc w11 (Nat.le_refl _) HZ11.out HT11.out).mono ?_
    rintro e w12 ⟨rfl, hb12⟩
    have HB12 : Hid (Below w.heap.size w w12) := HB11.out.trans (hb12.mono (by omega))
    clear hb12
    go_wp2_with fail
    go_ret
    exact ⟨rfl, HB12.out⟩
theorem own : ownKnob Try.prog.godebug = none := by kernel_rfl
theorem laidOut : laidOutB Try.prog = true := by kernel_rfl
set_option maxRecDepth 100000 in
theorem lifted (os : Os) (started : os.Started) (H : Type) (enc : TypeId × Value → H) :
    ReturnsInHanded {} Try.checked os 3 .any (Rows.fnExactRuleValidSpec.pre6 enc Try.prog Try.f3 Rows.fnExactRuleValidRow.domain false) (Rows.fnExactRuleValidSpec.post enc Try.prog Try.f3 false true false false) := by
  refine returnsInHanded_of_change (C := Try.checked) own started (by kernel_rfl) Try.func3
    (ChangeSpec.witness6 (enc := enc) (C := Try.checked) false ⟨#[], #[.agg #[.int .i64 0, .string ByteArray.empty, .int .i64 0, .slice none 0 0, .slice none 0 0, .int .i64 0, .string ByteArray.empty, .int .i64 0, .slice none 0 0, .slice none 0 0], .slice none 0 0], []⟩ 12 (by kernel_rfl) (by kernel_rfl) (by kernel_rfl) (by kernel_rfl)) ?_
  intro W base args ds gs before hval0 hW hcnd _
  have hval : ∀ (j : Nat) t v, Try.f3.params[j]? = some t → args[j]? = some v → Value.okWide Try.prog W .any base t v := hval0
  have hW' := hW
  obtain ⟨p, q, hA0, hV, rfl, hfz, hnd⟩ := hW
  have hA : DataW.TrodAll enc Try.prog W 0 (fun _ => true) true Try.f3.params.toList args.toList ds p := hA0
  rw [Try.params3] at hA hval
  obtain ⟨v0, vs0, d0, ds0, p0, q0, hargs, rfl, rfl, h0, r0⟩ := trodAll_cons hA
  obtain ⟨v1, vs1, d1, ds1, p1, q1, rfl, rfl, rfl, h1, r1⟩ := trodAll_cons r0
  obtain ⟨rfl, rfl, rfl⟩ := trodAll_nil r1
  obtain rfl : args = #[v0, v1] := by cases args; simp_all
  obtain ⟨rfl, rfl⟩ := trodVars_none hV
  have k0 := h0
  have lt0 : ∀ x ∈ p0, x.block < W.heap.size := by obtain ⟨m, hm⟩ := k0; exact DataW.trod_lt m _ _ _ hm
  obtain ⟨p0', t0', i0⟩ := open_rule_arg (hval 0 27 v0 rfl rfl) h0
  have k1 := h1
  have lt1 : ∀ x ∈ p1, x.block < W.heap.size := by obtain ⟨m, hm⟩ := k1; exact DataW.trod_lt m _ _ _ hm
  obtain ⟨f1, i1⟩ := open_forms_arg (hval 1 23 v1 rfl rfl) h1
  clear hA0 hval0
  try simp only [List.append_nil] at hW'
  refine (walk W p0' t0' v0 i0 f1 v1 i1).mono fun e W' ⟨he, bel⟩ => ?_
  subst he
  exact ⟨_, rfl, _, _, _, [], _, [], hW', trodAll_mk1 (shut_bool Try.underlying4 _), (trodAll_cons_mk (Below.trod laidOut (by kernel_rfl) (of_decide_eq_true (by kernel_rfl)) k0 bel lt0) (trodAll_cons_mk (Below.trod laidOut (by kernel_rfl) (of_decide_eq_true (by kernel_rfl)) k1 bel lt1) trodAll_mk0)), rfl, bel.frame _, fun h => by cases h⟩
theorem over_named : Try.pinned.checked.prog.funcNamed Rows.fnExactRuleValidRow.func = some 3 := by kernel_rfl
theorem c_inPlace : (Rows.fnExactRuleValidRow.inPlace == Try.pinned.checked.prog.inPlace 3) = true := by kernel_rfl
theorem c_unfollowed : (Rows.fnExactRuleValidRow.unfollowed == Try.pinned.checked.prog.unfollowed 3) = true := by kernel_rfl
theorem c_recurses : (Rows.fnExactRuleValidRow.recurses == Try.pinned.checked.prog.recurses 3) = true := by kernel_rfl
theorem c_named : (Rows.fnExactRuleValidRow.named == Try.pinned.checked.prog.varsNamed 3) = true := by kernel_rfl
theorem over_closed : joinedFacts Try.pinned.checked.prog 3 Try.f3 Rows.fnExactRuleValidSpec Rows.fnExactRuleValidRow = true := by
  unfold joinedFacts
  exact Facts.band (Facts.band (Facts.band (Facts.band (Facts.band (Facts.band (Facts.band (Facts.band (Facts.band (Facts.band (Facts.band (Facts.band (Facts.band (Facts.band (Facts.band (Facts.band (Facts.band (Facts.band (Facts.band (Facts.band (Facts.band (Facts.band (Facts.band (Facts.band (Facts.band (Facts.band (Facts.band (Facts.band (Facts.band (Facts.band (Facts.band (by kernel_rfl) Facts.laid) Facts.rowed) (by kernel_rfl)) (by kernel_rfl)) (by kernel_rfl)) Facts.stops) (by kernel_rfl)) Facts.knobs) c_inPlace) c_unfollowed) c_recurses) c_named) (by kernel_rfl)) (by kernel_rfl)) (by kernel_rfl)) (by kernel_rfl)) (by kernel_rfl)) (by kernel_rfl)) (by kernel_rfl)) (by kernel_rfl)) (by kernel_rfl)) (by rw [Facts.plain]; kernel_rfl)) (by kernel_rfl)) Facts.heard) Facts.enter) (by rw [Facts.lifts]; kernel_rfl)) (by rw [Facts.made]; kernel_rfl)) (by kernel_rfl)) (by kernel_rfl)) (by kernel_rfl)) (by kernel_rfl)
theorem over_inst : Func.isInstance Try.pinned.checked.prog Try.f3 Rows.fnExactRuleValidRow.origin Rows.fnExactRuleValidRow.targs := of_decide_eq_true (by kernel_rfl)
theorem over_wrap : Func.isWrapper Try.pinned.checked.prog Try.f3 Rows.fnExactRuleValidRow.wrapper Rows.fnExactRuleValidRow.mainSum := (by unfold Func.isWrapper; first | (rw [if_pos (by decide +kernel)]; kernel_rfl) | (rw [if_neg (by decide +kernel)]; exact ⟨rfl, rfl⟩))
theorem over : Rows.fnExactRuleValidRow.holds Try.pinned (OpenSpec.ofChange Rows.fnExactRuleValidSpec) :=
  OpenClaim.holds_of_wide 3 Try.f3 rfl rfl rfl rfl rfl rfl rfl ⟨rfl, rfl, rfl, rfl, rfl⟩ rfl rfl rfl rfl rfl over_named Try.func3 over_closed over_inst over_wrap
    (fun os started H enc _ => lifted os started H enc)
theorem proved : Rows.FnExactRuleValidSaid := over
end Go.Proofs.Ytnogpaflibghhaa.exRuleValid
