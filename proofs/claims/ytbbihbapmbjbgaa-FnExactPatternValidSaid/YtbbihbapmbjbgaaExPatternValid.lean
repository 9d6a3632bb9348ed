/- For every form and every list of forms, valid or not, the two say alike whether the one is a pattern with the other as literals, and the program's leaves its arguments as they were: the law FnExactPatternValid returns true, whatever the input, with no condition beyond the statement's own. -/
import Derived.Test.YtbbihbapmbjbgaaRows
import Derived.Test.YtbbihbapmbjbgaaSpecPat4
import Derived.Test.YtbbihbapmbjbgaaImplPat5
import Derived.Test.YtbbihbapmbjbgaaFormsS
import Derived.Test.YtbbihbapmbjbgaaOpen
import Derived.Deep.RegionWith
namespace Go.Proofs.Ytbbihbapmbjbgaa.exPatternValid
open Go.ChangeShapes Go.WideShapes Go.ChangeAt Go.RowKit
open Go.ChangeMaps (open_string shut_string)
set_option linter.unusedVariables false
set_option linter.unusedSimpArgs false
set_option maxRecDepth 100000 in
set_option maxHeartbeats 4000000 in
theorem walk (w : World) (f : Fm) (v : Value) (hv : InV (· < w.heap.size) w f v) (ks : List Fm) (u : Value) (hu : FormsV w ks u) :
    Calls Try.prog 3 #[v, u] w fun e w' => e = .returned (.bool true) ∧ Below w.heap.size w w' := by
  have HV := Lib.hid hv
  obtain ⟨sa, scap, a, cap, rfl⟩ := hv.form
  obtain ⟨la, lcap, rfl, hu⟩ := hu
  have HU := Lib.hid hu
  clear hv hu
  go_enter Try.func3, Try.ntmps3
  go_wp2_with fail
  refine (szForm_any w.heap.size f _ _ 1048576 (by simp) (InV.later (same_below ((Below.refl _ w).alloc (Nat.le_refl _) _)) _ _ HV.out) (by omega)).mono ?_
  rintro e w1 ⟨rfl, hb1⟩
  have hs1 : w.heap.size < w1.heap.size := by have := hb1.size; simp at this; omega
  have HX1 := Lib.hid ((FormBox.fresh w f sa a scap cap 25).later hb1)
  have HB1 : Hid (Below w.heap.size w w1) := (below_alloc w _).trans (hb1.mono (by simp))
  clear hb1
  rcases leftS2 f.sz with hl | ⟨hsf, hl⟩
  · go_wp2_with fail
    go_ret
    exact ⟨rfl, HB1.out⟩
  rw [hl]
  clear hl
  have hp1 : 0 ≤ (1048576 : Int) - f.sz := by omega
  go_wp2_with fail
  refine (szFormS_row w.heap.size ks la lcap w1 (1048576 - f.sz) (by omega) (HU.out.later (same_below HB1.out)) (by omega)).mono ?_
  rintro e w2 ⟨rfl, hb2⟩
  have hs2 := hb2.size
  have HX2 := Lib.hid (HX1.out.later hb2)
  have HB2 : Hid (Below w.heap.size w w2) := HB1.out.trans (hb2.mono (by omega))
  clear hb2 HX1
  rcases leftS3 f.sz (szAll ks) hsf with hl | ⟨hss, hl⟩
  · go_wp2_with fail
    go_ret
    exact ⟨rfl, HB2.out⟩
  have hszk : szAll ks ≤ 1048576 := by omega
  have hcf := f.count_le
  have HCN : Hid (∀ g ∈ ks, g.count ≤ 1048577) := fun g hg => by have h1 := count_szAll ks g hg; have h2 := g.count_le; omega
  obtain ⟨x0, x1, x2, x3, x4⟩ := HX2.out
  obtain ⟨R, hR⟩ : ∃ R, patternB f ks = R := ⟨_, rfl⟩
  have HRR := Lib.hid hR
  clear hR
  go_wp2_with fail
  refine (toForm_any w.heap.size f _ _ (by omega) (InV.later (same_below HB2.out) _ _ HV.out) hsf).mono ?_
  rintro e w3 hp
  obtain ⟨pa, pb, pc, pd, rfl, hx, hb3⟩ := hp.weak
  clear hp
  have hs3 := hb3.size
  have HQ3 := Lib.hid hx
  have HX3 := Lib.hid (HX2.out.later hb3)
  have HB3 : Hid (Below w.heap.size w w3) := HB2.out.trans (hb3.mono (by omega))
  clear hx hb3 x0 x1 x2 x3 x4 HX2
  go_wp2_with fail
  refine (toFormS_row w.heap.size ks la lcap w3 (by omega) (HU.out.later (same_below HB3.out)) hszk).mono ?_
  rintro e w4 ⟨qa, qc, bq, rfl, hqo, hqn, hb4⟩
  have hs4 := hb4.size
  have HQ4 := Lib.hid (KidsOwn.readsS hqo (φ := (· < w4.heap.size)) (fun b hb => (hqn.2 b hb).2))
  have HQF : Hid (InV (· < w4.heap.size) w4 f (.agg #[.int .i64 f.kind, .string f.name, .int .i64 f.n, .slice pa f.scopes.length pb, .slice pc f.kids.length pd])) := InV.mono (fun k (hk : k < w3.heap.size) => by show k < w4.heap.size; omega) _ _ (InV.later (same_below hb4) _ _ HQ3.out)
  have HX4 := Lib.hid (HX3.out.later hb4)
  have HB4 : Hid (Below w.heap.size w w4) := HB3.out.trans (hb4.mono (by omega))
  clear hqo hqn hb4 HX3 HQ3
  go_wp2_with fail
  refine (specPatternValid_any w4.heap.size f ks qa qc _ w4 (Nat.le_refl _) HQ4.out HQF.out HCN.out (by omega)).mono ?_
  rintro e w5 ⟨rfl, hb5⟩
  rw [HRR.out]
  have hs5 := hb5.size
  have HX5 := Lib.hid (HX4.out.later hb5)
  have HB5 : Hid (Below w.heap.size w w5) := HB4.out.trans (hb5.mono (by omega))
  clear hb5 HX4 HQ4 HQF
  obtain ⟨x0, x1, x2, x3, x4⟩ := HX5.out
  go_wp2_with fail
  refine (toForm_any w.heap.size f _ _ (by omega) (InV.later (same_below HB5.out) _ _ HV.out) hsf).mono ?_
  rintro e w6 hp
  obtain ⟨ya, yb, yc, yd, rfl, hy, hb6⟩ := hp.weak
  clear hp
  have hs6 := hb6.size
  have HB6 : Hid (Below w.heap.size w w6) := HB5.out.trans (hb6.mono (by omega))
  have hb67 := below_alloc w6 (.cells #[.int .i64 f.kind, .string f.name, .int .i64 f.n, .slice ya f.scopes.length yb, .slice yc f.kids.length yd] 31)
  have HX6 := Lib.hid ((HX5.out.later hb6).later hb67)
  have HY6 : Hid (InV (· < w6.heap.size) w6 f (.agg #[.int .i64 f.kind, .string f.name, .int .i64 f.n, .slice ya f.scopes.length yb, .slice yc f.kids.length yd])) := hy
  have HBA : Hid (Below w.heap.size w (w6.alloc (.cells #[.int .i64 f.kind, .string f.name, .int .i64 f.n, .slice ya f.scopes.length yb, .slice yc f.kids.length yd] 31))) := HB6.out.trans (hb67.mono (by omega))
  clear hy hb6 hb67 x0 x1 x2 x3 x4 HX5
  go_wp2_with fail
  refine (toFormS_row w.heap.size ks la lcap _ (by simp; omega) (HU.out.later (same_below HBA.out)) hszk).mono ?_
  rintro e w7 ⟨za, zc, bz, rfl, hzo, hzn, hb7⟩
  rw [size_alloc'] at hzn
  have hs7 : w6.heap.size + 1 ≤ w7.heap.size := by have := hb7.size; simpa using this
  have hb67 : Below w6.heap.size w6 w7 := (below_alloc w6 _).trans (hb7.mono (by simp))
  have HZ7 := Lib.hid (KidsOwn.readsS hzo (φ := (· < w7.heap.size)) (fun b hb => (hzn.2 b hb).2))
  have HX7 := Lib.hid (HX6.out.later hb7)
  have HW7 := Lib.hid ((FormBox.fresh w6 f ya yc yb yd 31).later hb7)
  have HY7 : Hid (InV (· < w7.heap.size) w7 f (.agg #[.int .i64 f.kind, .string f.name, .int .i64 f.n, .slice ya f.scopes.length yb, .slice yc f.kids.length yd])) := InV.mono (fun k (hk : k < w6.heap.size) => by show k < w7.heap.size; omega) _ _ (InV.later (same_below hb67) _ _ HY6.out)
  have HB7 : Hid (Below w.heap.size w w7) := HB6.out.trans (hb67.mono (by omega))
  clear hzo hzn hb7 hb67 HX6 HY6 HBA
  obtain ⟨x0, x1, x2, x3, x4⟩ := HX7.out
  obtain ⟨y0, y1, y2, y3, y4⟩ := HW7.out
  go_wp2_with fail
  refine (implPatternValid_any w7.heap.size f ks za zc _ w7 (Nat.le_refl _) HZ7.out HY7.out HCN.out (by omega)).mono ?_
  rintro e w8 ⟨rfl, hb8⟩
  rw [HRR.out]
  have hs8 := hb8.size
  have HX8 := Lib.hid (HX7.out.later hb8)
  have HW8 := Lib.hid (HW7.out.later hb8)
  have HY8 := Lib.hid (InV.later (same_below hb8) _ _ HY7.out)
  have HZ8 := Lib.hid (HZ7.out.later (same_below hb8))
  have HB8 : Hid (Below w.heap.size w w8) := HB7.out.trans (hb8.mono (by omega))
  have hbb : (R != R) = false := by simp
  clear hb8 x0 x1 x2 x3 x4 y0 y1 y2 y3 y4 HX7 HW7 HY7 HZ7
  obtain ⟨x0, x1, x2, x3, x4⟩ := HX8.out
  obtain ⟨y0, y1, y2, y3, y4⟩ := HW8.out
  have hl0 : w.heap.size < w8.heap.size := by omega
  have hl6 : w6.heap.size < w8.heap.size := by omega
  go_wp2_with fail
  go_region_with (first
    | (go_at_call 18; refine (toForm_any w.heap.size f _ w8.drew (by show _ ≤ w8.heap.size; omega) (InV.later (w := w) (w' := w8.drew) (same_below HB8.out.drew) _ _ HV.out) hsf).mono ?_; rintro e w9 hp; obtain ⟨ra, rb, rc, rd, rfl, hr, hb9⟩ := hp.weak; clear hp; have HR9 := Lib.hid hr; clear hr; have hb9' : Below w8.heap.size w8 w9 := ((Below.refl w8.heap.size w8).drew).trans hb9; have y0_9 := cell_later' hb9' y0; have y1_9 := cell_later' hb9' y1; have y2_9 := cell_later' hb9' y2; have y3_9 := cell_later' hb9' y3; have y4_9 := cell_later' hb9' y4; have hs9 : w8.heap.size ≤ w9.heap.size := hb9'.size; have HB9 : Hid (Below w.heap.size w w9) := HB8.out.trans (hb9'.mono (by omega)); have HY9 := Lib.hid (InV.later (w := w8) (w' := w9) (fun k (hk : k < w7.heap.size) => hb9'.block k (by omega)) _ _ HY8.out); have HZ9 := Lib.hid (HZ8.out.later (w := w8) (w' := w9) (fun k (hk : k < w7.heap.size) => hb9'.block k (by omega))); clear hb9 hb9')
    | (go_at_call 21; refine (eqForm_any w9.heap.size f f _ _ _ (Nat.le_refl _) (InV.mono (fun k (hk : k < w7.heap.size) => by show k < w9.heap.size; omega) _ _ HY9.out) HR9.out).mono ?_; rintro e w10 ⟨rfl, hb10⟩; rw [sameB_refl]; have hs10 := hb10.size; have HB10 : Hid (Below w.heap.size w w10) := HB9.out.trans (hb10.mono (by omega)); have HZ10 := Lib.hid (HZ9.out.later (w := w9) (w' := w10) (fun k (hk : k < w7.heap.size) => hb10.block k (by omega))); clear hb10))
  all_goals
    go_wp2_with fail
    refine (toFormS_row w.heap.size ks la lcap w10 (by omega) (HU.out.later (same_below HB10.out)) hszk).mono ?_
    rintro e w11 ⟨ta, tc, bt, rfl, hto, htn, hb11⟩
    have hs11 := hb11.size
    have HT11 := Lib.hid (KidsOwn.readsS hto (φ := (· < w11.heap.size)) (fun b hb => (htn.2 b hb).2))
    have HZ11 : Hid (FormsIn (· < w11.heap.size) w11 za zc ks) := FormsIn.mono (fun k (hk : k < w7.heap.size) => by show k < w11.heap.size; omega) (HZ10.out.later (w := w10) (w' := w11) (fun k (hk : k < w7.heap.size) => hb11.block k (by omega)))
    have HB11 : Hid (Below w.heap.size w w11) := HB10.out.trans (hb11.mono (by omega))
    clear hto htn hb11
    go_wp2_with fail
    refine (eqFormS_row w11.heap.size ks za ta zc tc w11 (Nat.le_refl _) HZ11.out HT11.out).mono ?_
    rintro e w12 ⟨rfl, hb12⟩
    have HB12 : Hid (Below w.heap.size w w12) := HB11.out.trans (hb12.mono (by omega))
    clear hb12
    go_wp2_with fail
    go_ret
    exact ⟨rfl, HB12.out⟩
theorem own : ownKnob Try.prog.godebug = none := by kernel_rfl
theorem laidOut : laidOutB Try.prog = true := by kernel_rfl
set_option maxRecDepth 100000 in
theorem lifted (os : Os) (started : os.Started) (H : Type) (enc : TypeId × Value → H) :
    ReturnsInHanded {} Try.checked os 3 .any (Rows.fnExactPatternValidSpec.pre6 enc Try.prog Try.f3 Rows.fnExactPatternValidRow.domain false) (Rows.fnExactPatternValidSpec.post enc Try.prog Try.f3 false true false false) := by
  refine returnsInHanded_of_change (C := Try.checked) own started (by kernel_rfl) Try.func3
    (ChangeSpec.witness6 (enc := enc) (C := Try.checked) false ⟨#[], #[.agg #[.int .i64 0, .string ByteArray.empty, .int .i64 0, .slice none 0 0, .slice none 0 0], .slice none 0 0], []⟩ 12 (by kernel_rfl) (by kernel_rfl) (by kernel_rfl) (by kernel_rfl)) ?_
  intro W base args ds gs before hval0 hW hcnd _
  have hval : ∀ (j : Nat) t v, Try.f3.params[j]? = some t → args[j]? = some v → Value.okWide Try.prog W .any base t v := hval0
  have hW' := hW
  obtain ⟨p, q, hA0, hV, rfl, hfz, hnd⟩ := hW
  have hA : DataW.TrodAll enc Try.prog W 0 (fun _ => true) true Try.f3.params.toList args.toList ds p := hA0
  rw [Try.params3] at hA hval
  obtain ⟨v0, vs0, d0, ds0, p0, q0, hargs, rfl, rfl, h0, r0⟩ := trodAll_cons hA
  obtain ⟨v1, vs1, d1, ds1, p1, q1, rfl, rfl, rfl, h1, r1⟩ := trodAll_cons r0
  obtain ⟨rfl, rfl, rfl⟩ := trodAll_nil r1
  obtain rfl : args = #[v0, v1] := by cases args; simp_all
  obtain ⟨rfl, rfl⟩ := trodVars_none hV
  have k0 := h0
  have lt0 : ∀ x ∈ p0, x.block < W.heap.size := by obtain ⟨m, hm⟩ := k0; exact DataW.trod_lt m _ _ _ hm
  obtain ⟨f0, i0⟩ := open_form_arg (hval 0 25 v0 rfl rfl) h0
  have k1 := h1
  have lt1 : ∀ x ∈ p1, x.block < W.heap.size := by obtain ⟨m, hm⟩ := k1; exact DataW.trod_lt m _ _ _ hm
  obtain ⟨f1, i1⟩ := open_forms_arg (hval 1 23 v1 rfl rfl) h1
  clear hA0 hval0
  try simp only [List.append_nil] at hW'
  refine (walk W f0 v0 i0 f1 v1 i1).mono fun e W' ⟨he, bel⟩ => ?_
  subst he
  exact ⟨_, rfl, _, _, _, [], _, [], hW', trodAll_mk1 (shut_bool Try.underlying4 _), (trodAll_cons_mk (Below.trod laidOut (by kernel_rfl) (of_decide_eq_true (by kernel_rfl)) k0 bel lt0) (trodAll_cons_mk (Below.trod laidOut (by kernel_rfl) (of_decide_eq_true (by kernel_rfl)) k1 bel lt1) trodAll_mk0)), rfl, bel.frame _, fun h => by cases h⟩
theorem over_named : Try.pinned.checked.prog.funcNamed Rows.fnExactPatternValidRow.func = some 3 := by kernel_rfl
theorem over_closed : joinedFacts Try.pinned.checked.prog 3 Try.f3 Rows.fnExactPatternValidSpec Rows.fnExactPatternValidRow = true := by kernel_rfl
theorem over_inst : Func.isInstance Try.pinned.checked.prog Try.f3 Rows.fnExactPatternValidRow.origin Rows.fnExactPatternValidRow.targs := of_decide_eq_true (by kernel_rfl)
theorem over_wrap : Func.isWrapper Try.pinned.checked.prog Try.f3 Rows.fnExactPatternValidRow.wrapper Rows.fnExactPatternValidRow.mainSum := (by unfold Func.isWrapper; first | (rw [if_pos (by decide +kernel)]; kernel_rfl) | (rw [if_neg (by decide +kernel)]; exact ⟨rfl, rfl⟩))
theorem over : Rows.fnExactPatternValidRow.holds Try.pinned (OpenSpec.ofChange Rows.fnExactPatternValidSpec) :=
  OpenClaim.holds_of_wide 3 Try.f3 rfl rfl rfl rfl rfl rfl rfl ⟨rfl, rfl, rfl, rfl, rfl⟩ rfl rfl rfl rfl rfl over_named Try.func3 over_closed over_inst over_wrap
    (fun os started H enc _ => lifted os started H enc)
theorem proved : Rows.FnExactPatternValidSaid := over
end Go.Proofs.Ytbbihbapmbjbgaa.exPatternValid
