/- For every core program, valid or not, the program says that it is valid just when the model does, and leaves its argument as it was: the law FnExactCoreValid returns true, whatever the input, with no condition beyond the statement's own. -/
import Derived.Test.YtbclgmabidjegaaRows
import Derived.Test.YtbclgmabidjegaaCvProg
import Derived.Test.YtbclgmabidjegaaSameDataC
import Derived.Test.YtbclgmabidjegaaOpenC
import Derived.Test.YtbclgmabidjegaaSzCore
import Derived.Test.YtbclgmabidjegaaEqCore
import Derived.Test.YtbclgmabidjegaaToCore2
import Derived.Test.YtbclgmabidjegaaFormsS
import Derived.Test.YtbclgmabidjegaaFacts
import Derived.Test.YtbclgmabidjegaaBoxC
import Derived.Deep.RegionWith
namespace Go.Proofs.Ytbclgmabidjegaa.exCoreValid
open Go.ChangeShapes Go.WideShapes Go.ChangeAt Go.RowKit
open Go.ChangeMaps (open_string shut_string)
open Go.Proofs.Ytbclgmabidjegaa.CoreT
set_option linter.unusedVariables false
set_option linter.unusedSimpArgs false
theorem valBack {φ : Nat → Prop} {w : World} {f : Ck} {i1 : Option Addr} {j1 : Nat} {s1 : Option Addr} {t1 : Nat} {k1 : Option Addr} {l1 : Nat} {a : Option Addr} {cap : Nat} (h : InC φ w f (.agg #[.int .i64 f.kind, .int .i64 f.id, .string f.name, .int .i64 f.n, .slice i1 f.ids.length j1, .int .i64 f.data.kind, .string f.data.name, .int .i64 f.data.n, .slice s1 f.data.scopes.length t1, .slice k1 f.data.kids.length l1, .slice a f.kids.length cap])) : InC φ w f (CItem.val ⟨f, i1, j1, s1, t1, k1, l1, a, cap⟩) := h
set_option maxRecDepth 100000 in
set_option maxHeartbeats 8000000 in
theorem walk (w : World) (f : Ck) (v : Value) (hv : InC (· < w.heap.size) w f v) :
    Calls Try.prog 3 #[v] w fun e w' => e = .returned (.bool true) ∧ Below w.heap.size w w' := by
  obtain ⟨x, rfl, rfl, hx⟩ := CItem.of hv
  have HV := Lib.hid hx
  clear hv hx
  rw [CItem.val_eq]
  go_enter Try.func3, Try.ntmps3
  go_wp2_with fail
  refine (szCore_any w.heap.size x.f _ _ 1048576 (by simp) (InC.later (same_below ((Below.refl _ w).alloc (Nat.le_refl _) _)) _ _ HV.out) (by omega)).mono ?_
  rintro e w1 ⟨rfl, hb1⟩
  have hs1 : w.heap.size < w1.heap.size := by have := hb1.size; simp at this; omega
  have HX := Lib.hid ((CoreBox.fresh w x 28).later hb1)
  have HB : Hid (Below w.heap.size w w1) := (below_alloc w _).trans (hb1.mono (by simp))
  clear hb1
  rcases leftS2 x.f.sz with hl | ⟨hsf, hl⟩
  · go_wp2_with fail
    go_ret
    exact ⟨rfl, HB.out⟩
  rw [hl]
  clear hl
  have hp1 : 0 ≤ (1048576 : Int) - x.f.sz := by omega
  have hcf := x.f.count_le
  skip
  obtain ⟨x0, x1, x2, x3, x4, x5, x6, x7, x8, x9, x10⟩ := HX.out
  go_wp2_with fail
  refine (toCore_any w.heap.size x.f _ w1 (by omega) (InC.later (w := w) (w' := w1) (same_below HB.out) _ _ HV.out) hsf).mono ?_
  rintro e w2 ⟨p0, p1, p2, p3, p4, p5, p6, p7, bs2, rfl, ho, hn, hpl, hb⟩
  have hs2 : w1.heap.size ≤ w2.heap.size := hb.size
  have HX_1 := Lib.hid (HX.out.later hb)
  have HB_1 := Lib.hid (HB.out.trans (hb.mono (by omega)))
  clear HX HB
  have HP := Lib.hid (valBack (OwnC.inC (φ := (· < w2.heap.size)) x.f _ bs2 (fun c hc => (hn.2 c hc).2) ho))
  clear ho hn hpl hb x0 x1 x2 x3 x4 x5 x6 x7 x8 x9 x10
  skip
  go_wp2_with fail
  refine (specCoreValid_any ⟨x.f, p0, p1, p2, p3, p4, p5, p6, p7⟩ w2 HP.out hsf).mono ?_
  rintro e w3 ⟨rfl, hb⟩
  have hs3 : w2.heap.size ≤ w3.heap.size := hb.size
  have HX_2 := Lib.hid (HX_1.out.later hb)
  have HB_2 := Lib.hid (HB_1.out.trans (hb.mono (by omega)))
  clear HX_1 HB_1
  clear hb HP
  obtain ⟨x0, x1, x2, x3, x4, x5, x6, x7, x8, x9, x10⟩ := HX_2.out
  go_wp2_with fail
  refine (toCore_any w.heap.size x.f _ w3 (by omega) (InC.later (w := w) (w' := w3) (same_below HB_2.out) _ _ HV.out) hsf).mono ?_
  rintro e w4 ⟨q0, q1, q2, q3, q4, q5, q6, q7, bs4, rfl, ho, hn, hpl, hb⟩
  have hs4 : w3.heap.size ≤ w4.heap.size := hb.size
  have HX_3 := Lib.hid (HX_2.out.later hb)
  have HB_3 := Lib.hid (HB_2.out.trans (hb.mono (by omega)))
  clear HX_2 HB_2
  have HQ := Lib.hid (valBack (OwnC.inC (φ := (· < w4.heap.size)) x.f _ bs4 (fun c hc => (hn.2 c hc).2) ho))
  have HFA := Lib.hid (show InC (Pl w4.heap.size w4) w4 x.f (CItem.val ⟨x.f, q0, q1, q2, q3, q4, q5, q6, q7⟩) from OwnC.inC (φ := Pl w4.heap.size w4) x.f _ bs4 (fun c hc => ⟨(hn.2 c hc).2, hpl c hc⟩) ho)
  clear ho hn hpl hb x0 x1 x2 x3 x4 x5 x6 x7 x8 x9 x10
  obtain ⟨v4, hv4⟩ : ∃ v4, v4 = (w4.alloc (.cells #[.int .i64 x.f.kind, .int .i64 x.f.id, .string x.f.name, .int .i64 x.f.n, .slice q0 x.f.ids.length q1, .int .i64 x.f.data.kind, .string x.f.data.name, .int .i64 x.f.data.n, .slice q2 x.f.data.scopes.length q3, .slice q4 x.f.data.kids.length q5, .slice q6 x.f.kids.length q7] 36)) := ⟨_, rfl⟩
  have hb : Below w4.heap.size w4 v4 := by rw [hv4]; exact below_alloc w4 _
  have hsv : w4.heap.size + 1 ≤ v4.heap.size := by rw [hv4]; simp
  have HX_4 := Lib.hid (HX_3.out.later hb)
  have HB_4 := Lib.hid (HB_3.out.trans (hb.mono (by omega)))
  clear HX_3 HB_3
  have HY : Hid (CoreBox v4 w4.heap.size ⟨x.f, q0, q1, q2, q3, q4, q5, q6, q7⟩) := by unfold Hid; rw [hv4]; exact CoreBox.fresh w4 ⟨x.f, q0, q1, q2, q3, q4, q5, q6, q7⟩ _
  have HQ4 : Hid (InC (· < w4.heap.size) v4 x.f (CItem.val ⟨x.f, q0, q1, q2, q3, q4, q5, q6, q7⟩)) := InC.later (same_below hb) _ _ HQ.out
  have HFA4 := Lib.hid (InC.pl hb HFA.out)
  have HV4 := Lib.hid hv4
  clear hv4 hb
  go_wp2_with fail
  rw [← HV4.out]
  clear HV4
  obtain ⟨y0, y1, y2, y3, y4, y5, y6, y7, y8, y9, y10⟩ := HY.out
  go_wp2_with fail
  refine (implCoreValid_any ⟨x.f, q0, q1, q2, q3, q4, q5, q6, q7⟩ v4 HFA4.out hsf).mono ?_
  rintro e w5 ⟨rfl, hb⟩
  have hs5 : v4.heap.size ≤ w5.heap.size := hb.size
  have HX_5 := Lib.hid (HX_4.out.later hb)
  have HB_5 := Lib.hid (HB_4.out.trans (hb.mono (by omega)))
  have HY_1 := Lib.hid (HY.out.later hb)
  clear HX_4 HB_4 HY
  have HQ5 := Lib.hid (InC.later (same_below (hb.mono (by omega : w4.heap.size ≤ v4.heap.size))) _ _ HQ4.out)
  clear hb HQ4 HFA4 y0 y1 y2 y3 y4 y5 y6 y7 y8 y9 y10
  have hbb : (validC x.f != validC x.f) = false := by simp
  go_wp2_with fail
  refine upto_begin (fun W => CoreBox W w4.heap.size ⟨x.f, q0, q1, q2, q3, q4, q5, q6, q7⟩ ∧ CoreBox W w.heap.size x) 5 (by kernel_rfl) ?_
  obtain ⟨u5, hu5⟩ : ∃ u5, u5 = w5.drew := ⟨_, rfl⟩
  rw [← hu5]
  have hb : Below w5.heap.size w5 u5 := by rw [hu5]; exact (Below.refl _ _).drew
  have hsu : w5.heap.size ≤ u5.heap.size := hb.size
  have HX_6 := Lib.hid (HX_5.out.later hb)
  have HB_6 := Lib.hid (HB_5.out.trans (hb.mono (by omega)))
  have HY_2 := Lib.hid (HY_1.out.later hb)
  clear HX_5 HB_5 HY_1
  have HQ6 := Lib.hid (InC.later (same_below (hb.mono (by omega : w4.heap.size ≤ w5.heap.size))) _ _ HQ5.out)
  clear hb hu5
  have hS : (fun W => CoreBox W w4.heap.size ⟨x.f, q0, q1, q2, q3, q4, q5, q6, q7⟩ ∧ CoreBox W w.heap.size x) u5 := ⟨HY_2.out, HX_6.out⟩
  refine upto_take (i := 0) (d := some 22) (v := ?_) rfl rfl (by kernel_rfl) (by kernel_rfl) (by kernel_rfl) (by kernel_rfl) (fun _ _ _ h => h) (Or.inl ⟨by rfl, ?_⟩) hS ?_
  rotate_left
  · (intro wS hSw; obtain ⟨⟨m0, m1, m2, m3, m4, m5, m6, m7, m8, m9, m10⟩, ⟨n0, n1, n2, n3, n4, n5, n6, n7, n8, n9, n10⟩⟩ := hSw; go_simp; try with_reducible rfl)
  try simp only [Act.put, List.setIfInBounds_toArray, List.set_cons_zero, List.set_cons_succ]
  refine upto_take (i := 1) (d := some 23) (v := ?_) rfl rfl (by kernel_rfl) (by kernel_rfl) (by kernel_rfl) (by kernel_rfl) (fun _ _ _ h => h) (Or.inl ⟨by rfl, ?_⟩) hS ?_
  rotate_left
  · (intro wS hSw; obtain ⟨⟨m0, m1, m2, m3, m4, m5, m6, m7, m8, m9, m10⟩, ⟨n0, n1, n2, n3, n4, n5, n6, n7, n8, n9, n10⟩⟩ := hSw; go_simp; try with_reducible rfl)
  try simp only [Act.put, List.setIfInBounds_toArray, List.set_cons_zero, List.set_cons_succ]
  clear hS
  refine upto_one (i := 2) (by kernel_rfl) rfl (fun K hK => ?_)
  go_simp
  refine (toCore_any w.heap.size x.f _ u5 (by omega) (InC.later (w := w) (w' := u5) (same_below HB_6.out) _ _ HV.out) hsf).mono ?_
  rintro e w6 ⟨r0, r1, r2, r3, r4, r5, r6, r7, bs6, rfl, ho, hn, hpl, hb⟩
  have hs6 : u5.heap.size ≤ w6.heap.size := hb.size
  have HX_7 := Lib.hid (HX_6.out.later hb)
  have HB_7 := Lib.hid (HB_6.out.trans (hb.mono (by omega)))
  have HY_3 := Lib.hid (HY_2.out.later hb)
  clear HX_6 HB_6 HY_2
  have HT := Lib.hid (OwnC.inC (φ := (· < w6.heap.size)) x.f _ bs6 (fun c hc => (hn.2 c hc).2) ho)
  have HQ7 := Lib.hid (InC.mono (ψ := (· < w6.heap.size)) (fun k (hk : k < w4.heap.size) => by show k < _; omega) _ _ (InC.later (same_below (hb.mono (by omega : w4.heap.size ≤ u5.heap.size))) _ _ HQ6.out))
  clear ho hn hpl hb
  refine hK.out _ _ (.inr ⟨HY_3.out, HX_7.out⟩) ?_
  clear hK K
  refine upto_one (i := 3) (by kernel_rfl) rfl (fun K hK => ?_)
  go_simp
  refine (eqCore_any w6.heap.size x.f _ _ _ (Nat.le_refl _) HQ7.out HT.out).mono ?_
  rintro e w7 ⟨rfl, hb⟩
  have hs7 : w6.heap.size ≤ w7.heap.size := hb.size
  have HX_8 := Lib.hid (HX_7.out.later hb)
  have HB_8 := Lib.hid (HB_7.out.trans (hb.mono (by omega)))
  have HY_4 := Lib.hid (HY_3.out.later hb)
  clear HX_7 HB_7 HY_3
  clear hb HT
  refine hK.out _ _ (.inr ⟨HY_4.out, HX_8.out⟩) ?_
  clear hK K
  refine upto_one (i := 4) (by kernel_rfl) rfl (fun K hK => ?_)
  go_simp
  refine hK.out _ _ (.inr ⟨HY_4.out, HX_8.out⟩) ?_
  clear hK K
  refine upto_done (by kernel_rfl) ?_ _
  go_wp2_with fail
  go_ret
  exact ⟨rfl, HB_8.out⟩
theorem own : ownKnob Try.prog.godebug = none := by kernel_rfl
theorem laidOut : laidOutB Try.prog = true := by kernel_rfl
set_option maxRecDepth 100000 in
theorem lifted (os : Os) (started : os.Started) (H : Type) (enc : TypeId × Value → H) :
    ReturnsInHanded {} Try.checked os 3 .any (Rows.fnExactCoreValidSpec.pre6 enc Try.prog Try.f3 Rows.fnExactCoreValidRow.domain false) (Rows.fnExactCoreValidSpec.post enc Try.prog Try.f3 false true false false) := by
  refine returnsInHanded_of_change (C := Try.checked) own started (by kernel_rfl) Try.func3
    (ChangeSpec.witness6 (enc := enc) (C := Try.checked) false ⟨#[], #[.agg #[.int .i64 0, .int .i64 0, .string ByteArray.empty, .int .i64 0, .slice none 0 0, .int .i64 0, .string ByteArray.empty, .int .i64 0, .slice none 0 0, .slice none 0 0, .slice none 0 0]], []⟩ 12 (by kernel_rfl) (by kernel_rfl) (by kernel_rfl) (by kernel_rfl)) ?_
  intro W base args ds gs before hval0 hW hcnd _
  have hval : ∀ (j : Nat) t v, Try.f3.params[j]? = some t → args[j]? = some v → Value.okWide Try.prog W .any base t v := hval0
  have hW' := hW
  obtain ⟨p, q, hA0, hV, rfl, hfz, hnd⟩ := hW
  have hA : DataW.TrodAll enc Try.prog W 0 (fun _ => true) true Try.f3.params.toList args.toList ds p := hA0
  rw [Try.params3] at hA hval
  obtain ⟨v0, vs0, d0, ds0, p0, q0, hargs, rfl, rfl, h0, r0⟩ := trodAll_cons hA
  obtain ⟨rfl, rfl, rfl⟩ := trodAll_nil r0
  obtain rfl : args = #[v0] := by cases args; simp_all
  obtain ⟨rfl, rfl⟩ := trodVars_none hV
  have k0 := h0
  have lt0 : ∀ x ∈ p0, x.block < W.heap.size := by obtain ⟨m, hm⟩ := k0; exact DataW.trod_lt m _ _ _ hm
  obtain ⟨f0, i0⟩ := open_core_arg (hval 0 28 v0 rfl rfl) h0
  clear hA0 hval0
  try simp only [List.append_nil] at hW'
  refine (walk W f0 v0 i0).mono fun e W' ⟨he, bel⟩ => ?_
  subst he
  exact ⟨_, rfl, _, _, _, [], _, [], hW', trodAll_mk1 (shut_bool Try.underlying4 _), (trodAll_cons_mk (Below.trod laidOut (by kernel_rfl) (of_decide_eq_true (by kernel_rfl)) k0 bel lt0) trodAll_mk0), rfl, bel.frame _, fun h => by cases h⟩
theorem over_named : Try.pinned.checked.prog.funcNamed Rows.fnExactCoreValidRow.func = some 3 := by kernel_rfl
theorem c_inPlace : (Rows.fnExactCoreValidRow.inPlace == Try.pinned.checked.prog.inPlace 3) = true := by kernel_rfl
theorem c_unfollowed : (Rows.fnExactCoreValidRow.unfollowed == Try.pinned.checked.prog.unfollowed 3) = true := by kernel_rfl
theorem c_recurses : (Rows.fnExactCoreValidRow.recurses == Try.pinned.checked.prog.recurses 3) = true := by kernel_rfl
theorem c_named : (Rows.fnExactCoreValidRow.named == Try.pinned.checked.prog.varsNamed 3) = true := by kernel_rfl
theorem over_closed : joinedFacts Try.pinned.checked.prog 3 Try.f3 Rows.fnExactCoreValidSpec Rows.fnExactCoreValidRow = true := by
  unfold joinedFacts
  exact Facts.band (Facts.band (Facts.band (Facts.band (Facts.band (Facts.band (Facts.band (Facts.band (Facts.band (Facts.band (Facts.band (Facts.band (Facts.band (Facts.band (Facts.band (Facts.band (Facts.band (Facts.band (Facts.band (Facts.band (Facts.band (Facts.band (Facts.band (Facts.band (Facts.band (Facts.band (Facts.band (Facts.band (Facts.band (Facts.band (Facts.band (by kernel_rfl) Facts.laid) Facts.rowed) (by kernel_rfl)) (by kernel_rfl)) (by kernel_rfl)) Facts.stops) (by kernel_rfl)) Facts.knobs) c_inPlace) c_unfollowed) c_recurses) c_named) (by kernel_rfl)) (by kernel_rfl)) (by kernel_rfl)) (by kernel_rfl)) (by kernel_rfl)) (by kernel_rfl)) (by kernel_rfl)) (by kernel_rfl)) (by kernel_rfl)) (by rw [Facts.plain]; kernel_rfl)) (by kernel_rfl)) Facts.heard) Facts.enter) (by rw [Facts.lifts]; kernel_rfl)) (by rw [Facts.made]; kernel_rfl)) (by kernel_rfl)) (by kernel_rfl)) (by kernel_rfl)) (by kernel_rfl)
theorem over_inst : Func.isInstance Try.pinned.checked.prog Try.f3 Rows.fnExactCoreValidRow.origin Rows.fnExactCoreValidRow.targs := of_decide_eq_true (by kernel_rfl)
theorem over_wrap : Func.isWrapper Try.pinned.checked.prog Try.f3 Rows.fnExactCoreValidRow.wrapper Rows.fnExactCoreValidRow.mainSum := (by unfold Func.isWrapper; first | (rw [if_pos (by decide +kernel)]; kernel_rfl) | (rw [if_neg (by decide +kernel)]; exact ⟨rfl, rfl⟩))
theorem over : Rows.fnExactCoreValidRow.holds Try.pinned (OpenSpec.ofChange Rows.fnExactCoreValidSpec) :=
  OpenClaim.holds_of_wide 3 Try.f3 rfl rfl rfl rfl rfl rfl rfl ⟨rfl, rfl, rfl, rfl, rfl⟩ rfl rfl rfl rfl rfl over_named Try.func3 over_closed over_inst over_wrap
    (fun os started H enc _ => lifted os started H enc)
theorem proved : Rows.FnExactCoreValidSaid := over
end Go.Proofs.Ytbclgmabidjegaa.exCoreValid
