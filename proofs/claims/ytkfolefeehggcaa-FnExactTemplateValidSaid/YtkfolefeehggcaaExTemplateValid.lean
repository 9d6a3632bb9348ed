/- For every form and every list of hits, valid or not, the two answers of TemplateValid agree, and the program's leaves its arguments as they were: the law FnExactTemplateValid returns true, whatever the input, with no condition beyond the statement's own. -/
import Derived.Test.YtkfolefeehggcaaRows
import Derived.Test.YtkfolefeehggcaaFacts
import Derived.Test.YtkfolefeehggcaaOpen
import Derived.Test.YtkfolefeehggcaaFormsS
import Derived.Test.YtkfolefeehggcaaImplTm
import Derived.Deep.RegionWith
namespace Go.Proofs.Ytkfolefeehggcaa.exTemplateValid
open Go.ChangeShapes Go.WideShapes Go.ChangeAt Go.RowKit
open Go.ChangeMaps (open_string shut_string)
set_option linter.unusedVariables false
set_option linter.unusedSimpArgs false
theorem copyH (w : World) (l : List Ht) (a : Option Addr) (cap : Nat) (h : HitsIn (· < w.heap.size) w a cap l) (hsz : szHs l ≤ 1048576) :
    Calls Try.prog 17 #[.slice a l.length cap] w fun e w' => ∃ a' cap' bs, e = .returned (.slice a' l.length cap') ∧ HitsOwn w' a' cap' l bs ∧ NewBs bs w.heap.size w'.heap.size ∧ AllPlain w' bs ∧ Below w.heap.size w w' := by
  refine (toHitS_of w.heap.size l (fun g _ => toHit_any w.heap.size g) a cap w (Nat.le_refl _) h.1 h.2.1 h.2.2 hsz).mono ?_
  rintro e w' ⟨a', cap', rfl, h1, h2, ⟨bs, h3, h4, h5⟩, h6⟩
  exact ⟨a', cap', bs, rfl, ⟨h1, h2, h3⟩, h4, h5, h6⟩
set_option maxRecDepth 100000 in
set_option maxHeartbeats 8000000 in
theorem walk (w : World) (f : Fm) (v : Value) (hv : InV (· < w.heap.size) w f v) (l : List Ht) (u : Value) (hu : HitsV w l u) :
    Calls Try.prog 7 #[v, u] w fun e w' => e = .returned (.bool true) ∧ Below w.heap.size w w' := by
  have HV := Lib.hid hv
  obtain ⟨sa, scap, fa, fcap, rfl⟩ := hv.form
  obtain ⟨la, lcap, rfl, hu⟩ := hu
  have HU := Lib.hid hu
  clear hv hu
  obtain ⟨W0, hW0⟩ : ∃ W0, W0 = w.alloc (.cells #[.int .i64 f.kind, .string f.name, .int .i64 f.n, .slice sa f.scopes.length scap, .slice fa f.kids.length fcap] 32) := ⟨_, rfl⟩
  have hb : Below w.heap.size w W0 := by rw [hW0]; exact below_alloc w _
  have hs0 : W0.heap.size = w.heap.size + 1 := by rw [hW0]; simp
  have HX : Hid (FormBox W0 w.heap.size f sa scap fa fcap) := by unfold Hid; rw [hW0]; exact FormBox.fresh w f sa fa scap fcap _
  have HB : Hid (Below w.heap.size w W0) := hb
  have HW0 := Lib.hid hW0
  clear hW0 hb
  go_enter Try.func7, Try.ntmps7
  go_wp2_with fail
  rw [← HW0.out]
  clear HW0
  refine (szForm_any w.heap.size f _ W0 1048576 (by omega) (InV.later (same_below HB.out) _ _ HV.out) (by omega)).mono ?_
  rintro e w1 ⟨rfl, hb⟩
  have hs1 : W0.heap.size ≤ w1.heap.size := hb.size
  have HX_1 := Lib.hid (HX.out.later hb)
  have HB_1 := Lib.hid (HB.out.trans (hb.mono (by omega)))
  clear HX HB
  clear hb
  rcases leftS2 f.sz with hl | ⟨hsf, hl⟩
  · have hl0 : leftOf 1048576 f.sz < 0 := hl
    go_wp2_with fail
    go_ret
    exact ⟨rfl, HB_1.out⟩
  rw [hl]
  clear hl
  have hp1 : ¬ ((1048576 : Int) - f.sz < 0) := by omega
  go_wp2_with fail
  refine (szHitS_row w.heap.size l la lcap w1 (1048576 - f.sz) (by omega) (HU.out.later (same_below HB_1.out)) ⟨by omega, by omega⟩).mono ?_
  rintro e w2 ⟨rfl, hb⟩
  have hs2 : w1.heap.size ≤ w2.heap.size := hb.size
  have HX_2 := Lib.hid (HX_1.out.later hb)
  have HB_2 := Lib.hid (HB_1.out.trans (hb.mono (by omega)))
  clear HX_1 HB_1
  clear hb
  rcases leftS3 f.sz (szHs l) hsf with hl | ⟨hss, hl⟩
  · go_wp2_with fail
    go_ret
    exact ⟨rfl, HB_2.out⟩
  have hsl : szHs l ≤ 1048576 := by omega
  have hcf : f.count ≤ 1048577 := by have := f.count_le; omega
  have hne : (tmplOk f l != tmplOk f l) = false := by cases tmplOk f l <;> rfl
  have hl0 : ¬ (leftOf (1048576 - f.sz) (szHs l) < 0) := by omega
  clear hl
  obtain ⟨x0, x1, x2, x3, x4⟩ := HX_2.out
  go_wp2_with fail
  refine (toForm_any w.heap.size f _ w2 (by omega) (InV.later (same_below HB_2.out) _ _ HV.out) hsf).mono ?_
  rintro e w3 hp
  obtain ⟨pa, pb, pc, pd, rfl, hq, hb⟩ := hp.weak
  have hs3 : w2.heap.size ≤ w3.heap.size := hb.size
  clear x0 x1 x2 x3 x4
  have HX_3 := Lib.hid (HX_2.out.later hb)
  have HB_3 := Lib.hid (HB_2.out.trans (hb.mono (by omega)))
  clear HX_2 HB_2
  have HP := Lib.hid hq
  clear hq hb hp
  go_wp2_with fail
  refine (copyH w3 l la lcap ((HU.out.later (same_below HB_3.out)).mono (fun k (hk : k < w.heap.size) => by show k < w3.heap.size; omega)) hsl).mono ?_
  rintro e w4 ⟨ka, kc, kb, rfl, ho, hn, hpl, hb⟩
  have hs4 : w3.heap.size ≤ w4.heap.size := hb.size
  have HX_4 := Lib.hid (HX_3.out.later hb)
  have HB_4 := Lib.hid (HB_3.out.trans (hb.mono (by omega)))
  clear HX_3 HB_3
  have HP4 := Lib.hid (InV.lift hb HP.out)
  have HK := Lib.hid (HitsOwn.reads (φ := (· < w4.heap.size)) ho (fun b hm => (hn.2 b hm).2))
  clear ho hn hpl hb HP
  go_wp2_with fail
  refine (specTemplateValid_any f l ka kc _ w4 HK.out HP4.out hsl hcf).mono ?_
  rintro e w5 ⟨rfl, hb⟩
  have hs5 : w4.heap.size ≤ w5.heap.size := hb.size
  have HX_5 := Lib.hid (HX_4.out.later hb)
  have HB_5 := Lib.hid (HB_4.out.trans (hb.mono (by omega)))
  clear HX_4 HB_4
  clear hb HK HP4
  obtain ⟨x0, x1, x2, x3, x4⟩ := HX_5.out
  go_wp2_with fail
  refine (toForm_any w.heap.size f _ w5 (by omega) (InV.later (same_below HB_5.out) _ _ HV.out) hsf).mono ?_
  rintro e w6 hp
  obtain ⟨ya, yb, yc, yd, bz, rfl, ho, hn, hpl, hb⟩ := hp
  have hs6 : w5.heap.size ≤ w6.heap.size := hb.size
  clear x0 x1 x2 x3 x4
  have HX_6 := Lib.hid (HX_5.out.later hb)
  have HB_6 := Lib.hid (HB_5.out.trans (hb.mono (by omega)))
  clear HX_5 HB_5
  have HQ := Lib.hid ho
  have HQN := Lib.hid hn
  clear ho hn hpl hb
  obtain ⟨v6, hv6⟩ : ∃ v6, v6 = w6.alloc (.cells #[.int .i64 f.kind, .string f.name, .int .i64 f.n, .slice ya f.scopes.length yb, .slice yc f.kids.length yd] 36) := ⟨_, rfl⟩
  have hb : Below w6.heap.size w6 v6 := by rw [hv6]; exact below_alloc w6 _
  have hsv6 : v6.heap.size = w6.heap.size + 1 := by rw [hv6]; simp
  have HX_7 := Lib.hid (HX_6.out.later hb)
  have HB_7 := Lib.hid (HB_6.out.trans (hb.mono (by omega)))
  have HQ_1 := Lib.hid (OwnV.later _ _ _ (SameOn.of_below hb (fun c hm => by have h := HQN.out.2 c hm; omega)) HQ.out)
  clear HX_6 HB_6 HQ
  have HY : Hid (FormBox v6 w6.heap.size f ya yb yc yd) := by unfold Hid; rw [hv6]; exact FormBox.fresh w6 f ya yc yb yd _
  have HV6 := Lib.hid hv6
  clear hv6 hb
  go_wp2_with fail
  rw [← HV6.out]
  clear HV6
  refine (copyH v6 l la lcap ((HU.out.later (same_below HB_7.out)).mono (fun k (hk : k < w.heap.size) => by show k < v6.heap.size; omega)) hsl).mono ?_
  rintro e w7 ⟨ma, mc, mb, rfl, ho, hn, hpl, hb⟩
  have hs7 : v6.heap.size ≤ w7.heap.size := hb.size
  have HX_8 := Lib.hid (HX_7.out.later hb)
  have HB_8 := Lib.hid (HB_7.out.trans (hb.mono (by omega)))
  have HQ_2 := Lib.hid (OwnV.later _ _ _ (SameOn.of_below hb (fun c hm => by have h := HQN.out.2 c hm; omega)) HQ_1.out)
  have HY_1 := Lib.hid (HY.out.later hb)
  clear HX_7 HB_7 HQ_1 HY
  have HZ := Lib.hid ho
  have HZN := Lib.hid hn
  have HZP := Lib.hid hpl
  clear ho hn hpl hb
  obtain ⟨y0, y1, y2, y3, y4⟩ := HY_1.out
  go_wp2_with fail
  refine (implTemplateValid_any f l ma mc _ w7 (HitsOwn.reads (φ := Pl w7.heap.size w7) HZ.out (fun b hm => ⟨(HZN.out.2 b hm).2, HZP.out b hm⟩)) (OwnV.inV (φ := (· < w7.heap.size)) f (.agg #[.int .i64 f.kind, .string f.name, .int .i64 f.n, .slice ya f.scopes.length yb, .slice yc f.kids.length yd]) bz (fun c hm => by have := (HQN.out.2 c hm).2; omega) HQ_2.out) hsl).mono ?_
  rintro e w8 ⟨rfl, hb⟩
  clear y0 y1 y2 y3 y4
  have hs8 : w7.heap.size ≤ w8.heap.size := hb.size
  have HX_9 := Lib.hid (HX_8.out.later hb)
  have HB_9 := Lib.hid (HB_8.out.trans (hb.mono (by omega)))
  have HQ_3 := Lib.hid (OwnV.later _ _ _ (SameOn.of_below hb (fun c hm => by have h := HQN.out.2 c hm; omega)) HQ_2.out)
  have HY_2 := Lib.hid (HY_1.out.later hb)
  have HZ_1 := Lib.hid (HitsOwn.later (SameOn.of_below hb (fun c hm => by have h := HZN.out.2 c hm; omega)) HZ.out)
  clear HX_8 HB_8 HQ_2 HY_1 HZ
  clear hb HZP
  go_wp2_with fail
  refine upto_begin (TwoBox w6.heap.size w.heap.size f f ya yc sa fa yb yd scap fcap) 5 (by kernel_rfl) ?_
  obtain ⟨u8, hu8⟩ : ∃ u8, u8 = w8.drew := ⟨_, rfl⟩
  rw [← hu8]
  have hb : Below w8.heap.size w8 u8 := by rw [hu8]; exact (Below.refl _ _).drew
  have hsu8 : w8.heap.size ≤ u8.heap.size := hb.size
  have HX_10 := Lib.hid (HX_9.out.later hb)
  have HB_10 := Lib.hid (HB_9.out.trans (hb.mono (by omega)))
  have HQ_4 := Lib.hid (OwnV.later _ _ _ (SameOn.of_below hb (fun c hm => by have h := HQN.out.2 c hm; omega)) HQ_3.out)
  have HY_3 := Lib.hid (HY_2.out.later hb)
  have HZ_2 := Lib.hid (HitsOwn.later (SameOn.of_below hb (fun c hm => by have h := HZN.out.2 c hm; omega)) HZ_1.out)
  clear HX_9 HB_9 HQ_3 HY_2 HZ_1
  clear hb hu8
  have hS : (TwoBox w6.heap.size w.heap.size f f ya yc sa fa yb yd scap fcap) u8 := ⟨HY_3.out, HX_10.out⟩
  refine upto_take (i := 0) (d := some 35) (v := ?_) rfl rfl (by kernel_rfl) (by kernel_rfl) (by kernel_rfl) (by kernel_rfl) (fun _ _ _ h => h) (Or.inl ⟨by rfl, ?_⟩) hS ?_
  rotate_left
  · (intro wS hSw; obtain ⟨⟨_, _, _, _, _⟩, ⟨_, _, _, _, _⟩⟩ := hSw; go_simp; try with_reducible rfl)
  try simp only [Act.put, List.setIfInBounds_toArray, List.set_cons_zero, List.set_cons_succ]
  refine upto_take (i := 1) (d := some 36) (v := ?_) rfl rfl (by kernel_rfl) (by kernel_rfl) (by kernel_rfl) (by kernel_rfl) (fun _ _ _ h => h) (Or.inl ⟨by rfl, ?_⟩) hS ?_
  rotate_left
  · (intro wS hSw; obtain ⟨⟨_, _, _, _, _⟩, ⟨_, _, _, _, _⟩⟩ := hSw; go_simp; try with_reducible rfl)
  try simp only [Act.put, List.setIfInBounds_toArray, List.set_cons_zero, List.set_cons_succ]
  clear hS
  refine upto_one (i := 2) (by kernel_rfl) rfl (fun K hK => ?_)
  go_simp
  refine (toForm_any w.heap.size f _ u8 (by omega) (InV.later (same_below HB_10.out) _ _ HV.out) hsf).mono ?_
  rintro e w9 hp
  obtain ⟨ta, tb, tc, td, rfl, hq, hb⟩ := hp.weak
  have hs9 : u8.heap.size ≤ w9.heap.size := hb.size
  have HX_11 := Lib.hid (HX_10.out.later hb)
  have HB_11 := Lib.hid (HB_10.out.trans (hb.mono (by omega)))
  have HQ_5 := Lib.hid (OwnV.later _ _ _ (SameOn.of_below hb (fun c hm => by have h := HQN.out.2 c hm; omega)) HQ_4.out)
  have HY_4 := Lib.hid (HY_3.out.later hb)
  have HZ_3 := Lib.hid (HitsOwn.later (SameOn.of_below hb (fun c hm => by have h := HZN.out.2 c hm; omega)) HZ_2.out)
  clear HX_10 HB_10 HQ_4 HY_3 HZ_2
  have HT := Lib.hid hq
  clear hq hb hp
  refine hK.out _ _ (.inr ⟨HY_4.out, HX_11.out⟩) ?_
  clear hK K
  refine upto_one (i := 3) (by kernel_rfl) rfl (fun K hK => ?_)
  go_simp
  refine (eqForm_any w9.heap.size f f _ _ _ (Nat.le_refl _) (OwnV.inV (φ := (· < w9.heap.size)) f _ bz (fun c hm => by have := (HQN.out.2 c hm).2; omega) HQ_5.out) HT.out).mono ?_
  rintro e w10 ⟨rfl, hb⟩
  rw [sameB_refl]
  have hs10 : w9.heap.size ≤ w10.heap.size := hb.size
  have HX_12 := Lib.hid (HX_11.out.later hb)
  have HB_12 := Lib.hid (HB_11.out.trans (hb.mono (by omega)))
  have HQ_6 := Lib.hid (OwnV.later _ _ _ (SameOn.of_below hb (fun c hm => by have h := HQN.out.2 c hm; omega)) HQ_5.out)
  have HY_5 := Lib.hid (HY_4.out.later hb)
  have HZ_4 := Lib.hid (HitsOwn.later (SameOn.of_below hb (fun c hm => by have h := HZN.out.2 c hm; omega)) HZ_3.out)
  clear HX_11 HB_11 HQ_5 HY_4 HZ_3
  clear hb HT
  refine hK.out _ _ (.inr ⟨HY_5.out, HX_12.out⟩) ?_
  clear hK K
  refine upto_one (i := 4) (by kernel_rfl) rfl (fun K hK => ?_)
  go_simp
  refine hK.out _ _ (.inr ⟨HY_5.out, HX_12.out⟩) ?_
  clear hK K
  refine upto_done (by kernel_rfl) ?_ _
  go_wp2_with fail
  refine (copyH w10 l la lcap ((HU.out.later (same_below HB_12.out)).mono (fun k (hk : k < w.heap.size) => by show k < w10.heap.size; omega)) hsl).mono ?_
  rintro e w11 ⟨na, nc, nb, rfl, ho, hn, hpl, hb⟩
  have hs11 : w10.heap.size ≤ w11.heap.size := hb.size
  have HX_13 := Lib.hid (HX_12.out.later hb)
  have HB_13 := Lib.hid (HB_12.out.trans (hb.mono (by omega)))
  have HQ_7 := Lib.hid (OwnV.later _ _ _ (SameOn.of_below hb (fun c hm => by have h := HQN.out.2 c hm; omega)) HQ_6.out)
  have HY_6 := Lib.hid (HY_5.out.later hb)
  have HZ_5 := Lib.hid (HitsOwn.later (SameOn.of_below hb (fun c hm => by have h := HZN.out.2 c hm; omega)) HZ_4.out)
  clear HX_12 HB_12 HQ_6 HY_5 HZ_4
  have HT := Lib.hid (HitsOwn.reads (φ := (· < w11.heap.size)) ho (fun b hm => (hn.2 b hm).2))
  clear ho hn hpl hb
  go_wp2_with fail
  refine (eqHitS_row w11.heap.size l ma na mc nc w11 (Nat.le_refl _) (HitsOwn.reads HZ_5.out (fun b hm => by have := (HZN.out.2 b hm).2; show b < w11.heap.size; omega)) HT.out).mono ?_
  rintro e w12 ⟨rfl, hb⟩
  have hs12 : w11.heap.size ≤ w12.heap.size := hb.size
  have HX_14 := Lib.hid (HX_13.out.later hb)
  have HB_14 := Lib.hid (HB_13.out.trans (hb.mono (by omega)))
  have HQ_8 := Lib.hid (OwnV.later _ _ _ (SameOn.of_below hb (fun c hm => by have h := HQN.out.2 c hm; omega)) HQ_7.out)
  have HY_7 := Lib.hid (HY_6.out.later hb)
  have HZ_6 := Lib.hid (HitsOwn.later (SameOn.of_below hb (fun c hm => by have h := HZN.out.2 c hm; omega)) HZ_5.out)
  clear HX_13 HB_13 HQ_7 HY_6 HZ_5
  clear hb HT
  go_wp2_with fail
  go_ret
  exact ⟨rfl, HB_14.out⟩
theorem own : ownKnob Try.prog.godebug = none := by kernel_rfl
theorem laidOut : laidOutB Try.prog = true := by kernel_rfl
set_option maxRecDepth 100000 in
theorem lifted (os : Os) (started : os.Started) (H : Type) (enc : TypeId × Value → H) :
    ReturnsInHanded {} Try.checked os 7 .any (Rows.fnExactTemplateValidSpec.pre6 enc Try.prog Try.f7 Rows.fnExactTemplateValidRow.domain false) (Rows.fnExactTemplateValidSpec.post enc Try.prog Try.f7 false true false false) := by
  refine returnsInHanded_of_change (C := Try.checked) own started (by kernel_rfl) Try.func7
    (ChangeSpec.witness6 (enc := enc) (C := Try.checked) false ⟨#[], #[.agg #[.int .i64 0, .string ByteArray.empty, .int .i64 0, .slice none 0 0, .slice none 0 0], .slice none 0 0], []⟩ 12 (by kernel_rfl) (by kernel_rfl) (by kernel_rfl) (by kernel_rfl)) ?_
  intro W base args ds gs before hval0 hW hcnd _
  have hval : ∀ (j : Nat) t v, Try.f7.params[j]? = some t → args[j]? = some v → Value.okWide Try.prog W .any base t v := hval0
  have hW' := hW
  obtain ⟨p, q, hA0, hV, rfl, hfz, hnd⟩ := hW
  have hA : DataW.TrodAll enc Try.prog W 0 (fun _ => true) true Try.f7.params.toList args.toList ds p := hA0
  rw [Try.params7] at hA hval
  obtain ⟨v0, vs0, d0, ds0, p0, q0, hargs, rfl, rfl, h0, r0⟩ := trodAll_cons hA
  obtain ⟨v1, vs1, d1, ds1, p1, q1, rfl, rfl, rfl, h1, r1⟩ := trodAll_cons r0
  obtain ⟨rfl, rfl, rfl⟩ := trodAll_nil r1
  obtain rfl : args = #[v0, v1] := by cases args; simp_all
  obtain ⟨rfl, rfl⟩ := trodVars_none hV
  have k0 := h0
  have lt0 : ∀ x ∈ p0, x.block < W.heap.size := by obtain ⟨m, hm⟩ := k0; exact DataW.trod_lt m _ _ _ hm
  obtain ⟨f0, i0⟩ := open_form_arg (hval 0 32 v0 rfl rfl) h0
  have k1 := h1
  have lt1 : ∀ x ∈ p1, x.block < W.heap.size := by obtain ⟨m, hm⟩ := k1; exact DataW.trod_lt m _ _ _ hm
  obtain ⟨f1, i1⟩ := open_hits_arg (hval 1 22 v1 rfl rfl) h1
  clear hA0 hval0
  try simp only [List.append_nil] at hW'
  refine (walk W f0 v0 i0 f1 v1 i1).mono fun e W' ⟨he, bel⟩ => ?_
  subst he
  exact ⟨_, rfl, _, _, _, [], _, [], hW', trodAll_mk1 (shut_bool Try.underlying4 _), (trodAll_cons_mk (Below.trod laidOut (by kernel_rfl) (of_decide_eq_true (by kernel_rfl)) k0 bel lt0) (trodAll_cons_mk (Below.trod laidOut (by kernel_rfl) (of_decide_eq_true (by kernel_rfl)) k1 bel lt1) trodAll_mk0)), rfl, bel.frame _, fun h => by cases h⟩
theorem over_named : Try.pinned.checked.prog.funcNamed Rows.fnExactTemplateValidRow.func = some 7 := by kernel_rfl
theorem c_inPlace : (Rows.fnExactTemplateValidRow.inPlace == Try.pinned.checked.prog.inPlace 7) = true := by kernel_rfl
theorem c_unfollowed : (Rows.fnExactTemplateValidRow.unfollowed == Try.pinned.checked.prog.unfollowed 7) = true := by kernel_rfl
theorem c_recurses : (Rows.fnExactTemplateValidRow.recurses == Try.pinned.checked.prog.recurses 7) = true := by kernel_rfl
theorem c_named : (Rows.fnExactTemplateValidRow.named == Try.pinned.checked.prog.varsNamed 7) = true := by kernel_rfl
theorem over_closed : joinedFacts Try.pinned.checked.prog 7 Try.f7 Rows.fnExactTemplateValidSpec Rows.fnExactTemplateValidRow = true := by
  unfold joinedFacts
  exact Facts.band (Facts.band (Facts.band (Facts.band (Facts.band (Facts.band (Facts.band (Facts.band (Facts.band (Facts.band (Facts.band (Facts.band (Facts.band (Facts.band (Facts.band (Facts.band (Facts.band (Facts.band (Facts.band (Facts.band (Facts.band (Facts.band (Facts.band (Facts.band (Facts.band (Facts.band (Facts.band (Facts.band (Facts.band (Facts.band (Facts.band (by kernel_rfl) Facts.laid) Facts.rowed) (by kernel_rfl)) (by kernel_rfl)) (by kernel_rfl)) Facts.stops) (by kernel_rfl)) Facts.knobs) c_inPlace) c_unfollowed) c_recurses) c_named) (by kernel_rfl)) (by kernel_rfl)) (by kernel_rfl)) (by kernel_rfl)) (by kernel_rfl)) (by kernel_rfl)) (by kernel_rfl)) (by kernel_rfl)) (by kernel_rfl)) (by rw [Facts.plain]; kernel_rfl)) (by kernel_rfl)) Facts.heard) Facts.enter) (by rw [Facts.lifts]; kernel_rfl)) (by rw [Facts.made]; kernel_rfl)) (by kernel_rfl)) (by kernel_rfl)) (by kernel_rfl)) (by kernel_rfl)
theorem over_inst : Func.isInstance Try.pinned.checked.prog Try.f7 Rows.fnExactTemplateValidRow.origin Rows.fnExactTemplateValidRow.targs := of_decide_eq_true (by kernel_rfl)
theorem over_wrap : Func.isWrapper Try.pinned.checked.prog Try.f7 Rows.fnExactTemplateValidRow.wrapper Rows.fnExactTemplateValidRow.mainSum := (by unfold Func.isWrapper; first | (rw [if_pos (by decide +kernel)]; kernel_rfl) | (rw [if_neg (by decide +kernel)]; exact ⟨rfl, rfl⟩))
theorem over : Rows.fnExactTemplateValidRow.holds Try.pinned (OpenSpec.ofChange Rows.fnExactTemplateValidSpec) :=
  OpenClaim.holds_of_wide 7 Try.f7 rfl rfl rfl rfl rfl rfl rfl ⟨rfl, rfl, rfl, rfl, rfl⟩ rfl rfl rfl rfl rfl over_named Try.func7 over_closed over_inst over_wrap
    (fun os started H enc _ => lifted os started H enc)
theorem proved : Rows.FnExactTemplateValidSaid := over
end Go.Proofs.Ytkfolefeehggcaa.exTemplateValid
