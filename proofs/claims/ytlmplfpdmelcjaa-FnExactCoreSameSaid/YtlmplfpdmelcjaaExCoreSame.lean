/- For every two core programs, valid or not, the two say alike whether they are equal, and the program's leaves its arguments as they were: the law FnExactCoreSame returns true, whatever the input, with no condition beyond the statement's own. -/
import Derived.Test.YtlmplfpdmelcjaaRows
import Derived.Test.YtlmplfpdmelcjaaSpecSameC
import Derived.Test.YtlmplfpdmelcjaaImplSameC
import Derived.Test.YtlmplfpdmelcjaaOpenC
import Derived.Test.YtlmplfpdmelcjaaSzCore
import Derived.Test.YtlmplfpdmelcjaaEqCore
import Derived.Test.YtlmplfpdmelcjaaToCore2
import Derived.Test.YtlmplfpdmelcjaaFormsS
import Derived.Test.YtlmplfpdmelcjaaBoxC
import Derived.Test.YtlmplfpdmelcjaaFacts
import Derived.Deep.RegionWith
namespace Go.Proofs.Ytlmplfpdmelcjaa.exCoreSame
open Go.ChangeShapes Go.WideShapes Go.ChangeAt Go.RowKit
open Go.ChangeMaps (open_string shut_string)
open Go.Proofs.Ytlmplfpdmelcjaa.CoreT
set_option linter.unusedVariables false
set_option linter.unusedSimpArgs false
set_option maxRecDepth 100000 in
set_option maxHeartbeats 16000000 in
theorem walk (w : World) (f : Ck) (v : Value) (hv : InC (· < w.heap.size) w f v) (g : Ck) (u : Value) (hu : InC (· < w.heap.size) w g u) :
    Calls Try.prog 11 #[v, u] w fun e w' => e = .returned (.bool true) ∧ Below w.heap.size w w' := by
  obtain ⟨x, rfl, rfl, hx⟩ := CItem.of hv
  obtain ⟨y, rfl, rfl, hy⟩ := CItem.of hu
  have HV := Lib.hid hx
  have HU := Lib.hid hy
  clear hv hx hu hy
  rw [CItem.val_eq, CItem.val_eq]
  obtain ⟨W0, hW0⟩ : ∃ W, W = (w.alloc (.cells #[.int .i64 x.f.kind, .int .i64 x.f.id, .string x.f.name, .int .i64 x.f.n, .slice x.i1 x.f.ids.length x.j1, .int .i64 x.f.data.kind, .string x.f.data.name, .int .i64 x.f.data.n, .slice x.s1 x.f.data.scopes.length x.t1, .slice x.k1 x.f.data.kids.length x.l1, .slice x.a x.f.kids.length x.cap] 74)).alloc (.cells #[.int .i64 y.f.kind, .int .i64 y.f.id, .string y.f.name, .int .i64 y.f.n, .slice y.i1 y.f.ids.length y.j1, .int .i64 y.f.data.kind, .string y.f.data.name, .int .i64 y.f.data.n, .slice y.s1 y.f.data.scopes.length y.t1, .slice y.k1 y.f.data.kids.length y.l1, .slice y.a y.f.kids.length y.cap] 74) := ⟨_, rfl⟩
  have hbW : Below w.heap.size w W0 := by rw [hW0]; exact (below_alloc w _).alloc (by simp) _
  have hsW : W0.heap.size = w.heap.size + 2 := by rw [hW0]; simp
  have HX : Hid (CoreBox W0 w.heap.size x) := by unfold Hid; rw [hW0]; exact (CoreBox.fresh w x _).later (below_alloc _ _)
  have HY : Hid (CoreBox W0 (w.heap.size + 1) y) := by
    unfold Hid; rw [hW0]
    have := CoreBox.fresh (w.alloc (.cells #[.int .i64 x.f.kind, .int .i64 x.f.id, .string x.f.name, .int .i64 x.f.n, .slice x.i1 x.f.ids.length x.j1, .int .i64 x.f.data.kind, .string x.f.data.name, .int .i64 x.f.data.n, .slice x.s1 x.f.data.scopes.length x.t1, .slice x.k1 x.f.data.kids.length x.l1, .slice x.a x.f.kids.length x.cap] 74)) y 74
    rw [size_alloc'] at this
    exact this
  have HB := Lib.hid hbW
  have HW0 := Lib.hid hW0
  clear hW0 hbW
  go_enter Try.func11, Try.ntmps11
  go_wp2_with fail
  rw [← HW0.out]
  clear HW0
  refine (szCore_any w.heap.size x.f _ _ 1048576 (by omega) (InC.later (same_below HB.out) _ _ HV.out) (by omega)).mono ?_
  rintro e w1 ⟨rfl, hb⟩
  have hs1 : W0.heap.size ≤ w1.heap.size := hb.size
  have HX_1 := Lib.hid (HX.out.later hb)
  have HY_1 := Lib.hid (HY.out.later hb)
  have HB_1 := Lib.hid (HB.out.trans (hb.mono (by omega)))
  clear HX HY HB
  clear hb
  rcases leftS2 x.f.sz with hl | ⟨hsf, hl⟩
  · go_wp2_with fail
    go_ret
    exact ⟨rfl, HB_1.out⟩
  rw [hl]
  clear hl
  have hp1 : 0 ≤ (1048576 : Int) - x.f.sz := by omega
  have hcf := x.f.count_le
  obtain ⟨y0, y1, y2, y3, y4, y5, y6, y7, y8, y9, y10⟩ := HY_1.out
  go_wp2_with fail
  refine (szCore_any w.heap.size y.f _ w1 (1048576 - x.f.sz) (by omega) (InC.later (same_below HB_1.out) _ _ HU.out) (by omega)).mono ?_
  rintro e w2 ⟨rfl, hb⟩
  have hs2 : w1.heap.size ≤ w2.heap.size := hb.size
  have HX_2 := Lib.hid (HX_1.out.later hb)
  have HY_2 := Lib.hid (HY_1.out.later hb)
  have HB_2 := Lib.hid (HB_1.out.trans (hb.mono (by omega)))
  clear HX_1 HY_1 HB_1
  clear hb y0 y1 y2 y3 y4 y5 y6 y7 y8 y9 y10
  rcases leftS3 x.f.sz y.f.sz hsf with hl | ⟨hss, hl⟩
  · go_wp2_with fail
    go_ret
    exact ⟨rfl, HB_2.out⟩
  have hsg : y.f.sz ≤ 1048576 := by omega
  have hcg := y.f.count_le
  obtain ⟨R, hR⟩ : ∃ R, sameC x.f y.f = R := ⟨_, rfl⟩
  have HRR := Lib.hid hR
  have hbb : (R != R) = false := by simp
  clear hR
  go_wp2_with fail
  refine upto_begin (fun W => CoreBox W w.heap.size x ∧ CoreBox W (w.heap.size + 1) y) 5 (by kernel_rfl) ?_
  obtain ⟨u2, hu_⟩ : ∃ u, u = w2.drew := ⟨_, rfl⟩
  rw [← hu_]
  have hb : Below w2.heap.size w2 u2 := by rw [hu_]; exact (Below.refl _ _).drew
  have hs_u2 : w2.heap.size ≤ u2.heap.size := hb.size
  have HX_3 := Lib.hid (HX_2.out.later hb)
  have HY_3 := Lib.hid (HY_2.out.later hb)
  have HB_3 := Lib.hid (HB_2.out.trans (hb.mono (by omega)))
  clear HX_2 HY_2 HB_2
  clear hb hu_
  have hS : (fun W => CoreBox W w.heap.size x ∧ CoreBox W (w.heap.size + 1) y) u2 := ⟨HX_3.out, HY_3.out⟩
  refine upto_take (i := 0) (d := some 20) (v := ?_) rfl rfl (by kernel_rfl) (by kernel_rfl) (by kernel_rfl) (by kernel_rfl) (fun _ _ _ h => h) (Or.inl ⟨by rfl, ?_⟩) hS ?_
  rotate_left
  · (intro wS hSw; obtain ⟨⟨m0, m1, m2, m3, m4, m5, m6, m7, m8, m9, m10⟩, ⟨n0, n1, n2, n3, n4, n5, n6, n7, n8, n9, n10⟩⟩ := hSw; go_simp; try with_reducible rfl)
  try simp only [Act.put, List.setIfInBounds_toArray, List.set_cons_zero, List.set_cons_succ]
  refine upto_take (i := 2) (d := some 22) (v := ?_) rfl rfl (by kernel_rfl) (by kernel_rfl) (by kernel_rfl) (by kernel_rfl) (fun _ _ _ h => h) (Or.inl ⟨by rfl, ?_⟩) hS ?_
  rotate_left
  · (intro wS hSw; obtain ⟨⟨m0, m1, m2, m3, m4, m5, m6, m7, m8, m9, m10⟩, ⟨n0, n1, n2, n3, n4, n5, n6, n7, n8, n9, n10⟩⟩ := hSw; go_simp; try with_reducible rfl)
  try simp only [Act.put, List.setIfInBounds_toArray, List.set_cons_zero, List.set_cons_succ]
  clear hS
  refine upto_one (i := 1) (by kernel_rfl) rfl (fun K hK => ?_)
  go_simp
  refine (toCore_any w.heap.size x.f _ u2 (by omega) (InC.later (w := w) (w' := u2) (same_below HB_3.out) _ _ HV.out) hsf).mono ?_
  rintro e w3 ⟨p0, p1, p2, p3, p4, p5, p6, p7, bsw3, rfl, ho, hn, hpl, hb⟩
  have hs_w3 : u2.heap.size ≤ w3.heap.size := hb.size
  have HX_4 := Lib.hid (HX_3.out.later hb)
  have HY_4 := Lib.hid (HY_3.out.later hb)
  have HB_4 := Lib.hid (HB_3.out.trans (hb.mono (by omega)))
  clear HX_3 HY_3 HB_3
  have HP := Lib.hid (show InC (Pl w3.heap.size w3) w3 x.f (CItem.val ⟨x.f, p0, p1, p2, p3, p4, p5, p6, p7⟩) from OwnC.inC (φ := Pl w3.heap.size w3) x.f _ bsw3 (fun c hc => ⟨(hn.2 c hc).2, hpl c hc⟩) ho)
  clear ho hn hpl hb
  refine hK.out _ _ (.inr ⟨HX_4.out, HY_4.out⟩) ?_
  clear hK K
  refine upto_one (i := 3) (by kernel_rfl) rfl (fun K hK => ?_)
  go_simp
  refine (toCore_any w.heap.size y.f _ w3 (by omega) (InC.later (w := w) (w' := w3) (same_below HB_4.out) _ _ HU.out) hsg).mono ?_
  rintro e w4 ⟨q0, q1, q2, q3, q4, q5, q6, q7, bsw4, rfl, ho, hn, hpl, hb⟩
  have hs_w4 : w3.heap.size ≤ w4.heap.size := hb.size
  have HX_5 := Lib.hid (HX_4.out.later hb)
  have HY_5 := Lib.hid (HY_4.out.later hb)
  have HB_5 := Lib.hid (HB_4.out.trans (hb.mono (by omega)))
  clear HX_4 HY_4 HB_4
  have HQ := Lib.hid (show InC (Pl w4.heap.size w4) w4 y.f (CItem.val ⟨y.f, q0, q1, q2, q3, q4, q5, q6, q7⟩) from OwnC.inC (φ := Pl w4.heap.size w4) y.f _ bsw4 (fun c hc => ⟨(hn.2 c hc).2, hpl c hc⟩) ho)
  have HP4 := Lib.hid (InC.pl hb HP.out)
  clear ho hn hpl hb HP
  refine hK.out _ _ (.inr ⟨HX_5.out, HY_5.out⟩) ?_
  clear hK K
  refine upto_one (i := 4) (by kernel_rfl) rfl (fun K hK => ?_)
  go_simp
  refine (specCoreSame_any w4.heap.size x.f y.f _ _ w4 (Nat.le_refl _) (InC.mono (fun k hk => hk.1) _ _ HP4.out) (InC.mono (fun k hk => hk.1) _ _ HQ.out)).mono ?_
  rintro e w5 ⟨rfl, hb⟩
  have hs5 : w4.heap.size ≤ w5.heap.size := hb.size
  rw [HRR.out]
  have HX_6 := Lib.hid (HX_5.out.later hb)
  have HY_6 := Lib.hid (HY_5.out.later hb)
  have HB_6 := Lib.hid (HB_5.out.trans (hb.mono (by omega)))
  clear HX_5 HY_5 HB_5
  clear hb HP4 HQ
  refine hK.out _ _ (.inr ⟨HX_6.out, HY_6.out⟩) ?_
  clear hK K
  refine upto_one (i := 5) (by kernel_rfl) rfl (fun K hK => ?_)
  go_simp
  refine hK.out _ _ (.inl rfl) ?_
  clear hK K
  refine upto_done (by kernel_rfl) ?_ _
  obtain ⟨x0, x1, x2, x3, x4, x5, x6, x7, x8, x9, x10⟩ := HX_6.out
  go_wp2_with fail
  refine (toCore_any w.heap.size x.f _ w5 (by omega) (InC.later (w := w) (w' := w5) (same_below HB_6.out) _ _ HV.out) hsf).mono ?_
  rintro e w6 ⟨p0, p1, p2, p3, p4, p5, p6, p7, bsw6, rfl, ho, hn, hpl, hb⟩
  have hs_w6 : w5.heap.size ≤ w6.heap.size := hb.size
  have HX_7 := Lib.hid (HX_6.out.later hb)
  have HY_7 := Lib.hid (HY_6.out.later hb)
  have HB_7 := Lib.hid (HB_6.out.trans (hb.mono (by omega)))
  clear HX_6 HY_6 HB_6
  have HP := Lib.hid (show InC (Pl w6.heap.size w6) w6 x.f (CItem.val ⟨x.f, p0, p1, p2, p3, p4, p5, p6, p7⟩) from OwnC.inC (φ := Pl w6.heap.size w6) x.f _ bsw6 (fun c hc => ⟨(hn.2 c hc).2, hpl c hc⟩) ho)
  have HFA := Lib.hid (finiteAt_own ⟨x.f, p0, p1, p2, p3, p4, p5, p6, p7⟩ bsw6 w6 ho hn.1 (fun c hc => (hn.2 c hc).2) hpl (by show x.f.count ≤ _; omega))
  clear ho hn hpl hb x0 x1 x2 x3 x4 x5 x6 x7 x8 x9 x10
  obtain ⟨y0, y1, y2, y3, y4, y5, y6, y7, y8, y9, y10⟩ := HY_7.out
  have hltA : w.heap.size + 1 < w6.heap.size := by omega
  obtain ⟨v6, hv_⟩ : ∃ v, v = (w6.alloc (.cells #[.int .i64 x.f.kind, .int .i64 x.f.id, .string x.f.name, .int .i64 x.f.n, .slice p0 x.f.ids.length p1, .int .i64 x.f.data.kind, .string x.f.data.name, .int .i64 x.f.data.n, .slice p2 x.f.data.scopes.length p3, .slice p4 x.f.data.kids.length p5, .slice p6 x.f.kids.length p7] 79)) := ⟨_, rfl⟩
  have hb : Below w6.heap.size w6 v6 := by rw [hv_]; exact below_alloc w6 _
  have hs_v6 : w6.heap.size + 1 ≤ v6.heap.size := by rw [hv_]; simp
  have HX_8 := Lib.hid (HX_7.out.later hb)
  have HY_8 := Lib.hid (HY_7.out.later hb)
  have HB_8 := Lib.hid (HB_7.out.trans (hb.mono (by omega)))
  clear HX_7 HY_7 HB_7
  have HC : Hid (CoreBox v6 w6.heap.size ⟨x.f, p0, p1, p2, p3, p4, p5, p6, p7⟩) := by unfold Hid; rw [hv_]; exact CoreBox.fresh w6 ⟨x.f, p0, p1, p2, p3, p4, p5, p6, p7⟩ _
  have HP1 := Lib.hid (InC.pl hb HP.out)
  clear HP
  have HFA1 := Lib.hid (HFA.out.later hb)
  clear HFA
  have HV_ := Lib.hid hv_
  clear hv_ hb
  go_wp2_with fail
  rw [← HV_.out]
  clear HV_
  refine (toCore_any w.heap.size y.f _ v6 (by omega) (InC.later (w := w) (w' := v6) (same_below HB_8.out) _ _ HU.out) hsg).mono ?_
  rintro e w7 ⟨q0, q1, q2, q3, q4, q5, q6, q7, bsw7, rfl, ho, hn, hpl, hb⟩
  have hs_w7 : v6.heap.size ≤ w7.heap.size := hb.size
  have HX_9 := Lib.hid (HX_8.out.later hb)
  have HY_9 := Lib.hid (HY_8.out.later hb)
  have HB_9 := Lib.hid (HB_8.out.trans (hb.mono (by omega)))
  have HC_1 := Lib.hid (HC.out.later hb)
  clear HX_8 HY_8 HB_8 HC
  have HQ := Lib.hid (show InC (Pl w7.heap.size w7) w7 y.f (CItem.val ⟨y.f, q0, q1, q2, q3, q4, q5, q6, q7⟩) from OwnC.inC (φ := Pl w7.heap.size w7) y.f _ bsw7 (fun c hc => ⟨(hn.2 c hc).2, hpl c hc⟩) ho)
  have HP2 := Lib.hid (InC.pl hb HP1.out)
  have HFA2 := Lib.hid (HFA1.out.later hb)
  clear ho hn hpl hb HP1 HFA1 y0 y1 y2 y3 y4 y5 y6 y7 y8 y9 y10
  obtain ⟨y0, y1, y2, y3, y4, y5, y6, y7, y8, y9, y10⟩ := HC_1.out
  have hltB : w6.heap.size < w7.heap.size := by omega
  obtain ⟨v7, hv_⟩ : ∃ v, v = (w7.alloc (.cells #[.int .i64 y.f.kind, .int .i64 y.f.id, .string y.f.name, .int .i64 y.f.n, .slice q0 y.f.ids.length q1, .int .i64 y.f.data.kind, .string y.f.data.name, .int .i64 y.f.data.n, .slice q2 y.f.data.scopes.length q3, .slice q4 y.f.data.kids.length q5, .slice q6 y.f.kids.length q7] 79)) := ⟨_, rfl⟩
  have hb : Below w7.heap.size w7 v7 := by rw [hv_]; exact below_alloc w7 _
  have hs_v7 : w7.heap.size + 1 ≤ v7.heap.size := by rw [hv_]; simp
  have HX_10 := Lib.hid (HX_9.out.later hb)
  have HY_10 := Lib.hid (HY_9.out.later hb)
  have HB_10 := Lib.hid (HB_9.out.trans (hb.mono (by omega)))
  have HC_2 := Lib.hid (HC_1.out.later hb)
  clear HX_9 HY_9 HB_9 HC_1
  have HD : Hid (CoreBox v7 w7.heap.size ⟨y.f, q0, q1, q2, q3, q4, q5, q6, q7⟩) := by unfold Hid; rw [hv_]; exact CoreBox.fresh w7 ⟨y.f, q0, q1, q2, q3, q4, q5, q6, q7⟩ _
  have HP3 := Lib.hid (InC.pl hb HP2.out)
  clear HP2
  have HFA3 := Lib.hid (HFA2.out.later hb)
  clear HFA2
  have HQ1 := Lib.hid (InC.pl hb HQ.out)
  clear HQ
  have HV_ := Lib.hid hv_
  clear hv_ hb
  go_wp2_with fail
  rw [← HV_.out]
  clear HV_
  refine (implCoreSame_any ⟨x.f, p0, p1, p2, p3, p4, p5, p6, p7⟩ ⟨y.f, q0, q1, q2, q3, q4, q5, q6, q7⟩ v7 HP3.out HQ1.out hsf hsg HFA3.out).mono ?_
  rintro e w8 ⟨rfl, hb⟩
  have hs8 : v7.heap.size ≤ w8.heap.size := hb.size
  simp only [HRR.out]
  have HX_11 := Lib.hid (HX_10.out.later hb)
  have HY_11 := Lib.hid (HY_10.out.later hb)
  have HB_11 := Lib.hid (HB_10.out.trans (hb.mono (by omega)))
  have HC_3 := Lib.hid (HC_2.out.later hb)
  have HD_1 := Lib.hid (HD.out.later hb)
  clear HX_10 HY_10 HB_10 HC_2 HD
  have HP4 := Lib.hid (InC.pl hb HP3.out)
  have HQ4 := Lib.hid (InC.pl hb HQ1.out)
  clear hb HP3 HQ1 HFA3 y0 y1 y2 y3 y4 y5 y6 y7 y8 y9 y10
  go_wp2_with fail
  refine upto_begin (fun W => CoreBox W w6.heap.size ⟨x.f, p0, p1, p2, p3, p4, p5, p6, p7⟩ ∧ CoreBox W w.heap.size x) 5 (by kernel_rfl) ?_
  obtain ⟨u8, hu_⟩ : ∃ u, u = w8.drew := ⟨_, rfl⟩
  rw [← hu_]
  have hb : Below w8.heap.size w8 u8 := by rw [hu_]; exact (Below.refl _ _).drew
  have hs_u8 : w8.heap.size ≤ u8.heap.size := hb.size
  have HX_12 := Lib.hid (HX_11.out.later hb)
  have HY_12 := Lib.hid (HY_11.out.later hb)
  have HB_12 := Lib.hid (HB_11.out.trans (hb.mono (by omega)))
  have HC_4 := Lib.hid (HC_3.out.later hb)
  have HD_2 := Lib.hid (HD_1.out.later hb)
  clear HX_11 HY_11 HB_11 HC_3 HD_1
  have HP4a := Lib.hid (InC.pl hb HP4.out)
  clear HP4
  have HQ4a := Lib.hid (InC.pl hb HQ4.out)
  clear HQ4
  clear hb hu_
  have hS : (fun W => CoreBox W w6.heap.size ⟨x.f, p0, p1, p2, p3, p4, p5, p6, p7⟩ ∧ CoreBox W w.heap.size x) u8 := ⟨HC_4.out, HX_12.out⟩
  refine upto_take (i := 0) (d := some 35) (v := ?_) rfl rfl (by kernel_rfl) (by kernel_rfl) (by kernel_rfl) (by kernel_rfl) (fun _ _ _ h => h) (Or.inl ⟨by rfl, ?_⟩) hS ?_
  rotate_left
  · (intro wS hSw; obtain ⟨⟨m0, m1, m2, m3, m4, m5, m6, m7, m8, m9, m10⟩, ⟨n0, n1, n2, n3, n4, n5, n6, n7, n8, n9, n10⟩⟩ := hSw; go_simp; try with_reducible rfl)
  try simp only [Act.put, List.setIfInBounds_toArray, List.set_cons_zero, List.set_cons_succ]
  refine upto_take (i := 1) (d := some 36) (v := ?_) rfl rfl (by kernel_rfl) (by kernel_rfl) (by kernel_rfl) (by kernel_rfl) (fun _ _ _ h => h) (Or.inl ⟨by rfl, ?_⟩) hS ?_
  rotate_left
  · (intro wS hSw; obtain ⟨⟨m0, m1, m2, m3, m4, m5, m6, m7, m8, m9, m10⟩, ⟨n0, n1, n2, n3, n4, n5, n6, n7, n8, n9, n10⟩⟩ := hSw; go_simp; try with_reducible rfl)
  try simp only [Act.put, List.setIfInBounds_toArray, List.set_cons_zero, List.set_cons_succ]
  clear hS
  refine upto_one (i := 2) (by kernel_rfl) rfl (fun K hK => ?_)
  go_simp
  refine (toCore_any w.heap.size x.f _ u8 (by omega) (InC.later (w := w) (w' := u8) (same_below HB_12.out) _ _ HV.out) hsf).mono ?_
  rintro e w9 ⟨r0, r1, r2, r3, r4, r5, r6, r7, bsw9, rfl, ho, hn, hpl, hb⟩
  have hs_w9 : u8.heap.size ≤ w9.heap.size := hb.size
  have HX_13 := Lib.hid (HX_12.out.later hb)
  have HY_13 := Lib.hid (HY_12.out.later hb)
  have HB_13 := Lib.hid (HB_12.out.trans (hb.mono (by omega)))
  have HC_5 := Lib.hid (HC_4.out.later hb)
  have HD_3 := Lib.hid (HD_2.out.later hb)
  clear HX_12 HY_12 HB_12 HC_4 HD_2
  have HT := Lib.hid (show InC (Pl w9.heap.size w9) w9 x.f (CItem.val ⟨x.f, r0, r1, r2, r3, r4, r5, r6, r7⟩) from OwnC.inC (φ := Pl w9.heap.size w9) x.f _ bsw9 (fun c hc => ⟨(hn.2 c hc).2, hpl c hc⟩) ho)
  have HP4ab := Lib.hid (InC.pl hb HP4a.out)
  clear HP4a
  have HQ4ab := Lib.hid (InC.pl hb HQ4a.out)
  clear HQ4a
  clear ho hn hpl hb
  refine hK.out _ _ (.inr ⟨HC_5.out, HX_13.out⟩) ?_
  clear hK K
  refine upto_one (i := 3) (by kernel_rfl) rfl (fun K hK => ?_)
  go_simp
  refine (eqCore_any w9.heap.size x.f _ _ _ (Nat.le_refl _) (InC.mono (fun k hk => hk.1) _ _ HP4ab.out) (InC.mono (fun k hk => hk.1) _ _ HT.out)).mono ?_
  rintro e w10 ⟨rfl, hb⟩
  have hs_w10 : w9.heap.size ≤ w10.heap.size := hb.size
  have HX_14 := Lib.hid (HX_13.out.later hb)
  have HY_14 := Lib.hid (HY_13.out.later hb)
  have HB_14 := Lib.hid (HB_13.out.trans (hb.mono (by omega)))
  have HC_6 := Lib.hid (HC_5.out.later hb)
  have HD_4 := Lib.hid (HD_3.out.later hb)
  clear HX_13 HY_13 HB_13 HC_5 HD_3
  have HQ5 := Lib.hid (InC.pl hb HQ4ab.out)
  clear hb HT HP4ab HQ4ab
  refine hK.out _ _ (.inr ⟨HC_6.out, HX_14.out⟩) ?_
  clear hK K
  refine upto_one (i := 4) (by kernel_rfl) rfl (fun K hK => ?_)
  go_simp
  refine hK.out _ _ (.inr ⟨HC_6.out, HX_14.out⟩) ?_
  clear hK K
  refine upto_done (by kernel_rfl) ?_ _
  go_wp2_with fail
  refine upto_begin (fun W => CoreBox W w7.heap.size ⟨y.f, q0, q1, q2, q3, q4, q5, q6, q7⟩ ∧ CoreBox W (w.heap.size + 1) y) 5 (by kernel_rfl) ?_
  obtain ⟨u10, hu_⟩ : ∃ u, u = w10.drew := ⟨_, rfl⟩
  rw [← hu_]
  have hb : Below w10.heap.size w10 u10 := by rw [hu_]; exact (Below.refl _ _).drew
  have hs_u10 : w10.heap.size ≤ u10.heap.size := hb.size
  have HX_15 := Lib.hid (HX_14.out.later hb)
  have HY_15 := Lib.hid (HY_14.out.later hb)
  have HB_15 := Lib.hid (HB_14.out.trans (hb.mono (by omega)))
  have HC_7 := Lib.hid (HC_6.out.later hb)
  have HD_5 := Lib.hid (HD_4.out.later hb)
  clear HX_14 HY_14 HB_14 HC_6 HD_4
  have HQ5a := Lib.hid (InC.pl hb HQ5.out)
  clear HQ5
  clear hb hu_
  have hS : (fun W => CoreBox W w7.heap.size ⟨y.f, q0, q1, q2, q3, q4, q5, q6, q7⟩ ∧ CoreBox W (w.heap.size + 1) y) u10 := ⟨HD_5.out, HY_15.out⟩
  refine upto_take (i := 0) (d := some 40) (v := ?_) rfl rfl (by kernel_rfl) (by kernel_rfl) (by kernel_rfl) (by kernel_rfl) (fun _ _ _ h => h) (Or.inl ⟨by rfl, ?_⟩) hS ?_
  rotate_left
  · (intro wS hSw; obtain ⟨⟨m0, m1, m2, m3, m4, m5, m6, m7, m8, m9, m10⟩, ⟨n0, n1, n2, n3, n4, n5, n6, n7, n8, n9, n10⟩⟩ := hSw; go_simp; try with_reducible rfl)
  try simp only [Act.put, List.setIfInBounds_toArray, List.set_cons_zero, List.set_cons_succ]
  refine upto_take (i := 1) (d := some 41) (v := ?_) rfl rfl (by kernel_rfl) (by kernel_rfl) (by kernel_rfl) (by kernel_rfl) (fun _ _ _ h => h) (Or.inl ⟨by rfl, ?_⟩) hS ?_
  rotate_left
  · (intro wS hSw; obtain ⟨⟨m0, m1, m2, m3, m4, m5, m6, m7, m8, m9, m10⟩, ⟨n0, n1, n2, n3, n4, n5, n6, n7, n8, n9, n10⟩⟩ := hSw; go_simp; try with_reducible rfl)
  try simp only [Act.put, List.setIfInBounds_toArray, List.set_cons_zero, List.set_cons_succ]
  clear hS
  refine upto_one (i := 2) (by kernel_rfl) rfl (fun K hK => ?_)
  go_simp
  refine (toCore_any w.heap.size y.f _ u10 (by omega) (InC.later (w := w) (w' := u10) (same_below HB_15.out) _ _ HU.out) hsg).mono ?_
  rintro e w11 ⟨r0, r1, r2, r3, r4, r5, r6, r7, bsw11, rfl, ho, hn, hpl, hb⟩
  have hs_w11 : u10.heap.size ≤ w11.heap.size := hb.size
  have HX_16 := Lib.hid (HX_15.out.later hb)
  have HY_16 := Lib.hid (HY_15.out.later hb)
  have HB_16 := Lib.hid (HB_15.out.trans (hb.mono (by omega)))
  have HC_8 := Lib.hid (HC_7.out.later hb)
  have HD_6 := Lib.hid (HD_5.out.later hb)
  clear HX_15 HY_15 HB_15 HC_7 HD_5
  have HT := Lib.hid (show InC (Pl w11.heap.size w11) w11 y.f (CItem.val ⟨y.f, r0, r1, r2, r3, r4, r5, r6, r7⟩) from OwnC.inC (φ := Pl w11.heap.size w11) y.f _ bsw11 (fun c hc => ⟨(hn.2 c hc).2, hpl c hc⟩) ho)
  have HQ5ab := Lib.hid (InC.pl hb HQ5a.out)
  clear HQ5a
  clear ho hn hpl hb
  refine hK.out _ _ (.inr ⟨HD_6.out, HY_16.out⟩) ?_
  clear hK K
  refine upto_one (i := 3) (by kernel_rfl) rfl (fun K hK => ?_)
  go_simp
  refine (eqCore_any w11.heap.size y.f _ _ _ (Nat.le_refl _) (InC.mono (fun k hk => hk.1) _ _ HQ5ab.out) (InC.mono (fun k hk => hk.1) _ _ HT.out)).mono ?_
  rintro e w12 ⟨rfl, hb⟩
  have hs_w12 : w11.heap.size ≤ w12.heap.size := hb.size
  have HX_17 := Lib.hid (HX_16.out.later hb)
  have HY_17 := Lib.hid (HY_16.out.later hb)
  have HB_17 := Lib.hid (HB_16.out.trans (hb.mono (by omega)))
  have HC_9 := Lib.hid (HC_8.out.later hb)
  have HD_7 := Lib.hid (HD_6.out.later hb)
  clear HX_16 HY_16 HB_16 HC_8 HD_6
  clear hb HT HQ5ab
  refine hK.out _ _ (.inr ⟨HD_7.out, HY_17.out⟩) ?_
  clear hK K
  refine upto_one (i := 4) (by kernel_rfl) rfl (fun K hK => ?_)
  go_simp
  refine hK.out _ _ (.inr ⟨HD_7.out, HY_17.out⟩) ?_
  clear hK K
  refine upto_done (by kernel_rfl) ?_ _
  go_wp2_with fail
  go_ret
  exact ⟨rfl, HB_17.out⟩
theorem own : ownKnob Try.prog.godebug = none := by kernel_rfl
theorem laidOut : laidOutB Try.prog = true := by kernel_rfl
set_option maxRecDepth 100000 in
theorem lifted (os : Os) (started : os.Started) (H : Type) (enc : TypeId × Value → H) :
    ReturnsInHanded {} Try.checked os 11 .any (Rows.fnExactCoreSameSpec.pre6 enc Try.prog Try.f11 Rows.fnExactCoreSameRow.domain false) (Rows.fnExactCoreSameSpec.post enc Try.prog Try.f11 false true false false) := by
  refine returnsInHanded_of_change (C := Try.checked) own started (by kernel_rfl) Try.func11
    (ChangeSpec.witness6 (enc := enc) (C := Try.checked) false ⟨#[], #[.agg #[.int .i64 0, .int .i64 0, .string ByteArray.empty, .int .i64 0, .slice none 0 0, .int .i64 0, .string ByteArray.empty, .int .i64 0, .slice none 0 0, .slice none 0 0, .slice none 0 0], .agg #[.int .i64 0, .int .i64 0, .string ByteArray.empty, .int .i64 0, .slice none 0 0, .int .i64 0, .string ByteArray.empty, .int .i64 0, .slice none 0 0, .slice none 0 0, .slice none 0 0]], []⟩ 12 (by kernel_rfl) (by kernel_rfl) (by kernel_rfl) (by kernel_rfl)) ?_
  intro W base args ds gs before hval0 hW hcnd _
  have hval : ∀ (j : Nat) t v, Try.f11.params[j]? = some t → args[j]? = some v → Value.okWide Try.prog W .any base t v := hval0
  have hW' := hW
  obtain ⟨p, q, hA0, hV, rfl, hfz, hnd⟩ := hW
  have hA : DataW.TrodAll enc Try.prog W 0 (fun _ => true) true Try.f11.params.toList args.toList ds p := hA0
  rw [Try.params11] at hA hval
  obtain ⟨v0, vs0, d0, ds0, p0, q0, hargs, rfl, rfl, h0, r0⟩ := trodAll_cons hA
  obtain ⟨v1, vs1, d1, ds1, p1, q1, rfl, rfl, rfl, h1, r1⟩ := trodAll_cons r0
  obtain ⟨rfl, rfl, rfl⟩ := trodAll_nil r1
  obtain rfl : args = #[v0, v1] := by cases args; simp_all
  obtain ⟨rfl, rfl⟩ := trodVars_none hV
  have k0 := h0
  have lt0 : ∀ x ∈ p0, x.block < W.heap.size := by obtain ⟨m, hm⟩ := k0; exact DataW.trod_lt m _ _ _ hm
  obtain ⟨f0, i0⟩ := open_core_arg (hval 0 74 v0 rfl rfl) h0
  have k1 := h1
  have lt1 : ∀ x ∈ p1, x.block < W.heap.size := by obtain ⟨m, hm⟩ := k1; exact DataW.trod_lt m _ _ _ hm
  obtain ⟨f1, i1⟩ := open_core_arg (hval 1 74 v1 rfl rfl) h1
  clear hA0 hval0
  try simp only [List.append_nil] at hW'
  refine (walk W f0 v0 i0 f1 v1 i1).mono fun e W' ⟨he, bel⟩ => ?_
  subst he
  exact ⟨_, rfl, _, _, _, [], _, [], hW', trodAll_mk1 (shut_bool Try.underlying4 _), (trodAll_cons_mk (Below.trod laidOut (by kernel_rfl) (of_decide_eq_true (by kernel_rfl)) k0 bel lt0) (trodAll_cons_mk (Below.trod laidOut (by kernel_rfl) (of_decide_eq_true (by kernel_rfl)) k1 bel lt1) trodAll_mk0)), rfl, bel.frame _, fun h => by cases h⟩
theorem over_named : Try.pinned.checked.prog.funcNamed Rows.fnExactCoreSameRow.func = some 11 := by kernel_rfl
theorem c_inPlace : (Rows.fnExactCoreSameRow.inPlace == Try.pinned.checked.prog.inPlace 11) = true := by kernel_rfl
theorem c_unfollowed : (Rows.fnExactCoreSameRow.unfollowed == Try.pinned.checked.prog.unfollowed 11) = true := by kernel_rfl
theorem c_recurses : (Rows.fnExactCoreSameRow.recurses == Try.pinned.checked.prog.recurses 11) = true := by kernel_rfl
theorem c_named : (Rows.fnExactCoreSameRow.named == Try.pinned.checked.prog.varsNamed 11) = true := by kernel_rfl
theorem over_closed : joinedFacts Try.pinned.checked.prog 11 Try.f11 Rows.fnExactCoreSameSpec Rows.fnExactCoreSameRow = true := by
  unfold joinedFacts
  exact Facts.band (Facts.band (Facts.band (Facts.band (Facts.band (Facts.band (Facts.band (Facts.band (Facts.band (Facts.band (Facts.band (Facts.band (Facts.band (Facts.band (Facts.band (Facts.band (Facts.band (Facts.band (Facts.band (Facts.band (Facts.band (Facts.band (Facts.band (Facts.band (Facts.band (Facts.band (Facts.band (Facts.band (Facts.band (Facts.band (Facts.band (by kernel_rfl) Facts.laid) Facts.rowed) (by kernel_rfl)) (by kernel_rfl)) (by kernel_rfl)) Facts.stops) (by kernel_rfl)) Facts.knobs) c_inPlace) c_unfollowed) c_recurses) c_named) (by kernel_rfl)) (by kernel_rfl)) (by kernel_rfl)) (by kernel_rfl)) (by kernel_rfl)) (by kernel_rfl)) (by kernel_rfl)) (by kernel_rfl)) (by kernel_rfl)) (by rw [Facts.plain]; kernel_rfl)) (by kernel_rfl)) Facts.heard) Facts.enter) (by rw [Facts.lifts]; kernel_rfl)) (by rw [Facts.made]; kernel_rfl)) (by kernel_rfl)) (by kernel_rfl)) (by kernel_rfl)) (by kernel_rfl)
theorem over_inst : Func.isInstance Try.pinned.checked.prog Try.f11 Rows.fnExactCoreSameRow.origin Rows.fnExactCoreSameRow.targs := of_decide_eq_true (by kernel_rfl)
theorem over_wrap : Func.isWrapper Try.pinned.checked.prog Try.f11 Rows.fnExactCoreSameRow.wrapper Rows.fnExactCoreSameRow.mainSum := (by unfold Func.isWrapper; first | (rw [if_pos (by decide +kernel)]; kernel_rfl) | (rw [if_neg (by decide +kernel)]; exact ⟨rfl, rfl⟩))
theorem over : Rows.fnExactCoreSameRow.holds Try.pinned (OpenSpec.ofChange Rows.fnExactCoreSameSpec) :=
  OpenClaim.holds_of_wide 11 Try.f11 rfl rfl rfl rfl rfl rfl rfl ⟨rfl, rfl, rfl, rfl, rfl⟩ rfl rfl rfl rfl rfl over_named Try.func11 over_closed over_inst over_wrap
    (fun os started H enc _ => lifted os started H enc)
theorem proved : Rows.FnExactCoreSameSaid := over
end Go.Proofs.Ytlmplfpdmelcjaa.exCoreSame
