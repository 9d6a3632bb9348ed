/- For every step, valid or not, the two lists of introduced names agree, the program's leaves its argument as it was and shares no memory: the law FnExactIntroducedNames returns true, whatever the input, with no condition beyond the statement's own. -/
import Derived.Test.YtbclgmabidjegaaRows
import Derived.Test.YtbclgmabidjegaaIntroAll
import Derived.Test.YtbclgmabidjegaaFormsS
import Derived.Test.YtbclgmabidjegaaOpen
import Derived.Test.YtbclgmabidjegaaMark2
import Derived.Test.YtbclgmabidjegaaFacts
import Derived.Deep.RegionWith
namespace Go.Proofs.Ytbclgmabidjegaa.exIntroducedNames
open Go.ChangeShapes Go.WideShapes Go.ChangeAt Go.RowKit
open Go.ChangeMaps (open_string shut_string)
set_option linter.unusedVariables false
set_option linter.unusedSimpArgs false
set_option maxRecDepth 100000 in
set_option maxHeartbeats 8000000 in
theorem walk (w : World) (n1 n2 n3 : Int) (p t : Fm) (v : Value) (hv : StIn (· < w.heap.size) w n1 n2 n3 p t v) :
    Calls Try.prog 12 #[v] w fun e w' => e = .returned (.bool true) ∧ Below w.heap.size w w' := by
  obtain ⟨s1, t1, k1, l1, s2, t2, k2, l2, rfl, hbd, hp, ht⟩ := hv
  have HV : Hid (StIn (· < w.heap.size) w n1 n2 n3 p t (.agg #[.int .i64 n1, .int .i64 n2, .int .i64 n3, .int .i64 p.kind, .string p.name, .int .i64 p.n, .slice s1 p.scopes.length t1, .slice k1 p.kids.length l1, .int .i64 t.kind, .string t.name, .int .i64 t.n, .slice s2 t.scopes.length t2, .slice k2 t.kids.length l2])) := ⟨s1, t1, k1, l1, s2, t2, k2, l2, rfl, hbd, hp, ht⟩
  have HBD := Lib.hid hbd
  clear hp ht hbd
  obtain ⟨N, hN⟩ : ∃ N, N = p.sz + t.sz := ⟨_, rfl⟩
  have HN := Lib.hid hN
  clear hN
  go_enter Try.func12, Try.ntmps12
  go_wp2_with fail
  refine (szStep_any w.heap.size n1 n2 n3 p t _ _ 1048576 (by simp) (HV.out.later (same_below (below_alloc w _))) (by omega)).mono ?_
  rintro e w1 ⟨rfl, hb1⟩
  rw [← HN.out]
  have hs1 : w.heap.size < w1.heap.size := by have := hb1.size; simp at this; omega
  have HX := Lib.hid ((StepBox.fresh w n1 n2 n3 p t s1 t1 k1 l1 s2 t2 k2 l2 90).later hb1)
  have HB : Hid (Below w.heap.size w w1) := (below_alloc w _).trans (hb1.mono (by simp))
  clear hb1
  rcases leftS2 N with hl | ⟨hsf, hl⟩
  · go_wp2_with fail
    go_ret
    exact ⟨rfl, HB.out⟩
  rw [hl]
  clear hl
  have HSF : Hid (p.sz + t.sz ≤ 1048576) := by have := HN.out; unfold Hid; omega
  have hp1 : 0 ≤ (1048576 : Int) - N := by omega
  have hst : t.sz ≤ 1048576 := by have := HSF.out; omega
  obtain ⟨R, hR⟩ : ∃ R, introB n3 t = R := ⟨_, rfl⟩
  have HRM : Hid (marksAll R ≤ 1258292400) := by have := introB_marks n3 t hst; rw [hR] at this; exact this
  have HM1 : Hid (p.marks ≤ 3145728) := by have := marks_szS p; have := HSF.out; unfold Hid; omega
  have HM2 : Hid (t.marks ≤ 3145728) := by have := marks_szS t; have := HSF.out; unfold Hid; omega
  have HRR := Lib.hid hR
  clear hR
  obtain ⟨x0, x1, x2, x3, x4, x5, x6, x7, x8, x9, x10, x11, x12⟩ := HX.out
  go_wp2_with fail
  refine (toStep_any w.heap.size n1 n2 n3 p t _ w1 (by omega) (HV.out.later (same_below HB.out)) HSF.out).mono ?_
  rintro e w2 ⟨p0, p1, p2, p3, p4, p5, p6, p7, b1p, b2p, rfl, ho1, ho2, hn, hpl, hb⟩
  have hs2 : w1.heap.size ≤ w2.heap.size := hb.size
  have HX_1 := Lib.hid (HX.out.later hb)
  have HB_1 := Lib.hid (HB.out.trans (hb.mono (by omega)))
  clear HX HB
  have HP := Lib.hid (⟨p0, p1, p2, p3, p4, p5, p6, p7, rfl, HBD.out, OwnV.inV (φ := (· < w2.heap.size)) p _ b1p (fun c hc => (hn.2 c (List.mem_append_left _ hc)).2) ho1, OwnV.inV (φ := (· < w2.heap.size)) t _ b2p (fun c hc => (hn.2 c (List.mem_append_right _ hc)).2) ho2⟩ : StIn (· < w2.heap.size) w2 n1 n2 n3 p t (.agg #[.int .i64 n1, .int .i64 n2, .int .i64 n3, .int .i64 p.kind, .string p.name, .int .i64 p.n, .slice p0 p.scopes.length p1, .slice p2 p.kids.length p3, .int .i64 t.kind, .string t.name, .int .i64 t.n, .slice p4 t.scopes.length p5, .slice p6 t.kids.length p7]))
  clear ho1 ho2 hn hpl hb x0 x1 x2 x3 x4 x5 x6 x7 x8 x9 x10 x11 x12
  go_wp2_with fail
  refine (specIntro_any w2.heap.size n1 n2 n3 p t _ w2 (Nat.le_refl _) HP.out hst).mono ?_
  rintro e w3 ⟨wa, wcap, rfl, hr, hb⟩
  rw [HRR.out] at hr ⊢
  have hs3 : w2.heap.size ≤ w3.heap.size := hb.size
  have HX_2 := Lib.hid (HX_1.out.later hb)
  have HB_2 := Lib.hid (HB_1.out.trans (hb.mono (by omega)))
  clear HX_1 HB_1
  have HW := Lib.hid hr
  clear hr hb HP
  obtain ⟨x0, x1, x2, x3, x4, x5, x6, x7, x8, x9, x10, x11, x12⟩ := HX_2.out
  go_wp2_with fail
  refine (toStep_any w.heap.size n1 n2 n3 p t _ w3 (by omega) (HV.out.later (same_below HB_2.out)) HSF.out).mono ?_
  rintro e w4 ⟨q0, q1, q2, q3, q4, q5, q6, q7, b1q, b2q, rfl, ho1, ho2, hn, hpl, hb⟩
  have hs4 : w3.heap.size ≤ w4.heap.size := hb.size
  have HX_3 := Lib.hid (HX_2.out.later hb)
  have HB_3 := Lib.hid (HB_2.out.trans (hb.mono (by omega)))
  have HW_1 := Lib.hid (FormsIn.later (Same.of_below hb (fun k (hk : k < w3.heap.size) => by omega)) HW.out)
  clear HX_2 HB_2 HW
  have HQ1 := Lib.hid ho1
  have HQ2 := Lib.hid ho2
  have HN1 : Hid (NewBs b1q w3.heap.size w4.heap.size) := ⟨(List.nodup_append.1 hn.1).1, fun c hc => hn.2 c (List.mem_append_left _ hc)⟩
  have HN2 : Hid (NewBs b2q w3.heap.size w4.heap.size) := ⟨(List.nodup_append.1 hn.1).2.1, fun c hc => hn.2 c (List.mem_append_right _ hc)⟩
  have HNN := Lib.hid hn
  have HPL := Lib.hid (OwnV.inV (φ := Pl w4.heap.size w4) t _ b2q (fun c hc => ⟨(hn.2 c (List.mem_append_right _ hc)).2, hpl c (List.mem_append_right _ hc)⟩) ho2)
  clear ho1 ho2 hn hpl hb x0 x1 x2 x3 x4 x5 x6 x7 x8 x9 x10 x11 x12
  obtain ⟨v4, hv4⟩ : ∃ v4, v4 = (w4.alloc (.cells #[.int .i64 n1, .int .i64 n2, .int .i64 n3, .int .i64 p.kind, .string p.name, .int .i64 p.n, .slice q0 p.scopes.length q1, .slice q2 p.kids.length q3, .int .i64 t.kind, .string t.name, .int .i64 t.n, .slice q4 t.scopes.length q5, .slice q6 t.kids.length q7] 94)) := ⟨_, rfl⟩
  have hb : Below w4.heap.size w4 v4 := by rw [hv4]; exact below_alloc w4 _
  have hsv : w4.heap.size + 1 ≤ v4.heap.size := by rw [hv4]; simp
  have HX_4 := Lib.hid (HX_3.out.later hb)
  have HB_4 := Lib.hid (HB_3.out.trans (hb.mono (by omega)))
  have HW_2 := Lib.hid (FormsIn.later (Same.of_below hb (fun k (hk : k < w3.heap.size) => by omega)) HW_1.out)
  have HQ1_1 := Lib.hid (OwnV.later _ _ _ (SameOn.of_below hb (fun c hm => by have h := HN1.out.2 c hm; omega)) HQ1.out)
  have HQ2_1 := Lib.hid (OwnV.later _ _ _ (SameOn.of_below hb (fun c hm => by have h := HN2.out.2 c hm; omega)) HQ2.out)
  clear HX_3 HB_3 HW_1 HQ1 HQ2
  have HY : Hid (StepBox v4 w4.heap.size n1 n2 n3 p t q0 q1 q2 q3 q4 q5 q6 q7) := by unfold Hid; rw [hv4]; exact StepBox.fresh w4 n1 n2 n3 p t q0 q1 q2 q3 q4 q5 q6 q7 _
  have HPL4 := Lib.hid (InV.pl hb HPL.out)
  have HV4 := Lib.hid hv4
  clear hv4 hb HPL
  go_wp2_with fail
  rw [← HV4.out]
  clear HV4
  obtain ⟨y0, y1, y2, y3, y4, y5, y6, y7, y8, y9, y10, y11, y12⟩ := HY.out
  go_wp2_with fail
  refine (implIntro_any n1 n2 n3 p t _ _ _ _ _ _ _ _ v4 HPL4.out hst).mono ?_
  rintro e w5 ⟨ga, gc, bg, rfl, hgo, hgn, hb⟩
  rw [HRR.out] at hgo ⊢
  have hs5 : v4.heap.size ≤ w5.heap.size := hb.size
  have HX_5 := Lib.hid (HX_4.out.later hb)
  have HB_5 := Lib.hid (HB_4.out.trans (hb.mono (by omega)))
  have HW_3 := Lib.hid (FormsIn.later (Same.of_below hb (fun k (hk : k < w3.heap.size) => by omega)) HW_2.out)
  have HQ1_2 := Lib.hid (OwnV.later _ _ _ (SameOn.of_below hb (fun c hm => by have h := HN1.out.2 c hm; omega)) HQ1_1.out)
  have HQ2_2 := Lib.hid (OwnV.later _ _ _ (SameOn.of_below hb (fun c hm => by have h := HN2.out.2 c hm; omega)) HQ2_1.out)
  have HY_1 := Lib.hid (HY.out.later hb)
  clear HX_4 HB_4 HW_2 HQ1_1 HQ2_1 HY
  have HG := Lib.hid hgo
  have HGN := Lib.hid hgn
  clear hgo hgn hb HPL4 y0 y1 y2 y3 y4 y5 y6 y7 y8 y9 y10 y11 y12
  go_wp2_with fail
  refine (eqFormS_row w5.heap.size R ga wa gc wcap w5 (by omega) (KidsOwn.readsS HG.out (φ := (· < w5.heap.size)) (fun b hb => (HGN.out.2 b hb).2)) (FormsIn.mono (fun k (hk : k < w3.heap.size) => by show k < w5.heap.size; omega) HW_3.out)).mono ?_
  rintro e w6 ⟨rfl, hb⟩
  have hs6 : w5.heap.size ≤ w6.heap.size := hb.size
  have HX_6 := Lib.hid (HX_5.out.later hb)
  have HB_6 := Lib.hid (HB_5.out.trans (hb.mono (by omega)))
  have HW_4 := Lib.hid (FormsIn.later (Same.of_below hb (fun k (hk : k < w3.heap.size) => by omega)) HW_3.out)
  have HQ1_3 := Lib.hid (OwnV.later _ _ _ (SameOn.of_below hb (fun c hm => by have h := HN1.out.2 c hm; omega)) HQ1_2.out)
  have HQ2_3 := Lib.hid (OwnV.later _ _ _ (SameOn.of_below hb (fun c hm => by have h := HN2.out.2 c hm; omega)) HQ2_2.out)
  have HY_2 := Lib.hid (HY_1.out.later hb)
  have HG_1 := Lib.hid (KidsOwn.later (SameOn.of_below hb (fun c hm => by have h := HGN.out.2 c hm; omega)) HG.out)
  clear HX_5 HB_5 HW_3 HQ1_2 HQ2_2 HY_1 HG
  clear hb
  go_wp2_with fail
  refine upto_begin (fun W => (StepBox W w4.heap.size n1 n2 n3 p t q0 q1 q2 q3 q4 q5 q6 q7) ∧ (StepBox W w.heap.size n1 n2 n3 p t s1 t1 k1 l1 s2 t2 k2 l2)) 5 (by kernel_rfl) ?_
  obtain ⟨u6, hu6⟩ : ∃ u6, u6 = w6.drew := ⟨_, rfl⟩
  rw [← hu6]
  have hb : Below w6.heap.size w6 u6 := by rw [hu6]; exact (Below.refl _ _).drew
  have hsu : w6.heap.size ≤ u6.heap.size := hb.size
  have HX_7 := Lib.hid (HX_6.out.later hb)
  have HB_7 := Lib.hid (HB_6.out.trans (hb.mono (by omega)))
  have HW_5 := Lib.hid (FormsIn.later (Same.of_below hb (fun k (hk : k < w3.heap.size) => by omega)) HW_4.out)
  have HQ1_4 := Lib.hid (OwnV.later _ _ _ (SameOn.of_below hb (fun c hm => by have h := HN1.out.2 c hm; omega)) HQ1_3.out)
  have HQ2_4 := Lib.hid (OwnV.later _ _ _ (SameOn.of_below hb (fun c hm => by have h := HN2.out.2 c hm; omega)) HQ2_3.out)
  have HY_3 := Lib.hid (HY_2.out.later hb)
  have HG_2 := Lib.hid (KidsOwn.later (SameOn.of_below hb (fun c hm => by have h := HGN.out.2 c hm; omega)) HG_1.out)
  clear HX_6 HB_6 HW_4 HQ1_3 HQ2_3 HY_2 HG_1
  clear hb hu6
  have hS : (fun W => (StepBox W w4.heap.size n1 n2 n3 p t q0 q1 q2 q3 q4 q5 q6 q7) ∧ (StepBox W w.heap.size n1 n2 n3 p t s1 t1 k1 l1 s2 t2 k2 l2)) u6 := ⟨HY_3.out, HX_7.out⟩
  refine upto_take (i := 0) (d := some 27) (v := ?_) rfl rfl (by kernel_rfl) (by kernel_rfl) (by kernel_rfl) (by kernel_rfl) (fun _ _ _ h => h) (Or.inl ⟨by rfl, ?_⟩) hS ?_
  rotate_left
  · (intro wS hSw; obtain ⟨⟨m0, m1, m2, m3, m4, m5, m6, m7, m8, m9, m10, m11, m12⟩, ⟨n'0, n'1, n'2, n'3, n'4, n'5, n'6, n'7, n'8, n'9, n'10, n'11, n'12⟩⟩ := hSw; go_simp; try with_reducible rfl)
  try simp only [Act.put, List.setIfInBounds_toArray, List.set_cons_zero, List.set_cons_succ]
  refine upto_take (i := 1) (d := some 28) (v := ?_) rfl rfl (by kernel_rfl) (by kernel_rfl) (by kernel_rfl) (by kernel_rfl) (fun _ _ _ h => h) (Or.inl ⟨by rfl, ?_⟩) hS ?_
  rotate_left
  · (intro wS hSw; obtain ⟨⟨m0, m1, m2, m3, m4, m5, m6, m7, m8, m9, m10, m11, m12⟩, ⟨n'0, n'1, n'2, n'3, n'4, n'5, n'6, n'7, n'8, n'9, n'10, n'11, n'12⟩⟩ := hSw; go_simp; try with_reducible rfl)
  try simp only [Act.put, List.setIfInBounds_toArray, List.set_cons_zero, List.set_cons_succ]
  clear hS
  refine upto_one (i := 2) (by kernel_rfl) rfl (fun K hK => ?_)
  go_simp
  refine (toStep_any w.heap.size n1 n2 n3 p t _ u6 (by omega) (HV.out.later (same_below HB_7.out)) HSF.out).mono ?_
  rintro e w7 ⟨r0, r1, r2, r3, r4, r5, r6, r7, b1r, b2r, rfl, ho1, ho2, hn, hpl, hb⟩
  have hs7 : u6.heap.size ≤ w7.heap.size := hb.size
  have HX_8 := Lib.hid (HX_7.out.later hb)
  have HB_8 := Lib.hid (HB_7.out.trans (hb.mono (by omega)))
  have HW_6 := Lib.hid (FormsIn.later (Same.of_below hb (fun k (hk : k < w3.heap.size) => by omega)) HW_5.out)
  have HQ1_5 := Lib.hid (OwnV.later _ _ _ (SameOn.of_below hb (fun c hm => by have h := HN1.out.2 c hm; omega)) HQ1_4.out)
  have HQ2_5 := Lib.hid (OwnV.later _ _ _ (SameOn.of_below hb (fun c hm => by have h := HN2.out.2 c hm; omega)) HQ2_4.out)
  have HY_4 := Lib.hid (HY_3.out.later hb)
  have HG_3 := Lib.hid (KidsOwn.later (SameOn.of_below hb (fun c hm => by have h := HGN.out.2 c hm; omega)) HG_2.out)
  clear HX_7 HB_7 HW_5 HQ1_4 HQ2_4 HY_3 HG_2
  have HT := Lib.hid (⟨r0, r1, r2, r3, r4, r5, r6, r7, rfl, HBD.out, OwnV.inV (φ := (· < w7.heap.size)) p _ b1r (fun c hc => (hn.2 c (List.mem_append_left _ hc)).2) ho1, OwnV.inV (φ := (· < w7.heap.size)) t _ b2r (fun c hc => (hn.2 c (List.mem_append_right _ hc)).2) ho2⟩ : StIn (· < w7.heap.size) w7 n1 n2 n3 p t (.agg #[.int .i64 n1, .int .i64 n2, .int .i64 n3, .int .i64 p.kind, .string p.name, .int .i64 p.n, .slice r0 p.scopes.length r1, .slice r2 p.kids.length r3, .int .i64 t.kind, .string t.name, .int .i64 t.n, .slice r4 t.scopes.length r5, .slice r6 t.kids.length r7]))
  clear ho1 ho2 hn hpl hb
  refine hK.out _ _ (.inr ⟨HY_4.out, HX_8.out⟩) ?_
  clear hK K
  refine upto_one (i := 3) (by kernel_rfl) rfl (fun K hK => ?_)
  go_simp
  have hQS : StIn (· < w7.heap.size) w7 n1 n2 n3 p t (.agg #[.int .i64 n1, .int .i64 n2, .int .i64 n3, .int .i64 p.kind, .string p.name, .int .i64 p.n, .slice q0 p.scopes.length q1, .slice q2 p.kids.length q3, .int .i64 t.kind, .string t.name, .int .i64 t.n, .slice q4 t.scopes.length q5, .slice q6 t.kids.length q7]) := ⟨q0, q1, q2, q3, q4, q5, q6, q7, rfl, HBD.out, OwnV.inV (φ := (· < w7.heap.size)) p _ b1q (fun c hc => by have := (HN1.out.2 c hc).2; omega) HQ1_5.out, OwnV.inV (φ := (· < w7.heap.size)) t _ b2q (fun c hc => by have := (HN2.out.2 c hc).2; omega) HQ2_5.out⟩
  refine (eqStep_any w7.heap.size n1 n2 n3 p t _ _ _ (Nat.le_refl _) hQS HT.out).mono ?_
  rintro e w8 ⟨rfl, hb⟩
  have hs8 : w7.heap.size ≤ w8.heap.size := hb.size
  have HX_9 := Lib.hid (HX_8.out.later hb)
  have HB_9 := Lib.hid (HB_8.out.trans (hb.mono (by omega)))
  have HW_7 := Lib.hid (FormsIn.later (Same.of_below hb (fun k (hk : k < w3.heap.size) => by omega)) HW_6.out)
  have HQ1_6 := Lib.hid (OwnV.later _ _ _ (SameOn.of_below hb (fun c hm => by have h := HN1.out.2 c hm; omega)) HQ1_5.out)
  have HQ2_6 := Lib.hid (OwnV.later _ _ _ (SameOn.of_below hb (fun c hm => by have h := HN2.out.2 c hm; omega)) HQ2_5.out)
  have HY_5 := Lib.hid (HY_4.out.later hb)
  have HG_4 := Lib.hid (KidsOwn.later (SameOn.of_below hb (fun c hm => by have h := HGN.out.2 c hm; omega)) HG_3.out)
  clear HX_8 HB_8 HW_6 HQ1_5 HQ2_5 HY_4 HG_3
  clear hb HT hQS
  refine hK.out _ _ (.inr ⟨HY_5.out, HX_9.out⟩) ?_
  clear hK K
  refine upto_one (i := 4) (by kernel_rfl) rfl (fun K hK => ?_)
  go_simp
  refine hK.out _ _ (.inr ⟨HY_5.out, HX_9.out⟩) ?_
  clear hK K
  refine upto_done (by kernel_rfl) ?_ _
  obtain ⟨y0, y1, y2, y3, y4, y5, y6, y7, y8, y9, y10, y11, y12⟩ := HY_5.out
  go_wp2_with fail
  refine (markStep_any n1 n2 n3 p t _ _ _ _ _ _ _ _ b1q b2q 1 w8 HQ1_6.out HQ2_6.out HNN.out.1 (fun c hc => by have := (HNN.out.2 c hc).2; omega) (by omega) (by have := HM1.out; have := HM2.out; omega)).mono ?_
  rintro e w9 ⟨rfl, ho⟩
  have hs9 := ho.size
  clear y0 y1 y2 y3 y4 y5 y6 y7 y8 y9 y10 y11 y12
  have HX_10 := Lib.hid (HX_9.out.only ho (fun hm => by have h := HNN.out.2 _ hm; omega))
  have HB_10 := Lib.hid (HB_9.out.trans (ho.below (fun c hm => by have h := HNN.out.2 c hm; omega) (by omega)))
  have HW_8 := Lib.hid (FormsIn.later (ho.same (fun k (hk : k < w3.heap.size) => ⟨by omega, fun hm => by have h := HNN.out.2 _ hm; omega⟩)) HW_7.out)
  have HG_5 := Lib.hid (KidsOwn.later (ho.sameOn (fun c hc => ⟨by have h := HGN.out.2 c hc; omega, fun hm => by have h1 := HNN.out.2 _ hm; have h2 := HGN.out.2 c hc; omega⟩)) HG_4.out)
  clear HX_9 HB_9 HW_7 HG_4
  clear ho
  have hk1 : ¬ ((1 : Int) + p.marks + t.marks < 0) := by omega
  go_wp2_with fail
  refine (eqFormS_row w5.heap.size R ga wa gc wcap w9 (by omega) (KidsOwn.readsS HG_5.out (φ := (· < w5.heap.size)) (fun b hb => (HGN.out.2 b hb).2)) (FormsIn.mono (fun k (hk : k < w3.heap.size) => by show k < w5.heap.size; omega) HW_8.out)).mono ?_
  rintro e w10 ⟨rfl, hb⟩
  have hs10 : w9.heap.size ≤ w10.heap.size := hb.size
  have HX_11 := Lib.hid (HX_10.out.later hb)
  have HB_11 := Lib.hid (HB_10.out.trans (hb.mono (by omega)))
  have HW_9 := Lib.hid (FormsIn.later (Same.of_below hb (fun k (hk : k < w3.heap.size) => by omega)) HW_8.out)
  have HG_6 := Lib.hid (KidsOwn.later (SameOn.of_below hb (fun c hm => by have h := HGN.out.2 c hm; omega)) HG_5.out)
  clear HX_10 HB_10 HW_8 HG_5
  clear hb
  go_wp2_with fail
  refine (markFormS_any R ga gc bg 1 w10 HG_6.out HGN.out.1 (fun c hm => by have := (HGN.out.2 c hm).2; omega) (by omega) (by have := HRM.out; omega)).mono ?_
  rintro e w11 ⟨rfl, hmg, ho⟩
  have hs11 := ho.size
  have HX_12 := Lib.hid (HX_11.out.only ho (fun hm => by have h := HGN.out.2 _ hm; omega))
  have HB_12 := Lib.hid (HB_11.out.trans (ho.below (fun c hm => by have h := HGN.out.2 c hm; omega) (by omega)))
  have HW_10 := Lib.hid (FormsIn.later (ho.same (fun k (hk : k < w3.heap.size) => ⟨by omega, fun hm => by have h := HGN.out.2 _ hm; omega⟩)) HW_9.out)
  clear HX_11 HB_11 HW_9
  have HG2 := Lib.hid hmg
  clear hmg ho
  go_wp2_with fail
  refine (heldFormS_any R w5.heap.size ga gc 1 w11 (by omega) (by have h := (HG2.out).1; rw [markedAll_length] at h; exact h) (HG2.out).2.1 (KidsOwn.readsS HG2.out (φ := (· < w5.heap.size)) (fun b hb => (HGN.out.2 b hb).2)).2.2 (by omega) (by have := HRM.out; omega)).mono ?_
  rintro e w12 ⟨rfl, hb⟩
  have hs12 : w11.heap.size ≤ w12.heap.size := hb.size
  have HX_13 := Lib.hid (HX_12.out.later hb)
  have HB_13 := Lib.hid (HB_12.out.trans (hb.mono (by omega)))
  have HW_11 := Lib.hid (FormsIn.later (Same.of_below hb (fun k (hk : k < w3.heap.size) => by omega)) HW_10.out)
  have HG2_1 := Lib.hid (KidsOwn.later (SameOn.of_below hb (fun c hm => by have h := HGN.out.2 c hm; omega)) HG2.out)
  clear HX_12 HB_12 HW_10 HG2
  clear hb
  have hq0 : ¬ ((1 : Int) + marksAll R < 0) := by omega
  have hqq : (((1 : Int) + marksAll R) != (1 + marksAll R)) = false := by simp
  obtain ⟨x0, x1, x2, x3, x4, x5, x6, x7, x8, x9, x10, x11, x12⟩ := HX_13.out
  go_wp2_with fail
  refine (toStep_any w.heap.size n1 n2 n3 p t _ w12 (by omega) (HV.out.later (same_below HB_13.out)) HSF.out).mono ?_
  rintro e w13 ⟨a0, a1, a2, a3, a4, a5, a6, a7, b1a, b2a, rfl, ho1, ho2, hn, hpl, hb⟩
  have hs13 : w12.heap.size ≤ w13.heap.size := hb.size
  have HX_14 := Lib.hid (HX_13.out.later hb)
  have HB_14 := Lib.hid (HB_13.out.trans (hb.mono (by omega)))
  have HW_12 := Lib.hid (FormsIn.later (Same.of_below hb (fun k (hk : k < w3.heap.size) => by omega)) HW_11.out)
  have HG2_2 := Lib.hid (KidsOwn.later (SameOn.of_below hb (fun c hm => by have h := HGN.out.2 c hm; omega)) HG2_1.out)
  clear HX_13 HB_13 HW_11 HG2_1
  have HPA := Lib.hid (OwnV.inV (φ := Pl w13.heap.size w13) t _ b2a (fun c hc => ⟨(hn.2 c (List.mem_append_right _ hc)).2, hpl c (List.mem_append_right _ hc)⟩) ho2)
  clear ho1 ho2 hn hpl hb x0 x1 x2 x3 x4 x5 x6 x7 x8 x9 x10 x11 x12
  go_wp2_with fail
  refine (implIntro_any n1 n2 n3 p t _ _ _ _ _ _ _ _ w13 HPA.out hst).mono ?_
  rintro e w14 ⟨ha, hc, bh, rfl, hho, hhn, hb⟩
  rw [HRR.out] at hho ⊢
  have hs14 : w13.heap.size ≤ w14.heap.size := hb.size
  have HX_15 := Lib.hid (HX_14.out.later hb)
  have HB_15 := Lib.hid (HB_14.out.trans (hb.mono (by omega)))
  have HW_13 := Lib.hid (FormsIn.later (Same.of_below hb (fun k (hk : k < w3.heap.size) => by omega)) HW_12.out)
  have HG2_3 := Lib.hid (KidsOwn.later (SameOn.of_below hb (fun c hm => by have h := HGN.out.2 c hm; omega)) HG2_2.out)
  clear HX_14 HB_14 HW_12 HG2_2
  have HH := Lib.hid (KidsOwn.readsS hho (φ := (· < w14.heap.size)) (fun b hb => (hhn.2 b hb).2))
  clear hho hhn hb HPA
  go_wp2_with fail
  refine (eqFormS_row w14.heap.size R ha wa hc wcap w14 (Nat.le_refl _) HH.out (FormsIn.mono (fun k (hk : k < w3.heap.size) => by show k < w14.heap.size; omega) HW_13.out)).mono ?_
  rintro e w15 ⟨rfl, hb⟩
  have hs15 : w14.heap.size ≤ w15.heap.size := hb.size
  have HX_16 := Lib.hid (HX_15.out.later hb)
  have HB_16 := Lib.hid (HB_15.out.trans (hb.mono (by omega)))
  have HW_14 := Lib.hid (FormsIn.later (Same.of_below hb (fun k (hk : k < w3.heap.size) => by omega)) HW_13.out)
  have HG2_4 := Lib.hid (KidsOwn.later (SameOn.of_below hb (fun c hm => by have h := HGN.out.2 c hm; omega)) HG2_3.out)
  clear HX_15 HB_15 HW_13 HG2_3
  clear hb HH
  go_wp2_with fail
  refine (heldFormS_any R w5.heap.size ga gc 1 w15 (by omega) (by have h := (HG2_4.out).1; rw [markedAll_length] at h; exact h) (HG2_4.out).2.1 (KidsOwn.readsS HG2_4.out (φ := (· < w5.heap.size)) (fun b hb => (HGN.out.2 b hb).2)).2.2 (by omega) (by have := HRM.out; omega)).mono ?_
  rintro e w16 ⟨rfl, hb⟩
  have hs16 : w15.heap.size ≤ w16.heap.size := hb.size
  have HX_17 := Lib.hid (HX_16.out.later hb)
  have HB_17 := Lib.hid (HB_16.out.trans (hb.mono (by omega)))
  have HW_15 := Lib.hid (FormsIn.later (Same.of_below hb (fun k (hk : k < w3.heap.size) => by omega)) HW_14.out)
  have HG2_5 := Lib.hid (KidsOwn.later (SameOn.of_below hb (fun c hm => by have h := HGN.out.2 c hm; omega)) HG2_4.out)
  clear HX_16 HB_16 HW_14 HG2_4
  clear hb
  go_wp2_with fail
  go_ret
  exact ⟨rfl, HB_17.out⟩
theorem own : ownKnob Try.prog.godebug = none := by kernel_rfl
theorem laidOut : laidOutB Try.prog = true := by kernel_rfl
set_option maxRecDepth 100000 in
theorem lifted (os : Os) (started : os.Started) (H : Type) (enc : TypeId × Value → H) :
    ReturnsInHanded {} Try.checked os 12 .any (Rows.fnExactIntroducedNamesSpec.pre6 enc Try.prog Try.f12 Rows.fnExactIntroducedNamesRow.domain false) (Rows.fnExactIntroducedNamesSpec.post enc Try.prog Try.f12 false true false false) := by
  refine returnsInHanded_of_change (C := Try.checked) own started (by kernel_rfl) Try.func12
    (ChangeSpec.witness6 (enc := enc) (C := Try.checked) false ⟨#[], #[.agg #[.int .i64 0, .int .i64 0, .int .i64 0, .int .i64 0, .string ByteArray.empty, .int .i64 0, .slice none 0 0, .slice none 0 0, .int .i64 0, .string ByteArray.empty, .int .i64 0, .slice none 0 0, .slice none 0 0]], []⟩ 12 (by kernel_rfl) (by kernel_rfl) (by kernel_rfl) (by kernel_rfl)) ?_
  intro W base args ds gs before hval0 hW hcnd _
  have hval : ∀ (j : Nat) t v, Try.f12.params[j]? = some t → args[j]? = some v → Value.okWide Try.prog W .any base t v := hval0
  have hW' := hW
  obtain ⟨p, q, hA0, hV, rfl, hfz, hnd⟩ := hW
  have hA : DataW.TrodAll enc Try.prog W 0 (fun _ => true) true Try.f12.params.toList args.toList ds p := hA0
  rw [Try.params12] at hA hval
  obtain ⟨v0, vs0, d0, ds0, p0, q0, hargs, rfl, rfl, h0, r0⟩ := trodAll_cons hA
  obtain ⟨rfl, rfl, rfl⟩ := trodAll_nil r0
  obtain rfl : args = #[v0] := by cases args; simp_all
  obtain ⟨rfl, rfl⟩ := trodVars_none hV
  have k0 := h0
  have lt0 : ∀ x ∈ p0, x.block < W.heap.size := by obtain ⟨m, hm⟩ := k0; exact DataW.trod_lt m _ _ _ hm
  obtain ⟨x0', y0', z0', p0', t0', i0⟩ := open_step_arg (hval 0 90 v0 rfl rfl) h0
  clear hA0 hval0
  try simp only [List.append_nil] at hW'
  refine (walk W x0' y0' z0' p0' t0' v0 i0).mono fun e W' ⟨he, bel⟩ => ?_
  subst he
  exact ⟨_, rfl, _, _, _, [], _, [], hW', trodAll_mk1 (shut_bool Try.underlying4 _), (trodAll_cons_mk (Below.trod laidOut (by kernel_rfl) (of_decide_eq_true (by kernel_rfl)) k0 bel lt0) trodAll_mk0), rfl, bel.frame _, fun h => by cases h⟩
theorem over_named : Try.pinned.checked.prog.funcNamed Rows.fnExactIntroducedNamesRow.func = some 12 := by kernel_rfl
theorem c_inPlace : (Rows.fnExactIntroducedNamesRow.inPlace == Try.pinned.checked.prog.inPlace 12) = true := by kernel_rfl
theorem c_unfollowed : (Rows.fnExactIntroducedNamesRow.unfollowed == Try.pinned.checked.prog.unfollowed 12) = true := by kernel_rfl
theorem c_recurses : (Rows.fnExactIntroducedNamesRow.recurses == Try.pinned.checked.prog.recurses 12) = true := by kernel_rfl
theorem c_named : (Rows.fnExactIntroducedNamesRow.named == Try.pinned.checked.prog.varsNamed 12) = true := by kernel_rfl
theorem over_closed : joinedFacts Try.pinned.checked.prog 12 Try.f12 Rows.fnExactIntroducedNamesSpec Rows.fnExactIntroducedNamesRow = true := by
  unfold joinedFacts
  exact Facts.band (Facts.band (Facts.band (Facts.band (Facts.band (Facts.band (Facts.band (Facts.band (Facts.band (Facts.band (Facts.band (Facts.band (Facts.band (Facts.band (Facts.band (Facts.band (Facts.band (Facts.band (Facts.band (Facts.band (Facts.band (Facts.band (Facts.band (Facts.band (Facts.band (Facts.band (Facts.band (Facts.band (Facts.band (Facts.band (Facts.band (by kernel_rfl) Facts.laid) Facts.rowed) (by kernel_rfl)) (by kernel_rfl)) (by kernel_rfl)) Facts.stops) (by kernel_rfl)) Facts.knobs) c_inPlace) c_unfollowed) c_recurses) c_named) (by kernel_rfl)) (by kernel_rfl)) (by kernel_rfl)) (by kernel_rfl)) (by kernel_rfl)) (by kernel_rfl)) (by kernel_rfl)) (by kernel_rfl)) (by kernel_rfl)) (by rw [Facts.plain]; kernel_rfl)) (by kernel_rfl)) Facts.heard) Facts.enter) (by rw [Facts.lifts]; kernel_rfl)) (by rw [Facts.made]; kernel_rfl)) (by kernel_rfl)) (by kernel_rfl)) (by kernel_rfl)) (by kernel_rfl)
theorem over_inst : Func.isInstance Try.pinned.checked.prog Try.f12 Rows.fnExactIntroducedNamesRow.origin Rows.fnExactIntroducedNamesRow.targs := of_decide_eq_true (by kernel_rfl)
theorem over_wrap : Func.isWrapper Try.pinned.checked.prog Try.f12 Rows.fnExactIntroducedNamesRow.wrapper Rows.fnExactIntroducedNamesRow.mainSum := (by unfold Func.isWrapper; first | (rw [if_pos (by decide +kernel)]; kernel_rfl) | (rw [if_neg (by decide +kernel)]; exact ⟨rfl, rfl⟩))
theorem over : Rows.fnExactIntroducedNamesRow.holds Try.pinned (OpenSpec.ofChange Rows.fnExactIntroducedNamesSpec) :=
  OpenClaim.holds_of_wide 12 Try.f12 rfl rfl rfl rfl rfl rfl rfl ⟨rfl, rfl, rfl, rfl, rfl⟩ rfl rfl rfl rfl rfl over_named Try.func12 over_closed over_inst over_wrap
    (fun os started H enc _ => lifted os started H enc)
theorem proved : Rows.FnExactIntroducedNamesSaid := over
end Go.Proofs.Ytbclgmabidjegaa.exIntroducedNames
