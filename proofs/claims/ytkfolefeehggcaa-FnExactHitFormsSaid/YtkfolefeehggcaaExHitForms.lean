/- For every hit, valid or not, the two lists of forms agree, the program's leaves its argument as it was and shares no memory: the law FnExactHitForms returns true, whatever the input, with no condition beyond the statement's own. -/
import Derived.Test.YtkfolefeehggcaaRows
import Derived.Test.YtkfolefeehggcaaFacts
import Derived.Test.YtkfolefeehggcaaHitKit
import Derived.Test.YtkfolefeehggcaaFormsS
import Derived.Test.YtkfolefeehggcaaImplHitForms
import Derived.Test.YtkfolefeehggcaaMarkHit
import Derived.Test.YtkfolefeehggcaaMark2
import Derived.Deep.RegionWith
namespace Go.Proofs.Ytkfolefeehggcaa.exHitForms
open Go.ChangeShapes Go.WideShapes Go.ChangeAt Go.RowKit
open Go.ChangeMaps (open_string shut_string)
set_option linter.unusedVariables false
set_option linter.unusedSimpArgs false
theorem hforms_sz (h : Ht) : szAll (hformsB h) ≤ h.sz + 1 := by
  unfold hformsB
  split
  · exact h.forms_sz
  · simp [szAll]
set_option maxRecDepth 100000 in
set_option maxHeartbeats 8000000 in
theorem walk (w : World) (f : Ht) (v : Value) (hv : InH (· < w.heap.size) w f v) :
    Calls Try.prog 5 #[v] w fun e w' => e = .returned (.bool true) ∧ Below w.heap.size w w' := by
  obtain ⟨x, rfl, rfl, hx⟩ := HItem.of hv
  have HV := Lib.hid hx
  clear hv hx
  rw [HItem.val_eq]
  go_enter Try.func5, Try.ntmps5
  go_wp2_with fail
  refine (szHit_any w.heap.size x.f _ _ 1048576 (by simp) (InH.later (same_below ((Below.refl _ w).alloc (Nat.le_refl _) _)) _ _ HV.out) (by omega)).mono ?_
  rintro e w1 ⟨rfl, hb1⟩
  have hs1 : w.heap.size < w1.heap.size := by have := hb1.size; simp at this; omega
  have HX := Lib.hid ((HBox.fresh w x 49).later hb1)
  have HB : Hid (Below w.heap.size w w1) := (below_alloc w _).trans (hb1.mono (by simp))
  clear hb1
  rcases leftS2 x.f.sz with hl | ⟨hsf, hl⟩
  · go_wp2_with fail
    go_ret
    exact ⟨rfl, HB.out⟩
  rw [hl]
  clear hl
  have hp1 : 0 ≤ (1048576 : Int) - x.f.sz := by omega
  obtain ⟨R, hR⟩ : ∃ R, hformsB x.f = R := ⟨_, rfl⟩
  have hRl := hforms_sz x.f
  rw [hR] at hRl
  have HRM : Hid (marksAll R ≤ 3145731) := by have := marksAll_szS R; unfold Hid; omega
  have HRR := Lib.hid hR
  have HM1 : Hid (x.f.marks ≤ 7340032) := by have := x.f.marks_sz; unfold Hid; omega
  clear hR
  obtain ⟨x0, x1, x2, x3, x4, x5, x6, x7, x8, x9, x10, x11⟩ := HX.out
  go_wp2_with fail
  refine (toHit_any w.heap.size x.f _ w1 (by omega) (InH.later (w := w) (w' := w1) (same_below HB.out) _ _ HV.out) hsf).mono ?_
  rintro e w2 ⟨p0, p1, p2, p3, p4, p5, p6, p7, p8, p9, bs2, rfl, ho, hn, hpl, hb⟩
  have hs2 : w1.heap.size ≤ w2.heap.size := hb.size
  have HX_1 := Lib.hid (HX.out.later hb)
  have HB_1 := Lib.hid (HB.out.trans (hb.mono (by omega)))
  clear HX HB
  have HP := Lib.hid (OwnH.inH (φ := (· < w2.heap.size)) x.f _ bs2 (fun c hc => (hn.2 c hc).2) ho)
  clear ho hn hpl hb x0 x1 x2 x3 x4 x5 x6 x7 x8 x9 x10 x11
  go_wp2_with fail
  refine (specHitForms_any w2.heap.size x.f _ w2 (Nat.le_refl _) HP.out hsf).mono ?_
  rintro e w3 ⟨wa, wcap, rfl, hr, hb⟩
  rw [HRR.out] at hr ⊢
  have hs3 : w2.heap.size ≤ w3.heap.size := hb.size
  have HX_2 := Lib.hid (HX_1.out.later hb)
  have HB_2 := Lib.hid (HB_1.out.trans (hb.mono (by omega)))
  clear HX_1 HB_1
  have HW := Lib.hid hr
  clear hr hb HP
  obtain ⟨x0, x1, x2, x3, x4, x5, x6, x7, x8, x9, x10, x11⟩ := HX_2.out
  go_wp2_with fail
  refine (toHit_any w.heap.size x.f _ w3 (by omega) (InH.later (w := w) (w' := w3) (same_below HB_2.out) _ _ HV.out) hsf).mono ?_
  rintro e w4 ⟨q0, q1, q2, q3, q4, q5, q6, q7, q8, q9, bs4, rfl, ho, hn, hpl, hb⟩
  have hs4 : w3.heap.size ≤ w4.heap.size := hb.size
  have HX_3 := Lib.hid (HX_2.out.later hb)
  have HB_3 := Lib.hid (HB_2.out.trans (hb.mono (by omega)))
  have HW_1 := Lib.hid (FormsIn.later (Same.of_below hb (fun k (hk : k < w3.heap.size) => by omega)) HW.out)
  clear HX_2 HB_2 HW
  have HQP := Lib.hid (OwnH.inH (φ := Pl w4.heap.size w4) x.f _ bs4 (fun c hc => ⟨(hn.2 c hc).2, hpl c hc⟩) ho)
  have HZ := Lib.hid ho
  have HZN := Lib.hid hn
  clear ho hn hpl hb x0 x1 x2 x3 x4 x5 x6 x7 x8 x9 x10 x11
  obtain ⟨v4, hv4⟩ : ∃ v4, v4 = (w4.alloc (.cells #[.int .i64 x.f.name.kind, .string x.f.name.name, .int .i64 x.f.name.n, .slice q0 x.f.name.scopes.length q1, .slice q2 x.f.name.kids.length q3, .int .i64 x.f.depth, .int .i64 x.f.one.kind, .string x.f.one.name, .int .i64 x.f.one.n, .slice q4 x.f.one.scopes.length q5, .slice q6 x.f.one.kids.length q7, .slice q8 x.f.many.length q9] 38)) := ⟨_, rfl⟩
  have hb : Below w4.heap.size w4 v4 := by rw [hv4]; exact below_alloc w4 _
  have hsv : w4.heap.size + 1 ≤ v4.heap.size := by rw [hv4]; simp
  have HX_4 := Lib.hid (HX_3.out.later hb)
  have HB_4 := Lib.hid (HB_3.out.trans (hb.mono (by omega)))
  have HW_2 := Lib.hid (FormsIn.later (Same.of_below hb (fun k (hk : k < w3.heap.size) => by omega)) HW_1.out)
  have HZ_1 := Lib.hid (OwnH.later _ _ _ (SameOn.of_below hb (fun c hm => by have h := HZN.out.2 c hm; omega)) HZ.out)
  clear HX_3 HB_3 HW_1 HZ
  have HY : Hid (HBox v4 w4.heap.size ⟨x.f, q0, q1, q2, q3, q4, q5, q6, q7, q8, q9⟩) := by unfold Hid; rw [hv4]; exact HBox.fresh w4 ⟨x.f, q0, q1, q2, q3, q4, q5, q6, q7, q8, q9⟩ _
  have HQP4 := Lib.hid (InH.pl hb HQP.out)
  have HV4 := Lib.hid hv4
  clear hv4 hb HQP
  go_wp2_with fail
  rw [← HV4.out]
  clear HV4
  obtain ⟨y0, y1, y2, y3, y4, y5, y6, y7, y8, y9, y10, y11⟩ := HY.out
  go_wp2_with fail
  refine (implHitForms_any x.f _ v4 HQP4.out hsf).mono ?_
  rintro e w5 ⟨ga, gc, bg, rfl, hgo, hgn, hb⟩
  rw [HRR.out] at hgo ⊢
  have hs5 : v4.heap.size ≤ w5.heap.size := hb.size
  have HX_5 := Lib.hid (HX_4.out.later hb)
  have HB_5 := Lib.hid (HB_4.out.trans (hb.mono (by omega)))
  have HW_3 := Lib.hid (FormsIn.later (Same.of_below hb (fun k (hk : k < w3.heap.size) => by omega)) HW_2.out)
  have HZ_2 := Lib.hid (OwnH.later _ _ _ (SameOn.of_below hb (fun c hm => by have h := HZN.out.2 c hm; omega)) HZ_1.out)
  have HY_1 := Lib.hid (HY.out.later hb)
  clear HX_4 HB_4 HW_2 HZ_1 HY
  have HG := Lib.hid hgo
  have HGN := Lib.hid hgn
  clear hgo hgn hb HQP4 y0 y1 y2 y3 y4 y5 y6 y7 y8 y9 y10 y11
  go_wp2_with fail
  refine (eqFormS_row w5.heap.size R ga wa gc wcap w5 (by omega) (KidsOwn.readsS HG.out (φ := (· < w5.heap.size)) (fun b hb => (HGN.out.2 b hb).2)) (FormsIn.mono (fun k (hk : k < w3.heap.size) => by show k < w5.heap.size; omega) HW_3.out)).mono ?_
  rintro e w6 ⟨rfl, hb⟩
  have hs6 : w5.heap.size ≤ w6.heap.size := hb.size
  have HX_6 := Lib.hid (HX_5.out.later hb)
  have HB_6 := Lib.hid (HB_5.out.trans (hb.mono (by omega)))
  have HW_4 := Lib.hid (FormsIn.later (Same.of_below hb (fun k (hk : k < w3.heap.size) => by omega)) HW_3.out)
  have HZ_3 := Lib.hid (OwnH.later _ _ _ (SameOn.of_below hb (fun c hm => by have h := HZN.out.2 c hm; omega)) HZ_2.out)
  have HY_2 := Lib.hid (HY_1.out.later hb)
  have HG_1 := Lib.hid (KidsOwn.later (SameOn.of_below hb (fun c hm => by have h := HGN.out.2 c hm; omega)) HG.out)
  clear HX_5 HB_5 HW_3 HZ_2 HY_1 HG
  clear hb
  go_wp2_with fail
  refine upto_begin (fun W => HBox W w4.heap.size ⟨x.f, q0, q1, q2, q3, q4, q5, q6, q7, q8, q9⟩ ∧ HBox W w.heap.size x) 5 (by kernel_rfl) ?_
  obtain ⟨u6, hu6⟩ : ∃ u6, u6 = w6.drew := ⟨_, rfl⟩
  rw [← hu6]
  have hb : Below w6.heap.size w6 u6 := by rw [hu6]; exact (Below.refl _ _).drew
  have hsu : w6.heap.size ≤ u6.heap.size := hb.size
  have HX_7 := Lib.hid (HX_6.out.later hb)
  have HB_7 := Lib.hid (HB_6.out.trans (hb.mono (by omega)))
  have HW_5 := Lib.hid (FormsIn.later (Same.of_below hb (fun k (hk : k < w3.heap.size) => by omega)) HW_4.out)
  have HZ_4 := Lib.hid (OwnH.later _ _ _ (SameOn.of_below hb (fun c hm => by have h := HZN.out.2 c hm; omega)) HZ_3.out)
  have HY_3 := Lib.hid (HY_2.out.later hb)
  have HG_2 := Lib.hid (KidsOwn.later (SameOn.of_below hb (fun c hm => by have h := HGN.out.2 c hm; omega)) HG_1.out)
  clear HX_6 HB_6 HW_4 HZ_3 HY_2 HG_1
  clear hb hu6
  have hS : (fun W => HBox W w4.heap.size ⟨x.f, q0, q1, q2, q3, q4, q5, q6, q7, q8, q9⟩ ∧ HBox W w.heap.size x) u6 := ⟨HY_3.out, HX_7.out⟩
  refine upto_take (i := 0) (d := some 27) (v := ?_) rfl rfl (by kernel_rfl) (by kernel_rfl) (by kernel_rfl) (by kernel_rfl) (fun _ _ _ h => h) (Or.inl ⟨by rfl, ?_⟩) hS ?_
  rotate_left
  · (intro wS hSw; obtain ⟨⟨m0, m1, m2, m3, m4, m5, m6, m7, m8, m9, m10, m11⟩, ⟨n0, n1, n2, n3, n4, n5, n6, n7, n8, n9, n10, n11⟩⟩ := hSw; go_simp; try with_reducible rfl)
  try simp only [Act.put, List.setIfInBounds_toArray, List.set_cons_zero, List.set_cons_succ]
  refine upto_take (i := 1) (d := some 28) (v := ?_) rfl rfl (by kernel_rfl) (by kernel_rfl) (by kernel_rfl) (by kernel_rfl) (fun _ _ _ h => h) (Or.inl ⟨by rfl, ?_⟩) hS ?_
  rotate_left
  · (intro wS hSw; obtain ⟨⟨m0, m1, m2, m3, m4, m5, m6, m7, m8, m9, m10, m11⟩, ⟨n0, n1, n2, n3, n4, n5, n6, n7, n8, n9, n10, n11⟩⟩ := hSw; go_simp; try with_reducible rfl)
  try simp only [Act.put, List.setIfInBounds_toArray, List.set_cons_zero, List.set_cons_succ]
  clear hS
  refine upto_one (i := 2) (by kernel_rfl) rfl (fun K hK => ?_)
  go_simp
  refine (toHit_any w.heap.size x.f _ u6 (by omega) (InH.later (w := w) (w' := u6) (same_below HB_7.out) _ _ HV.out) hsf).mono ?_
  rintro e w7 ⟨r0, r1, r2, r3, r4, r5, r6, r7, r8, r9, bs7, rfl, ho, hn, hpl, hb⟩
  have hs7 : u6.heap.size ≤ w7.heap.size := hb.size
  have HX_8 := Lib.hid (HX_7.out.later hb)
  have HB_8 := Lib.hid (HB_7.out.trans (hb.mono (by omega)))
  have HW_6 := Lib.hid (FormsIn.later (Same.of_below hb (fun k (hk : k < w3.heap.size) => by omega)) HW_5.out)
  have HZ_5 := Lib.hid (OwnH.later _ _ _ (SameOn.of_below hb (fun c hm => by have h := HZN.out.2 c hm; omega)) HZ_4.out)
  have HY_4 := Lib.hid (HY_3.out.later hb)
  have HG_3 := Lib.hid (KidsOwn.later (SameOn.of_below hb (fun c hm => by have h := HGN.out.2 c hm; omega)) HG_2.out)
  clear HX_7 HB_7 HW_5 HZ_4 HY_3 HG_2
  have HT := Lib.hid (OwnH.inH (φ := (· < w7.heap.size)) x.f _ bs7 (fun c hc => (hn.2 c hc).2) ho)
  clear ho hn hpl hb
  refine hK.out _ _ (.inr ⟨HY_4.out, HX_8.out⟩) ?_
  clear hK K
  refine upto_one (i := 3) (by kernel_rfl) rfl (fun K hK => ?_)
  go_simp
  refine (eqHit_any w7.heap.size x.f _ _ _ (Nat.le_refl _) (OwnH.inH (φ := (· < w7.heap.size)) x.f _ bs4 (fun c hm => by have := (HZN.out.2 c hm).2; omega) HZ_5.out) HT.out).mono ?_
  rintro e w8 ⟨rfl, hb⟩
  have hs8 : w7.heap.size ≤ w8.heap.size := hb.size
  have HX_9 := Lib.hid (HX_8.out.later hb)
  have HB_9 := Lib.hid (HB_8.out.trans (hb.mono (by omega)))
  have HW_7 := Lib.hid (FormsIn.later (Same.of_below hb (fun k (hk : k < w3.heap.size) => by omega)) HW_6.out)
  have HZ_6 := Lib.hid (OwnH.later _ _ _ (SameOn.of_below hb (fun c hm => by have h := HZN.out.2 c hm; omega)) HZ_5.out)
  have HY_5 := Lib.hid (HY_4.out.later hb)
  have HG_4 := Lib.hid (KidsOwn.later (SameOn.of_below hb (fun c hm => by have h := HGN.out.2 c hm; omega)) HG_3.out)
  clear HX_8 HB_8 HW_6 HZ_5 HY_4 HG_3
  clear hb HT
  refine hK.out _ _ (.inr ⟨HY_5.out, HX_9.out⟩) ?_
  clear hK K
  refine upto_one (i := 4) (by kernel_rfl) rfl (fun K hK => ?_)
  go_simp
  refine hK.out _ _ (.inr ⟨HY_5.out, HX_9.out⟩) ?_
  clear hK K
  refine upto_done (by kernel_rfl) ?_ _
  obtain ⟨y0, y1, y2, y3, y4, y5, y6, y7, y8, y9, y10, y11⟩ := HY_5.out
  go_wp2_with fail
  refine (markHit_any x.f _ bs4 1 w8 HZ_6.out HZN.out.1 (fun c hm => by have := (HZN.out.2 c hm).2; omega) (by omega) (by have := HM1.out; omega)).mono ?_
  rintro e w9 ⟨rfl, hmz, ho⟩
  have hs9 := ho.size
  clear hmz
  clear y0 y1 y2 y3 y4 y5 y6 y7 y8 y9 y10 y11
  have HX_10 := Lib.hid (HX_9.out.only ho (fun hm => by have h := HZN.out.2 _ hm; omega))
  have HB_10 := Lib.hid (HB_9.out.trans (ho.below (fun c hm => by have h := HZN.out.2 c hm; omega) (by omega)))
  have HW_8 := Lib.hid (FormsIn.later (ho.same (fun k (hk : k < w3.heap.size) => ⟨by omega, fun hm => by have h := HZN.out.2 _ hm; omega⟩)) HW_7.out)
  have HG_5 := Lib.hid (KidsOwn.later (ho.sameOn (fun c hc => ⟨by have h := HGN.out.2 c hc; omega, fun hm => by have h1 := HZN.out.2 _ hm; have h2 := HGN.out.2 c hc; omega⟩)) HG_4.out)
  clear HX_9 HB_9 HW_7 HG_4
  clear ho
  have hk1 : ¬ ((1 : Int) + x.f.marks < 0) := by omega
  go_wp2_with fail
  refine (eqFormS_row w5.heap.size R ga wa gc wcap w9 (by omega) (KidsOwn.readsS HG_5.out (φ := (· < w5.heap.size)) (fun b hb => (HGN.out.2 b hb).2)) (FormsIn.mono (fun k (hk : k < w3.heap.size) => by show k < w5.heap.size; omega) HW_8.out)).mono ?_
  rintro e w10 ⟨rfl, hb⟩
  have hs10 : w9.heap.size ≤ w10.heap.size := hb.size
  have HX_11 := Lib.hid (HX_10.out.later hb)
  have HB_11 := Lib.hid (HB_10.out.trans (hb.mono (by omega)))
  have HW_9 := Lib.hid (FormsIn.later (Same.of_below hb (fun k (hk : k < w3.heap.size) => by omega)) HW_8.out)
  have HG_6 := Lib.hid (KidsOwn.later (SameOn.of_below hb (fun c hm => by have h := HGN.out.2 c hm; omega)) HG_5.out)
  clear HX_10 HB_10 HW_8 HG_5
  clear hb
  go_wp2_with fail
  refine (markFormS_any R ga gc bg 1 w10 HG_6.out HGN.out.1 (fun c hm => by have := (HGN.out.2 c hm).2; omega) (by omega) (by have := HRM.out; omega)).mono ?_
  rintro e w11 ⟨rfl, hmg, ho⟩
  have hs11 := ho.size
  have HX_12 := Lib.hid (HX_11.out.only ho (fun hm => by have h := HGN.out.2 _ hm; omega))
  have HB_12 := Lib.hid (HB_11.out.trans (ho.below (fun c hm => by have h := HGN.out.2 c hm; omega) (by omega)))
  have HW_10 := Lib.hid (FormsIn.later (ho.same (fun k (hk : k < w3.heap.size) => ⟨by omega, fun hm => by have h := HGN.out.2 _ hm; omega⟩)) HW_9.out)
  clear HX_11 HB_11 HW_9
  have HG2 := Lib.hid hmg
  clear hmg ho
  go_wp2_with fail
  refine (heldFormS_any R w5.heap.size ga gc 1 w11 (by omega) (by have h := (HG2.out).1; rw [markedAll_length] at h; exact h) (HG2.out).2.1 (KidsOwn.readsS HG2.out (φ := (· < w5.heap.size)) (fun b hb => (HGN.out.2 b hb).2)).2.2 (by omega) (by have := HRM.out; omega)).mono ?_
  rintro e w12 ⟨rfl, hb⟩
  have hs12 : w11.heap.size ≤ w12.heap.size := hb.size
  have HX_13 := Lib.hid (HX_12.out.later hb)
  have HB_13 := Lib.hid (HB_12.out.trans (hb.mono (by omega)))
  have HW_11 := Lib.hid (FormsIn.later (Same.of_below hb (fun k (hk : k < w3.heap.size) => by omega)) HW_10.out)
  have HG2_1 := Lib.hid (KidsOwn.later (SameOn.of_below hb (fun c hm => by have h := HGN.out.2 c hm; omega)) HG2.out)
  clear HX_12 HB_12 HW_10 HG2
  clear hb
  have hq0 : ¬ ((1 : Int) + marksAll R < 0) := by omega
  have hqq : (((1 : Int) + marksAll R) != (1 + marksAll R)) = false := by simp
  obtain ⟨x0, x1, x2, x3, x4, x5, x6, x7, x8, x9, x10, x11⟩ := HX_13.out
  go_wp2_with fail
  refine (toHit_any w.heap.size x.f _ w12 (by omega) (InH.later (w := w) (w' := w12) (same_below HB_13.out) _ _ HV.out) hsf).mono ?_
  rintro e w13 ⟨p0, p1, p2, p3, p4, p5, p6, p7, p8, p9, bs13, rfl, ho, hn, hpl, hb⟩
  have hs13 : w12.heap.size ≤ w13.heap.size := hb.size
  have HX_14 := Lib.hid (HX_13.out.later hb)
  have HB_14 := Lib.hid (HB_13.out.trans (hb.mono (by omega)))
  have HW_12 := Lib.hid (FormsIn.later (Same.of_below hb (fun k (hk : k < w3.heap.size) => by omega)) HW_11.out)
  have HG2_2 := Lib.hid (KidsOwn.later (SameOn.of_below hb (fun c hm => by have h := HGN.out.2 c hm; omega)) HG2_1.out)
  clear HX_13 HB_13 HW_11 HG2_1
  have HQP := Lib.hid (OwnH.inH (φ := Pl w13.heap.size w13) x.f _ bs13 (fun c hc => ⟨(hn.2 c hc).2, hpl c hc⟩) ho)
  clear ho hn hpl hb x0 x1 x2 x3 x4 x5 x6 x7 x8 x9 x10 x11
  go_wp2_with fail
  refine (implHitForms_any x.f _ w13 HQP.out hsf).mono ?_
  rintro e w14 ⟨ha, hc, bh, rfl, hho, hhn, hb⟩
  rw [HRR.out] at hho ⊢
  have hs14 : w13.heap.size ≤ w14.heap.size := hb.size
  have HX_15 := Lib.hid (HX_14.out.later hb)
  have HB_15 := Lib.hid (HB_14.out.trans (hb.mono (by omega)))
  have HW_13 := Lib.hid (FormsIn.later (Same.of_below hb (fun k (hk : k < w3.heap.size) => by omega)) HW_12.out)
  have HG2_3 := Lib.hid (KidsOwn.later (SameOn.of_below hb (fun c hm => by have h := HGN.out.2 c hm; omega)) HG2_2.out)
  clear HX_14 HB_14 HW_12 HG2_2
  have HH := Lib.hid (KidsOwn.readsS hho (φ := (· < w14.heap.size)) (fun b hb => (hhn.2 b hb).2))
  clear hho hhn hb HQP
  go_wp2_with fail
  refine (eqFormS_row w14.heap.size R ha wa hc wcap w14 (Nat.le_refl _) HH.out (FormsIn.mono (fun k (hk : k < w3.heap.size) => by show k < w14.heap.size; omega) HW_13.out)).mono ?_
  rintro e w15 ⟨rfl, hb⟩
  have hs15 : w14.heap.size ≤ w15.heap.size := hb.size
  have HX_16 := Lib.hid (HX_15.out.later hb)
  have HB_16 := Lib.hid (HB_15.out.trans (hb.mono (by omega)))
  have HW_14 := Lib.hid (FormsIn.later (Same.of_below hb (fun k (hk : k < w3.heap.size) => by omega)) HW_13.out)
  have HG2_4 := Lib.hid (KidsOwn.later (SameOn.of_below hb (fun c hm => by have h := HGN.out.2 c hm; omega)) HG2_3.out)
  clear HX_15 HB_15 HW_13 HG2_3
  clear hb HH
  go_wp2_with fail
  refine (heldFormS_any R w5.heap.size ga gc 1 w15 (by omega) (by have h := (HG2_4.out).1; rw [markedAll_length] at h; exact h) (HG2_4.out).2.1 (KidsOwn.readsS HG2_4.out (φ := (· < w5.heap.size)) (fun b hb => (HGN.out.2 b hb).2)).2.2 (by omega) (by have := HRM.out; omega)).mono ?_
  rintro e w16 ⟨rfl, hb⟩
  have hs16 : w15.heap.size ≤ w16.heap.size := hb.size
  have HX_17 := Lib.hid (HX_16.out.later hb)
  have HB_17 := Lib.hid (HB_16.out.trans (hb.mono (by omega)))
  have HW_15 := Lib.hid (FormsIn.later (Same.of_below hb (fun k (hk : k < w3.heap.size) => by omega)) HW_14.out)
  have HG2_5 := Lib.hid (KidsOwn.later (SameOn.of_below hb (fun c hm => by have h := HGN.out.2 c hm; omega)) HG2_4.out)
  clear HX_16 HB_16 HW_14 HG2_4
  clear hb
  go_wp2_with fail
  go_ret
  exact ⟨rfl, HB_17.out⟩
theorem own : ownKnob Try.prog.godebug = none := by kernel_rfl
theorem laidOut : laidOutB Try.prog = true := by kernel_rfl
set_option maxRecDepth 100000 in
theorem lifted (os : Os) (started : os.Started) (H : Type) (enc : TypeId × Value → H) :
    ReturnsInHanded {} Try.checked os 5 .any (Rows.fnExactHitFormsSpec.pre6 enc Try.prog Try.f5 Rows.fnExactHitFormsRow.domain false) (Rows.fnExactHitFormsSpec.post enc Try.prog Try.f5 false true false false) := by
  refine returnsInHanded_of_change (C := Try.checked) own started (by kernel_rfl) Try.func5
    (ChangeSpec.witness6 (enc := enc) (C := Try.checked) false ⟨#[], #[.agg #[.int .i64 0, .string ByteArray.empty, .int .i64 0, .slice none 0 0, .slice none 0 0, .int .i64 0, .int .i64 0, .string ByteArray.empty, .int .i64 0, .slice none 0 0, .slice none 0 0, .slice none 0 0]], []⟩ 12 (by kernel_rfl) (by kernel_rfl) (by kernel_rfl) (by kernel_rfl)) ?_
  intro W base args ds gs before hval0 hW hcnd _
  have hval : ∀ (j : Nat) t v, Try.f5.params[j]? = some t → args[j]? = some v → Value.okWide Try.prog W .any base t v := hval0
  have hW' := hW
  obtain ⟨p, q, hA0, hV, rfl, hfz, hnd⟩ := hW
  have hA : DataW.TrodAll enc Try.prog W 0 (fun _ => true) true Try.f5.params.toList args.toList ds p := hA0
  rw [Try.params5] at hA hval
  obtain ⟨v0, vs0, d0, ds0, p0, q0, hargs, rfl, rfl, h0, r0⟩ := trodAll_cons hA
  obtain ⟨rfl, rfl, rfl⟩ := trodAll_nil r0
  obtain rfl : args = #[v0] := by cases args; simp_all
  obtain ⟨rfl, rfl⟩ := trodVars_none hV
  have k0 := h0
  have lt0 : ∀ x ∈ p0, x.block < W.heap.size := by obtain ⟨m, hm⟩ := k0; exact DataW.trod_lt m _ _ _ hm
  obtain ⟨f0, i0⟩ := open_hit_arg (hval 0 49 v0 rfl rfl) h0
  clear hA0 hval0
  try simp only [List.append_nil] at hW'
  refine (walk W f0 v0 i0).mono fun e W' ⟨he, bel⟩ => ?_
  subst he
  exact ⟨_, rfl, _, _, _, [], _, [], hW', trodAll_mk1 (shut_bool Try.underlying4 _), (trodAll_cons_mk (Below.trod laidOut (by kernel_rfl) (of_decide_eq_true (by kernel_rfl)) k0 bel lt0) trodAll_mk0), rfl, bel.frame _, fun h => by cases h⟩
theorem over_named : Try.pinned.checked.prog.funcNamed Rows.fnExactHitFormsRow.func = some 5 := by kernel_rfl
theorem c_inPlace : (Rows.fnExactHitFormsRow.inPlace == Try.pinned.checked.prog.inPlace 5) = true := by kernel_rfl
theorem c_unfollowed : (Rows.fnExactHitFormsRow.unfollowed == Try.pinned.checked.prog.unfollowed 5) = true := by kernel_rfl
theorem c_recurses : (Rows.fnExactHitFormsRow.recurses == Try.pinned.checked.prog.recurses 5) = true := by kernel_rfl
theorem c_named : (Rows.fnExactHitFormsRow.named == Try.pinned.checked.prog.varsNamed 5) = true := by kernel_rfl
theorem over_closed : joinedFacts Try.pinned.checked.prog 5 Try.f5 Rows.fnExactHitFormsSpec Rows.fnExactHitFormsRow = true := by
  unfold joinedFacts
  exact Facts.band (Facts.band (Facts.band (Facts.band (Facts.band (Facts.band (Facts.band (Facts.band (Facts.band (Facts.band (Facts.band (Facts.band (Facts.band (Facts.band (Facts.band (Facts.band (Facts.band (Facts.band (Facts.band (Facts.band (Facts.band (Facts.band (Facts.band (Facts.band (Facts.band (Facts.band (Facts.band (Facts.band (Facts.band (Facts.band (Facts.band (by kernel_rfl) Facts.laid) Facts.rowed) (by kernel_rfl)) (by kernel_rfl)) (by kernel_rfl)) Facts.stops) (by kernel_rfl)) Facts.knobs) c_inPlace) c_unfollowed) c_recurses) c_named) (by kernel_rfl)) (by kernel_rfl)) (by kernel_rfl)) (by kernel_rfl)) (by kernel_rfl)) (by kernel_rfl)) (by kernel_rfl)) (by kernel_rfl)) (by kernel_rfl)) (by rw [Facts.plain]; kernel_rfl)) (by kernel_rfl)) Facts.heard) Facts.enter) (by rw [Facts.lifts]; kernel_rfl)) (by rw [Facts.made]; kernel_rfl)) (by kernel_rfl)) (by kernel_rfl)) (by kernel_rfl)) (by kernel_rfl)
theorem over_inst : Func.isInstance Try.pinned.checked.prog Try.f5 Rows.fnExactHitFormsRow.origin Rows.fnExactHitFormsRow.targs := of_decide_eq_true (by kernel_rfl)
theorem over_wrap : Func.isWrapper Try.pinned.checked.prog Try.f5 Rows.fnExactHitFormsRow.wrapper Rows.fnExactHitFormsRow.mainSum := (by unfold Func.isWrapper; first | (rw [if_pos (by decide +kernel)]; kernel_rfl) | (rw [if_neg (by decide +kernel)]; exact ⟨rfl, rfl⟩))
theorem over : Rows.fnExactHitFormsRow.holds Try.pinned (OpenSpec.ofChange Rows.fnExactHitFormsSpec) :=
  OpenClaim.holds_of_wide 5 Try.f5 rfl rfl rfl rfl rfl rfl rfl ⟨rfl, rfl, rfl, rfl, rfl⟩ rfl rfl rfl rfl rfl over_named Try.func5 over_closed over_inst over_wrap
    (fun os started H enc _ => lifted os started H enc)
theorem proved : Rows.FnExactHitFormsSaid := over
end Go.Proofs.Ytkfolefeehggcaa.exHitForms
