/- For every form, valid or not, the two lists of names agree, the program's leaves its argument as it was and shares no memory: the law FnExactNamesOf returns true, whatever the input, with no condition beyond the statement's own. -/
import Derived.Test.YtbbihbapmbjbgaaRows
import Derived.Test.YtbbihbapmbjbgaaImplNames
import Derived.Test.YtbbihbapmbjbgaaSpecNamesOf
import Derived.Test.YtbbihbapmbjbgaaData
import Derived.Test.YtbbihbapmbjbgaaEnds
import Derived.Test.YtbbihbapmbjbgaaSz
import Derived.Test.YtbbihbapmbjbgaaTo
import Derived.Test.YtbbihbapmbjbgaaEq
import Derived.Test.YtbbihbapmbjbgaaOpen
import Derived.Deep.RegionWith
import Derived.Test.YtbbihbapmbjbgaaMark2
import Derived.Test.YtbbihbapmbjbgaaStrMark
namespace Go.Proofs.Ytbbihbapmbjbgaa.exNamesOf
open Go.ChangeShapes Go.WideShapes Go.ChangeAt Go.RowKit
set_option linter.unusedVariables false
set_option linter.unusedSimpArgs false
theorem left2 (f : Fm) : (leftOf 1048576 f.sz < 0) ∨ (f.sz ≤ 1048576 ∧ leftOf 1048576 f.sz = 1048576 - f.sz) := by
  unfold leftOf
  by_cases h : (f.sz : Int) ≤ 1048576
  · rw [if_pos h]; exact .inr ⟨by omega, rfl⟩
  · rw [if_neg h]; exact .inl (by omega)
mutual
theorem marks_sz : ∀ f : Fm, f.marks ≤ 3 * f.sz
  | .mk _ _ _ sc ks => by
    have := marksAll_sz ks
    simp only [Fm.marks, Fm.sz] at *
    omega
theorem marksAll_sz : ∀ ks : List Fm, marksAll ks ≤ 3 * szAll ks
  | [] => by simp [marksAll, szAll]
  | f :: r => by
    have h1 := marks_sz f
    have h2 := marksAll_sz r
    cases f with
    | mk kd nm n sc ks =>
      simp only [marksAll, szAll, Fm.marks, Fm.sz] at *
      omega
end
theorem StrOwn.rowB {B : Nat} {w : World} {v : Value} {l : List ByteArray} {bs : List Nat} (h : StrOwn w v l bs) (hb : ∀ c ∈ bs, c < B) : StrRowB B w v l := by
  obtain ⟨a, cap, rfl, h1, h2, h3⟩ := h
  refine ⟨a, cap, rfl, h1, h2, ?_⟩
  rcases h3 with ⟨h3, _⟩ | ⟨b, off, rfl, e, h4⟩
  · exact .inl h3
  · exact .inr ⟨b, off, rfl, hb b (by rw [e]; simp), fun i hi => (h4 i hi).1⟩
set_option maxRecDepth 100000 in
set_option maxHeartbeats 4000000 in
theorem walk (w : World) (f : Fm) (v : Value) (hv : InV (· < w.heap.size) w f v) :
    Calls Try.prog 12 #[v] w fun e w' => e = .returned (.bool true) ∧ Below w.heap.size w w' := by
  have HV := Lib.hid hv
  obtain ⟨sa, scap, a, cap, rfl⟩ := hv.form
  clear hv
  have hcf := f.count_le
  have HA0 : Hid (Below w.heap.size w (w.alloc (.cells #[.int .i64 f.kind, .string f.name, .int .i64 f.n, .slice sa f.scopes.length scap, .slice a f.kids.length cap] 25))) := below_alloc w _
  go_enter Try.func12, Try.ntmps12
  go_wp2_with fail
  refine (szForm_any w.heap.size f _ _ 1048576 (by simp) (InV.later (same_below HA0.out) _ _ HV.out) (by omega)).mono ?_
  rintro e w1 ⟨rfl, hb1⟩
  obtain ⟨x0, x1, x2, x3, x4⟩ := (FormBox.fresh w f sa a scap cap 25).later hb1
  have hs1 : w.heap.size + 1 ≤ w1.heap.size := by have := hb1.size; simpa using this
  have HB1 : Hid (Below w.heap.size w w1) := HA0.out.trans (hb1.mono (by simp))
  clear hb1
  rcases left2 f with hl | ⟨hsf, hl⟩
  · go_wp2_with fail
    go_ret
    exact ⟨rfl, HB1.out⟩
  rw [hl]
  clear hl
  have hlt0 : w.heap.size < w1.heap.size := by omega
  have HM1 := Lib.hid (marks_sz f)
  obtain ⟨R, hR⟩ : ∃ R, namesF [] f.pre = R := ⟨_, rfl⟩
  have hRl : R.length ≤ 1048577 := by rw [← hR]; have h1 := namesF_length f.pre []; rw [pre_length] at h1; simp only [List.length_nil] at h1; omega
  have HR := Lib.hid hR
  clear hR
  go_wp2_with fail
  refine (toForm_any w.heap.size f _ w1 (by omega) (InV.later (same_below HB1.out) _ _ HV.out) hsf).mono ?_
  rintro e w2 hp
  obtain ⟨pa, pb, pc, pd, rfl, hx, hb2⟩ := hp.weak
  have hs2 := hb2.size
  have HP2 := Lib.hid (FormBox.later (f := f) ⟨x0, x1, x2, x3, x4⟩ hb2)
  have HB2 : Hid (Below w.heap.size w w2) := HB1.out.trans (hb2.mono (by omega))
  have HX := Lib.hid hx
  clear hb2 hx hp x0 x1 x2 x3 x4
  go_wp2_with fail
  refine (specNamesOf_any w2.heap.size f _ w2 (Nat.le_refl _) HX.out hsf).mono ?_
  rintro e w3 ⟨wa, wcap, rfl, hs, hb3⟩
  rw [HR.out] at hs ⊢
  have hs3 := hb3.size
  have HP3 := Lib.hid (HP2.out.later hb3)
  have HB3 : Hid (Below w.heap.size w w3) := HB2.out.trans (hb3.mono (by omega))
  have HW3 := Lib.hid hs.bound
  clear hb3 hs HP2 HX
  obtain ⟨x0, x1, x2, x3, x4⟩ := HP3.out
  have hlt3 : w.heap.size < w3.heap.size := by omega
  go_wp2_with fail
  refine (toForm_any w.heap.size f _ w3 (by omega) (InV.later (same_below HB3.out) _ _ HV.out) hsf).mono ?_
  rintro e w4 hp
  obtain ⟨za, zb, zc, zd, bz, rfl, hzo, hzn, hzp, hb4⟩ := hp
  have hs4 := hb4.size
  have HW4 := Lib.hid (HW3.out.later (Same.of_below hb4 (fun k (hk : k < w3.heap.size) => by omega)))
  have HP4 := Lib.hid (HP3.out.later hb4)
  have HB4 : Hid (Below w.heap.size w w4) := HB3.out.trans (hb4.mono (by omega))
  have HEA := Lib.hid (endlessAt_own f _ bz w4 hzo hzn.1 (fun c hm => (hzn.2 c hm).2) hzp (by omega))
  have HZ4 := Lib.hid hzo
  have HZN := Lib.hid hzn
  clear hzo hzn hzp hb4 x0 x1 x2 x3 x4 HW3 HP3
  go_wp2_with fail
  have hb45 := below_alloc w4 (.cells #[.int .i64 f.kind, .string f.name, .int .i64 f.n, .slice za f.scopes.length zb, .slice zc f.kids.length zd] 31)
  refine (implNamesOf_any ⟨f, za, zb, zc, zd⟩ _ (InV.mono (fun k (hk : k < w4.heap.size) => (by simp; omega)) _ _ (InV.later (same_below hb45) _ _ (OwnV.inV (φ := (· < w4.heap.size)) f _ bz (fun c hm => (HZN.out.2 c hm).2) HZ4.out))) hsf (HEA.out.later hb45)).mono ?_
  rintro e w5 ⟨ga, gc, bg, rfl, hgo, hgn, hb5⟩
  simp only at hgo ⊢
  rw [HR.out] at hgo ⊢
  rw [size_alloc'] at hgn
  have hbx : Below w4.heap.size w4 w5 := hb45.trans (hb5.mono (by simp))
  have hs5 : w4.heap.size + 1 ≤ w5.heap.size := by have := hb5.size; simpa using this
  have HX5 := Lib.hid ((FormBox.fresh w4 f za zc zb zd 31).later hb5)
  have HW5 := Lib.hid (HW4.out.later (Same.of_below hbx (fun k (hk : k < w3.heap.size) => by omega)))
  have HP5 := Lib.hid (HP4.out.later hbx)
  have HZ5 := Lib.hid (OwnV.later _ _ _ (SameOn.of_below hbx (fun c hm => by have := (HZN.out.2 c hm).2; omega)) HZ4.out)
  have HB5 : Hid (Below w.heap.size w w5) := HB4.out.trans (hbx.mono (by omega))
  have HG5 := Lib.hid hgo
  have HGN := Lib.hid hgn
  clear hgo hgn hb5 hb45 hbx HW4 HP4 HZ4 HEA
  go_wp2_with fail
  refine (eqStringS_any R _ _ w5 HG5.out.row HW5.out.row).mono ?_
  rintro e w6 ⟨rfl, hb6⟩
  have hs6 := hb6.size
  have HW6 := Lib.hid (HW5.out.later (Same.of_below hb6 (fun k (hk : k < w3.heap.size) => by omega)))
  have HP6 := Lib.hid (HP5.out.later hb6)
  have HZ6 := Lib.hid (OwnV.later _ _ _ (SameOn.of_below hb6 (fun c hm => by have := (HZN.out.2 c hm).2; omega)) HZ5.out)
  have HX6 := Lib.hid (HX5.out.later hb6)
  have HG6 := Lib.hid (StrOwn.later (SameOn.of_below hb6 (fun c hm => by have := (HGN.out.2 c hm).2; omega)) HG5.out)
  have HB6 : Hid (Below w.heap.size w w6) := HB5.out.trans (hb6.mono (by omega))
  clear hb6 HW5 HP5 HZ5 HX5 HG5
  go_wp2_with fail
  have hS1 : TwoBox w4.heap.size w.heap.size f f za zc sa a zb zd scap cap w6.drew := ⟨HX6.out, HP6.out⟩
  refine upto_begin (TwoBox w4.heap.size w.heap.size f f za zc sa a zb zd scap cap) 9 (by kernel_rfl) ?_
  refine upto_take (i := 0) (d := some 27) (v := ?_) rfl rfl (by kernel_rfl) (by kernel_rfl) (by kernel_rfl) (by kernel_rfl) (fun _ _ _ h => h) (Or.inl ⟨by rfl, ?_⟩) hS1 ?_
  rotate_left
  · (intro wS hSw; obtain ⟨⟨_, _, _, _, _⟩, ⟨_, _, _, _, _⟩⟩ := hSw; go_simp; try with_reducible rfl)
  try simp only [Act.put, List.setIfInBounds_toArray, List.set_cons_zero, List.set_cons_succ]
  refine upto_take (i := 1) (d := some 28) (v := ?_) rfl rfl (by kernel_rfl) (by kernel_rfl) (by kernel_rfl) (by kernel_rfl) (fun _ _ _ h => h) (Or.inl ⟨by rfl, ?_⟩) hS1 ?_
  rotate_left
  · (intro wS hSw; obtain ⟨⟨_, _, _, _, _⟩, ⟨_, _, _, _, _⟩⟩ := hSw; go_simp; try with_reducible rfl)
  try simp only [Act.put, List.setIfInBounds_toArray, List.set_cons_zero, List.set_cons_succ]
  refine upto_one (i := 2) (by kernel_rfl) rfl (fun K hK => ?_)
  go_simp
  refine (toForm_any w.heap.size f _ w6.drew (by show _ ≤ w6.heap.size; omega) (InV.later (w := w) (w' := w6.drew) (same_below HB6.out.drew) _ _ HV.out) hsf).mono ?_
  rintro e w7 hp
  obtain ⟨ra, rb, rc, rd, rfl, hr, hb7'⟩ := hp.weak
  have hb7 := below_drew hb7'
  have hs7 := hb7.size
  have HW7 := Lib.hid (HW6.out.later (Same.of_below hb7 (fun k (hk : k < w3.heap.size) => by omega)))
  have HP7 := Lib.hid (HP6.out.later hb7)
  have HZ7 := Lib.hid (OwnV.later _ _ _ (SameOn.of_below hb7 (fun c hm => by have := (HZN.out.2 c hm).2; omega)) HZ6.out)
  have HX7 := Lib.hid (HX6.out.later hb7)
  have HG7 := Lib.hid (StrOwn.later (SameOn.of_below hb7 (fun c hm => by have := (HGN.out.2 c hm).2; omega)) HG6.out)
  have HB7 : Hid (Below w.heap.size w w7) := HB6.out.trans (hb7.mono (by omega))
  refine hK.out _ _ (.inr ⟨HX7.out, HP7.out⟩) ?_
  have HRR := Lib.hid hr
  clear hK K hp hb7 hb7' hr HW6 HP6 HZ6 HX6 HG6
  refine upto_one (i := 3) (by kernel_rfl) rfl (fun K hK => ?_)
  go_simp
  refine (eqForm_any w7.heap.size f f _ _ _ (Nat.le_refl _) (OwnV.inV (φ := (· < w7.heap.size)) f _ bz (fun c hm => by have := (HZN.out.2 c hm).2; omega) HZ7.out) HRR.out).mono ?_
  rintro e w8 ⟨rfl, hb8⟩
  have hs8 := hb8.size
  have HSF := Lib.hid (sameB_refl f)
  have HW8 := Lib.hid (HW7.out.later (Same.of_below hb8 (fun k (hk : k < w3.heap.size) => by omega)))
  have HP8 := Lib.hid (HP7.out.later hb8)
  have HZ8 := Lib.hid (OwnV.later _ _ _ (SameOn.of_below hb8 (fun c hm => by have := (HZN.out.2 c hm).2; omega)) HZ7.out)
  have HX8 := Lib.hid (HX7.out.later hb8)
  have HG8 := Lib.hid (StrOwn.later (SameOn.of_below hb8 (fun c hm => by have := (HGN.out.2 c hm).2; omega)) HG7.out)
  have HB8 : Hid (Below w.heap.size w w8) := HB7.out.trans (hb8.mono (by omega))
  refine hK.out _ _ (.inr ⟨HX8.out, HP8.out⟩) ?_
  clear hK K hb8 HW7 HP7 HZ7 HX7 HG7 HRR
  rw [HSF.out]
  refine upto_one (i := 4) (by kernel_rfl) rfl (fun K hK => ?_)
  go_simp
  refine hK.out _ _ (.inr ⟨HX8.out, HP8.out⟩) ?_
  clear hK K
  refine upto_done (by kernel_rfl) ?_ _
  obtain ⟨x0, x1, x2, x3, x4⟩ := HX8.out
  go_wp2_with fail
  refine (markForm_any f _ bz 1 w8 HZ8.out HZN.out.1 (fun c hm => by have := (HZN.out.2 c hm).2; omega) (by omega) (by have := HM1.out; omega)).mono ?_
  rintro e w9 ⟨rfl, hmz, ho9⟩
  have hs9 := ho9.size
  have HP9 := Lib.hid (HP8.out.only ho9 (fun hm => by have := (HZN.out.2 _ hm).1; omega))
  have HB9 : Hid (Below w.heap.size w w9) := HB8.out.trans (ho9.below (fun c hm => by have := (HZN.out.2 c hm).1; omega) (by omega))
  have HW9 := Lib.hid (HW8.out.later (ho9.same (fun k (hk : k < w3.heap.size) => ⟨by omega, fun hm => by have := (HZN.out.2 _ hm).1; omega⟩)))
  have HG9 := Lib.hid (StrOwn.later (ho9.sameOn (fun c hc => ⟨by have := (HGN.out.2 c hc).2; omega, fun hm => by have h1 := (HZN.out.2 _ hm).2; have h2 := (HGN.out.2 c hc).1; omega⟩)) HG8.out)
  clear hmz ho9 HX8 HW8 HP8 HZ8 HG8 x0 x1 x2 x3 x4
  have hk0 : 0 ≤ (1 : Int) + f.marks := by omega
  go_wp2_with fail
  refine (eqStringS_any R _ _ w9 HG9.out.row HW9.out.row).mono ?_
  rintro e w10 ⟨rfl, hb10⟩
  have hs10 := hb10.size
  have HW10 := Lib.hid (HW9.out.later (Same.of_below hb10 (fun k (hk : k < w3.heap.size) => by omega)))
  have HP10 := Lib.hid (HP9.out.later hb10)
  have HG10 := Lib.hid (StrOwn.later (SameOn.of_below hb10 (fun c hm => by have := (HGN.out.2 c hm).2; omega)) HG9.out)
  have HB10 : Hid (Below w.heap.size w w10) := HB9.out.trans (hb10.mono (by omega))
  clear hb10 HW9 HP9 HG9
  go_wp2_with fail
  refine (markStringS_any R _ bg 1 w10 HG10.out (by omega) (by omega)).mono ?_
  rintro e w11 ⟨rfl, hmg, ho11⟩
  have hs11 := ho11.size
  have HP11 := Lib.hid (HP10.out.only ho11 (fun hm => by have := (HGN.out.2 _ hm).1; omega))
  have HB11 : Hid (Below w.heap.size w w11) := HB10.out.trans (ho11.below (fun c hm => by have := (HGN.out.2 c hm).1; omega) (by omega))
  have HW11 := Lib.hid (HW10.out.later (ho11.same (fun k (hk : k < w3.heap.size) => ⟨by omega, fun hm => by have := (HGN.out.2 _ hm).1; omega⟩)))
  have HQ11 : Hid (StrRowB w5.heap.size w11 (.slice ga R.length gc) (mtexts 1 R.length)) := StrOwn.rowB hmg (fun c hm => (HGN.out.2 c hm).2)
  have hk1 : 0 ≤ (1 : Int) + R.length := by omega
  clear hmg ho11 HW10 HP10 HG10
  go_wp2_with fail
  refine (heldStringS_any R.length _ 1 w11 HQ11.out.row (by omega) (by omega)).mono ?_
  rintro e w12 ⟨rfl, hb12⟩
  have hs12 := hb12.size
  have HW12 := Lib.hid (HW11.out.later (Same.of_below hb12 (fun k (hk : k < w3.heap.size) => by omega)))
  have HQ12 := Lib.hid (HQ11.out.later (Same.of_below hb12 (fun k (hk : k < w5.heap.size) => by omega)))
  have HP12 := Lib.hid (HP11.out.later hb12)
  have HB12 : Hid (Below w.heap.size w w12) := HB11.out.trans (hb12.mono (by omega))
  clear hb12 HW11 HQ11 HP11
  obtain ⟨x0, x1, x2, x3, x4⟩ := HP12.out
  have hlt12 : w.heap.size < w12.heap.size := by omega
  go_wp2_with fail
  refine (toForm_any w.heap.size f _ w12 (by omega) (InV.later (same_below HB12.out) _ _ HV.out) hsf).mono ?_
  rintro e w13 hp
  obtain ⟨ma, mb, mc, md, bm, rfl, hmo, hmn, hmp, hb13⟩ := hp
  have hs13 := hb13.size
  have HW13 := Lib.hid (HW12.out.later (Same.of_below hb13 (fun k (hk : k < w3.heap.size) => by omega)))
  have HQ13 := Lib.hid (HQ12.out.later (Same.of_below hb13 (fun k (hk : k < w5.heap.size) => by omega)))
  have HB13 : Hid (Below w.heap.size w w13) := HB12.out.trans (hb13.mono (by omega))
  have HEM := Lib.hid (endlessAt_own f _ bm w13 hmo hmn.1 (fun c hm => (hmn.2 c hm).2) hmp (by omega))
  have HMO := Lib.hid (OwnV.inV (φ := (· < w13.heap.size)) f _ bm (fun c hm => (hmn.2 c hm).2) hmo)
  clear hmo hmn hmp hb13 HW12 HP12 HQ12 x0 x1 x2 x3 x4
  go_wp2_with fail
  refine (implNamesOf_any ⟨f, ma, mb, mc, md⟩ w13 HMO.out hsf HEM.out).mono ?_
  rintro e w14 ⟨ha, hc, bh, rfl, hho, hhn, hb14⟩
  simp only at hho ⊢
  rw [HR.out] at hho ⊢
  have hs14 := hb14.size
  have HW14 := Lib.hid (HW13.out.later (Same.of_below hb14 (fun k (hk : k < w3.heap.size) => by omega)))
  have HQ14 := Lib.hid (HQ13.out.later (Same.of_below hb14 (fun k (hk : k < w5.heap.size) => by omega)))
  have HB14 : Hid (Below w.heap.size w w14) := HB13.out.trans (hb14.mono (by omega))
  have HHI := Lib.hid hho.row
  clear hho hhn hb14 HW13 HQ13
  go_wp2_with fail
  refine (eqStringS_any R _ _ w14 HHI.out HW14.out.row).mono ?_
  rintro e w15 ⟨rfl, hb15⟩
  have hs15 := hb15.size
  have HW15 := Lib.hid (HW14.out.later (Same.of_below hb15 (fun k (hk : k < w3.heap.size) => by omega)))
  have HQ15 := Lib.hid (HQ14.out.later (Same.of_below hb15 (fun k (hk : k < w5.heap.size) => by omega)))
  have HB15 : Hid (Below w.heap.size w w15) := HB14.out.trans (hb15.mono (by omega))
  clear hb15 HW14 HQ14 HHI
  go_wp2_with fail
  refine (heldStringS_any R.length _ 1 w15 HQ15.out.row (by omega) (by omega)).mono ?_
  rintro e w16 ⟨rfl, hb16⟩
  have HB16 : Hid (Below w.heap.size w w16) := HB15.out.trans (hb16.mono (by omega))
  clear hb16
  go_wp2_with fail
  go_ret
  exact ⟨rfl, HB16.out⟩
theorem own : ownKnob Try.prog.godebug = none := by kernel_rfl
theorem laidOut : laidOutB Try.prog = true := by kernel_rfl
set_option maxRecDepth 100000 in
theorem lifted (os : Os) (started : os.Started) (H : Type) (enc : TypeId × Value → H) :
    ReturnsInHanded {} Try.checked os 12 .any (Rows.fnExactNamesOfSpec.pre6 enc Try.prog Try.f12 Rows.fnExactNamesOfRow.domain false) (Rows.fnExactNamesOfSpec.post enc Try.prog Try.f12 false true false false) := by
  refine returnsInHanded_of_change (C := Try.checked) own started (by kernel_rfl) Try.func12
    (ChangeSpec.witness6 (enc := enc) (C := Try.checked) false ⟨#[], #[.agg #[.int .i64 0, .string ByteArray.empty, .int .i64 0, .slice none 0 0, .slice none 0 0]], []⟩ 12 (by kernel_rfl) (by kernel_rfl) (by kernel_rfl) (by kernel_rfl)) ?_
  intro W base args ds gs before hval0 hW hcnd _
  have hval : ∀ (j : Nat) t v, Try.f12.params[j]? = some t → args[j]? = some v → Value.okWide Try.prog W .any base t v := hval0
  have hW' := hW
  obtain ⟨p, q, hA0, hV, rfl, hfz, hnd⟩ := hW
  have hA : DataW.TrodAll enc Try.prog W 0 (fun _ => true) true Try.f12.params.toList args.toList ds p := hA0
  rw [Try.params12] at hA hval
  obtain ⟨v0, vs0, d0, ds0, p0, q0, hargs, rfl, rfl, h0, r0⟩ := trodAll_cons hA
  obtain ⟨rfl, rfl, rfl⟩ := trodAll_nil r0
  obtain rfl : args = #[v0] := by cases args; simp_all
  obtain ⟨rfl, rfl⟩ := trodVars_none hV
  have k0 := h0
  have lt0 : ∀ x ∈ p0, x.block < W.heap.size := by obtain ⟨m, hm⟩ := k0; exact DataW.trod_lt m _ _ _ hm
  obtain ⟨f0, i0⟩ := open_form_arg (hval 0 25 v0 rfl rfl) h0
  clear hA0 hval0
  try simp only [List.append_nil] at hW'
  refine (walk W f0 v0 i0).mono fun e W' ⟨he, bel⟩ => ?_
  subst he
  exact ⟨_, rfl, _, _, _, [], _, [], hW', trodAll_mk1 (shut_bool Try.underlying4 _), (trodAll_cons_mk (Below.trod laidOut (by kernel_rfl) (of_decide_eq_true (by kernel_rfl)) k0 bel lt0) trodAll_mk0), rfl, bel.frame _, fun h => by cases h⟩
theorem over_named : Try.pinned.checked.prog.funcNamed Rows.fnExactNamesOfRow.func = some 12 := by kernel_rfl
theorem over_closed : joinedFacts Try.pinned.checked.prog 12 Try.f12 Rows.fnExactNamesOfSpec Rows.fnExactNamesOfRow = true := by kernel_rfl
theorem over_inst : Func.isInstance Try.pinned.checked.prog Try.f12 Rows.fnExactNamesOfRow.origin Rows.fnExactNamesOfRow.targs := of_decide_eq_true (by kernel_rfl)
theorem over_wrap : Func.isWrapper Try.pinned.checked.prog Try.f12 Rows.fnExactNamesOfRow.wrapper Rows.fnExactNamesOfRow.mainSum := (by unfold Func.isWrapper; first | (rw [if_pos (by decide +kernel)]; kernel_rfl) | (rw [if_neg (by decide +kernel)]; exact ⟨rfl, rfl⟩))
theorem over : Rows.fnExactNamesOfRow.holds Try.pinned (OpenSpec.ofChange Rows.fnExactNamesOfSpec) :=
  OpenClaim.holds_of_wide 12 Try.f12 rfl rfl rfl rfl rfl rfl rfl ⟨rfl, rfl, rfl, rfl, rfl⟩ rfl rfl rfl rfl rfl over_named Try.func12 over_closed over_inst over_wrap
    (fun os started H enc _ => lifted os started H enc)
theorem proved : Rows.FnExactNamesOfSaid := over
end Go.Proofs.Ytbbihbapmbjbgaa.exNamesOf
