/- For every two forms, valid or not, the two comparisons agree and leave the forms as they were: the law FnExactFormSame returns true, whatever the input, with no condition beyond the statement's own. -/
import Derived.Test.YtlgalpdjeojaaaaRows
import Derived.Test.YtlgalpdjeojaaaaSpecSame
import Derived.Test.YtlgalpdjeojaaaaSz
import Derived.Test.YtlgalpdjeojaaaaTo
import Derived.Test.YtlgalpdjeojaaaaEq
import Derived.Test.YtlgalpdjeojaaaaBox
import Derived.Test.YtlgalpdjeojaaaaOpen
import Derived.Deep.RegionWith
import Derived.Test.YtlgalpdjeojaaaaUpto
import Derived.Test.YtlgalpdjeojaaaaEndless
import Derived.Test.YtlgalpdjeojaaaaImplSame
namespace Go.Proofs.Ytlgalpdjeojaaaa.exFormSame
open Go.ChangeShapes Go.WideShapes Go.ChangeAt Go.RowKit
open Go.ChangeMaps (open_string shut_string)
set_option linter.unusedVariables false
set_option linter.unusedSimpArgs false
theorem left2 (f g : Fm) : (leftOf 1048576 f.sz < 0) ∨ (f.sz ≤ 1048576 ∧ leftOf 1048576 f.sz = 1048576 - f.sz) := by
  unfold leftOf
  by_cases h : (f.sz : Int) ≤ 1048576
  · rw [if_pos h]; exact .inr ⟨by omega, rfl⟩
  · rw [if_neg h]; exact .inl (by omega)
theorem left3 (n m : Nat) (h : n ≤ 1048576) : (leftOf (1048576 - n) m < 0) ∨ (m ≤ 1048576 ∧ 0 ≤ leftOf (1048576 - n) m) := by
  unfold leftOf
  by_cases h : (m : Int) ≤ 1048576 - n
  · rw [if_pos h]; exact .inr ⟨by omega, by omega⟩
  · rw [if_neg h]; exact .inl (by omega)
set_option maxRecDepth 100000 in
set_option maxHeartbeats 4000000 in
theorem walk (w : World) (f : Fm) (v : Value) (hv : InV (· < w.heap.size) w f v) (g : Fm) (u : Value) (hu : InV (· < w.heap.size) w g u) :
    Calls Try.prog 3 #[v, u] w fun e w' => e = .returned (.bool true) ∧ Below w.heap.size w w' := by
  have HV := Lib.hid hv
  have HU := Lib.hid hu
  obtain ⟨sa, scap, a, cap, rfl⟩ := hv.form
  obtain ⟨sa', scap', a', cap', rfl⟩ := hu.form
  clear hv hu
  have hcf := f.count_le
  have hcg := g.count_le
  have HA0 : Hid (Below w.heap.size w ((w.alloc (.cells #[.int .i64 f.kind, .string f.name, .int .i64 f.n, .slice sa f.scopes.length scap, .slice a f.kids.length cap] 25)).alloc
      (.cells #[.int .i64 g.kind, .string g.name, .int .i64 g.n, .slice sa' g.scopes.length scap', .slice a' g.kids.length cap'] 25))) := (below_alloc w _).alloc (by simp) _
  go_enter Try.func3, Try.ntmps3
  go_wp2_with fail
  refine (szForm_any w.heap.size f _ _ 1048576 (by simp; omega) (InV.later (same_below HA0.out) _ _ HV.out) (by omega)).mono ?_
  rintro e w1 ⟨rfl, hb1⟩
  obtain ⟨x0, x1, x2, x3, x4⟩ := ((FormBox.fresh w f sa a scap cap 25).later (below_alloc _ _)).later hb1
  have hz := (FormBox.fresh (w.alloc (.cells #[.int .i64 f.kind, .string f.name, .int .i64 f.n, .slice sa f.scopes.length scap, .slice a f.kids.length cap] 25)) g sa' a' scap' cap' 25).later hb1
  rw [size_alloc'] at hz
  obtain ⟨y0, y1, y2, y3, y4⟩ := hz
  have hs1 : w.heap.size + 2 ≤ w1.heap.size := by have := hb1.size; simpa using this
  have HB1 : Hid (Below w.heap.size w w1) := HA0.out.trans (hb1.mono (by simp; omega))
  clear hb1
  rcases left2 f g with hl | ⟨hsf, hl⟩
  · go_wp2_with fail
    go_ret
    exact ⟨rfl, HB1.out⟩
  · rw [hl]
    clear hl
    have hp1 : 0 ≤ (1048576 : Int) - f.sz := by omega
    go_wp2_with fail
    refine (szForm_any w.heap.size g _ _ (1048576 - f.sz) (by omega) (InV.later (same_below HB1.out) _ _ HU.out) (by omega)).mono ?_
    rintro e w2 ⟨rfl, hb2⟩
    have hs2 := hb2.size
    obtain ⟨x0, x1, x2, x3, x4⟩ := FormBox.later (f := f) ⟨x0, x1, x2, x3, x4⟩ hb2
    obtain ⟨y0, y1, y2, y3, y4⟩ := FormBox.later (f := g) ⟨y0, y1, y2, y3, y4⟩ hb2
    have HB2 : Hid (Below w.heap.size w w2) := HB1.out.trans (hb2.mono (by omega))
    clear hb2
    rcases left3 f.sz g.sz hsf with hl | ⟨hsg, hl⟩
    · go_wp2_with fail
      go_ret
      exact ⟨rfl, HB2.out⟩
    · go_wp2_with fail
      have hT2 : TwoBox w.heap.size (w.heap.size + 1) f g sa a sa' a' scap cap scap' cap' w2 := ⟨⟨x0, x1, x2, x3, x4⟩, ⟨y0, y1, y2, y3, y4⟩⟩
      have HT2 := Lib.hid hT2
      have hS0 : TwoBox w.heap.size (w.heap.size + 1) f g sa a sa' a' scap cap scap' cap' w2.drew := hT2
      clear hT2
      refine upto_begin (TwoBox w.heap.size (w.heap.size + 1) f g sa a sa' a' scap cap scap' cap') 5 (by kernel_rfl) ?_
      refine upto_take (i := 0) (d := some 20) (v := ?_) rfl rfl (by kernel_rfl) (by kernel_rfl) (by kernel_rfl) (by kernel_rfl) (fun _ _ _ h => h) (Or.inl ⟨by rfl, ?_⟩) hS0 ?_
      rotate_left
      · (intro wS hSw; obtain ⟨⟨_, _, _, _, _⟩, ⟨_, _, _, _, _⟩⟩ := hSw; go_simp; try with_reducible rfl)
      try simp only [Act.put, List.setIfInBounds_toArray, List.set_cons_zero, List.set_cons_succ]
      refine upto_take (i := 2) (d := some 22) (v := ?_) rfl rfl (by kernel_rfl) (by kernel_rfl) (by kernel_rfl) (by kernel_rfl) (fun _ _ _ h => h) (Or.inl ⟨by rfl, ?_⟩) hS0 ?_
      rotate_left
      · (intro wS hSw; obtain ⟨⟨_, _, _, _, _⟩, ⟨_, _, _, _, _⟩⟩ := hSw; go_simp; try with_reducible rfl)
      try simp only [Act.put, List.setIfInBounds_toArray, List.set_cons_zero, List.set_cons_succ]
      refine upto_one (i := 1) (by kernel_rfl) rfl (fun K hK => ?_)
      go_simp
      refine (toForm_any w.heap.size f _ w2.drew (by show _ ≤ w2.heap.size; omega) (InV.later (w := w) (w' := w2.drew) (same_below HB2.out.drew) _ _ HV.out) hsf).mono ?_
      rintro e w3 hp
      obtain ⟨xa, xb, xc, xd, rfl, hx, hb3⟩ := hp.weak
      have hb3' := below_drew hb3
      have HT3 := Lib.hid (HT2.out.later hb3')
      refine hK.out _ _ (.inr HT3.out) ?_
      have hs3 := hb3'.size
      have HB3 : Hid (Below w.heap.size w w3) := HB2.out.trans (hb3'.mono (by omega))
      have HX := Lib.hid hx
      clear hK K hp hb3 hb3' hx
      refine upto_one (i := 3) (by kernel_rfl) rfl (fun K hK => ?_)
      go_simp
      refine (toForm_any w.heap.size g _ w3 (by omega) (InV.later (same_below HB3.out) _ _ HU.out) (by omega)).mono ?_
      rintro e w4 hp
      obtain ⟨ya, yb, yc, yd, rfl, hy, hb4⟩ := hp.weak
      have HT4 := Lib.hid (HT3.out.later hb4)
      refine hK.out _ _ (.inr HT4.out) ?_
      have hs4 := hb4.size
      have HB4 : Hid (Below w.heap.size w w4) := HB3.out.trans (hb4.mono (by omega))
      have HX4 := Lib.hid (InV.mono (fun k (hk : k < w3.heap.size) => (by omega : k < w4.heap.size)) _ _ (InV.later (same_below hb4) _ _ HX.out))
      have HY := Lib.hid hy
      clear hK K hp hb4 hy HX
      refine upto_one (i := 4) (by kernel_rfl) rfl (fun K hK => ?_)
      go_simp
      refine (specSame_any w4.heap.size f g _ _ _ (Nat.le_refl _) HX4.out HY.out).mono ?_
      rintro e w5 ⟨rfl, hb5⟩
      have HT5 := Lib.hid (HT4.out.later hb5)
      refine hK.out _ _ (.inr HT5.out) ?_
      have hs5 := hb5.size
      have HB5 : Hid (Below w.heap.size w w5) := HB4.out.trans (hb5.mono (by omega))
      clear hK K hb5 HX4 HY
      refine upto_one (i := 5) (by kernel_rfl) rfl (fun K hK => ?_)
      go_simp
      refine hK.out _ _ (.inl rfl) ?_
      clear hK K
      refine upto_done (by kernel_rfl) ?_ _
      obtain ⟨⟨x0, x1, x2, x3, x4⟩, ⟨y0, y1, y2, y3, y4⟩⟩ := HT5.out
      go_wp2_with fail
      refine (toForm_any w.heap.size f _ _ (by omega) (InV.later (same_below HB5.out) _ _ HV.out) hsf).mono ?_
      rintro e w6 hp
      obtain ⟨za, zb, zc, zd, bz, rfl, hzo, hzn, hzp, hb6⟩ := hp
      have hz := OwnV.inV (φ := (· < w6.heap.size)) f _ bz (fun c hm => (hzn.2 c hm).2) hzo
      have HEA := Lib.hid (endlessAt_own f _ bz w6 hzo hzn.1 (fun c hm => (hzn.2 c hm).2) hzp (by omega))
      have HT6 := Lib.hid (HT5.out.later hb6)
      have hs6 := hb6.size
      have HB6 : Hid (Below w.heap.size w w6) := HB5.out.trans (hb6.mono (by omega))
      have HZ := Lib.hid hz
      clear hzo hzn hzp hb6 hz x0 x1 x2 x3 x4 y0 y1 y2 y3 y4
      obtain ⟨⟨x0, x1, x2, x3, x4⟩, ⟨y0, y1, y2, y3, y4⟩⟩ := HT6.out
      have hlt6 : w.heap.size + 1 < w6.heap.size := by omega
      go_wp2_with fail
      refine (toForm_any w.heap.size g _ _ (by simp; omega) (InV.later (same_below (HB6.out.alloc (by omega) _)) _ _ HU.out) (by omega)).mono ?_
      rintro e w7 hp
      obtain ⟨ta, tb, tc, td, rfl, ht, hb7⟩ := hp.weak
      have hb67 : Below w6.heap.size w6 w7 := (below_alloc _ _).trans (hb7.mono (by simp))
      have HT7 := Lib.hid (HT6.out.later hb67)
      have HXB := Lib.hid ((FormBox.fresh w6 f za zc zb zd 30).later hb7)
      have hs7 : w6.heap.size + 1 ≤ w7.heap.size := by have := hb7.size; simpa using this
      have HB7 : Hid (Below w.heap.size w w7) := HB6.out.trans (hb67.mono (by omega))
      have HZ7 := Lib.hid (InV.mono (fun k (hk : k < w6.heap.size) => (by omega : k < w7.heap.size)) _ _ (InV.later (same_below hb67) _ _ HZ.out))
      have HTT := Lib.hid ht
      have HEA7 := Lib.hid ((HEA.out.later hb67).later (below_alloc w7 (.cells #[.int .i64 g.kind, .string g.name, .int .i64 g.n, .slice ta g.scopes.length tb, .slice tc g.kids.length td] 30)))
      clear hp hb7 hb67 ht x0 x1 x2 x3 x4 y0 y1 y2 y3 y4 HZ
      obtain ⟨v0, v1, v2, v3, v4⟩ := HXB.out
      have hlt7 : w6.heap.size < w7.heap.size := by omega
      go_wp2_with fail
      have HB7' : Hid (Below w.heap.size w (w7.alloc (.cells #[.int .i64 g.kind, .string g.name, .int .i64 g.n, .slice ta g.scopes.length tb, .slice tc g.kids.length td] 30))) := HB7.out.alloc (by omega) _
      have HZ8 := Lib.hid (InV.later (same_below (below_alloc w7 (.cells #[.int .i64 g.kind, .string g.name, .int .i64 g.n, .slice ta g.scopes.length tb, .slice tc g.kids.length td] 30))) _ _ HZ7.out)
      have HTT8 := Lib.hid (InV.later (same_below (below_alloc w7 (.cells #[.int .i64 g.kind, .string g.name, .int .i64 g.n, .slice ta g.scopes.length tb, .slice tc g.kids.length td] 30))) _ _ HTT.out)
      refine (implSame_any w7.heap.size f g _ _ _ (by simp) HZ8.out HTT8.out (by omega) HEA7.out).mono ?_
      rintro e w8 ⟨rfl, hb8⟩
      have hb78 : Below w7.heap.size w7 w8 := (below_alloc _ _).trans (hb8.mono (by simp))
      have HT8 := Lib.hid (HT7.out.later hb78)
      have HG8 := Lib.hid ((FormBox.fresh w7 g ta tc tb td 30).later hb8)
      have HF8 := Lib.hid (HXB.out.later hb78)
      have hs8 : w7.heap.size + 1 ≤ w8.heap.size := by have := hb8.size; simpa using this
      have HB8 : Hid (Below w.heap.size w w8) := HB7.out.trans (hb78.mono (by omega))
      have HZ9 := Lib.hid (InV.mono (fun k (hk : k < w7.heap.size) => (by omega : k < w8.heap.size)) _ _ (InV.later (same_below hb78) _ _ HZ7.out))
      have HTT9 := Lib.hid (InV.mono (fun k (hk : k < w7.heap.size) => (by omega : k < w8.heap.size)) _ _ (InV.later (same_below hb78) _ _ HTT.out))
      have hbb : ((sameB f g) != (sameB f g)) = false := by simp
      clear hb8 hb78 v0 v1 v2 v3 v4
      go_wp2_with fail
      have hS1 : TwoBox w6.heap.size w.heap.size f f za zc sa a zb zd scap cap w8.drew := ⟨HF8.out, HT8.out.1⟩
      refine upto_begin (TwoBox w6.heap.size w.heap.size f f za zc sa a zb zd scap cap) 9 (by kernel_rfl) ?_
      refine upto_take (i := 0) (d := some 35) (v := ?_) rfl rfl (by kernel_rfl) (by kernel_rfl) (by kernel_rfl) (by kernel_rfl) (fun _ _ _ h => h) (Or.inl ⟨by rfl, ?_⟩) hS1 ?_
      rotate_left
      · (intro wS hSw; obtain ⟨⟨_, _, _, _, _⟩, ⟨_, _, _, _, _⟩⟩ := hSw; go_simp; try with_reducible rfl)
      try simp only [Act.put, List.setIfInBounds_toArray, List.set_cons_zero, List.set_cons_succ]
      refine upto_take (i := 1) (d := some 36) (v := ?_) rfl rfl (by kernel_rfl) (by kernel_rfl) (by kernel_rfl) (by kernel_rfl) (fun _ _ _ h => h) (Or.inl ⟨by rfl, ?_⟩) hS1 ?_
      rotate_left
      · (intro wS hSw; obtain ⟨⟨_, _, _, _, _⟩, ⟨_, _, _, _, _⟩⟩ := hSw; go_simp; try with_reducible rfl)
      try simp only [Act.put, List.setIfInBounds_toArray, List.set_cons_zero, List.set_cons_succ]

      refine upto_one (i := 2) (by kernel_rfl) rfl (fun K hK => ?_)
      go_simp
      refine (toForm_any w.heap.size f _ w8.drew (by show _ ≤ w8.heap.size; omega) (InV.later (w := w) (w' := w8.drew) (same_below HB8.out.drew) _ _ HV.out) hsf).mono ?_
      rintro e w9 hp
      obtain ⟨ra, rb, rc, rd, rfl, hr, hb9⟩ := hp.weak
      have hb9' := below_drew hb9
      have HT9 := Lib.hid (HT8.out.later hb9')
      have HG9 := Lib.hid (HG8.out.later hb9')
      have HF9 := Lib.hid (HF8.out.later hb9')
      refine hK.out _ _ (.inr ⟨HF9.out, HT9.out.1⟩) ?_
      have hs9 := hb9'.size
      have HB9 : Hid (Below w.heap.size w w9) := HB8.out.trans (hb9'.mono (by omega))
      have HR := Lib.hid hr
      have HZa := Lib.hid (InV.mono (fun k (hk : k < w8.heap.size) => (by omega : k < w9.heap.size)) _ _ (InV.later (same_below hb9') _ _ HZ9.out))
      have HTTa := Lib.hid (InV.mono (fun k (hk : k < w8.heap.size) => (by omega : k < w9.heap.size)) _ _ (InV.later (same_below hb9') _ _ HTT9.out))
      clear hK K hp hb9 hb9' hr
      refine upto_one (i := 3) (by kernel_rfl) rfl (fun K hK => ?_)
      go_simp
      refine (eqForm_any w9.heap.size f f _ _ _ (Nat.le_refl _) HZa.out HR.out).mono ?_
      rintro e w10 ⟨rfl, hb10⟩
      have HT10 := Lib.hid (HT9.out.later hb10)
      have HG10 := Lib.hid (HG9.out.later hb10)
      have HF10 := Lib.hid (HF9.out.later hb10)
      have HSF := Lib.hid (sameB_refl f)
      refine hK.out _ _ (.inr ⟨HF10.out, HT10.out.1⟩) ?_
      have hs10 := hb10.size
      have HB10 : Hid (Below w.heap.size w w10) := HB9.out.trans (hb10.mono (by omega))
      have HTTb := Lib.hid (InV.mono (fun k (hk : k < w9.heap.size) => (by omega : k < w10.heap.size)) _ _ (InV.later (same_below hb10) _ _ HTTa.out))
      clear hK K hb10
      rw [HSF.out]
      refine upto_one (i := 4) (by kernel_rfl) rfl (fun K hK => ?_)
      go_simp
      refine hK.out _ _ (.inr ⟨HF10.out, HT10.out.1⟩) ?_
      clear hK K
      refine upto_done (by kernel_rfl) ?_ _
      go_wp2_with fail
      have hS2 : TwoBox w7.heap.size (w.heap.size + 1) g g ta tc sa' a' tb td scap' cap' w10.drew := ⟨HG10.out, HT10.out.2⟩
      refine upto_begin (TwoBox w7.heap.size (w.heap.size + 1) g g ta tc sa' a' tb td scap' cap') 9 (by kernel_rfl) ?_
      refine upto_take (i := 0) (d := some 40) (v := ?_) rfl rfl (by kernel_rfl) (by kernel_rfl) (by kernel_rfl) (by kernel_rfl) (fun _ _ _ h => h) (Or.inl ⟨by rfl, ?_⟩) hS2 ?_
      rotate_left
      · (intro wS hSw; obtain ⟨⟨_, _, _, _, _⟩, ⟨_, _, _, _, _⟩⟩ := hSw; go_simp; try with_reducible rfl)
      try simp only [Act.put, List.setIfInBounds_toArray, List.set_cons_zero, List.set_cons_succ]
      refine upto_take (i := 1) (d := some 41) (v := ?_) rfl rfl (by kernel_rfl) (by kernel_rfl) (by kernel_rfl) (by kernel_rfl) (fun _ _ _ h => h) (Or.inl ⟨by rfl, ?_⟩) hS2 ?_
      rotate_left
      · (intro wS hSw; obtain ⟨⟨_, _, _, _, _⟩, ⟨_, _, _, _, _⟩⟩ := hSw; go_simp; try with_reducible rfl)
      try simp only [Act.put, List.setIfInBounds_toArray, List.set_cons_zero, List.set_cons_succ]
      refine upto_one (i := 2) (by kernel_rfl) rfl (fun K hK => ?_)
      go_simp
      refine (toForm_any w.heap.size g _ w10.drew (by show _ ≤ w10.heap.size; omega) (InV.later (w := w) (w' := w10.drew) (same_below HB10.out.drew) _ _ HU.out) (by omega)).mono ?_
      rintro e w11 hp
      obtain ⟨ma, mb, mc, md, rfl, hm, hb11⟩ := hp.weak
      have hb11' := below_drew hb11
      have HT11 := Lib.hid (HT10.out.later hb11')
      have HG11 := Lib.hid (HG10.out.later hb11')
      refine hK.out _ _ (.inr ⟨HG11.out, HT11.out.2⟩) ?_
      have hs11 := hb11'.size
      have HB11 : Hid (Below w.heap.size w w11) := HB10.out.trans (hb11'.mono (by omega))
      have HM := Lib.hid hm
      have HTTc := Lib.hid (InV.mono (fun k (hk : k < w10.heap.size) => (by omega : k < w11.heap.size)) _ _ (InV.later (same_below hb11') _ _ HTTb.out))
      clear hK K hp hb11 hb11' hm
      refine upto_one (i := 3) (by kernel_rfl) rfl (fun K hK => ?_)
      go_simp
      refine (eqForm_any w11.heap.size g g _ _ _ (Nat.le_refl _) HTTc.out HM.out).mono ?_
      rintro e w12 ⟨rfl, hb12⟩
      have HSG := Lib.hid (sameB_refl g)
      refine hK.out _ _ (.inr ⟨HG11.out.later hb12, (HT11.out.later hb12).2⟩) ?_
      have HB12 : Hid (Below w.heap.size w w12) := HB11.out.trans (hb12.mono (by omega))
      have HS12 : Hid (TwoBox w7.heap.size (w.heap.size + 1) g g ta tc sa' a' tb td scap' cap' w12) := ⟨HG11.out.later hb12, (HT11.out.later hb12).2⟩
      clear hK K hb12
      rw [HSG.out]
      refine upto_one (i := 4) (by kernel_rfl) rfl (fun K hK => ?_)
      go_simp
      refine hK.out _ _ (.inr HS12.out) ?_
      clear hK K
      refine upto_done (by kernel_rfl) ?_ _
      go_wp2_with fail
      go_ret
      exact ⟨rfl, HB12.out⟩
theorem own : ownKnob Try.prog.godebug = none := by kernel_rfl
theorem laidOut : laidOutB Try.prog = true := by kernel_rfl
set_option maxRecDepth 100000 in
theorem lifted (os : Os) (started : os.Started) (H : Type) (enc : TypeId × Value → H) :
    ReturnsInHanded {} Try.checked os 3 .any (Rows.fnExactFormSameSpec.pre6 enc Try.prog Try.f3 Rows.fnExactFormSameRow.domain false) (Rows.fnExactFormSameSpec.post enc Try.prog Try.f3 false true false false) := by
  refine returnsInHanded_of_change (C := Try.checked) own started (by kernel_rfl) Try.func3
    (ChangeSpec.witness6 (enc := enc) (C := Try.checked) false ⟨#[], #[.agg #[.int .i64 0, .string ByteArray.empty, .int .i64 0, .slice none 0 0, .slice none 0 0], .agg #[.int .i64 0, .string ByteArray.empty, .int .i64 0, .slice none 0 0, .slice none 0 0]], []⟩ 12 (by kernel_rfl) (by kernel_rfl) (by kernel_rfl) (by kernel_rfl)) ?_
  intro W base args ds gs before hval0 hW hcnd _
  have hval : ∀ (j : Nat) t v, Try.f3.params[j]? = some t → args[j]? = some v → Value.okWide Try.prog W .any base t v := hval0
  have hW' := hW
  obtain ⟨p, q, hA0, hV, rfl, hfz, hnd⟩ := hW
  have hA : DataW.TrodAll enc Try.prog W 0 (fun _ => true) true Try.f3.params.toList args.toList ds p := hA0
  rw [Try.params3] at hA hval
  obtain ⟨v0, vs0, d0, ds0, p0, q0, hargs, rfl, rfl, h0, r0⟩ := trodAll_cons hA
  obtain ⟨v1, vs1, d1, ds1, p1, q1, rfl, rfl, rfl, h1, r1⟩ := trodAll_cons r0
  obtain ⟨rfl, rfl, rfl⟩ := trodAll_nil r1
  obtain rfl : args = #[v0, v1] := by cases args; simp_all
  obtain ⟨rfl, rfl⟩ := trodVars_none hV
  have k0 := h0
  have lt0 : ∀ x ∈ p0, x.block < W.heap.size := by obtain ⟨m, hm⟩ := k0; exact DataW.trod_lt m _ _ _ hm
  obtain ⟨f0, i0⟩ := open_form_arg (hval 0 25 v0 rfl rfl) h0
  have k1 := h1
  have lt1 : ∀ x ∈ p1, x.block < W.heap.size := by obtain ⟨m, hm⟩ := k1; exact DataW.trod_lt m _ _ _ hm
  obtain ⟨f1, i1⟩ := open_form_arg (hval 1 25 v1 rfl rfl) h1
  clear hA0 hval0
  try simp only [List.append_nil] at hW'
  refine (walk W f0 v0 i0 f1 v1 i1).mono fun e W' ⟨he, bel⟩ => ?_
  subst he
  exact ⟨_, rfl, _, _, _, [], _, [], hW', trodAll_mk1 (shut_bool Try.underlying4 _), (trodAll_cons_mk (Below.trod laidOut (by kernel_rfl) (of_decide_eq_true (by kernel_rfl)) k0 bel lt0) (trodAll_cons_mk (Below.trod laidOut (by kernel_rfl) (of_decide_eq_true (by kernel_rfl)) k1 bel lt1) trodAll_mk0)), rfl, bel.frame _, fun h => by cases h⟩
theorem over_named : Try.pinned.checked.prog.funcNamed Rows.fnExactFormSameRow.func = some 3 := by kernel_rfl
theorem over_closed : joinedFacts Try.pinned.checked.prog 3 Try.f3 Rows.fnExactFormSameSpec Rows.fnExactFormSameRow = true := by kernel_rfl
theorem over_inst : Func.isInstance Try.pinned.checked.prog Try.f3 Rows.fnExactFormSameRow.origin Rows.fnExactFormSameRow.targs := of_decide_eq_true (by kernel_rfl)
theorem over_wrap : Func.isWrapper Try.pinned.checked.prog Try.f3 Rows.fnExactFormSameRow.wrapper Rows.fnExactFormSameRow.mainSum := (by unfold Func.isWrapper; first | (rw [if_pos (by decide +kernel)]; kernel_rfl) | (rw [if_neg (by decide +kernel)]; exact ⟨rfl, rfl⟩))
theorem over : Rows.fnExactFormSameRow.holds Try.pinned (OpenSpec.ofChange Rows.fnExactFormSameSpec) :=
  OpenClaim.holds_of_wide 3 Try.f3 rfl rfl rfl rfl rfl rfl rfl ⟨rfl, rfl, rfl, rfl, rfl⟩ rfl rfl rfl rfl rfl over_named Try.func3 over_closed over_inst over_wrap
    (fun os started H enc _ => lifted os started H enc)
theorem proved : Rows.FnExactFormSameSaid := over
end Go.Proofs.Ytlgalpdjeojaaaa.exFormSame
