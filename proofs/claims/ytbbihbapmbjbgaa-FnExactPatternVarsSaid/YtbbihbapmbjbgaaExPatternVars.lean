/- For every form and every list of forms, valid or not, the two lists of variables agree, the program's leaves its arguments as they were and shares no memory: the law FnExactPatternVars returns true, whatever the input, with no condition beyond the statement's own. -/
import Derived.Test.YtbbihbapmbjbgaaRows
import Derived.Test.YtbbihbapmbjbgaaPVars
import Derived.Test.YtbbihbapmbjbgaaFormsS
import Derived.Test.YtbbihbapmbjbgaaOpen
import Derived.Test.YtbbihbapmbjbgaaMark2
import Derived.Deep.RegionWith
namespace Go.Proofs.Ytbbihbapmbjbgaa.exPatternVars
open Go.ChangeShapes Go.WideShapes Go.ChangeAt Go.RowKit
open Go.ChangeMaps (open_string shut_string)
set_option linter.unusedVariables false
set_option linter.unusedSimpArgs false
set_option maxRecDepth 100000 in
set_option maxHeartbeats 8000000 in
theorem walk (w : World) (f : Fm) (v : Value) (hv : InV (· < w.heap.size) w f v) (ks : List Fm) (u : Value) (hu : FormsV w ks u) :
    Calls Try.prog 4 #[v, u] w fun e w' => e = .returned (.bool true) ∧ Below w.heap.size w w' := by
  have HV := Lib.hid hv
  obtain ⟨sa, scap, a, cap, rfl⟩ := hv.form
  obtain ⟨la, lcap, rfl, hu⟩ := hu
  have HU := Lib.hid hu
  clear hv hu
  go_enter Try.func4, Try.ntmps4
  go_wp2_with fail
  refine (szForm_any w.heap.size f _ _ 1048576 (by simp) (InV.later (same_below ((Below.refl _ w).alloc (Nat.le_refl _) _)) _ _ HV.out) (by omega)).mono ?_
  rintro e w1 ⟨rfl, hb1⟩
  have hs1 : w.heap.size < w1.heap.size := by have := hb1.size; simp at this; omega
  have HX1 := Lib.hid ((FormBox.fresh w f sa a scap cap 25).later hb1)
  have HB1 : Hid (Below w.heap.size w w1) := (below_alloc w _).trans (hb1.mono (by simp))
  clear hb1
  rcases leftS2 f.sz with hl | ⟨hsf, hl⟩
  · go_wp2_with fail
    go_ret
    exact ⟨rfl, HB1.out⟩
  rw [hl]
  clear hl
  have hp1 : 0 ≤ (1048576 : Int) - f.sz := by omega
  go_wp2_with fail
  refine (szFormS_row w.heap.size ks la lcap w1 (1048576 - f.sz) (by omega) (HU.out.later (same_below HB1.out)) (by omega)).mono ?_
  rintro e w2 ⟨rfl, hb2⟩
  have hs2 := hb2.size
  have HX2 := Lib.hid (HX1.out.later hb2)
  have HB2 : Hid (Below w.heap.size w w2) := HB1.out.trans (hb2.mono (by omega))
  clear hb2 HX1
  rcases leftS3 f.sz (szAll ks) hsf with hl | ⟨hss, hl⟩
  · go_wp2_with fail
    go_ret
    exact ⟨rfl, HB2.out⟩
  have hszk : szAll ks ≤ 1048576 := by omega
  have hcf := f.count_le
  have HCN : Hid (∀ g ∈ ks, g.count ≤ 1048577) := fun g hg => by have h1 := count_szAll ks g hg; have h2 := g.count_le; omega
  obtain ⟨x0, x1, x2, x3, x4⟩ := HX2.out
  obtain ⟨R, hR⟩ : ∃ R, pvarsB f ks = R := ⟨_, rfl⟩
  have hRl := pvarsB_sz f ks
  rw [hR] at hRl
  have HRM : Hid (marksAll R ≤ 3145728) := by have := marksAll_szS R; unfold Hid; omega
  have HRR := Lib.hid hR
  have HM1 : Hid (f.marks ≤ 3145728) := by have := marks_szS f; unfold Hid; omega
  have HMK : Hid (marksAll ks ≤ 3145728) := by have := marksAll_szS ks; unfold Hid; omega
  clear hR
  go_wp2_with fail
  refine (toForm_any w.heap.size f _ w2 (by omega) (InV.later (same_below HB2.out) _ _ HV.out) hsf).mono ?_
  rintro e w3 hp
  obtain ⟨pa, pb, pc, pd, rfl, hq, hb⟩ := hp.weak
  have hs3 : w2.heap.size ≤ w3.heap.size := hb.size
  clear x0 x1 x2 x3 x4
  have HX2_1 := Lib.hid (HX2.out.later hb)
  have HB2_1 := Lib.hid (HB2.out.trans (hb.mono (by omega)))
  clear HX2 HB2
  have HQ := Lib.hid hq
  clear hq hb hp
  go_wp2_with fail
  refine (toFormS_row w.heap.size ks la lcap w3 (by omega) (HU.out.later (same_below HB2_1.out)) hszk).mono ?_
  rintro e w4 ⟨qa, qc, bq, rfl, hko, hkn, hb⟩
  have hs4 : w3.heap.size ≤ w4.heap.size := hb.size
  have HX2_2 := Lib.hid (HX2_1.out.later hb)
  have HB2_2 := Lib.hid (HB2_1.out.trans (hb.mono (by omega)))
  clear HX2_1 HB2_1
  have HQ4 := Lib.hid (KidsOwn.readsS hko (φ := (· < w4.heap.size)) (fun b hb => (hkn.2 b hb).2))
  have HQF : Hid (InV (· < w4.heap.size) w4 f (.agg #[.int .i64 f.kind, .string f.name, .int .i64 f.n, .slice pa f.scopes.length pb, .slice pc f.kids.length pd])) := InV.mono (fun k (hk : k < w3.heap.size) => by show k < w4.heap.size; omega) _ _ (InV.later (same_below hb) _ _ HQ.out)
  clear hko hkn hb HQ
  go_wp2_with fail
  refine (specPatternVars_any w4.heap.size f ks qa qc _ w4 (Nat.le_refl _) HQ4.out HQF.out HCN.out (by omega)).mono ?_
  rintro e w5 ⟨wa, wcap, rfl, hr, hb⟩
  rw [HRR.out] at hr ⊢
  have hs5 : w4.heap.size ≤ w5.heap.size := hb.size
  have HX2_3 := Lib.hid (HX2_2.out.later hb)
  have HB2_3 := Lib.hid (HB2_2.out.trans (hb.mono (by omega)))
  clear HX2_2 HB2_2
  have HW := Lib.hid hr
  clear hr hb HQ4 HQF
  obtain ⟨x0, x1, x2, x3, x4⟩ := HX2_3.out
  go_wp2_with fail
  refine (toForm_any w.heap.size f _ w5 (by omega) (InV.later (same_below HB2_3.out) _ _ HV.out) hsf).mono ?_
  rintro e w6 hp
  obtain ⟨za, zb, zc, zd, bz, rfl, ho, hn, hpl, hb⟩ := hp
  have hs6 : w5.heap.size ≤ w6.heap.size := hb.size
  have HX2_4 := Lib.hid (HX2_3.out.later hb)
  have HB2_4 := Lib.hid (HB2_3.out.trans (hb.mono (by omega)))
  have HW_1 := Lib.hid (FormsIn.later (Same.of_below hb (fun k (hk : k < w5.heap.size) => by omega)) HW.out)
  clear HX2_3 HB2_3 HW
  have HZ := Lib.hid ho
  have HZN := Lib.hid hn
  clear ho hn hpl hb x0 x1 x2 x3 x4
  obtain ⟨v6, hv6⟩ : ∃ v6, v6 = (w6.alloc (.cells #[.int .i64 f.kind, .string f.name, .int .i64 f.n, .slice za f.scopes.length zb, .slice zc f.kids.length zd] 31)) := ⟨_, rfl⟩
  have hb : Below w6.heap.size w6 v6 := by rw [hv6]; exact below_alloc w6 _
  have hsv : w6.heap.size + 1 ≤ v6.heap.size := by rw [hv6]; simp
  have HX2_5 := Lib.hid (HX2_4.out.later hb)
  have HB2_5 := Lib.hid (HB2_4.out.trans (hb.mono (by omega)))
  have HW_2 := Lib.hid (FormsIn.later (Same.of_below hb (fun k (hk : k < w5.heap.size) => by omega)) HW_1.out)
  have HZ_1 := Lib.hid (OwnV.later _ _ _ (SameOn.of_below hb (fun c hm => by have h := HZN.out.2 c hm; omega)) HZ.out)
  clear HX2_4 HB2_4 HW_1 HZ
  have HY : Hid (FormBox v6 w6.heap.size f za zb zc zd) := by unfold Hid; rw [hv6]; exact FormBox.fresh w6 f za zc zb zd _
  clear hb
  have HV6 := Lib.hid hv6
  clear hv6
  go_wp2_with fail
  rw [← HV6.out]
  refine (toFormS_row w.heap.size ks la lcap v6 (by omega) (HU.out.later (same_below HB2_5.out)) hszk).mono ?_
  rintro e w7 ⟨ra, rc, br, rfl, hko, hkn, hb⟩
  have hs7 : v6.heap.size ≤ w7.heap.size := hb.size
  have HX2_6 := Lib.hid (HX2_5.out.later hb)
  have HB2_6 := Lib.hid (HB2_5.out.trans (hb.mono (by omega)))
  have HW_3 := Lib.hid (FormsIn.later (Same.of_below hb (fun k (hk : k < w5.heap.size) => by omega)) HW_2.out)
  have HZ_2 := Lib.hid (OwnV.later _ _ _ (SameOn.of_below hb (fun c hm => by have h := HZN.out.2 c hm; omega)) HZ_1.out)
  have HY_1 := Lib.hid (HY.out.later hb)
  clear HX2_5 HB2_5 HW_2 HZ_1 HY
  have HK := Lib.hid hko
  have HKN := Lib.hid hkn
  clear hko hkn hb HV6
  obtain ⟨y0, y1, y2, y3, y4⟩ := HY_1.out
  go_wp2_with fail
  refine (implPatternVars_any w7.heap.size f ks ra rc _ w7 (Nat.le_refl _) (KidsOwn.readsS HK.out (φ := (· < w7.heap.size)) (fun b hb => (HKN.out.2 b hb).2)) (OwnV.inV (φ := (· < w7.heap.size)) f _ bz (fun c hm => by have := (HZN.out.2 c hm).2; omega) HZ_2.out) (by omega)).mono ?_
  rintro e w8 ⟨ga, gc, bg, rfl, hgo, hgn, hb⟩
  rw [HRR.out] at hgo ⊢
  have hs8 : w7.heap.size ≤ w8.heap.size := hb.size
  have HX2_7 := Lib.hid (HX2_6.out.later hb)
  have HB2_7 := Lib.hid (HB2_6.out.trans (hb.mono (by omega)))
  have HW_4 := Lib.hid (FormsIn.later (Same.of_below hb (fun k (hk : k < w5.heap.size) => by omega)) HW_3.out)
  have HZ_3 := Lib.hid (OwnV.later _ _ _ (SameOn.of_below hb (fun c hm => by have h := HZN.out.2 c hm; omega)) HZ_2.out)
  have HY_2 := Lib.hid (HY_1.out.later hb)
  have HK_1 := Lib.hid (KidsOwn.later (SameOn.of_below hb (fun c hm => by have h := HKN.out.2 c hm; omega)) HK.out)
  clear HX2_6 HB2_6 HW_3 HZ_2 HY_1 HK
  have HG := Lib.hid hgo
  have HGN := Lib.hid hgn
  clear hgo hgn hb y0 y1 y2 y3 y4
  go_wp2_with fail
  refine (eqFormS_row w8.heap.size R ga wa gc wcap w8 (by omega) (KidsOwn.readsS HG.out (φ := (· < w8.heap.size)) (fun b hb => (HGN.out.2 b hb).2)) (FormsIn.mono (fun k (hk : k < w5.heap.size) => by show k < w8.heap.size; omega) HW_4.out)).mono ?_
  rintro e w9 ⟨rfl, hb⟩
  have hs9 : w8.heap.size ≤ w9.heap.size := hb.size
  have HX2_8 := Lib.hid (HX2_7.out.later hb)
  have HB2_8 := Lib.hid (HB2_7.out.trans (hb.mono (by omega)))
  have HW_5 := Lib.hid (FormsIn.later (Same.of_below hb (fun k (hk : k < w5.heap.size) => by omega)) HW_4.out)
  have HZ_4 := Lib.hid (OwnV.later _ _ _ (SameOn.of_below hb (fun c hm => by have h := HZN.out.2 c hm; omega)) HZ_3.out)
  have HY_3 := Lib.hid (HY_2.out.later hb)
  have HK_2 := Lib.hid (KidsOwn.later (SameOn.of_below hb (fun c hm => by have h := HKN.out.2 c hm; omega)) HK_1.out)
  have HG_1 := Lib.hid (KidsOwn.later (SameOn.of_below hb (fun c hm => by have h := HGN.out.2 c hm; omega)) HG.out)
  clear HX2_7 HB2_7 HW_4 HZ_3 HY_2 HK_1 HG
  clear hb
  go_wp2_with fail
  refine upto_begin (TwoBox w6.heap.size w.heap.size f f za zc sa a zb zd scap cap) 5 (by kernel_rfl) ?_
  obtain ⟨u9, hu9⟩ : ∃ u9, u9 = w9.drew := ⟨_, rfl⟩
  rw [← hu9]
  have hb : Below w9.heap.size w9 u9 := by rw [hu9]; exact (Below.refl _ _).drew
  have hsu : w9.heap.size ≤ u9.heap.size := hb.size
  have HX2_9 := Lib.hid (HX2_8.out.later hb)
  have HB2_9 := Lib.hid (HB2_8.out.trans (hb.mono (by omega)))
  have HW_6 := Lib.hid (FormsIn.later (Same.of_below hb (fun k (hk : k < w5.heap.size) => by omega)) HW_5.out)
  have HZ_5 := Lib.hid (OwnV.later _ _ _ (SameOn.of_below hb (fun c hm => by have h := HZN.out.2 c hm; omega)) HZ_4.out)
  have HY_4 := Lib.hid (HY_3.out.later hb)
  have HK_3 := Lib.hid (KidsOwn.later (SameOn.of_below hb (fun c hm => by have h := HKN.out.2 c hm; omega)) HK_2.out)
  have HG_2 := Lib.hid (KidsOwn.later (SameOn.of_below hb (fun c hm => by have h := HGN.out.2 c hm; omega)) HG_1.out)
  clear HX2_8 HB2_8 HW_5 HZ_4 HY_3 HK_2 HG_1
  clear hb hu9
  have hS : (TwoBox w6.heap.size w.heap.size f f za zc sa a zb zd scap cap) u9 := ⟨HY_4.out, HX2_9.out⟩
  refine upto_take (i := 0) (d := some 40) (v := ?_) rfl rfl (by kernel_rfl) (by kernel_rfl) (by kernel_rfl) (by kernel_rfl) (fun _ _ _ h => h) (Or.inl ⟨by rfl, ?_⟩) hS ?_
  rotate_left
  · (intro wS hSw; obtain ⟨⟨_, _, _, _, _⟩, ⟨_, _, _, _, _⟩⟩ := hSw; go_simp; try with_reducible rfl)
  try simp only [Act.put, List.setIfInBounds_toArray, List.set_cons_zero, List.set_cons_succ]
  refine upto_take (i := 1) (d := some 41) (v := ?_) rfl rfl (by kernel_rfl) (by kernel_rfl) (by kernel_rfl) (by kernel_rfl) (fun _ _ _ h => h) (Or.inl ⟨by rfl, ?_⟩) hS ?_
  rotate_left
  · (intro wS hSw; obtain ⟨⟨_, _, _, _, _⟩, ⟨_, _, _, _, _⟩⟩ := hSw; go_simp; try with_reducible rfl)
  try simp only [Act.put, List.setIfInBounds_toArray, List.set_cons_zero, List.set_cons_succ]
  clear hS
  refine upto_one (i := 2) (by kernel_rfl) rfl (fun K hK => ?_)
  go_simp
  refine (toForm_any w.heap.size f _ u9 (by omega) (InV.later (same_below HB2_9.out) _ _ HV.out) hsf).mono ?_
  rintro e w10 hp
  obtain ⟨ta, tb, tc, td, rfl, hq, hb⟩ := hp.weak
  have hs10 : u9.heap.size ≤ w10.heap.size := hb.size
  have HX2_10 := Lib.hid (HX2_9.out.later hb)
  have HB2_10 := Lib.hid (HB2_9.out.trans (hb.mono (by omega)))
  have HW_7 := Lib.hid (FormsIn.later (Same.of_below hb (fun k (hk : k < w5.heap.size) => by omega)) HW_6.out)
  have HZ_6 := Lib.hid (OwnV.later _ _ _ (SameOn.of_below hb (fun c hm => by have h := HZN.out.2 c hm; omega)) HZ_5.out)
  have HY_5 := Lib.hid (HY_4.out.later hb)
  have HK_4 := Lib.hid (KidsOwn.later (SameOn.of_below hb (fun c hm => by have h := HKN.out.2 c hm; omega)) HK_3.out)
  have HG_3 := Lib.hid (KidsOwn.later (SameOn.of_below hb (fun c hm => by have h := HGN.out.2 c hm; omega)) HG_2.out)
  clear HX2_9 HB2_9 HW_6 HZ_5 HY_4 HK_3 HG_2
  have HT := Lib.hid hq
  clear hq hb hp
  refine hK.out _ _ (.inr ⟨HY_5.out, HX2_10.out⟩) ?_
  clear hK K
  refine upto_one (i := 3) (by kernel_rfl) rfl (fun K hK => ?_)
  go_simp
  refine (eqForm_any w10.heap.size f f _ _ _ (Nat.le_refl _) (OwnV.inV (φ := (· < w10.heap.size)) f _ bz (fun c hm => by have := (HZN.out.2 c hm).2; omega) HZ_6.out) HT.out).mono ?_
  rintro e w11 ⟨rfl, hb⟩
  rw [sameB_refl]
  have hs11 : w10.heap.size ≤ w11.heap.size := hb.size
  have HX2_11 := Lib.hid (HX2_10.out.later hb)
  have HB2_11 := Lib.hid (HB2_10.out.trans (hb.mono (by omega)))
  have HW_8 := Lib.hid (FormsIn.later (Same.of_below hb (fun k (hk : k < w5.heap.size) => by omega)) HW_7.out)
  have HZ_7 := Lib.hid (OwnV.later _ _ _ (SameOn.of_below hb (fun c hm => by have h := HZN.out.2 c hm; omega)) HZ_6.out)
  have HY_6 := Lib.hid (HY_5.out.later hb)
  have HK_5 := Lib.hid (KidsOwn.later (SameOn.of_below hb (fun c hm => by have h := HKN.out.2 c hm; omega)) HK_4.out)
  have HG_4 := Lib.hid (KidsOwn.later (SameOn.of_below hb (fun c hm => by have h := HGN.out.2 c hm; omega)) HG_3.out)
  clear HX2_10 HB2_10 HW_7 HZ_6 HY_5 HK_4 HG_3
  clear hb HT
  refine hK.out _ _ (.inr ⟨HY_6.out, HX2_11.out⟩) ?_
  clear hK K
  refine upto_one (i := 4) (by kernel_rfl) rfl (fun K hK => ?_)
  go_simp
  refine hK.out _ _ (.inr ⟨HY_6.out, HX2_11.out⟩) ?_
  clear hK K
  refine upto_done (by kernel_rfl) ?_ _
  go_wp2_with fail
  refine (toFormS_row w.heap.size ks la lcap w11 (by omega) (HU.out.later (same_below HB2_11.out)) hszk).mono ?_
  rintro e w12 ⟨ta, tc, bt, rfl, hko, hkn, hb⟩
  have hs12 : w11.heap.size ≤ w12.heap.size := hb.size
  have HX2_12 := Lib.hid (HX2_11.out.later hb)
  have HB2_12 := Lib.hid (HB2_11.out.trans (hb.mono (by omega)))
  have HW_9 := Lib.hid (FormsIn.later (Same.of_below hb (fun k (hk : k < w5.heap.size) => by omega)) HW_8.out)
  have HZ_8 := Lib.hid (OwnV.later _ _ _ (SameOn.of_below hb (fun c hm => by have h := HZN.out.2 c hm; omega)) HZ_7.out)
  have HY_7 := Lib.hid (HY_6.out.later hb)
  have HK_6 := Lib.hid (KidsOwn.later (SameOn.of_below hb (fun c hm => by have h := HKN.out.2 c hm; omega)) HK_5.out)
  have HG_5 := Lib.hid (KidsOwn.later (SameOn.of_below hb (fun c hm => by have h := HGN.out.2 c hm; omega)) HG_4.out)
  clear HX2_11 HB2_11 HW_8 HZ_7 HY_6 HK_5 HG_4
  have HT := Lib.hid (KidsOwn.readsS hko (φ := (· < w12.heap.size)) (fun b hb => (hkn.2 b hb).2))
  clear hko hkn hb
  go_wp2_with fail
  refine (eqFormS_row w12.heap.size ks ra ta rc tc w12 (Nat.le_refl _) (KidsOwn.readsS HK_6.out (φ := (· < w12.heap.size)) (fun b hb => by have := (HKN.out.2 b hb).2; omega)) HT.out).mono ?_
  rintro e w13 ⟨rfl, hb⟩
  have hs13 : w12.heap.size ≤ w13.heap.size := hb.size
  have HX2_13 := Lib.hid (HX2_12.out.later hb)
  have HB2_13 := Lib.hid (HB2_12.out.trans (hb.mono (by omega)))
  have HW_10 := Lib.hid (FormsIn.later (Same.of_below hb (fun k (hk : k < w5.heap.size) => by omega)) HW_9.out)
  have HZ_9 := Lib.hid (OwnV.later _ _ _ (SameOn.of_below hb (fun c hm => by have h := HZN.out.2 c hm; omega)) HZ_8.out)
  have HY_8 := Lib.hid (HY_7.out.later hb)
  have HK_7 := Lib.hid (KidsOwn.later (SameOn.of_below hb (fun c hm => by have h := HKN.out.2 c hm; omega)) HK_6.out)
  have HG_6 := Lib.hid (KidsOwn.later (SameOn.of_below hb (fun c hm => by have h := HGN.out.2 c hm; omega)) HG_5.out)
  clear HX2_12 HB2_12 HW_9 HZ_8 HY_7 HK_6 HG_5
  clear hb HT
  obtain ⟨y0, y1, y2, y3, y4⟩ := HY_8.out
  go_wp2_with fail
  refine (markForm_any f _ bz 1 w13 HZ_9.out HZN.out.1 (fun c hm => by have := (HZN.out.2 c hm).2; omega) (by omega) (by have := HM1.out; omega)).mono ?_
  rintro e w14 ⟨rfl, hmz, ho⟩
  have hs14 := ho.size
  clear hmz
  clear y0 y1 y2 y3 y4
  have HX2_14 := Lib.hid (HX2_13.out.only ho (fun hm => by have h := HZN.out.2 _ hm; omega))
  have HB2_14 := Lib.hid (HB2_13.out.trans (ho.below (fun c hm => by have h := HZN.out.2 c hm; omega) (by omega)))
  have HW_11 := Lib.hid (FormsIn.later (ho.same (fun k (hk : k < w5.heap.size) => ⟨by omega, fun hm => by have h := HZN.out.2 _ hm; omega⟩)) HW_10.out)
  have HK_8 := Lib.hid (KidsOwn.later (ho.sameOn (fun c hc => ⟨by have h := HKN.out.2 c hc; omega, fun hm => by have h1 := HZN.out.2 _ hm; have h2 := HKN.out.2 c hc; omega⟩)) HK_7.out)
  have HG_7 := Lib.hid (KidsOwn.later (ho.sameOn (fun c hc => ⟨by have h := HGN.out.2 c hc; omega, fun hm => by have h1 := HZN.out.2 _ hm; have h2 := HGN.out.2 c hc; omega⟩)) HG_6.out)
  clear HX2_13 HB2_13 HW_10 HK_7 HG_6
  clear ho
  have hk0 : 1 ≤ (1 : Int) + f.marks := by omega
  go_wp2_with fail
  refine (markFormS_any ks ra rc br _ w14 HK_8.out HKN.out.1 (fun c hm => by have := (HKN.out.2 c hm).2; omega) hk0 (by have := HMK.out; have := HM1.out; omega)).mono ?_
  rintro e w15 ⟨rfl, hmz, ho⟩
  have hs15 := ho.size
  clear hmz
  have HX2_15 := Lib.hid (HX2_14.out.only ho (fun hm => by have h := HKN.out.2 _ hm; omega))
  have HB2_15 := Lib.hid (HB2_14.out.trans (ho.below (fun c hm => by have h := HKN.out.2 c hm; omega) (by omega)))
  have HW_12 := Lib.hid (FormsIn.later (ho.same (fun k (hk : k < w5.heap.size) => ⟨by omega, fun hm => by have h := HKN.out.2 _ hm; omega⟩)) HW_11.out)
  have HG_8 := Lib.hid (KidsOwn.later (ho.sameOn (fun c hc => ⟨by have h := HGN.out.2 c hc; omega, fun hm => by have h1 := HKN.out.2 _ hm; have h2 := HGN.out.2 c hc; omega⟩)) HG_7.out)
  clear HX2_14 HB2_14 HW_11 HG_7
  clear ho
  have hk1 : ¬ ((1 : Int) + f.marks + marksAll ks < 0) := by omega
  go_wp2_with fail
  refine (eqFormS_row w8.heap.size R ga wa gc wcap w15 (by omega) (KidsOwn.readsS HG_8.out (φ := (· < w8.heap.size)) (fun b hb => (HGN.out.2 b hb).2)) (FormsIn.mono (fun k (hk : k < w5.heap.size) => by show k < w8.heap.size; omega) HW_12.out)).mono ?_
  rintro e w16 ⟨rfl, hb⟩
  have hs16 : w15.heap.size ≤ w16.heap.size := hb.size
  have HX2_16 := Lib.hid (HX2_15.out.later hb)
  have HB2_16 := Lib.hid (HB2_15.out.trans (hb.mono (by omega)))
  have HW_13 := Lib.hid (FormsIn.later (Same.of_below hb (fun k (hk : k < w5.heap.size) => by omega)) HW_12.out)
  have HG_9 := Lib.hid (KidsOwn.later (SameOn.of_below hb (fun c hm => by have h := HGN.out.2 c hm; omega)) HG_8.out)
  clear HX2_15 HB2_15 HW_12 HG_8
  clear hb
  go_wp2_with fail
  refine (markFormS_any R ga gc bg 1 w16 HG_9.out HGN.out.1 (fun c hm => by have := (HGN.out.2 c hm).2; omega) (by omega) (by have := HRM.out; omega)).mono ?_
  rintro e w17 ⟨rfl, hmg, ho⟩
  have hs17 := ho.size
  have HX2_17 := Lib.hid (HX2_16.out.only ho (fun hm => by have h := HGN.out.2 _ hm; omega))
  have HB2_17 := Lib.hid (HB2_16.out.trans (ho.below (fun c hm => by have h := HGN.out.2 c hm; omega) (by omega)))
  have HW_14 := Lib.hid (FormsIn.later (ho.same (fun k (hk : k < w5.heap.size) => ⟨by omega, fun hm => by have h := HGN.out.2 _ hm; omega⟩)) HW_13.out)
  clear HX2_16 HB2_16 HW_13
  have HG2 := Lib.hid hmg
  clear hmg ho
  go_wp2_with fail
  refine (heldFormS_any R w8.heap.size ga gc 1 w17 (by omega) (by have h := (HG2.out).1; rw [markedAll_length] at h; exact h) (HG2.out).2.1 (KidsOwn.readsS HG2.out (φ := (· < w8.heap.size)) (fun b hb => (HGN.out.2 b hb).2)).2.2 (by omega) (by have := HRM.out; omega)).mono ?_
  rintro e w18 ⟨rfl, hb⟩
  have hs18 : w17.heap.size ≤ w18.heap.size := hb.size
  have HX2_18 := Lib.hid (HX2_17.out.later hb)
  have HB2_18 := Lib.hid (HB2_17.out.trans (hb.mono (by omega)))
  have HW_15 := Lib.hid (FormsIn.later (Same.of_below hb (fun k (hk : k < w5.heap.size) => by omega)) HW_14.out)
  have HG2_1 := Lib.hid (KidsOwn.later (SameOn.of_below hb (fun c hm => by have h := HGN.out.2 c hm; omega)) HG2.out)
  clear HX2_17 HB2_17 HW_14 HG2
  clear hb
  have hq0 : ¬ ((1 : Int) + marksAll R < 0) := by omega
  have hqq : (((1 : Int) + marksAll R) != (1 + marksAll R)) = false := by simp
  obtain ⟨x0, x1, x2, x3, x4⟩ := HX2_18.out
  go_wp2_with fail
  refine (toForm_any w.heap.size f _ w18 (by omega) (InV.later (same_below HB2_18.out) _ _ HV.out) hsf).mono ?_
  rintro e w19 hp
  obtain ⟨pa, pb, pc, pd, rfl, hq, hb⟩ := hp.weak
  have hs19 : w18.heap.size ≤ w19.heap.size := hb.size
  clear x0 x1 x2 x3 x4
  have HX2_19 := Lib.hid (HX2_18.out.later hb)
  have HB2_19 := Lib.hid (HB2_18.out.trans (hb.mono (by omega)))
  have HW_16 := Lib.hid (FormsIn.later (Same.of_below hb (fun k (hk : k < w5.heap.size) => by omega)) HW_15.out)
  have HG2_2 := Lib.hid (KidsOwn.later (SameOn.of_below hb (fun c hm => by have h := HGN.out.2 c hm; omega)) HG2_1.out)
  clear HX2_18 HB2_18 HW_15 HG2_1
  have HQ := Lib.hid hq
  clear hq hb hp
  go_wp2_with fail
  refine (toFormS_row w.heap.size ks la lcap w19 (by omega) (HU.out.later (same_below HB2_19.out)) hszk).mono ?_
  rintro e w20 ⟨qa, qc, bq, rfl, hko, hkn, hb⟩
  have hs20 : w19.heap.size ≤ w20.heap.size := hb.size
  have HX2_20 := Lib.hid (HX2_19.out.later hb)
  have HB2_20 := Lib.hid (HB2_19.out.trans (hb.mono (by omega)))
  have HW_17 := Lib.hid (FormsIn.later (Same.of_below hb (fun k (hk : k < w5.heap.size) => by omega)) HW_16.out)
  have HG2_3 := Lib.hid (KidsOwn.later (SameOn.of_below hb (fun c hm => by have h := HGN.out.2 c hm; omega)) HG2_2.out)
  clear HX2_19 HB2_19 HW_16 HG2_2
  have HQ4 := Lib.hid (KidsOwn.readsS hko (φ := (· < w20.heap.size)) (fun b hb => (hkn.2 b hb).2))
  have HQF : Hid (InV (· < w20.heap.size) w20 f (.agg #[.int .i64 f.kind, .string f.name, .int .i64 f.n, .slice pa f.scopes.length pb, .slice pc f.kids.length pd])) := InV.mono (fun k (hk : k < w19.heap.size) => by show k < w20.heap.size; omega) _ _ (InV.later (same_below hb) _ _ HQ.out)
  clear hko hkn hb HQ
  go_wp2_with fail
  refine (implPatternVars_any w20.heap.size f ks qa qc _ w20 (Nat.le_refl _) HQ4.out HQF.out (by omega)).mono ?_
  rintro e w21 ⟨ha, hc, bh, rfl, hho, hhn, hb⟩
  rw [HRR.out] at hho ⊢
  have hs21 : w20.heap.size ≤ w21.heap.size := hb.size
  have HX2_21 := Lib.hid (HX2_20.out.later hb)
  have HB2_21 := Lib.hid (HB2_20.out.trans (hb.mono (by omega)))
  have HW_18 := Lib.hid (FormsIn.later (Same.of_below hb (fun k (hk : k < w5.heap.size) => by omega)) HW_17.out)
  have HG2_4 := Lib.hid (KidsOwn.later (SameOn.of_below hb (fun c hm => by have h := HGN.out.2 c hm; omega)) HG2_3.out)
  clear HX2_20 HB2_20 HW_17 HG2_3
  have HH := Lib.hid (KidsOwn.readsS hho (φ := (· < w21.heap.size)) (fun b hb => (hhn.2 b hb).2))
  clear hho hhn hb HQ4 HQF
  go_wp2_with fail
  refine (eqFormS_row w21.heap.size R ha wa hc wcap w21 (Nat.le_refl _) HH.out (FormsIn.mono (fun k (hk : k < w5.heap.size) => by show k < w21.heap.size; omega) HW_18.out)).mono ?_
  rintro e w22 ⟨rfl, hb⟩
  have hs22 : w21.heap.size ≤ w22.heap.size := hb.size
  have HX2_22 := Lib.hid (HX2_21.out.later hb)
  have HB2_22 := Lib.hid (HB2_21.out.trans (hb.mono (by omega)))
  have HW_19 := Lib.hid (FormsIn.later (Same.of_below hb (fun k (hk : k < w5.heap.size) => by omega)) HW_18.out)
  have HG2_5 := Lib.hid (KidsOwn.later (SameOn.of_below hb (fun c hm => by have h := HGN.out.2 c hm; omega)) HG2_4.out)
  clear HX2_21 HB2_21 HW_18 HG2_4
  clear hb HH
  go_wp2_with fail
  refine (heldFormS_any R w8.heap.size ga gc 1 w22 (by omega) (by have h := (HG2_5.out).1; rw [markedAll_length] at h; exact h) (HG2_5.out).2.1 (KidsOwn.readsS HG2_5.out (φ := (· < w8.heap.size)) (fun b hb => (HGN.out.2 b hb).2)).2.2 (by omega) (by have := HRM.out; omega)).mono ?_
  rintro e w23 ⟨rfl, hb⟩
  have hs23 : w22.heap.size ≤ w23.heap.size := hb.size
  have HX2_23 := Lib.hid (HX2_22.out.later hb)
  have HB2_23 := Lib.hid (HB2_22.out.trans (hb.mono (by omega)))
  have HW_20 := Lib.hid (FormsIn.later (Same.of_below hb (fun k (hk : k < w5.heap.size) => by omega)) HW_19.out)
  have HG2_6 := Lib.hid (KidsOwn.later (SameOn.of_below hb (fun c hm => by have h := HGN.out.2 c hm; omega)) HG2_5.out)
  clear HX2_22 HB2_22 HW_19 HG2_5
  clear hb
  go_wp2_with fail
  go_ret
  exact ⟨rfl, HB2_23.out⟩
theorem own : ownKnob Try.prog.godebug = none := by kernel_rfl
theorem laidOut : laidOutB Try.prog = true := by kernel_rfl
set_option maxRecDepth 100000 in
theorem lifted (os : Os) (started : os.Started) (H : Type) (enc : TypeId × Value → H) :
    ReturnsInHanded {} Try.checked os 4 .any (Rows.fnExactPatternVarsSpec.pre6 enc Try.prog Try.f4 Rows.fnExactPatternVarsRow.domain false) (Rows.fnExactPatternVarsSpec.post enc Try.prog Try.f4 false true false false) := by
  refine returnsInHanded_of_change (C := Try.checked) own started (by kernel_rfl) Try.func4
    (ChangeSpec.witness6 (enc := enc) (C := Try.checked) false ⟨#[], #[.agg #[.int .i64 0, .string ByteArray.empty, .int .i64 0, .slice none 0 0, .slice none 0 0], .slice none 0 0], []⟩ 12 (by kernel_rfl) (by kernel_rfl) (by kernel_rfl) (by kernel_rfl)) ?_
  intro W base args ds gs before hval0 hW hcnd _
  have hval : ∀ (j : Nat) t v, Try.f4.params[j]? = some t → args[j]? = some v → Value.okWide Try.prog W .any base t v := hval0
  have hW' := hW
  obtain ⟨p, q, hA0, hV, rfl, hfz, hnd⟩ := hW
  have hA : DataW.TrodAll enc Try.prog W 0 (fun _ => true) true Try.f4.params.toList args.toList ds p := hA0
  rw [Try.params4] at hA hval
  obtain ⟨v0, vs0, d0, ds0, p0, q0, hargs, rfl, rfl, h0, r0⟩ := trodAll_cons hA
  obtain ⟨v1, vs1, d1, ds1, p1, q1, rfl, rfl, rfl, h1, r1⟩ := trodAll_cons r0
  obtain ⟨rfl, rfl, rfl⟩ := trodAll_nil r1
  obtain rfl : args = #[v0, v1] := by cases args; simp_all
  obtain ⟨rfl, rfl⟩ := trodVars_none hV
  have k0 := h0
  have lt0 : ∀ x ∈ p0, x.block < W.heap.size := by obtain ⟨m, hm⟩ := k0; exact DataW.trod_lt m _ _ _ hm
  obtain ⟨f0, i0⟩ := open_form_arg (hval 0 25 v0 rfl rfl) h0
  have k1 := h1
  have lt1 : ∀ x ∈ p1, x.block < W.heap.size := by obtain ⟨m, hm⟩ := k1; exact DataW.trod_lt m _ _ _ hm
  obtain ⟨f1, i1⟩ := open_forms_arg (hval 1 23 v1 rfl rfl) h1
  clear hA0 hval0
  try simp only [List.append_nil] at hW'
  refine (walk W f0 v0 i0 f1 v1 i1).mono fun e W' ⟨he, bel⟩ => ?_
  subst he
  exact ⟨_, rfl, _, _, _, [], _, [], hW', trodAll_mk1 (shut_bool Try.underlying4 _), (trodAll_cons_mk (Below.trod laidOut (by kernel_rfl) (of_decide_eq_true (by kernel_rfl)) k0 bel lt0) (trodAll_cons_mk (Below.trod laidOut (by kernel_rfl) (of_decide_eq_true (by kernel_rfl)) k1 bel lt1) trodAll_mk0)), rfl, bel.frame _, fun h => by cases h⟩
theorem over_named : Try.pinned.checked.prog.funcNamed Rows.fnExactPatternVarsRow.func = some 4 := by kernel_rfl
theorem over_closed : joinedFacts Try.pinned.checked.prog 4 Try.f4 Rows.fnExactPatternVarsSpec Rows.fnExactPatternVarsRow = true := by kernel_rfl
theorem over_inst : Func.isInstance Try.pinned.checked.prog Try.f4 Rows.fnExactPatternVarsRow.origin Rows.fnExactPatternVarsRow.targs := of_decide_eq_true (by kernel_rfl)
theorem over_wrap : Func.isWrapper Try.pinned.checked.prog Try.f4 Rows.fnExactPatternVarsRow.wrapper Rows.fnExactPatternVarsRow.mainSum := (by unfold Func.isWrapper; first | (rw [if_pos (by decide +kernel)]; kernel_rfl) | (rw [if_neg (by decide +kernel)]; exact ⟨rfl, rfl⟩))
theorem over : Rows.fnExactPatternVarsRow.holds Try.pinned (OpenSpec.ofChange Rows.fnExactPatternVarsSpec) :=
  OpenClaim.holds_of_wide 4 Try.f4 rfl rfl rfl rfl rfl rfl rfl ⟨rfl, rfl, rfl, rfl, rfl⟩ rfl rfl rfl rfl rfl over_named Try.func4 over_closed over_inst over_wrap
    (fun os started H enc _ => lifted os started H enc)
theorem proved : Rows.FnExactPatternVarsSaid := over
end Go.Proofs.Ytbbihbapmbjbgaa.exPatternVars
