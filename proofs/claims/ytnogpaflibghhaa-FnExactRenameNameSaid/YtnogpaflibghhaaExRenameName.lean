/- For every form and every two names, valid or not, the two forms with the one name put for the other agree, with the same flags, the program's leaves its argument as it was and shares no memory: the law FnExactRenameName returns true, whatever the input, with no condition beyond the statement's own. -/
import Derived.Test.YtnogpaflibghhaaRows
import Derived.Test.YtnogpaflibghhaaSpecRen
import Derived.Test.YtnogpaflibghhaaImplRen
import Derived.Test.YtnogpaflibghhaaFacts
import Derived.Test.YtnogpaflibghhaaData
import Derived.Test.YtnogpaflibghhaaSz
import Derived.Test.YtnogpaflibghhaaTo
import Derived.Test.YtnogpaflibghhaaEq
import Derived.Test.YtnogpaflibghhaaOpen
import Derived.Deep.RegionWith
import Derived.Test.YtnogpaflibghhaaMark2
namespace Go.Proofs.Ytnogpaflibghhaa.exRenameName
open Go.ChangeShapes Go.WideShapes Go.ChangeAt Go.RowKit
open Go.ChangeMaps (open_string shut_string)
set_option linter.unusedVariables false
set_option linter.unusedSimpArgs false
theorem left2 (f : Fm) : (leftOf 1048576 f.sz < 0) ∨ (f.sz ≤ 1048576 ∧ leftOf 1048576 f.sz = 1048576 - f.sz) := by
  unfold leftOf
  by_cases h : (f.sz : Int) ≤ 1048576
  · rw [if_pos h]; exact .inr ⟨by omega, rfl⟩
  · rw [if_neg h]; exact .inl (by omega)
mutual
theorem marks_sz : ∀ f : Fm, f.marks ≤ 3 * f.sz
  | .mk _ _ _ sc ks => by
    have := marksAll_sz ks
    simp only [Fm.marks, Fm.sz] at *
    omega
theorem marksAll_sz : ∀ ks : List Fm, marksAll ks ≤ 3 * szAll ks
  | [] => by simp [marksAll, szAll]
  | f :: r => by
    have h1 := marks_sz f
    have h2 := marksAll_sz r
    cases f with
    | mk kd nm n sc ks =>
      simp only [marksAll, szAll, Fm.marks, Fm.sz] at *
      omega
end
theorem marksAll_count : ∀ (ks : List Fm), (∀ y ∈ ks, y.marks + 3 ≤ 27 * y.count) → marksAll ks ≤ 27 * countAll ks
  | [], _ => by simp [marksAll]
  | f :: r, h => by
    have h1 := h f (by simp)
    have h2 := marksAll_count r fun y hy => h y (by simp [hy])
    simp only [marksAll, countAll] at *
    omega
theorem marks_count (f : Fm) : ∀ d, isB d f = true → f.marks + 3 ≤ 27 * f.count := by
  induction f using Fm.ind with
  | h k nm n sc ks ih =>
    intro d hd
    obtain ⟨h1, _, h3⟩ := isB_node hd
    have h4 := marksAll_count ks fun y hy => by obtain ⟨d', hd'⟩ := h3 y hy; exact ih y hy d' hd'
    have h5 := scopes_length h1
    simp only [Fm.marks, Fm.count] at *
    omega
theorem marks_valid {f : Fm} (h : formB f = true) : f.marks ≤ 10800 := by
  have h1 := marks_count f 40 (formB_isB h)
  unfold formB at h
  rw [Bool.and_eq_true, decide_eq_true_eq] at h
  omega
mutual
theorem rn_marks (nf : ByteArray → ByteArray) : ∀ f : Fm, (f.rn nf).marks = f.marks
  | .mk _ _ _ sc ks => by
    have := rnAll_marks nf ks
    simp only [Fm.marks, Fm.rn, rnAll_length] at *
    omega
theorem rnAll_marks (nf : ByteArray → ByteArray) : ∀ ks : List Fm, marksAll (rnAll nf ks) = marksAll ks
  | [] => by simp [rnAll]
  | f :: r => by
    have h1 := rn_marks nf f
    have h2 := rnAll_marks nf r
    simp only [marksAll, rnAll] at *
    omega
end
set_option maxRecDepth 100000 in
set_option maxHeartbeats 4000000 in
theorem walk (w : World) (f : Fm) (v : Value) (hv : InV (· < w.heap.size) w f v) (old : ByteArray) (hol : old.size ≤ maxLen) (now : ByteArray) (hno : now.size ≤ maxLen) :
    Calls Try.prog 13 #[v, .string old, .string now] w fun e w' => e = .returned (.bool true) ∧ Below w.heap.size w w' := by
  have HOL := Lib.hid hol
  have HNO := Lib.hid hno
  unfold maxLen at hol hno
  have HV := Lib.hid hv
  obtain ⟨sa, scap, a, cap, rfl⟩ := hv.form
  clear hv
  have hcf := f.count_le
  have HA0 : Hid (Below w.heap.size w (w.alloc (.cells #[.int .i64 f.kind, .string f.name, .int .i64 f.n, .slice sa f.scopes.length scap, .slice a f.kids.length cap] 25))) := below_alloc w _
  by_cases hlo : 1048576 < old.size
  · go_enter Try.func13, Try.ntmps13
    go_wp2_with fail
    go_ret
    exact ⟨rfl, HA0.out⟩
  by_cases hln : 1048576 < now.size
  · go_enter Try.func13, Try.ntmps13
    go_wp2_with fail
    go_ret
    exact ⟨rfl, HA0.out⟩
  go_enter Try.func13, Try.ntmps13
  go_wp2_with fail
  refine (szForm_any w.heap.size f _ _ 1048576 (by simp) (InV.later (same_below HA0.out) _ _ HV.out) (by omega)).mono ?_
  rintro e w1 ⟨rfl, hb1⟩
  obtain ⟨x0, x1, x2, x3, x4⟩ := (FormBox.fresh w f sa a scap cap 25).later hb1
  have hs1 : w.heap.size + 1 ≤ w1.heap.size := by have := hb1.size; simpa using this
  have HB1 : Hid (Below w.heap.size w w1) := HA0.out.trans (hb1.mono (by simp))
  clear hb1
  rcases left2 f with hl | ⟨hsf, hl⟩
  · go_wp2_with fail
    go_ret
    exact ⟨rfl, HB1.out⟩
  · rw [hl]
    clear hl
    have hlt0 : w.heap.size < w1.heap.size := by omega
    have HM1 := Lib.hid (marks_sz f)
    go_wp2_with fail
    refine (toForm_any w.heap.size f _ w1 (by omega) (InV.later (same_below HB1.out) _ _ HV.out) hsf).mono ?_
    rintro e w2 hp
    obtain ⟨pa, pb, pc, pd, rfl, hx, hb2⟩ := hp.weak
    have hs2 := hb2.size
    have HP2 := Lib.hid (FormBox.later (f := f) ⟨x0, x1, x2, x3, x4⟩ hb2)
    have HB2 : Hid (Below w.heap.size w w2) := HB1.out.trans (hb2.mono (by omega))
    have HX := Lib.hid hx
    clear hb2 hx hp x0 x1 x2 x3 x4
    go_wp2_with fail
    obtain ⟨ok, hok⟩ : ∃ ok, renB f old now = ok := ⟨_, rfl⟩
    obtain ⟨F, hF⟩ : ∃ F, (if ok = true then f.rn (nameR old now) else zeroForm) = F := ⟨_, rfl⟩
    have HMF : Hid (F.marks ≤ 10800) := by
      unfold Hid
      rw [← hF]
      cases ok with
      | false => simp [zeroForm, Fm.marks, marksAll]
      | true =>
        rw [if_pos rfl, rn_marks]
        unfold renB at hok
        rw [Bool.and_eq_true] at hok
        exact marks_valid hok.1
    have HOKI := Lib.hid hok
    have HRI := Lib.hid hF
    clear hok hF
    refine (specRename_any w2.heap.size old now HOL.out HNO.out f _ w2 (Nat.le_refl _) HX.out hsf ok F HOKI.out HRI.out).mono ?_
    rintro e w3 ⟨sv, rfl, hs, hb3⟩
    obtain ⟨wsa, wscap, wa, wcap, rfl⟩ := hs.form
    have hs3 := hb3.size
    have HP3 := Lib.hid (HP2.out.later hb3)
    have HB3 : Hid (Below w.heap.size w w3) := HB2.out.trans (hb3.mono (by omega))
    have HW3 : Hid (InV (fun k => k < w3.heap.size) w3 F (.agg #[.int .i64 F.kind, .string F.name, .int .i64 F.n, .slice wsa F.scopes.length wscap, .slice wa F.kids.length wcap])) := InV.mono (fun k hk => hk.2) _ _ hs
    clear hb3 hs HP2 HX
    obtain ⟨x0, x1, x2, x3, x4⟩ := HP3.out
    have hlt3 : w.heap.size < w3.heap.size := by omega
    go_wp2_with fail
    refine (toForm_any w.heap.size f _ _ (by simp; omega) (InV.later (same_below (HB3.out.alloc (by omega) _)) _ _ HV.out) hsf).mono ?_
    rintro e w4 hp
    obtain ⟨za, zb, zc, zd, bz, rfl, hzo, hzn, hzp, hb4⟩ := hp
    rw [size_alloc'] at hzn
    have hb34 : Below w3.heap.size w3 w4 := (below_alloc _ _).trans (hb4.mono (by simp))
    have hs4 : w3.heap.size + 1 ≤ w4.heap.size := by have := hb4.size; simpa using this
    have HW4 := Lib.hid ((FormBox.fresh w3 F wsa wa wscap wcap 33).later hb4)
    have HP4 := Lib.hid (HP3.out.later hb34)
    have HB4 : Hid (Below w.heap.size w w4) := HB3.out.trans (hb34.mono (by omega))
    have HWI4 := Lib.hid (InV.later (same_below hb34) _ _ HW3.out)
    have HZO := Lib.hid hzo
    have HZN := Lib.hid hzn
    have HZP := Lib.hid hzp
    clear hzo hzn hzp hb4 hb34 x0 x1 x2 x3 x4 HW3 HP3
    go_wp2_with fail
    have hb45 := below_alloc w4 (.cells #[.int .i64 f.kind, .string f.name, .int .i64 f.n, .slice za f.scopes.length zb, .slice zc f.kids.length zd] 33)
    refine (implRename_any old now HOL.out HNO.out f _ _ (InV.mono (fun k (hk : k < w4.heap.size) => (by simp; omega)) _ _ (InV.later (same_below hb45) _ _ (OwnV.inV (φ := (· < w4.heap.size)) f _ bz (fun c hm => (HZN.out.2 c hm).2) HZO.out))) hsf ok F HOKI.out HRI.out).mono ?_
    rintro e w5 hp
    obtain ⟨ga, gb, gc, gd, bg, rfl, hgo, hgn, hgp, hb5⟩ := hp
    rw [size_alloc'] at hgn
    have hb45' : Below w4.heap.size w4 w5 := hb45.trans (hb5.mono (by simp))
    have hs5 : w4.heap.size + 1 ≤ w5.heap.size := by have := hb5.size; simpa using this
    have HX5 := Lib.hid ((FormBox.fresh w4 f za zc zb zd 33).later hb5)
    have HW5 := Lib.hid (HW4.out.later hb45')
    have HP5 := Lib.hid (HP4.out.later hb45')
    have HB5 : Hid (Below w.heap.size w w5) := HB4.out.trans (hb45'.mono (by omega))
    have HWI5 := Lib.hid (InV.later (same_below (hb45'.mono (by omega))) _ _ HWI4.out)
    have HZO5 := Lib.hid (OwnV.later _ _ _ (SameOn.of_below hb45' (fun c hm => (HZN.out.2 c hm).2)) HZO.out)
    have HGO := Lib.hid hgo
    have HGN := Lib.hid hgn
    clear hgo hgn hgp hb5 hb45 hb45' HW4 HP4 HWI4 HZO
    obtain ⟨y0, y1, y2, y3, y4⟩ := HW5.out
    have hlt5 : w3.heap.size < w5.heap.size := by omega
    go_wp2_with fail
    have hb56 := below_alloc w5 (.cells #[.int .i64 F.kind, .string F.name, .int .i64 F.n, .slice ga F.scopes.length gb, .slice gc F.kids.length gd] 33)
    refine (eqForm_any (w5.heap.size + 1) F F _ _ _ (by simp) (InV.mono (fun k (hk : k < w5.heap.size) => (by omega)) _ _ (InV.later (same_below hb56) _ _ (OwnV.inV (φ := (· < w5.heap.size)) F _ bg (fun c hm => (HGN.out.2 c hm).2) HGO.out)))
      (InV.mono (fun k (hk : k < w3.heap.size) => (by omega)) _ _ (InV.later (same_below (hb56.mono (by omega))) _ _ HWI5.out))).mono ?_
    rintro e w6 ⟨rfl, hb6⟩
    rw [sameB_refl F]
    have hbb : (ok != ok) = false := by simp
    have hb56' : Below w5.heap.size w5 w6 := hb56.trans (hb6.mono (by simp))
    have hs6 : w5.heap.size + 1 ≤ w6.heap.size := by have := hb6.size; simpa using this
    have HG6 := Lib.hid ((FormBox.fresh w5 F ga gc gb gd 33).later hb6)
    have HX6 := Lib.hid (HX5.out.later hb56')
    have HW6 := Lib.hid (HW5.out.later hb56')
    have HP6 := Lib.hid (HP5.out.later hb56')
    have HB6 : Hid (Below w.heap.size w w6) := HB5.out.trans (hb56'.mono (by omega))
    have HWI6 := Lib.hid (InV.later (same_below (hb56'.mono (by omega))) _ _ HWI5.out)
    have HZO6 := Lib.hid (OwnV.later _ _ _ (SameOn.of_below hb56' (fun c hm => by have := (HZN.out.2 c hm).2; omega)) HZO5.out)
    have HGO6 := Lib.hid (OwnV.later _ _ _ (SameOn.of_below hb56' (fun c hm => (HGN.out.2 c hm).2)) HGO.out)
    clear hb6 hb56 hb56' y0 y1 y2 y3 y4 HX5 HW5 HP5 HWI5 HZO5 HGO
    go_wp2_with fail
    have hS1 : TwoBox w4.heap.size w.heap.size f f za zc sa a zb zd scap cap w6.drew := ⟨HX6.out, HP6.out⟩
    refine upto_begin (TwoBox w4.heap.size w.heap.size f f za zc sa a zb zd scap cap) 9 (by kernel_rfl) ?_
    refine upto_take (i := 0) (d := some 55) (v := ?_) rfl rfl (by kernel_rfl) (by kernel_rfl) (by kernel_rfl) (by kernel_rfl) (fun _ _ _ h => h) (Or.inl ⟨by rfl, ?_⟩) hS1 ?_
    rotate_left
    · (intro wS hSw; obtain ⟨⟨_, _, _, _, _⟩, ⟨_, _, _, _, _⟩⟩ := hSw; go_simp; try with_reducible rfl)
    try simp only [Act.put, List.setIfInBounds_toArray, List.set_cons_zero, List.set_cons_succ]
    refine upto_take (i := 1) (d := some 56) (v := ?_) rfl rfl (by kernel_rfl) (by kernel_rfl) (by kernel_rfl) (by kernel_rfl) (fun _ _ _ h => h) (Or.inl ⟨by rfl, ?_⟩) hS1 ?_
    rotate_left
    · (intro wS hSw; obtain ⟨⟨_, _, _, _, _⟩, ⟨_, _, _, _, _⟩⟩ := hSw; go_simp; try with_reducible rfl)
    try simp only [Act.put, List.setIfInBounds_toArray, List.set_cons_zero, List.set_cons_succ]
    refine upto_one (i := 2) (by kernel_rfl) rfl (fun K hK => ?_)
    go_simp
    refine (toForm_any w.heap.size f _ w6.drew (by show _ ≤ w6.heap.size; omega) (InV.later (w := w) (w' := w6.drew) (same_below HB6.out.drew) _ _ HV.out) hsf).mono ?_
    rintro e w7 hp
    obtain ⟨ra, rb, rc, rd, rfl, hr, hb7⟩ := hp.weak
    have hb7' := below_drew hb7
    have HG7 := Lib.hid (HG6.out.later hb7')
    have HX7 := Lib.hid (HX6.out.later hb7')
    have HW7 := Lib.hid (HW6.out.later hb7')
    have HP7 := Lib.hid (HP6.out.later hb7')
    refine hK.out _ _ (.inr ⟨HX7.out, HP7.out⟩) ?_
    have hs7 := hb7'.size
    have HB7 : Hid (Below w.heap.size w w7) := HB6.out.trans (hb7'.mono (by omega))
    have HR := Lib.hid hr
    have HWI7 := Lib.hid (InV.later (same_below (hb7'.mono (by omega))) _ _ HWI6.out)
    have HZO7 := Lib.hid (OwnV.later _ _ _ (SameOn.of_below hb7' (fun c hm => by have := (HZN.out.2 c hm).2; omega)) HZO6.out)
    have HGO7 := Lib.hid (OwnV.later _ _ _ (SameOn.of_below hb7' (fun c hm => by have := (HGN.out.2 c hm).2; omega)) HGO6.out)
    clear hK K hp hb7 hb7' hr HG6 HX6 HW6 HP6 HWI6 HZO6 HGO6
    refine upto_one (i := 3) (by kernel_rfl) rfl (fun K hK => ?_)
    go_simp
    refine (eqForm_any w7.heap.size f f _ _ _ (Nat.le_refl _) (OwnV.inV (φ := (· < w7.heap.size)) f _ bz (fun c hm => by have := (HZN.out.2 c hm).2; omega) HZO7.out) HR.out).mono ?_
    rintro e w8 ⟨rfl, hb8⟩
    have HG8 := Lib.hid (HG7.out.later hb8)
    have HX8 := Lib.hid (HX7.out.later hb8)
    have HW8 := Lib.hid (HW7.out.later hb8)
    have HP8 := Lib.hid (HP7.out.later hb8)
    have HSF := Lib.hid (sameB_refl f)
    refine hK.out _ _ (.inr ⟨HX8.out, HP8.out⟩) ?_
    have hs8 := hb8.size
    have HB8 : Hid (Below w.heap.size w w8) := HB7.out.trans (hb8.mono (by omega))
    have HWI8 := Lib.hid (InV.later (same_below (hb8.mono (by omega))) _ _ HWI7.out)
    have HZO8 := Lib.hid (OwnV.later _ _ _ (SameOn.of_below hb8 (fun c hm => by have := (HZN.out.2 c hm).2; omega)) HZO7.out)
    have HGO8 := Lib.hid (OwnV.later _ _ _ (SameOn.of_below hb8 (fun c hm => by have := (HGN.out.2 c hm).2; omega)) HGO7.out)
    clear hK K hb8 HG7 HX7 HW7 HP7 HWI7 HZO7 HGO7 HR
    rw [HSF.out]
    refine upto_one (i := 4) (by kernel_rfl) rfl (fun K hK => ?_)
    go_simp
    refine hK.out _ _ (.inr ⟨HX8.out, HP8.out⟩) ?_
    clear hK K
    refine upto_done (by kernel_rfl) ?_ _
    obtain ⟨x0, x1, x2, x3, x4⟩ := HX8.out
    obtain ⟨y0, y1, y2, y3, y4⟩ := HG8.out
    go_wp2_with fail
    refine (markForm_any f _ bz 1 w8 HZO8.out HZN.out.1 (fun c hm => by have := (HZN.out.2 c hm).2; omega) (by omega) (by have := HM1.out; omega)).mono ?_
    rintro e w9 ⟨rfl, hmz, ho9⟩
    have hs9 := ho9.size
    have HG9 := Lib.hid (HG8.out.only ho9 (fun hm => by have := (HZN.out.2 _ hm).2; omega))
    have HW9 := Lib.hid (HW8.out.only ho9 (fun hm => by have := (HZN.out.2 _ hm).1; omega))
    have HP9 := Lib.hid (HP8.out.only ho9 (fun hm => by have := (HZN.out.2 _ hm).1; omega))
    have HB9 : Hid (Below w.heap.size w w9) := HB8.out.trans (ho9.below (fun c hm => by have := (HZN.out.2 c hm).1; omega) (by omega))
    have HWI9 := Lib.hid (InV.later (ho9.same (fun k (hk : k < w3.heap.size) => ⟨by omega, fun hm => by have := (HZN.out.2 _ hm).1; omega⟩)) _ _ HWI8.out)
    have HGO9 := Lib.hid (OwnV.later _ _ _ (ho9.sameOn (fun c hc => ⟨by have := (HGN.out.2 c hc).2; omega, fun hm => by have h1 := (HZN.out.2 _ hm).2; have h2 := (HGN.out.2 c hc).1; omega⟩)) HGO8.out)
    clear hmz ho9 HG8 HX8 HW8 HP8 HWI8 HZO8 HGO8 x0 x1 x2 x3 x4 y0 y1 y2 y3 y4
    obtain ⟨x0, x1, x2, x3, x4⟩ := HG9.out
    obtain ⟨y0, y1, y2, y3, y4⟩ := HW9.out
    have hk0 : 0 ≤ (1 : Int) + f.marks := by omega
    go_wp2_with fail
    refine (eqForm_any w9.heap.size F F _ _ w9 (Nat.le_refl _) (OwnV.inV (φ := (· < w9.heap.size)) F _ bg (fun c hm => by have := (HGN.out.2 c hm).2; omega) HGO9.out) (InV.mono (fun k (hk : k < w3.heap.size) => (by omega)) _ _ HWI9.out)).mono ?_
    rintro e w10 ⟨rfl, hb10⟩
    rw [sameB_refl F]
    have hs10 := hb10.size
    have HG10 := Lib.hid (HG9.out.later hb10)
    have HW10 := Lib.hid (HW9.out.later hb10)
    have HP10 := Lib.hid (HP9.out.later hb10)
    have HB10 : Hid (Below w.heap.size w w10) := HB9.out.trans (hb10.mono (by omega))
    have HWI10 := Lib.hid (InV.later (same_below (hb10.mono (by omega))) _ _ HWI9.out)
    have HGO10 := Lib.hid (OwnV.later _ _ _ (SameOn.of_below hb10 (fun c hm => by have := (HGN.out.2 c hm).2; omega)) HGO9.out)
    clear hb10 x0 x1 x2 x3 x4 y0 y1 y2 y3 y4 HG9 HW9 HP9 HWI9 HGO9
    obtain ⟨x0, x1, x2, x3, x4⟩ := HG10.out
    go_wp2_with fail
    refine (markForm_any F _ bg 1 w10 HGO10.out HGN.out.1 (fun c hm => by have := (HGN.out.2 c hm).2; omega) (by omega) (by have := HMF.out; omega)).mono ?_
    rintro e w11 ⟨rfl, hmg, ho11⟩
    have hs11 := ho11.size
    have HG11 := Lib.hid (HG10.out.only ho11 (fun hm => by have := (HGN.out.2 _ hm).2; omega))
    have HW11 := Lib.hid (HW10.out.only ho11 (fun hm => by have := (HGN.out.2 _ hm).1; omega))
    have HP11 := Lib.hid (HP10.out.only ho11 (fun hm => by have := (HGN.out.2 _ hm).1; omega))
    have HB11 : Hid (Below w.heap.size w w11) := HB10.out.trans (ho11.below (fun c hm => by have := (HGN.out.2 c hm).1; omega) (by omega))
    have HWI11 := Lib.hid (InV.later (ho11.same (fun k (hk : k < w3.heap.size) => ⟨by omega, fun hm => by have := (HGN.out.2 _ hm).1; omega⟩)) _ _ HWI10.out)
    have HGM11 := Lib.hid (OwnV.inV (φ := (· < w5.heap.size)) _ _ bg (fun c hm => (HGN.out.2 c hm).2) hmg)
    have hk1 : 0 ≤ (1 : Int) + F.marks := by omega
    clear hmg ho11 HG10 HW10 HP10 HWI10 HGO10 x0 x1 x2 x3 x4
    obtain ⟨x0, x1, x2, x3, x4⟩ := HG11.out
    go_wp2_with fail
    refine (heldForm_any w5.heap.size F _ 1 w11 (by omega) HGM11.out (by omega) (by have := HMF.out; omega)).mono ?_
    rintro e w12 ⟨rfl, hb12⟩
    have hs12 := hb12.size
    have HG12 := Lib.hid (HG11.out.later hb12)
    have HW12 := Lib.hid (HW11.out.later hb12)
    have HP12 := Lib.hid (HP11.out.later hb12)
    have HB12 : Hid (Below w.heap.size w w12) := HB11.out.trans (hb12.mono (by omega))
    have HWI12 := Lib.hid (InV.later (same_below (hb12.mono (by omega))) _ _ HWI11.out)
    have HGM12 := Lib.hid (InV.later (same_below (hb12.mono (by omega))) _ _ HGM11.out)
    clear hb12 HG11 HW11 HP11 HWI11 HGM11 x0 x1 x2 x3 x4
    obtain ⟨x0, x1, x2, x3, x4⟩ := HP12.out
    go_wp2_with fail
    refine (toForm_any w.heap.size f _ w12 (by omega) (InV.later (same_below HB12.out) _ _ HV.out) hsf).mono ?_
    rintro e w13 hp
    obtain ⟨ma, mb, mc, md, bm, rfl, hmo, hmn, hmp, hb13⟩ := hp
    have hs13 := hb13.size
    have HG13 := Lib.hid (HG12.out.later hb13)
    have HW13 := Lib.hid (HW12.out.later hb13)
    have HB13 : Hid (Below w.heap.size w w13) := HB12.out.trans (hb13.mono (by omega))
    have HWI13 := Lib.hid (InV.later (same_below (hb13.mono (by omega))) _ _ HWI12.out)
    have HGM13 := Lib.hid (InV.later (same_below (hb13.mono (by omega))) _ _ HGM12.out)
    have HMO := Lib.hid (OwnV.inV (φ := (· < w13.heap.size)) f _ bm (fun c hm => (hmn.2 c hm).2) hmo)
    clear hmo hmn hmp hb13 HG12 HW12 HP12 HWI12 HGM12 x0 x1 x2 x3 x4
    go_wp2_with fail
    refine (implRename_any old now HOL.out HNO.out f _ w13 HMO.out hsf ok F HOKI.out HRI.out).mono ?_
    rintro e w14 hp
    obtain ⟨ha, hb, hc, hd, bh, rfl, hho, hhn, hhp, hb14⟩ := hp
    have hs14 := hb14.size
    have HG14 := Lib.hid (HG13.out.later hb14)
    have HW14 := Lib.hid (HW13.out.later hb14)
    have HB14 : Hid (Below w.heap.size w w14) := HB13.out.trans (hb14.mono (by omega))
    have HWI14 := Lib.hid (InV.later (same_below (hb14.mono (by omega))) _ _ HWI13.out)
    have HGM14 := Lib.hid (InV.later (same_below (hb14.mono (by omega))) _ _ HGM13.out)
    have HHI := Lib.hid (OwnV.inV (φ := (· < w14.heap.size)) F _ bh (fun c hm => (hhn.2 c hm).2) hho)
    clear hho hhn hhp hb14 HG13 HW13 HWI13 HGM13
    obtain ⟨y0, y1, y2, y3, y4⟩ := HW14.out
    have hlt14 : w3.heap.size < w14.heap.size := by omega
    go_wp2_with fail
    have hbx := below_alloc w14 (.cells #[.int .i64 F.kind, .string F.name, .int .i64 F.n, .slice ha F.scopes.length hb, .slice hc F.kids.length hd] 33)
    refine (eqForm_any w14.heap.size F F _ _ _ (by simp) (InV.later (same_below hbx) _ _ HHI.out) (InV.mono (fun k (hk : k < w3.heap.size) => (by omega)) _ _ (InV.later (same_below (hbx.mono (by omega))) _ _ HWI14.out))).mono ?_
    rintro e w15 ⟨rfl, hb15⟩
    rw [sameB_refl F]
    have hbx' : Below w14.heap.size w14 w15 := hbx.trans (hb15.mono (by simp))
    have hs15 := hbx'.size
    have HG15 := Lib.hid (HG14.out.later hbx')
    have HB15 : Hid (Below w.heap.size w w15) := HB14.out.trans (hbx'.mono (by omega))
    have HGM15 := Lib.hid (InV.later (same_below (hbx'.mono (by omega))) _ _ HGM14.out)
    clear hb15 hbx hbx' y0 y1 y2 y3 y4 HG14 HW14 HWI14 HGM14
    obtain ⟨x0, x1, x2, x3, x4⟩ := HG15.out
    go_wp2_with fail
    refine (heldForm_any w5.heap.size F _ 1 w15 (by omega) HGM15.out (by omega) (by have := HMF.out; omega)).mono ?_
    rintro e w16 ⟨rfl, hb16⟩
    have HB16 : Hid (Below w.heap.size w w16) := HB15.out.trans (hb16.mono (by omega))
    clear hb16 x0 x1 x2 x3 x4
    go_wp2_with fail
    go_ret
    exact ⟨rfl, HB16.out⟩
theorem own : ownKnob Try.prog.godebug = none := by kernel_rfl
theorem laidOut : laidOutB Try.prog = true := by kernel_rfl
set_option maxRecDepth 100000 in
theorem lifted (os : Os) (started : os.Started) (H : Type) (enc : TypeId × Value → H) :
    ReturnsInHanded {} Try.checked os 13 .any (Rows.fnExactRenameNameSpec.pre6 enc Try.prog Try.f13 Rows.fnExactRenameNameRow.domain false) (Rows.fnExactRenameNameSpec.post enc Try.prog Try.f13 false true false false) := by
  refine returnsInHanded_of_change (C := Try.checked) own started (by kernel_rfl) Try.func13
    (ChangeSpec.witness6 (enc := enc) (C := Try.checked) false ⟨#[], #[.agg #[.int .i64 0, .string ByteArray.empty, .int .i64 0, .slice none 0 0, .slice none 0 0], .string ByteArray.empty, .string ByteArray.empty], []⟩ 12 (by kernel_rfl) (by kernel_rfl) (by kernel_rfl) (by kernel_rfl)) ?_
  intro W base args ds gs before hval0 hW hcnd _
  have hval : ∀ (j : Nat) t v, Try.f13.params[j]? = some t → args[j]? = some v → Value.okWide Try.prog W .any base t v := hval0
  have hW' := hW
  obtain ⟨p, q, hA0, hV, rfl, hfz, hnd⟩ := hW
  have hA : DataW.TrodAll enc Try.prog W 0 (fun _ => true) true Try.f13.params.toList args.toList ds p := hA0
  rw [Try.params13] at hA hval
  obtain ⟨v0, vs0, d0, ds0, p0, q0, hargs, rfl, rfl, h0, r0⟩ := trodAll_cons hA
  obtain ⟨v1, vs1, d1, ds1, p1, q1, rfl, rfl, rfl, h1, r1⟩ := trodAll_cons r0
  obtain ⟨v2, vs2, d2, ds2, p2, q2, rfl, rfl, rfl, h2, r2⟩ := trodAll_cons r1
  obtain ⟨rfl, rfl, rfl⟩ := trodAll_nil r2
  obtain rfl : args = #[v0, v1, v2] := by cases args; simp_all
  obtain ⟨rfl, rfl⟩ := trodVars_none hV
  have k0 := h0
  have lt0 : ∀ x ∈ p0, x.block < W.heap.size := by obtain ⟨m, hm⟩ := k0; exact DataW.trod_lt m _ _ _ hm
  obtain ⟨f0, i0⟩ := open_form_arg (hval 0 25 v0 rfl rfl) h0
  obtain ⟨a1, rfl, rfl, rfl, w1⟩ := open_string Try.underlying9 (hval 1 9 v1 rfl rfl) h1
  obtain ⟨a2, rfl, rfl, rfl, w2⟩ := open_string Try.underlying9 (hval 2 9 v2 rfl rfl) h2
  clear hA0 hval0
  try simp only [List.append_nil] at hW'
  refine (walk W f0 v0 i0 a1 w1 a2 w2).mono fun e W' ⟨he, bel⟩ => ?_
  subst he
  exact ⟨_, rfl, _, _, _, [], _, [], hW', trodAll_mk1 (shut_bool Try.underlying4 _), (trodAll_cons_mk (Below.trod laidOut (by kernel_rfl) (of_decide_eq_true (by kernel_rfl)) k0 bel lt0) (trodAll_cons_mk (shut_string Try.underlying9 w1) (trodAll_cons_mk (shut_string Try.underlying9 w2) trodAll_mk0))), rfl, bel.frame _, fun h => by cases h⟩
theorem over_named : Try.pinned.checked.prog.funcNamed Rows.fnExactRenameNameRow.func = some 13 := by kernel_rfl
theorem c_inPlace : (Rows.fnExactRenameNameRow.inPlace == Try.pinned.checked.prog.inPlace 13) = true := by kernel_rfl
theorem c_unfollowed : (Rows.fnExactRenameNameRow.unfollowed == Try.pinned.checked.prog.unfollowed 13) = true := by kernel_rfl
theorem c_recurses : (Rows.fnExactRenameNameRow.recurses == Try.pinned.checked.prog.recurses 13) = true := by kernel_rfl
theorem c_named : (Rows.fnExactRenameNameRow.named == Try.pinned.checked.prog.varsNamed 13) = true := by kernel_rfl
theorem over_closed : joinedFacts Try.pinned.checked.prog 13 Try.f13 Rows.fnExactRenameNameSpec Rows.fnExactRenameNameRow = true := by
  unfold joinedFacts
  exact Facts.band (Facts.band (Facts.band (Facts.band (Facts.band (Facts.band (Facts.band (Facts.band (Facts.band (Facts.band (Facts.band (Facts.band (Facts.band (Facts.band (Facts.band (Facts.band (Facts.band (Facts.band (Facts.band (Facts.band (Facts.band (Facts.band (Facts.band (Facts.band (Facts.band (Facts.band (Facts.band (Facts.band (Facts.band (Facts.band (Facts.band (by kernel_rfl) Facts.laid) Facts.rowed) (by kernel_rfl)) (by kernel_rfl)) (by kernel_rfl)) Facts.stops) (by kernel_rfl)) Facts.knobs) c_inPlace) c_unfollowed) c_recurses) c_named) (by kernel_rfl)) (by kernel_rfl)) (by kernel_rfl)) (by kernel_rfl)) (by kernel_rfl)) (by kernel_rfl)) (by kernel_rfl)) (by kernel_rfl)) (by kernel_rfl)) (by rw [Facts.plain]; kernel_rfl)) (by kernel_rfl)) Facts.heard) Facts.enter) (by rw [Facts.lifts]; kernel_rfl)) (by rw [Facts.made]; kernel_rfl)) (by kernel_rfl)) (by kernel_rfl)) (by kernel_rfl)) (by kernel_rfl)
theorem over_inst : Func.isInstance Try.pinned.checked.prog Try.f13 Rows.fnExactRenameNameRow.origin Rows.fnExactRenameNameRow.targs := of_decide_eq_true (by kernel_rfl)
theorem over_wrap : Func.isWrapper Try.pinned.checked.prog Try.f13 Rows.fnExactRenameNameRow.wrapper Rows.fnExactRenameNameRow.mainSum := (by unfold Func.isWrapper; first | (rw [if_pos (by decide +kernel)]; kernel_rfl) | (rw [if_neg (by decide +kernel)]; exact ⟨rfl, rfl⟩))
theorem over : Rows.fnExactRenameNameRow.holds Try.pinned (OpenSpec.ofChange Rows.fnExactRenameNameSpec) :=
  OpenClaim.holds_of_wide 13 Try.f13 rfl rfl rfl rfl rfl rfl rfl ⟨rfl, rfl, rfl, rfl, rfl⟩ rfl rfl rfl rfl rfl over_named Try.func13 over_closed over_inst over_wrap
    (fun os started H enc _ => lifted os started H enc)
theorem proved : Rows.FnExactRenameNameSaid := over
end Go.Proofs.Ytnogpaflibghhaa.exRenameName
