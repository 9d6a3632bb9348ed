/- For every input the drawn form, flipped twice, is the form that was drawn, and flipping is adding where no name has the scope; the program and the model agree: the law FnFlipScope returns true, whatever the input, with no condition beyond the statement's own. -/
import Derived.Test.YtmakaoomdnlebaaRows
import Derived.Test.YtmakaoomdnlebaaLwScopes
namespace Go.Proofs.Ytmakaoomdnlebaa.lwFlipScope
open Go.ChangeShapes Go.WideShapes Go.ChangeAt Go.RowKit
open Go.ChangeMaps (open_string shut_string)
set_option linter.unusedVariables false
set_option linter.unusedSimpArgs false
set_option maxRecDepth 100000 in
set_option maxHeartbeats 4000000 in
theorem walk (w : World) (n : Nat) (v : Value) (hv : Bytes w v n) :
    Calls Try.prog 4 #[v] w fun e w' => e = .returned (.bool true) ∧ Below w.heap.size w w' := by
  have HV := Lib.hid hv
  obtain ⟨a0, c0, rfl, hn1, hn2, _⟩ := hv
  unfold maxLen at hn2
  by_cases hbig : (1048576 : Int) < n
  · go_enter Try.func4, Try.ntmps4
    go_wp2_with fail
    go_ret
    exact ⟨rfl, Below.refl _ _⟩
  go_enter Try.func4, Try.ntmps4
  go_wp2_with fail
  refine (drawFlipScope_law _ n w HV.out).mono ?_
  rintro e w1 ⟨f, f0, f1, f2, f3, scope, rfl, hin, hsl, hsc, hb⟩
  have hs1 : w.heap.size ≤ w1.heap.size := hb.size
  have HL := Lib.hid hb
  have hscb := scopesCase_bounds scope hsc
  have hszf : f.sz ≤ 1048576 := by have := Slim.big hsl; omega
  clear hsl hsc HV
  clear hb
  have If : Hid (InV (· < w1.heap.size) w1 f (.agg #[.int .i64 f.kind, .string f.name, .int .i64 f.n, .slice f0 f.scopes.length f1, .slice f2 f.kids.length f3])) := InV.mono (fun k hk => hk.2) _ _ hin
  clear hin
  obtain ⟨ok, hok⟩ : ∃ ok, okF2 1 scope f = ok := ⟨_, rfl⟩
  obtain ⟨R, hR⟩ : ∃ R, afterF 1 scope f = R := ⟨_, rfl⟩
  have HOK := Lib.hid hok
  have HR := Lib.hid hR
  have HRC : Hid (R.count ≤ 4294967296) := by have h1 := afterF_count 1 scope f; have h2 := f.count_le; rw [hR] at h1; unfold Hid; omega
  clear hok hR
  go_wp2_with fail
  have hba := below_alloc w1 (.cells #[.int .i64 f.kind, .string f.name, .int .i64 f.n, .slice f0 f.scopes.length f1, .slice f2 f.kids.length f3] 27)
  refine (implFlipScope_law f _ scope (w1.alloc (.cells #[.int .i64 f.kind, .string f.name, .int .i64 f.n, .slice f0 f.scopes.length f1, .slice f2 f.kids.length f3] 27)) (inv_up If.out hba) hszf hscb ok R HOK.out HR.out).mono ?_
  rintro e w2 ⟨x0, x1, x2, x3, rfl, hin, hend, hb0⟩
  have hb : Below w1.heap.size w1 w2 := hba.trans (hb0.mono (by rw [size_alloc']; omega))
  have hs2 : w1.heap.size + 1 ≤ w2.heap.size := by have h := hb0.size; rw [size_alloc'] at h; exact h
  have HL_1 := Lib.hid (HL.out.trans (hb.mono (by omega)))
  have If_1 := Lib.hid (inv_up If.out hb)
  clear HL If
  have Bf := Lib.hid ((FormBox.fresh w1 f f0 f2 f1 f3 27).later hb0)
  clear hb0 hba
  clear hb
  have Ix : Hid (InV (· < w2.heap.size) w2 R (.agg #[.int .i64 R.kind, .string R.name, .int .i64 R.n, .slice x0 R.scopes.length x1, .slice x2 R.kids.length x3])) := InV.mono (fun k hk => hk.2) _ _ hin
  have Ex := Lib.hid hend
  clear hin hend
  obtain ⟨ld0, ld1, ld2, ld3, ld4⟩ := Bf.out
  have hx0 : w1.heap.size < w2.heap.size := Bf.out.lt
  go_wp2_with fail
  have hba := below_alloc w2 (.cells #[.int .i64 R.kind, .string R.name, .int .i64 R.n, .slice x0 R.scopes.length x1, .slice x2 R.kids.length x3] 27)
  refine (specFlipScope_law f _ scope (w2.alloc (.cells #[.int .i64 R.kind, .string R.name, .int .i64 R.n, .slice x0 R.scopes.length x1, .slice x2 R.kids.length x3] 27)) (inv_up If_1.out hba) hszf hscb ok R HOK.out HR.out).mono ?_
  rintro e w3 ⟨y0, y1, y2, y3, rfl, hin, hb0⟩
  have hb : Below w2.heap.size w2 w3 := hba.trans (hb0.mono (by rw [size_alloc']; omega))
  have hs3 : w2.heap.size + 1 ≤ w3.heap.size := by have h := hb0.size; rw [size_alloc'] at h; exact h
  clear ld0 ld1 ld2 ld3 ld4 hx0
  have HL_2 := Lib.hid (HL_1.out.trans (hb.mono (by omega)))
  have If_2 := Lib.hid (inv_up If_1.out hb)
  have Bf_1 := Lib.hid (FormBox.later Bf.out hb)
  have Ix_1 := Lib.hid (inv_up Ix.out hb)
  have Ex_1 := Lib.hid (EndlessAt.later Ex.out hb)
  clear HL_1 If_1 Bf Ix Ex
  have Bx := Lib.hid ((FormBox.fresh w2 R x0 x2 x1 x3 27).later hb0)
  clear hb0 hba
  clear hb
  have Iy : Hid (InV (· < w3.heap.size) w3 R (.agg #[.int .i64 R.kind, .string R.name, .int .i64 R.n, .slice y0 R.scopes.length y1, .slice y2 R.kids.length y3])) := InV.mono (fun k hk => hk.2) _ _ hin
  clear hin
  cases ok with
  | false =>
    obtain ⟨ld0, ld1, ld2, ld3, ld4⟩ := Bx.out
    have hx0 : w2.heap.size < w3.heap.size := Bx.out.lt
    go_wp2_with fail
    have hba := below_alloc w3 (.cells #[.int .i64 R.kind, .string R.name, .int .i64 R.n, .slice y0 R.scopes.length y1, .slice y2 R.kids.length y3] 27)
    refine (implSame_law R R _ _ (w3.alloc (.cells #[.int .i64 R.kind, .string R.name, .int .i64 R.n, .slice y0 R.scopes.length y1, .slice y2 R.kids.length y3] 27)) (inv_up Ix_1.out hba) (inv_up Iy.out hba) HRC.out (EndlessAt.later Ex_1.out hba) true (sameB_refl R)).mono ?_
    rintro e w4 ⟨rfl, hb0⟩
    have hb : Below w3.heap.size w3 w4 := hba.trans (hb0.mono (by rw [size_alloc']; omega))
    have hs4 : w3.heap.size + 1 ≤ w4.heap.size := by have h := hb0.size; rw [size_alloc'] at h; exact h
    clear ld0 ld1 ld2 ld3 ld4 hx0
    have HL_3 := Lib.hid (HL_2.out.trans (hb.mono (by omega)))
    have If_3 := Lib.hid (inv_up If_2.out hb)
    have Bf_2 := Lib.hid (FormBox.later Bf_1.out hb)
    have Ix_2 := Lib.hid (inv_up Ix_1.out hb)
    have Ex_2 := Lib.hid (EndlessAt.later Ex_1.out hb)
    have Bx_1 := Lib.hid (FormBox.later Bx.out hb)
    have Iy_1 := Lib.hid (inv_up Iy.out hb)
    clear HL_2 If_2 Bf_1 Ix_1 Ex_1 Bx Iy
    have By := Lib.hid ((FormBox.fresh w3 R y0 y2 y1 y3 27).later hb0)
    clear hb0 hba
    clear hb
    obtain ⟨ld0, ld1, ld2, ld3, ld4⟩ := Bx_1.out
    have hx0 : w2.heap.size < w4.heap.size := Bx_1.out.lt
    obtain ⟨ld5, ld6, ld7, ld8, ld9⟩ := By.out
    have hx1 : w3.heap.size < w4.heap.size := By.out.lt
    go_wp2_with fail
    refine (implSame_law R R _ _ w4 Ix_2.out Iy_1.out HRC.out Ex_2.out true (sameB_refl R)).mono ?_
    rintro e w5 ⟨rfl, hb⟩
    have hs5 : w4.heap.size ≤ w5.heap.size := hb.size
    clear ld0 ld1 ld2 ld3 ld4 ld5 ld6 ld7 ld8 ld9 hx0 hx1
    have HL_4 := Lib.hid (HL_3.out.trans (hb.mono (by omega)))
    have If_4 := Lib.hid (inv_up If_3.out hb)
    have Bf_3 := Lib.hid (FormBox.later Bf_2.out hb)
    have Ix_3 := Lib.hid (inv_up Ix_2.out hb)
    have Ex_3 := Lib.hid (EndlessAt.later Ex_2.out hb)
    have Bx_2 := Lib.hid (FormBox.later Bx_1.out hb)
    have Iy_2 := Lib.hid (inv_up Iy_1.out hb)
    have By_1 := Lib.hid (FormBox.later By.out hb)
    clear HL_3 If_3 Bf_2 Ix_2 Ex_2 Bx_1 Iy_1 By
    clear hb
    go_wp2_with fail
    go_ret
    exact ⟨rfl, HL_4.out⟩
  | true =>
    obtain ⟨ld0, ld1, ld2, ld3, ld4⟩ := Bx.out
    have hx0 : w2.heap.size < w3.heap.size := Bx.out.lt
    go_wp2_with fail
    have hba := below_alloc w3 (.cells #[.int .i64 R.kind, .string R.name, .int .i64 R.n, .slice y0 R.scopes.length y1, .slice y2 R.kids.length y3] 27)
    refine (implSame_law R R _ _ (w3.alloc (.cells #[.int .i64 R.kind, .string R.name, .int .i64 R.n, .slice y0 R.scopes.length y1, .slice y2 R.kids.length y3] 27)) (inv_up Ix_1.out hba) (inv_up Iy.out hba) HRC.out (EndlessAt.later Ex_1.out hba) true (sameB_refl R)).mono ?_
    rintro e w4 ⟨rfl, hb0⟩
    have hb : Below w3.heap.size w3 w4 := hba.trans (hb0.mono (by rw [size_alloc']; omega))
    have hs4 : w3.heap.size + 1 ≤ w4.heap.size := by have h := hb0.size; rw [size_alloc'] at h; exact h
    clear ld0 ld1 ld2 ld3 ld4 hx0
    have HL_3 := Lib.hid (HL_2.out.trans (hb.mono (by omega)))
    have If_3 := Lib.hid (inv_up If_2.out hb)
    have Bf_2 := Lib.hid (FormBox.later Bf_1.out hb)
    have Ix_2 := Lib.hid (inv_up Ix_1.out hb)
    have Ex_2 := Lib.hid (EndlessAt.later Ex_1.out hb)
    have Bx_1 := Lib.hid (FormBox.later Bx.out hb)
    have Iy_1 := Lib.hid (inv_up Iy.out hb)
    clear HL_2 If_2 Bf_1 Ix_1 Ex_1 Bx Iy
    have By := Lib.hid ((FormBox.fresh w3 R y0 y2 y1 y3 27).later hb0)
    clear hb0 hba
    clear hb
    have htw := flip_twice HOK.out
    rw [HR.out] at htw
    have hfa := flip_is_add HOK.out
    obtain ⟨h1, h2, h3⟩ := doneB_parts HOK.out
    have hfR : formB R = true := by rw [← HR.out, afterF_ok HOK.out]; exact h3
    have hszR : R.sz ≤ 1048576 := valid_sz hfR
    have hdr := drop_ok h1 h2
    obtain ⟨D, hD⟩ : ∃ D, afterF 2 scope f = D := ⟨_, rfl⟩
    rw [hD] at hfa
    have hfD : formB D = true := by rw [← hD, afterF_ok hdr]; exact (doneB_parts hdr).2.2
    have hszD : D.sz ≤ 1048576 := valid_sz hfD
    obtain ⟨G, hG⟩ : ∃ G, afterF 0 scope D = G := ⟨_, rfl⟩
    have HTW := Lib.hid htw
    have HFA : Hid (okF2 0 scope D = true ∧ okF2 1 scope D = true ∧ afterF 1 scope D = G) := by unfold Hid; rw [← hG]; exact hfa
    have HDR := Lib.hid hdr
    have HD := Lib.hid hD
    have HG := Lib.hid hG
    have HFC : Hid (f.count ≤ 4294967296) := by have h2 := f.count_le; unfold Hid; omega
    have HGC : Hid (G.count ≤ 4294967296) := by have h1 := afterF_count 0 scope D; have h2 := D.count_le; rw [hG] at h1; unfold Hid; omega
    clear htw hfa h1 h2 h3 hfR hdr hfD hD hG
    obtain ⟨ld0, ld1, ld2, ld3, ld4⟩ := Bx_1.out
    have hx0 : w2.heap.size < w4.heap.size := Bx_1.out.lt
    go_wp2_with fail
    refine (implFlipScope_law R _ scope w4 Ix_2.out hszR hscb true f HTW.out.1 HTW.out.2).mono ?_
    rintro e w5 ⟨z0, z1, z2, z3, rfl, hin, hend, hb⟩
    have hs5 : w4.heap.size ≤ w5.heap.size := hb.size
    clear ld0 ld1 ld2 ld3 ld4 hx0
    have HL_4 := Lib.hid (HL_3.out.trans (hb.mono (by omega)))
    have If_4 := Lib.hid (inv_up If_3.out hb)
    have Bf_3 := Lib.hid (FormBox.later Bf_2.out hb)
    have Ix_3 := Lib.hid (inv_up Ix_2.out hb)
    have Ex_3 := Lib.hid (EndlessAt.later Ex_2.out hb)
    have Bx_2 := Lib.hid (FormBox.later Bx_1.out hb)
    have Iy_2 := Lib.hid (inv_up Iy_1.out hb)
    have By_1 := Lib.hid (FormBox.later By.out hb)
    clear HL_3 If_3 Bf_2 Ix_2 Ex_2 Bx_1 Iy_1 By
    clear hb
    have Iz : Hid (InV (· < w5.heap.size) w5 f (.agg #[.int .i64 f.kind, .string f.name, .int .i64 f.n, .slice z0 f.scopes.length z1, .slice z2 f.kids.length z3])) := InV.mono (fun k hk => hk.2) _ _ hin
    have Ez := Lib.hid hend
    clear hin hend
    obtain ⟨ld0, ld1, ld2, ld3, ld4⟩ := Bf_3.out
    have hx0 : w1.heap.size < w5.heap.size := Bf_3.out.lt
    go_wp2_with fail
    have hba := below_alloc w5 (.cells #[.int .i64 f.kind, .string f.name, .int .i64 f.n, .slice z0 f.scopes.length z1, .slice z2 f.kids.length z3] 27)
    refine (implDropScope_law f _ scope (w5.alloc (.cells #[.int .i64 f.kind, .string f.name, .int .i64 f.n, .slice z0 f.scopes.length z1, .slice z2 f.kids.length z3] 27)) (inv_up If_4.out hba) hszf hscb true D HDR.out HD.out).mono ?_
    rintro e w6 ⟨d0, d1, d2, d3, rfl, hin, hend, hb0⟩
    have hb : Below w5.heap.size w5 w6 := hba.trans (hb0.mono (by rw [size_alloc']; omega))
    have hs6 : w5.heap.size + 1 ≤ w6.heap.size := by have h := hb0.size; rw [size_alloc'] at h; exact h
    clear ld0 ld1 ld2 ld3 ld4 hx0
    have HL_5 := Lib.hid (HL_4.out.trans (hb.mono (by omega)))
    have If_5 := Lib.hid (inv_up If_4.out hb)
    have Bf_4 := Lib.hid (FormBox.later Bf_3.out hb)
    have Ix_4 := Lib.hid (inv_up Ix_3.out hb)
    have Ex_4 := Lib.hid (EndlessAt.later Ex_3.out hb)
    have Bx_3 := Lib.hid (FormBox.later Bx_2.out hb)
    have Iy_3 := Lib.hid (inv_up Iy_2.out hb)
    have By_2 := Lib.hid (FormBox.later By_1.out hb)
    have Iz_1 := Lib.hid (inv_up Iz.out hb)
    have Ez_1 := Lib.hid (EndlessAt.later Ez.out hb)
    clear HL_4 If_4 Bf_3 Ix_3 Ex_3 Bx_2 Iy_2 By_1 Iz Ez
    have Bz := Lib.hid ((FormBox.fresh w5 f z0 z2 z1 z3 27).later hb0)
    clear hb0 hba
    clear hb
    have Id : Hid (InV (· < w6.heap.size) w6 D (.agg #[.int .i64 D.kind, .string D.name, .int .i64 D.n, .slice d0 D.scopes.length d1, .slice d2 D.kids.length d3])) := InV.mono (fun k hk => hk.2) _ _ hin
    have Ed := Lib.hid hend
    clear hin hend
    go_wp2_with fail
    have hba := below_alloc w6 (.cells #[.int .i64 D.kind, .string D.name, .int .i64 D.n, .slice d0 D.scopes.length d1, .slice d2 D.kids.length d3] 27)
    refine (implFlipScope_law D _ scope (w6.alloc (.cells #[.int .i64 D.kind, .string D.name, .int .i64 D.n, .slice d0 D.scopes.length d1, .slice d2 D.kids.length d3] 27)) (inv_up Id.out hba) hszD hscb true G HFA.out.2.1 HFA.out.2.2).mono ?_
    rintro e w7 ⟨a0, a1, a2, a3, rfl, hin, hend, hb0⟩
    have hb : Below w6.heap.size w6 w7 := hba.trans (hb0.mono (by rw [size_alloc']; omega))
    have hs7 : w6.heap.size + 1 ≤ w7.heap.size := by have h := hb0.size; rw [size_alloc'] at h; exact h
    have HL_6 := Lib.hid (HL_5.out.trans (hb.mono (by omega)))
    have If_6 := Lib.hid (inv_up If_5.out hb)
    have Bf_5 := Lib.hid (FormBox.later Bf_4.out hb)
    have Ix_5 := Lib.hid (inv_up Ix_4.out hb)
    have Ex_5 := Lib.hid (EndlessAt.later Ex_4.out hb)
    have Bx_4 := Lib.hid (FormBox.later Bx_3.out hb)
    have Iy_4 := Lib.hid (inv_up Iy_3.out hb)
    have By_3 := Lib.hid (FormBox.later By_2.out hb)
    have Iz_2 := Lib.hid (inv_up Iz_1.out hb)
    have Ez_2 := Lib.hid (EndlessAt.later Ez_1.out hb)
    have Bz_1 := Lib.hid (FormBox.later Bz.out hb)
    have Id_1 := Lib.hid (inv_up Id.out hb)
    have Ed_1 := Lib.hid (EndlessAt.later Ed.out hb)
    clear HL_5 If_5 Bf_4 Ix_4 Ex_4 Bx_3 Iy_3 By_2 Iz_1 Ez_1 Bz Id Ed
    have Bd := Lib.hid ((FormBox.fresh w6 D d0 d2 d1 d3 27).later hb0)
    clear hb0 hba
    clear hb
    have Ia : Hid (InV (· < w7.heap.size) w7 G (.agg #[.int .i64 G.kind, .string G.name, .int .i64 G.n, .slice a0 G.scopes.length a1, .slice a2 G.kids.length a3])) := InV.mono (fun k hk => hk.2) _ _ hin
    have Ea := Lib.hid hend
    clear hin hend
    obtain ⟨ld0, ld1, ld2, ld3, ld4⟩ := Bd.out
    have hx0 : w6.heap.size < w7.heap.size := Bd.out.lt
    go_wp2_with fail
    have hba := below_alloc w7 (.cells #[.int .i64 G.kind, .string G.name, .int .i64 G.n, .slice a0 G.scopes.length a1, .slice a2 G.kids.length a3] 27)
    refine (implAddScope_law D _ scope (w7.alloc (.cells #[.int .i64 G.kind, .string G.name, .int .i64 G.n, .slice a0 G.scopes.length a1, .slice a2 G.kids.length a3] 27)) (inv_up Id_1.out hba) hszD hscb true G HFA.out.1 HG.out).mono ?_
    rintro e w8 ⟨b0, b1, b2, b3, rfl, hin, hend, hb0⟩
    have hb : Below w7.heap.size w7 w8 := hba.trans (hb0.mono (by rw [size_alloc']; omega))
    have hs8 : w7.heap.size + 1 ≤ w8.heap.size := by have h := hb0.size; rw [size_alloc'] at h; exact h
    clear ld0 ld1 ld2 ld3 ld4 hx0
    have HL_7 := Lib.hid (HL_6.out.trans (hb.mono (by omega)))
    have If_7 := Lib.hid (inv_up If_6.out hb)
    have Bf_6 := Lib.hid (FormBox.later Bf_5.out hb)
    have Ix_6 := Lib.hid (inv_up Ix_5.out hb)
    have Ex_6 := Lib.hid (EndlessAt.later Ex_5.out hb)
    have Bx_5 := Lib.hid (FormBox.later Bx_4.out hb)
    have Iy_5 := Lib.hid (inv_up Iy_4.out hb)
    have By_4 := Lib.hid (FormBox.later By_3.out hb)
    have Iz_3 := Lib.hid (inv_up Iz_2.out hb)
    have Ez_3 := Lib.hid (EndlessAt.later Ez_2.out hb)
    have Bz_2 := Lib.hid (FormBox.later Bz_1.out hb)
    have Id_2 := Lib.hid (inv_up Id_1.out hb)
    have Ed_2 := Lib.hid (EndlessAt.later Ed_1.out hb)
    have Bd_1 := Lib.hid (FormBox.later Bd.out hb)
    have Ia_1 := Lib.hid (inv_up Ia.out hb)
    have Ea_1 := Lib.hid (EndlessAt.later Ea.out hb)
    clear HL_6 If_6 Bf_5 Ix_5 Ex_5 Bx_4 Iy_4 By_3 Iz_2 Ez_2 Bz_1 Id_1 Ed_1 Bd Ia Ea
    have Ba := Lib.hid ((FormBox.fresh w7 G a0 a2 a1 a3 27).later hb0)
    clear hb0 hba
    clear hb
    have Ib : Hid (InV (· < w8.heap.size) w8 G (.agg #[.int .i64 G.kind, .string G.name, .int .i64 G.n, .slice b0 G.scopes.length b1, .slice b2 G.kids.length b3])) := InV.mono (fun k hk => hk.2) _ _ hin
    have Eb := Lib.hid hend
    clear hin hend
    obtain ⟨ld0, ld1, ld2, ld3, ld4⟩ := Bz_2.out
    have hx0 : w5.heap.size < w8.heap.size := Bz_2.out.lt
    obtain ⟨ld5, ld6, ld7, ld8, ld9⟩ := Bf_6.out
    have hx1 : w1.heap.size < w8.heap.size := Bf_6.out.lt
    go_wp2_with fail
    have hba := below_alloc w8 (.cells #[.int .i64 G.kind, .string G.name, .int .i64 G.n, .slice b0 G.scopes.length b1, .slice b2 G.kids.length b3] 27)
    refine (implSame_law f f _ _ (w8.alloc (.cells #[.int .i64 G.kind, .string G.name, .int .i64 G.n, .slice b0 G.scopes.length b1, .slice b2 G.kids.length b3] 27)) (inv_up Iz_3.out hba) (inv_up If_7.out hba) HFC.out (EndlessAt.later Ez_3.out hba) true (sameB_refl f)).mono ?_
    rintro e w9 ⟨rfl, hb0⟩
    have hb : Below w8.heap.size w8 w9 := hba.trans (hb0.mono (by rw [size_alloc']; omega))
    have hs9 : w8.heap.size + 1 ≤ w9.heap.size := by have h := hb0.size; rw [size_alloc'] at h; exact h
    clear ld0 ld1 ld2 ld3 ld4 ld5 ld6 ld7 ld8 ld9 hx0 hx1
    have HL_8 := Lib.hid (HL_7.out.trans (hb.mono (by omega)))
    have If_8 := Lib.hid (inv_up If_7.out hb)
    have Bf_7 := Lib.hid (FormBox.later Bf_6.out hb)
    have Ix_7 := Lib.hid (inv_up Ix_6.out hb)
    have Ex_7 := Lib.hid (EndlessAt.later Ex_6.out hb)
    have Bx_6 := Lib.hid (FormBox.later Bx_5.out hb)
    have Iy_6 := Lib.hid (inv_up Iy_5.out hb)
    have By_5 := Lib.hid (FormBox.later By_4.out hb)
    have Iz_4 := Lib.hid (inv_up Iz_3.out hb)
    have Ez_4 := Lib.hid (EndlessAt.later Ez_3.out hb)
    have Bz_3 := Lib.hid (FormBox.later Bz_2.out hb)
    have Id_3 := Lib.hid (inv_up Id_2.out hb)
    have Ed_3 := Lib.hid (EndlessAt.later Ed_2.out hb)
    have Bd_2 := Lib.hid (FormBox.later Bd_1.out hb)
    have Ia_2 := Lib.hid (inv_up Ia_1.out hb)
    have Ea_2 := Lib.hid (EndlessAt.later Ea_1.out hb)
    have Ba_1 := Lib.hid (FormBox.later Ba.out hb)
    have Ib_1 := Lib.hid (inv_up Ib.out hb)
    have Eb_1 := Lib.hid (EndlessAt.later Eb.out hb)
    clear HL_7 If_7 Bf_6 Ix_6 Ex_6 Bx_5 Iy_5 By_4 Iz_3 Ez_3 Bz_2 Id_2 Ed_2 Bd_1 Ia_1 Ea_1 Ba Ib Eb
    have Bb := Lib.hid ((FormBox.fresh w8 G b0 b2 b1 b3 27).later hb0)
    clear hb0 hba
    clear hb
    obtain ⟨ld0, ld1, ld2, ld3, ld4⟩ := Ba_1.out
    have hx0 : w7.heap.size < w9.heap.size := Ba_1.out.lt
    obtain ⟨ld5, ld6, ld7, ld8, ld9⟩ := Bb.out
    have hx1 : w8.heap.size < w9.heap.size := Bb.out.lt
    go_wp2_with fail
    refine (implSame_law G G _ _ w9 Ia_2.out Ib_1.out HGC.out Ea_2.out true (sameB_refl G)).mono ?_
    rintro e w10 ⟨rfl, hb⟩
    have hs10 : w9.heap.size ≤ w10.heap.size := hb.size
    clear ld0 ld1 ld2 ld3 ld4 ld5 ld6 ld7 ld8 ld9 hx0 hx1
    have HL_9 := Lib.hid (HL_8.out.trans (hb.mono (by omega)))
    have If_9 := Lib.hid (inv_up If_8.out hb)
    have Bf_8 := Lib.hid (FormBox.later Bf_7.out hb)
    have Ix_8 := Lib.hid (inv_up Ix_7.out hb)
    have Ex_8 := Lib.hid (EndlessAt.later Ex_7.out hb)
    have Bx_7 := Lib.hid (FormBox.later Bx_6.out hb)
    have Iy_7 := Lib.hid (inv_up Iy_6.out hb)
    have By_6 := Lib.hid (FormBox.later By_5.out hb)
    have Iz_5 := Lib.hid (inv_up Iz_4.out hb)
    have Ez_5 := Lib.hid (EndlessAt.later Ez_4.out hb)
    have Bz_4 := Lib.hid (FormBox.later Bz_3.out hb)
    have Id_4 := Lib.hid (inv_up Id_3.out hb)
    have Ed_4 := Lib.hid (EndlessAt.later Ed_3.out hb)
    have Bd_3 := Lib.hid (FormBox.later Bd_2.out hb)
    have Ia_3 := Lib.hid (inv_up Ia_2.out hb)
    have Ea_3 := Lib.hid (EndlessAt.later Ea_2.out hb)
    have Ba_2 := Lib.hid (FormBox.later Ba_1.out hb)
    have Ib_2 := Lib.hid (inv_up Ib_1.out hb)
    have Eb_2 := Lib.hid (EndlessAt.later Eb_1.out hb)
    have Bb_1 := Lib.hid (FormBox.later Bb.out hb)
    clear HL_8 If_8 Bf_7 Ix_7 Ex_7 Bx_6 Iy_6 By_5 Iz_4 Ez_4 Bz_3 Id_3 Ed_3 Bd_2 Ia_2 Ea_2 Ba_1 Ib_1 Eb_1 Bb
    clear hb
    go_wp2_with fail
    go_ret
    exact ⟨rfl, HL_9.out⟩
theorem own : ownKnob Try.prog.godebug = none := by kernel_rfl
theorem laidOut : laidOutB Try.prog = true := by kernel_rfl
set_option maxRecDepth 100000 in
theorem lifted (os : Os) (started : os.Started) (H : Type) (enc : TypeId × Value → H) :
    ReturnsInHanded {} Try.checked os 4 .any (Rows.fnFlipScopeSpec.pre6 enc Try.prog Try.f4 Rows.fnFlipScopeRow.domain false) (Rows.fnFlipScopeSpec.post enc Try.prog Try.f4 false true false false) := by
  refine returnsInHanded_of_change (C := Try.checked) own started (by kernel_rfl) Try.func4
    (ChangeSpec.witness6 (enc := enc) (C := Try.checked) false ⟨#[], #[.slice none 0 0], []⟩ 12 (by kernel_rfl) (by kernel_rfl) (by kernel_rfl) (by kernel_rfl)) ?_
  intro W base args ds gs before hval0 hW hcnd _
  have hval : ∀ (j : Nat) t v, Try.f4.params[j]? = some t → args[j]? = some v → Value.okWide Try.prog W .any base t v := hval0
  have hW' := hW
  obtain ⟨p, q, hA0, hV, rfl, hfz, hnd⟩ := hW
  have hA : DataW.TrodAll enc Try.prog W 0 (fun _ => true) true Try.f4.params.toList args.toList ds p := hA0
  rw [Try.params4] at hA hval
  obtain ⟨v0, vs0, d0, ds0, p0, q0, hargs, rfl, rfl, h0, r0⟩ := trodAll_cons hA
  obtain ⟨rfl, rfl, rfl⟩ := trodAll_nil r0
  obtain rfl : args = #[v0] := by cases args; simp_all
  obtain ⟨rfl, rfl⟩ := trodVars_none hV
  have k0 := h0
  have lt0 : ∀ x ∈ p0, x.block < W.heap.size := by obtain ⟨m, hm⟩ := k0; exact DataW.trod_lt m _ _ _ hm
  obtain ⟨f0, i0⟩ := open_bytes_arg (hval 0 22 v0 rfl rfl) h0
  clear hA0 hval0
  try simp only [List.append_nil] at hW'
  refine (walk W f0 v0 i0).mono fun e W' ⟨he, bel⟩ => ?_
  subst he
  exact ⟨_, rfl, _, _, _, [], _, [], hW', trodAll_mk1 (shut_bool Try.underlying4 _), (trodAll_cons_mk (Below.trod laidOut (by kernel_rfl) (of_decide_eq_true (by kernel_rfl)) k0 bel lt0) trodAll_mk0), rfl, bel.frame _, fun h => by cases h⟩
theorem over_named : Try.pinned.checked.prog.funcNamed Rows.fnFlipScopeRow.func = some 4 := by kernel_rfl
theorem over_closed : joinedFacts Try.pinned.checked.prog 4 Try.f4 Rows.fnFlipScopeSpec Rows.fnFlipScopeRow = true := by kernel_rfl
theorem over_inst : Func.isInstance Try.pinned.checked.prog Try.f4 Rows.fnFlipScopeRow.origin Rows.fnFlipScopeRow.targs := of_decide_eq_true (by kernel_rfl)
theorem over_wrap : Func.isWrapper Try.pinned.checked.prog Try.f4 Rows.fnFlipScopeRow.wrapper Rows.fnFlipScopeRow.mainSum := (by unfold Func.isWrapper; first | (rw [if_pos (by decide +kernel)]; kernel_rfl) | (rw [if_neg (by decide +kernel)]; exact ⟨rfl, rfl⟩))
theorem over : Rows.fnFlipScopeRow.holds Try.pinned (OpenSpec.ofChange Rows.fnFlipScopeSpec) :=
  OpenClaim.holds_of_wide 4 Try.f4 rfl rfl rfl rfl rfl rfl rfl ⟨rfl, rfl, rfl, rfl, rfl⟩ rfl rfl rfl rfl rfl over_named Try.func4 over_closed over_inst over_wrap
    (fun os started H enc _ => lifted os started H enc)
theorem proved : Rows.FnFlipScopeSaid := over
end Go.Proofs.Ytmakaoomdnlebaa.lwFlipScope
