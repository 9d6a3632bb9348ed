/- For every input a scope that is dropped is nowhere, and adding and dropping it is dropping it; the program and the model agree: the law FnDropScope returns true, whatever the input, with no condition beyond the statement's own. -/
import Derived.Test.YtmakaoomdnlebaaRows
import Derived.Test.YtmakaoomdnlebaaLwWithin
namespace Go.Proofs.Ytmakaoomdnlebaa.lwDropScope
open Go.ChangeShapes Go.WideShapes Go.ChangeAt Go.RowKit
open Go.ChangeMaps (open_string shut_string)
set_option linter.unusedVariables false
set_option linter.unusedSimpArgs false
set_option maxRecDepth 100000 in
set_option maxHeartbeats 4000000 in
theorem walk (w : World) (n : Nat) (v : Value) (hv : Bytes w v n) :
    Calls Try.prog 6 #[v] w fun e w' => e = .returned (.bool true) ∧ Below w.heap.size w w' := by
  have HV := Lib.hid hv
  obtain ⟨a0, c0, rfl, hn1, hn2, _⟩ := hv
  unfold maxLen at hn2
  by_cases hbig : (1048576 : Int) < n
  · go_enter Try.func6, Try.ntmps6
    go_wp2_with fail
    go_ret
    exact ⟨rfl, Below.refl _ _⟩
  go_enter Try.func6, Try.ntmps6
  go_wp2_with fail
  refine (drawDropScope_law _ n w HV.out).mono ?_
  rintro e w1 ⟨f, f0, f1, f2, f3, scope, rfl, hin, hsl, hsc, hb⟩
  have hs1 : w.heap.size ≤ w1.heap.size := hb.size
  have HL := Lib.hid hb
  have hscb := scopesCase_bounds scope hsc
  have hszf : f.sz ≤ 1048576 := by have := Slim.big hsl; omega
  clear hsl hsc HV
  clear hb
  have If : Hid (InV (· < w1.heap.size) w1 f (.agg #[.int .i64 f.kind, .string f.name, .int .i64 f.n, .slice f0 f.scopes.length f1, .slice f2 f.kids.length f3])) := InV.mono (fun k hk => hk.2) _ _ hin
  clear hin
  obtain ⟨ok, hok⟩ : ∃ ok, okF2 2 scope f = ok := ⟨_, rfl⟩
  obtain ⟨R, hR⟩ : ∃ R, afterF 2 scope f = R := ⟨_, rfl⟩
  have HOK := Lib.hid hok
  have HR := Lib.hid hR
  have HRC : Hid (R.count ≤ 4294967296) := by have h1 := afterF_count 2 scope f; have h2 := f.count_le; rw [hR] at h1; unfold Hid; omega
  clear hok hR
  go_wp2_with fail
  have hba0 := below_alloc w1 (.cells #[.int .i64 f.kind, .string f.name, .int .i64 f.n, .slice f0 f.scopes.length f1, .slice f2 f.kids.length f3] 27)
  have Bf : Hid (FormBox (w1.alloc (.cells #[.int .i64 f.kind, .string f.name, .int .i64 f.n, .slice f0 f.scopes.length f1, .slice f2 f.kids.length f3] 27)) w1.heap.size f f0 f1 f2 f3) := box_lit w1 f w1.heap.size f0 f2 f1 f3 27 (by simp)
  refine (implDropScope_law f _ scope (w1.alloc (.cells #[.int .i64 f.kind, .string f.name, .int .i64 f.n, .slice f0 f.scopes.length f1, .slice f2 f.kids.length f3] 27)) (inv_up If.out hba0) hszf hscb ok R HOK.out HR.out).mono ?_
  rintro e w2 ⟨x0, x1, x2, x3, rfl, hin, hend, hb0⟩
  have hb : Below w1.heap.size w1 w2 := hba0.trans (hb0.mono hba0.size)
  have hs2 : w1.heap.size + 1 ≤ w2.heap.size := by have h := hb0.size; simp at h; omega
  have HL_1 := Lib.hid (HL.out.trans (hb.mono (by omega)))
  have If_1 := Lib.hid (inv_up If.out hb)
  have Bf_1 := Lib.hid (FormBox.later Bf.out hb0)
  clear HL If Bf
  clear hb0 hba0
  clear hb
  have Ix : Hid (InV (· < w2.heap.size) w2 R (.agg #[.int .i64 R.kind, .string R.name, .int .i64 R.n, .slice x0 R.scopes.length x1, .slice x2 R.kids.length x3])) := InV.mono (fun k hk => hk.2) _ _ hin
  have Ex := Lib.hid hend
  clear hin hend
  obtain ⟨ld0, ld1, ld2, ld3, ld4⟩ := Bf_1.out
  have hx0 : w1.heap.size < w2.heap.size := Bf_1.out.lt
  go_wp2_with fail
  have hba0 := below_alloc w2 (.cells #[.int .i64 R.kind, .string R.name, .int .i64 R.n, .slice x0 R.scopes.length x1, .slice x2 R.kids.length x3] 27)
  have Bx : Hid (FormBox (w2.alloc (.cells #[.int .i64 R.kind, .string R.name, .int .i64 R.n, .slice x0 R.scopes.length x1, .slice x2 R.kids.length x3] 27)) w2.heap.size R x0 x1 x2 x3) := box_lit w2 R w2.heap.size x0 x2 x1 x3 27 (by simp)
  refine (specDropScope_law f _ scope (w2.alloc (.cells #[.int .i64 R.kind, .string R.name, .int .i64 R.n, .slice x0 R.scopes.length x1, .slice x2 R.kids.length x3] 27)) (inv_up If_1.out hba0) hszf hscb ok R HOK.out HR.out).mono ?_
  rintro e w3 ⟨y0, y1, y2, y3, rfl, hin, hb0⟩
  have hb : Below w2.heap.size w2 w3 := hba0.trans (hb0.mono hba0.size)
  have hs3 : w2.heap.size + 1 ≤ w3.heap.size := by have h := hb0.size; simp at h; omega
  clear ld0 ld1 ld2 ld3 ld4 hx0
  have HL_2 := Lib.hid (HL_1.out.trans (hb.mono (by omega)))
  have If_2 := Lib.hid (inv_up If_1.out hb)
  have Bf_2 := Lib.hid (FormBox.later Bf_1.out hb)
  have Ix_1 := Lib.hid (inv_up Ix.out hb)
  have Ex_1 := Lib.hid (EndlessAt.later Ex.out hb)
  have Bx_1 := Lib.hid (FormBox.later Bx.out hb0)
  clear HL_1 If_1 Bf_1 Ix Ex Bx
  clear hb0 hba0
  clear hb
  have Iy : Hid (InV (· < w3.heap.size) w3 R (.agg #[.int .i64 R.kind, .string R.name, .int .i64 R.n, .slice y0 R.scopes.length y1, .slice y2 R.kids.length y3])) := InV.mono (fun k hk => hk.2) _ _ hin
  clear hin
  cases ok with
  | false =>
    obtain ⟨ld0, ld1, ld2, ld3, ld4⟩ := Bx_1.out
    have hx0 : w2.heap.size < w3.heap.size := Bx_1.out.lt
    go_wp2_with fail
    have hba0 := below_alloc w3 (.cells #[.int .i64 R.kind, .string R.name, .int .i64 R.n, .slice y0 R.scopes.length y1, .slice y2 R.kids.length y3] 27)
    have By : Hid (FormBox (w3.alloc (.cells #[.int .i64 R.kind, .string R.name, .int .i64 R.n, .slice y0 R.scopes.length y1, .slice y2 R.kids.length y3] 27)) w3.heap.size R y0 y1 y2 y3) := box_lit w3 R w3.heap.size y0 y2 y1 y3 27 (by simp)
    refine (implSame_law R R _ _ (w3.alloc (.cells #[.int .i64 R.kind, .string R.name, .int .i64 R.n, .slice y0 R.scopes.length y1, .slice y2 R.kids.length y3] 27)) (inv_up Ix_1.out hba0) (inv_up Iy.out hba0) HRC.out (EndlessAt.later Ex_1.out hba0) true (sameB_refl R)).mono ?_
    rintro e w4 ⟨rfl, hb0⟩
    have hb : Below w3.heap.size w3 w4 := hba0.trans (hb0.mono hba0.size)
    have hs4 : w3.heap.size + 1 ≤ w4.heap.size := by have h := hb0.size; simp at h; omega
    clear ld0 ld1 ld2 ld3 ld4 hx0
    have HL_3 := Lib.hid (HL_2.out.trans (hb.mono (by omega)))
    have If_3 := Lib.hid (inv_up If_2.out hb)
    have Bf_3 := Lib.hid (FormBox.later Bf_2.out hb)
    have Ix_2 := Lib.hid (inv_up Ix_1.out hb)
    have Ex_2 := Lib.hid (EndlessAt.later Ex_1.out hb)
    have Bx_2 := Lib.hid (FormBox.later Bx_1.out hb)
    have Iy_1 := Lib.hid (inv_up Iy.out hb)
    have By_1 := Lib.hid (FormBox.later By.out hb0)
    clear HL_2 If_2 Bf_2 Ix_1 Ex_1 Bx_1 Iy By
    clear hb0 hba0
    clear hb
    obtain ⟨ld0, ld1, ld2, ld3, ld4⟩ := Bx_2.out
    have hx0 : w2.heap.size < w4.heap.size := Bx_2.out.lt
    obtain ⟨ld5, ld6, ld7, ld8, ld9⟩ := By_1.out
    have hx1 : w3.heap.size < w4.heap.size := By_1.out.lt
    go_wp2_with fail
    refine (implSame_law R R _ _ w4 Ix_2.out Iy_1.out HRC.out Ex_2.out true (sameB_refl R)).mono ?_
    rintro e w5 ⟨rfl, hb⟩
    have hs5 : w4.heap.size ≤ w5.heap.size := hb.size
    clear ld0 ld1 ld2 ld3 ld4 ld5 ld6 ld7 ld8 ld9 hx0 hx1
    have HL_4 := Lib.hid (HL_3.out.trans (hb.mono (by omega)))
    have If_4 := Lib.hid (inv_up If_3.out hb)
    have Bf_4 := Lib.hid (FormBox.later Bf_3.out hb)
    have Ix_3 := Lib.hid (inv_up Ix_2.out hb)
    have Ex_3 := Lib.hid (EndlessAt.later Ex_2.out hb)
    have Bx_3 := Lib.hid (FormBox.later Bx_2.out hb)
    have Iy_2 := Lib.hid (inv_up Iy_1.out hb)
    have By_2 := Lib.hid (FormBox.later By_1.out hb)
    clear HL_3 If_3 Bf_3 Ix_2 Ex_2 Bx_2 Iy_1 By_1
    clear hb
    go_wp2_with fail
    go_ret
    exact ⟨rfl, HL_4.out⟩
  | true =>
    obtain ⟨ld0, ld1, ld2, ld3, ld4⟩ := Bx_1.out
    have hx0 : w2.heap.size < w3.heap.size := Bx_1.out.lt
    go_wp2_with fail
    have hba0 := below_alloc w3 (.cells #[.int .i64 R.kind, .string R.name, .int .i64 R.n, .slice y0 R.scopes.length y1, .slice y2 R.kids.length y3] 27)
    have By : Hid (FormBox (w3.alloc (.cells #[.int .i64 R.kind, .string R.name, .int .i64 R.n, .slice y0 R.scopes.length y1, .slice y2 R.kids.length y3] 27)) w3.heap.size R y0 y1 y2 y3) := box_lit w3 R w3.heap.size y0 y2 y1 y3 27 (by simp)
    refine (implSame_law R R _ _ (w3.alloc (.cells #[.int .i64 R.kind, .string R.name, .int .i64 R.n, .slice y0 R.scopes.length y1, .slice y2 R.kids.length y3] 27)) (inv_up Ix_1.out hba0) (inv_up Iy.out hba0) HRC.out (EndlessAt.later Ex_1.out hba0) true (sameB_refl R)).mono ?_
    rintro e w4 ⟨rfl, hb0⟩
    have hb : Below w3.heap.size w3 w4 := hba0.trans (hb0.mono hba0.size)
    have hs4 : w3.heap.size + 1 ≤ w4.heap.size := by have h := hb0.size; simp at h; omega
    clear ld0 ld1 ld2 ld3 ld4 hx0
    have HL_3 := Lib.hid (HL_2.out.trans (hb.mono (by omega)))
    have If_3 := Lib.hid (inv_up If_2.out hb)
    have Bf_3 := Lib.hid (FormBox.later Bf_2.out hb)
    have Ix_2 := Lib.hid (inv_up Ix_1.out hb)
    have Ex_2 := Lib.hid (EndlessAt.later Ex_1.out hb)
    have Bx_2 := Lib.hid (FormBox.later Bx_1.out hb)
    have Iy_1 := Lib.hid (inv_up Iy.out hb)
    have By_1 := Lib.hid (FormBox.later By.out hb0)
    clear HL_2 If_2 Bf_2 Ix_1 Ex_1 Bx_1 Iy By
    clear hb0 hba0
    clear hb
    obtain ⟨h1, h2, h3⟩ := after_valid HOK.out HR.out
    obtain ⟨fine, hfine⟩ : ∃ q, okF2 0 scope f = q := ⟨_, rfl⟩
    obtain ⟨Y, hY⟩ : ∃ Y, afterF 0 scope f = Y := ⟨_, rfl⟩
    obtain ⟨good, hgood⟩ : ∃ r, okF2 2 scope Y = r := ⟨_, rfl⟩
    obtain ⟨Z, hZ⟩ : ∃ Z, afterF 2 scope Y = Z := ⟨_, rfl⟩
    have hszY : Y.sz ≤ 1048576 := by rw [← hY]; exact after_sz 0 scope f
    have hszR : R.sz ≤ 1048576 := valid_sz h3
    have HZC : Hid (Z.count ≤ 4294967296) := by have h1 := afterF_count 2 scope Y; have h2 := Y.count_le; rw [hZ] at h1; unfold Hid; omega
    have HTWO : Hid (fine = true → good = true ∧ Z = R) := fun h => by
      have k := drop_of_add HOK.out (hfine.trans h)
      rw [hY, hZ, HR.out] at k
      exact ⟨hgood.symm.trans k.1, k.2⟩
    obtain ⟨L, hL⟩ : ∃ L, scopesOf R = L := ⟨_, rfl⟩
    have HNO : Hid (withinB [scope] L = false) := by
      unfold Hid
      rw [Bool.eq_false_iff]
      intro h
      have h4 := drop_gone HOK.out
      rw [HR.out, hL] at h4
      exact h4 ((withinB_one _ _).1 h)
    have HLL : Hid (L.length ≤ 1000) := by have h4 := scopesOf_len R; rw [hL] at h4; unfold Hid; omega
    have HL0 := Lib.hid hL
    clear hL
    have HFI := Lib.hid hfine
    have HY := Lib.hid hY
    have HGO := Lib.hid hgood
    have HZ := Lib.hid hZ
    clear h1 h2 h3 hfine hY hgood hZ
    obtain ⟨ld0, ld1, ld2, ld3, ld4⟩ := Bf_3.out
    have hx0 : w1.heap.size < w4.heap.size := Bf_3.out.lt
    go_wp2_with fail
    refine (implAddScope_law f _ scope w4 If_3.out hszf hscb fine Y HFI.out HY.out).mono ?_
    rintro e w5 ⟨b0, b1, b2, b3, rfl, hin, hend, hb⟩
    have hs5 : w4.heap.size ≤ w5.heap.size := hb.size
    clear ld0 ld1 ld2 ld3 ld4 hx0
    have HL_4 := Lib.hid (HL_3.out.trans (hb.mono (by omega)))
    have If_4 := Lib.hid (inv_up If_3.out hb)
    have Bf_4 := Lib.hid (FormBox.later Bf_3.out hb)
    have Ix_3 := Lib.hid (inv_up Ix_2.out hb)
    have Ex_3 := Lib.hid (EndlessAt.later Ex_2.out hb)
    have Bx_3 := Lib.hid (FormBox.later Bx_2.out hb)
    have Iy_2 := Lib.hid (inv_up Iy_1.out hb)
    have By_2 := Lib.hid (FormBox.later By_1.out hb)
    clear HL_3 If_3 Bf_3 Ix_2 Ex_2 Bx_2 Iy_1 By_1
    clear hb
    have Ib : Hid (InV (· < w5.heap.size) w5 Y (.agg #[.int .i64 Y.kind, .string Y.name, .int .i64 Y.n, .slice b0 Y.scopes.length b1, .slice b2 Y.kids.length b3])) := InV.mono (fun k hk => hk.2) _ _ hin
    have Eb := Lib.hid hend
    clear hin hend
    go_wp2_with fail
    have hba0 := below_alloc w5 (.cells #[.int .i64 Y.kind, .string Y.name, .int .i64 Y.n, .slice b0 Y.scopes.length b1, .slice b2 Y.kids.length b3] 27)
    have Bb : Hid (FormBox (w5.alloc (.cells #[.int .i64 Y.kind, .string Y.name, .int .i64 Y.n, .slice b0 Y.scopes.length b1, .slice b2 Y.kids.length b3] 27)) w5.heap.size Y b0 b1 b2 b3) := box_lit w5 Y w5.heap.size b0 b2 b1 b3 27 (by simp)
    refine (implDropScope_law Y _ scope (w5.alloc (.cells #[.int .i64 Y.kind, .string Y.name, .int .i64 Y.n, .slice b0 Y.scopes.length b1, .slice b2 Y.kids.length b3] 27)) (inv_up Ib.out hba0) hszY hscb good Z HGO.out HZ.out).mono ?_
    rintro e w6 ⟨c0, c1, c2, c3, rfl, hin, hend, hb0⟩
    have hb : Below w5.heap.size w5 w6 := hba0.trans (hb0.mono hba0.size)
    have hs6 : w5.heap.size + 1 ≤ w6.heap.size := by have h := hb0.size; simp at h; omega
    have HL_5 := Lib.hid (HL_4.out.trans (hb.mono (by omega)))
    have If_5 := Lib.hid (inv_up If_4.out hb)
    have Bf_5 := Lib.hid (FormBox.later Bf_4.out hb)
    have Ix_4 := Lib.hid (inv_up Ix_3.out hb)
    have Ex_4 := Lib.hid (EndlessAt.later Ex_3.out hb)
    have Bx_4 := Lib.hid (FormBox.later Bx_3.out hb)
    have Iy_3 := Lib.hid (inv_up Iy_2.out hb)
    have By_3 := Lib.hid (FormBox.later By_2.out hb)
    have Ib_1 := Lib.hid (inv_up Ib.out hb)
    have Eb_1 := Lib.hid (EndlessAt.later Eb.out hb)
    have Bb_1 := Lib.hid (FormBox.later Bb.out hb0)
    clear HL_4 If_4 Bf_4 Ix_3 Ex_3 Bx_3 Iy_2 By_2 Ib Eb Bb
    clear hb0 hba0
    clear hb
    have Ic : Hid (InV (· < w6.heap.size) w6 Z (.agg #[.int .i64 Z.kind, .string Z.name, .int .i64 Z.n, .slice c0 Z.scopes.length c1, .slice c2 Z.kids.length c3])) := InV.mono (fun k hk => hk.2) _ _ hin
    have Ec := Lib.hid hend
    clear hin hend
    obtain ⟨ld0, ld1, ld2, ld3, ld4⟩ := Bx_4.out
    have hx0 : w2.heap.size < w6.heap.size := Bx_4.out.lt
    go_wp2_with fail
    have hba0 := below_alloc w6 (.cells #[.int .i64 Z.kind, .string Z.name, .int .i64 Z.n, .slice c0 Z.scopes.length c1, .slice c2 Z.kids.length c3] 27)
    have Bc : Hid (FormBox (w6.alloc (.cells #[.int .i64 Z.kind, .string Z.name, .int .i64 Z.n, .slice c0 Z.scopes.length c1, .slice c2 Z.kids.length c3] 27)) w6.heap.size Z c0 c1 c2 c3) := box_lit w6 Z w6.heap.size c0 c2 c1 c3 27 (by simp)
    have hba1 : Below w6.heap.size w6 ((w6.alloc (.cells #[.int .i64 Z.kind, .string Z.name, .int .i64 Z.n, .slice c0 Z.scopes.length c1, .slice c2 Z.kids.length c3] 27)).alloc (.cells ([scope].map (Value.int .i64)).toArray 3)) := hba0.trans ((below_alloc (w6.alloc (.cells #[.int .i64 Z.kind, .string Z.name, .int .i64 Z.n, .slice c0 Z.scopes.length c1, .slice c2 Z.kids.length c3] 27)) (.cells ([scope].map (Value.int .i64)).toArray 3)).mono (by simp))
    have Bc_1 := Lib.hid (FormBox.later Bc.out (below_alloc (w6.alloc (.cells #[.int .i64 Z.kind, .string Z.name, .int .i64 Z.n, .slice c0 Z.scopes.length c1, .slice c2 Z.kids.length c3] 27)) (.cells ([scope].map (Value.int .i64)).toArray 3)))
    clear Bc
    have Rl : Hid (IntRow (· < ((w6.alloc (.cells #[.int .i64 Z.kind, .string Z.name, .int .i64 Z.n, .slice c0 Z.scopes.length c1, .slice c2 Z.kids.length c3] 27)).alloc (.cells ([scope].map (Value.int .i64)).toArray 3)).heap.size) ((w6.alloc (.cells #[.int .i64 Z.kind, .string Z.name, .int .i64 Z.n, .slice c0 Z.scopes.length c1, .slice c2 Z.kids.length c3] 27)).alloc (.cells ([scope].map (Value.int .i64)).toArray 3)) (.slice (some ⟨(w6.heap.size + 1), 0, none⟩) [scope].length [scope].length) [scope]) := row_lit (w6.alloc (.cells #[.int .i64 Z.kind, .string Z.name, .int .i64 Z.n, .slice c0 Z.scopes.length c1, .slice c2 Z.kids.length c3] 27)) 3 [scope] (w6.heap.size + 1) (by simp) (fun n hn => by obtain rfl := List.mem_singleton.1 hn; omega) (by simp)
    refine (implScopesOf_law R _ _ _ _ ((w6.alloc (.cells #[.int .i64 Z.kind, .string Z.name, .int .i64 Z.n, .slice c0 Z.scopes.length c1, .slice c2 Z.kids.length c3] 27)).alloc (.cells ([scope].map (Value.int .i64)).toArray 3)) (inv_up Ix_4.out hba1) hszR (EndlessAt.later Ex_4.out hba1) L HL0.out).mono ?_
    rintro e w7 ⟨pa, ca, rfl, hrow, hb0⟩
    have hb : Below w6.heap.size w6 w7 := hba1.trans (hb0.mono hba1.size)
    have hs7 : w6.heap.size + 2 ≤ w7.heap.size := by have h := hb0.size; simp at h; omega
    clear ld0 ld1 ld2 ld3 ld4 hx0
    have HL_6 := Lib.hid (HL_5.out.trans (hb.mono (by omega)))
    have If_6 := Lib.hid (inv_up If_5.out hb)
    have Bf_6 := Lib.hid (FormBox.later Bf_5.out hb)
    have Ix_5 := Lib.hid (inv_up Ix_4.out hb)
    have Ex_5 := Lib.hid (EndlessAt.later Ex_4.out hb)
    have Bx_5 := Lib.hid (FormBox.later Bx_4.out hb)
    have Iy_4 := Lib.hid (inv_up Iy_3.out hb)
    have By_4 := Lib.hid (FormBox.later By_3.out hb)
    have Ib_2 := Lib.hid (inv_up Ib_1.out hb)
    have Eb_2 := Lib.hid (EndlessAt.later Eb_1.out hb)
    have Bb_2 := Lib.hid (FormBox.later Bb_1.out hb)
    have Ic_1 := Lib.hid (inv_up Ic.out hb)
    have Ec_1 := Lib.hid (EndlessAt.later Ec.out hb)
    have Bc_2 := Lib.hid (FormBox.later Bc_1.out hb0)
    have Rl_1 := Lib.hid (irow_up Rl.out hb0)
    clear HL_5 If_5 Bf_5 Ix_4 Ex_4 Bx_4 Iy_3 By_3 Ib_1 Eb_1 Bb_1 Ic Ec Bc_1 Rl
    clear hb0 hba0 hba1
    clear hb
    have RL := Lib.hid hrow
    clear hrow
    go_wp2_with fail
    refine (implWithin_law [scope] L _ _ _ _ w7 Rl_1.out RL.out (by simp) HLL.out false HNO.out).mono ?_
    rintro e w8 ⟨rfl, hb⟩
    have hs8 : w7.heap.size ≤ w8.heap.size := hb.size
    have HL_7 := Lib.hid (HL_6.out.trans (hb.mono (by omega)))
    have If_7 := Lib.hid (inv_up If_6.out hb)
    have Bf_7 := Lib.hid (FormBox.later Bf_6.out hb)
    have Ix_6 := Lib.hid (inv_up Ix_5.out hb)
    have Ex_6 := Lib.hid (EndlessAt.later Ex_5.out hb)
    have Bx_6 := Lib.hid (FormBox.later Bx_5.out hb)
    have Iy_5 := Lib.hid (inv_up Iy_4.out hb)
    have By_5 := Lib.hid (FormBox.later By_4.out hb)
    have Ib_3 := Lib.hid (inv_up Ib_2.out hb)
    have Eb_3 := Lib.hid (EndlessAt.later Eb_2.out hb)
    have Bb_3 := Lib.hid (FormBox.later Bb_2.out hb)
    have Ic_2 := Lib.hid (inv_up Ic_1.out hb)
    have Ec_2 := Lib.hid (EndlessAt.later Ec_1.out hb)
    have Bc_3 := Lib.hid (FormBox.later Bc_2.out hb)
    have Rl_2 := Lib.hid (irow_up Rl_1.out hb)
    have RL_1 := Lib.hid (irow_up RL.out hb)
    clear HL_6 If_6 Bf_6 Ix_5 Ex_5 Bx_5 Iy_4 By_4 Ib_2 Eb_2 Bb_2 Ic_1 Ec_1 Bc_2 Rl_1 RL
    clear hb
    cases fine with
    | false =>
      go_wp2_with fail
      go_ret
      exact ⟨rfl, HL_7.out⟩
    | true =>
      have HSM : Hid (sameB Z R = true) := by have h := (HTWO.out rfl).2; unfold Hid; rw [h]; exact sameB_refl _
      obtain rfl : good = true := (HTWO.out rfl).1
      obtain ⟨ld0, ld1, ld2, ld3, ld4⟩ := Bc_3.out
      have hx0 : w6.heap.size < w8.heap.size := Bc_3.out.lt
      obtain ⟨ld5, ld6, ld7, ld8, ld9⟩ := Bx_6.out
      have hx1 : w2.heap.size < w8.heap.size := Bx_6.out.lt
      go_wp2_with fail
      refine (implSame_law Z R _ _ w8 Ic_2.out Ix_6.out HZC.out Ec_2.out true HSM.out).mono ?_
      rintro e w9 ⟨rfl, hb⟩
      have hs9 : w8.heap.size ≤ w9.heap.size := hb.size
      clear ld0 ld1 ld2 ld3 ld4 ld5 ld6 ld7 ld8 ld9 hx0 hx1
      have HL_8 := Lib.hid (HL_7.out.trans (hb.mono (by omega)))
      have If_8 := Lib.hid (inv_up If_7.out hb)
      have Bf_8 := Lib.hid (FormBox.later Bf_7.out hb)
      have Ix_7 := Lib.hid (inv_up Ix_6.out hb)
      have Ex_7 := Lib.hid (EndlessAt.later Ex_6.out hb)
      have Bx_7 := Lib.hid (FormBox.later Bx_6.out hb)
      have Iy_6 := Lib.hid (inv_up Iy_5.out hb)
      have By_6 := Lib.hid (FormBox.later By_5.out hb)
      have Ib_4 := Lib.hid (inv_up Ib_3.out hb)
      have Eb_4 := Lib.hid (EndlessAt.later Eb_3.out hb)
      have Bb_4 := Lib.hid (FormBox.later Bb_3.out hb)
      have Ic_3 := Lib.hid (inv_up Ic_2.out hb)
      have Ec_3 := Lib.hid (EndlessAt.later Ec_2.out hb)
      have Bc_4 := Lib.hid (FormBox.later Bc_3.out hb)
      have Rl_3 := Lib.hid (irow_up Rl_2.out hb)
      have RL_2 := Lib.hid (irow_up RL_1.out hb)
      clear HL_7 If_7 Bf_7 Ix_6 Ex_6 Bx_6 Iy_5 By_5 Ib_3 Eb_3 Bb_3 Ic_2 Ec_2 Bc_3 Rl_2 RL_1
      clear hb
      go_wp2_with fail
      go_ret
      exact ⟨rfl, HL_8.out⟩
theorem own : ownKnob Try.prog.godebug = none := by kernel_rfl
theorem laidOut : laidOutB Try.prog = true := by kernel_rfl
set_option maxRecDepth 100000 in
theorem lifted (os : Os) (started : os.Started) (H : Type) (enc : TypeId × Value → H) :
    ReturnsInHanded {} Try.checked os 6 .any (Rows.fnDropScopeSpec.pre6 enc Try.prog Try.f6 Rows.fnDropScopeRow.domain false) (Rows.fnDropScopeSpec.post enc Try.prog Try.f6 false true false false) := by
  refine returnsInHanded_of_change (C := Try.checked) own started (by kernel_rfl) Try.func6
    (ChangeSpec.witness6 (enc := enc) (C := Try.checked) false ⟨#[], #[.slice none 0 0], []⟩ 12 (by kernel_rfl) (by kernel_rfl) (by kernel_rfl) (by kernel_rfl)) ?_
  intro W base args ds gs before hval0 hW hcnd _
  have hval : ∀ (j : Nat) t v, Try.f6.params[j]? = some t → args[j]? = some v → Value.okWide Try.prog W .any base t v := hval0
  have hW' := hW
  obtain ⟨p, q, hA0, hV, rfl, hfz, hnd⟩ := hW
  have hA : DataW.TrodAll enc Try.prog W 0 (fun _ => true) true Try.f6.params.toList args.toList ds p := hA0
  rw [Try.params6] at hA hval
  obtain ⟨v0, vs0, d0, ds0, p0, q0, hargs, rfl, rfl, h0, r0⟩ := trodAll_cons hA
  obtain ⟨rfl, rfl, rfl⟩ := trodAll_nil r0
  obtain rfl : args = #[v0] := by cases args; simp_all
  obtain ⟨rfl, rfl⟩ := trodVars_none hV
  have k0 := h0
  have lt0 : ∀ x ∈ p0, x.block < W.heap.size := by obtain ⟨m, hm⟩ := k0; exact DataW.trod_lt m _ _ _ hm
  obtain ⟨f0, i0⟩ := open_bytes_arg (hval 0 22 v0 rfl rfl) h0
  clear hA0 hval0
  try simp only [List.append_nil] at hW'
  refine (walk W f0 v0 i0).mono fun e W' ⟨he, bel⟩ => ?_
  subst he
  exact ⟨_, rfl, _, _, _, [], _, [], hW', trodAll_mk1 (shut_bool Try.underlying4 _), (trodAll_cons_mk (Below.trod laidOut (by kernel_rfl) (of_decide_eq_true (by kernel_rfl)) k0 bel lt0) trodAll_mk0), rfl, bel.frame _, fun h => by cases h⟩
theorem over_named : Try.pinned.checked.prog.funcNamed Rows.fnDropScopeRow.func = some 6 := by kernel_rfl
theorem over_closed : joinedFacts Try.pinned.checked.prog 6 Try.f6 Rows.fnDropScopeSpec Rows.fnDropScopeRow = true := by kernel_rfl
theorem over_inst : Func.isInstance Try.pinned.checked.prog Try.f6 Rows.fnDropScopeRow.origin Rows.fnDropScopeRow.targs := of_decide_eq_true (by kernel_rfl)
theorem over_wrap : Func.isWrapper Try.pinned.checked.prog Try.f6 Rows.fnDropScopeRow.wrapper Rows.fnDropScopeRow.mainSum := (by unfold Func.isWrapper; first | (rw [if_pos (by decide +kernel)]; kernel_rfl) | (rw [if_neg (by decide +kernel)]; exact ⟨rfl, rfl⟩))
theorem over : Rows.fnDropScopeRow.holds Try.pinned (OpenSpec.ofChange Rows.fnDropScopeSpec) :=
  OpenClaim.holds_of_wide 6 Try.f6 rfl rfl rfl rfl rfl rfl rfl ⟨rfl, rfl, rfl, rfl, rfl⟩ rfl rfl rfl rfl rfl over_named Try.func6 over_closed over_inst over_wrap
    (fun os started H enc _ => lifted os started H enc)
theorem proved : Rows.FnDropScopeSaid := over
end Go.Proofs.Ytmakaoomdnlebaa.lwDropScope
