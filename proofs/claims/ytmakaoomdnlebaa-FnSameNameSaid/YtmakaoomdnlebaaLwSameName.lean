/- For every input the drawn names that have the same scopes are equal forms, and stay so with a scope more; the comparison is symmetric, and the program and the model agree: the law FnSameName returns true, whatever the input, with no condition beyond the statement's own. -/
import Derived.Test.YtmakaoomdnlebaaRows
import Derived.Test.YtmakaoomdnlebaaLwDress
import Derived.Test.YtmakaoomdnlebaaDrawName
namespace Go.Proofs.Ytmakaoomdnlebaa.lwSameName
open Go.ChangeShapes Go.WideShapes Go.ChangeAt Go.RowKit
open Go.ChangeMaps (open_string shut_string)
set_option linter.unusedVariables false
set_option linter.unusedSimpArgs false
set_option maxRecDepth 100000 in
set_option maxHeartbeats 4000000 in
theorem walk (w : World) (n : Nat) (v : Value) (hv : Bytes w v n) :
    Calls Try.prog 8 #[v] w fun e w' => e = .returned (.bool true) ∧ Below w.heap.size w w' := by
  have HV := Lib.hid hv
  obtain ⟨a0, c0, rfl, hn1, hn2, _⟩ := hv
  unfold maxLen at hn2
  by_cases hbig : (1048576 : Int) < n
  · go_enter Try.func8, Try.ntmps8
    go_wp2_with fail
    go_ret
    exact ⟨rfl, Below.refl _ _⟩
  go_enter Try.func8, Try.ntmps8
  go_wp2_with fail
  refine (drawName_any _ n w HV.out).mono ?_
  rintro e w1 ⟨f, f0, f1, f2, f3, g, g0, g1, g2, g3, rfl, hin, hing, hsl, hslg, hb⟩
  have hs1 : w.heap.size ≤ w1.heap.size := hb.size
  have HL := Lib.hid hb
  have hszf : f.sz ≤ 1048576 := by have := Slim.big hsl; omega
  have hszg : g.sz ≤ 1048576 := by have := Slim.big hslg; omega
  have HSF := Lib.hid hsl
  have HSG := Lib.hid hslg
  clear hsl hslg HV
  clear hb
  have If : Hid (InV (· < w1.heap.size) w1 f (.agg #[.int .i64 f.kind, .string f.name, .int .i64 f.n, .slice f0 f.scopes.length f1, .slice f2 f.kids.length f3])) := InV.mono (fun k hk => hk.2) _ _ hin
  clear hin
  have Ig : Hid (InV (· < w1.heap.size) w1 g (.agg #[.int .i64 g.kind, .string g.name, .int .i64 g.n, .slice g0 g.scopes.length g1, .slice g2 g.kids.length g3])) := InV.mono (fun k hk => hk.2) _ _ hing
  clear hing
  obtain ⟨same, hsame⟩ : ∃ same, sameNameB f g = same := ⟨_, rfl⟩
  have HS1 := Lib.hid hsame
  have HS2 : Hid (sameNameB g f = same) := (sameName_comm f g).trans hsame
  clear hsame
  cases same with
  | false =>
    go_wp2_with fail
    have hba0 := below_alloc w1 (.cells #[.int .i64 f.kind, .string f.name, .int .i64 f.n, .slice f0 f.scopes.length f1, .slice f2 f.kids.length f3] 27)
    have Bf : Hid (FormBox (w1.alloc (.cells #[.int .i64 f.kind, .string f.name, .int .i64 f.n, .slice f0 f.scopes.length f1, .slice f2 f.kids.length f3] 27)) w1.heap.size f f0 f1 f2 f3) := box_lit w1 f w1.heap.size f0 f2 f1 f3 27 (by simp)
    have hba1 : Below w1.heap.size w1 ((w1.alloc (.cells #[.int .i64 f.kind, .string f.name, .int .i64 f.n, .slice f0 f.scopes.length f1, .slice f2 f.kids.length f3] 27)).alloc (.cells #[.int .i64 g.kind, .string g.name, .int .i64 g.n, .slice g0 g.scopes.length g1, .slice g2 g.kids.length g3] 27)) := hba0.trans ((below_alloc (w1.alloc (.cells #[.int .i64 f.kind, .string f.name, .int .i64 f.n, .slice f0 f.scopes.length f1, .slice f2 f.kids.length f3] 27)) (.cells #[.int .i64 g.kind, .string g.name, .int .i64 g.n, .slice g0 g.scopes.length g1, .slice g2 g.kids.length g3] 27)).mono (by simp))
    have Bf_1 := Lib.hid (FormBox.later Bf.out (below_alloc (w1.alloc (.cells #[.int .i64 f.kind, .string f.name, .int .i64 f.n, .slice f0 f.scopes.length f1, .slice f2 f.kids.length f3] 27)) (.cells #[.int .i64 g.kind, .string g.name, .int .i64 g.n, .slice g0 g.scopes.length g1, .slice g2 g.kids.length g3] 27)))
    clear Bf
    have Bg : Hid (FormBox ((w1.alloc (.cells #[.int .i64 f.kind, .string f.name, .int .i64 f.n, .slice f0 f.scopes.length f1, .slice f2 f.kids.length f3] 27)).alloc (.cells #[.int .i64 g.kind, .string g.name, .int .i64 g.n, .slice g0 g.scopes.length g1, .slice g2 g.kids.length g3] 27)) (w1.heap.size + 1) g g0 g1 g2 g3) := box_lit (w1.alloc (.cells #[.int .i64 f.kind, .string f.name, .int .i64 f.n, .slice f0 f.scopes.length f1, .slice f2 f.kids.length f3] 27)) g (w1.heap.size + 1) g0 g2 g1 g3 27 (by simp)
    refine (implSameName_law f g _ _ ((w1.alloc (.cells #[.int .i64 f.kind, .string f.name, .int .i64 f.n, .slice f0 f.scopes.length f1, .slice f2 f.kids.length f3] 27)).alloc (.cells #[.int .i64 g.kind, .string g.name, .int .i64 g.n, .slice g0 g.scopes.length g1, .slice g2 g.kids.length g3] 27)) (inv_up If.out hba1) (inv_up Ig.out hba1) false HS1.out).mono ?_
    rintro e w2 ⟨rfl, hb0⟩
    have hb : Below w1.heap.size w1 w2 := hba1.trans (hb0.mono hba1.size)
    have hs2 : w1.heap.size + 2 ≤ w2.heap.size := by have h := hb0.size; simp at h; omega
    have HL_1 := Lib.hid (HL.out.trans (hb.mono (by omega)))
    have If_1 := Lib.hid (inv_up If.out hb)
    have Ig_1 := Lib.hid (inv_up Ig.out hb)
    have Bf_2 := Lib.hid (FormBox.later Bf_1.out hb0)
    have Bg_1 := Lib.hid (FormBox.later Bg.out hb0)
    clear HL If Ig Bf_1 Bg
    clear hb0 hba0 hba1
    clear hb
    obtain ⟨ld0, ld1, ld2, ld3, ld4⟩ := Bf_2.out
    have hx0 : w1.heap.size < w2.heap.size := Bf_2.out.lt
    obtain ⟨ld5, ld6, ld7, ld8, ld9⟩ := Bg_1.out
    have hx1 : (w1.heap.size + 1) < w2.heap.size := Bg_1.out.lt
    go_wp2_with fail
    refine (specSameName_law f g _ _ w2 If_1.out Ig_1.out hszf hszg false HS1.out).mono ?_
    rintro e w3 ⟨rfl, hb⟩
    have hs3 : w2.heap.size ≤ w3.heap.size := hb.size
    clear ld0 ld1 ld2 ld3 ld4 ld5 ld6 ld7 ld8 ld9 hx0 hx1
    have HL_2 := Lib.hid (HL_1.out.trans (hb.mono (by omega)))
    have If_2 := Lib.hid (inv_up If_1.out hb)
    have Ig_2 := Lib.hid (inv_up Ig_1.out hb)
    have Bf_3 := Lib.hid (FormBox.later Bf_2.out hb)
    have Bg_2 := Lib.hid (FormBox.later Bg_1.out hb)
    clear HL_1 If_1 Ig_1 Bf_2 Bg_1
    clear hb
    obtain ⟨ld0, ld1, ld2, ld3, ld4⟩ := Bg_2.out
    have hx0 : (w1.heap.size + 1) < w3.heap.size := Bg_2.out.lt
    obtain ⟨ld5, ld6, ld7, ld8, ld9⟩ := Bf_3.out
    have hx1 : w1.heap.size < w3.heap.size := Bf_3.out.lt
    go_wp2_with fail
    refine (implSameName_law g f _ _ w3 Ig_2.out If_2.out false HS2.out).mono ?_
    rintro e w4 ⟨rfl, hb⟩
    have hs4 : w3.heap.size ≤ w4.heap.size := hb.size
    clear ld0 ld1 ld2 ld3 ld4 ld5 ld6 ld7 ld8 ld9 hx0 hx1
    have HL_3 := Lib.hid (HL_2.out.trans (hb.mono (by omega)))
    have If_3 := Lib.hid (inv_up If_2.out hb)
    have Ig_3 := Lib.hid (inv_up Ig_2.out hb)
    have Bf_4 := Lib.hid (FormBox.later Bf_3.out hb)
    have Bg_3 := Lib.hid (FormBox.later Bg_2.out hb)
    clear HL_2 If_2 Ig_2 Bf_3 Bg_2
    clear hb
    obtain ⟨ld0, ld1, ld2, ld3, ld4⟩ := Bf_4.out
    have hx0 : w1.heap.size < w4.heap.size := Bf_4.out.lt
    obtain ⟨ld5, ld6, ld7, ld8, ld9⟩ := Bg_3.out
    have hx1 : (w1.heap.size + 1) < w4.heap.size := Bg_3.out.lt
    go_wp2_with fail
    refine (specSameName_law f g _ _ w4 If_3.out Ig_3.out hszf hszg false HS1.out).mono ?_
    rintro e w5 ⟨rfl, hb⟩
    have hs5 : w4.heap.size ≤ w5.heap.size := hb.size
    clear ld0 ld1 ld2 ld3 ld4 ld5 ld6 ld7 ld8 ld9 hx0 hx1
    have HL_4 := Lib.hid (HL_3.out.trans (hb.mono (by omega)))
    have If_4 := Lib.hid (inv_up If_3.out hb)
    have Ig_4 := Lib.hid (inv_up Ig_3.out hb)
    have Bf_5 := Lib.hid (FormBox.later Bf_4.out hb)
    have Bg_4 := Lib.hid (FormBox.later Bg_3.out hb)
    clear HL_3 If_3 Ig_3 Bf_4 Bg_3
    clear hb
    obtain ⟨ld0, ld1, ld2, ld3, ld4⟩ := Bg_4.out
    have hx0 : (w1.heap.size + 1) < w5.heap.size := Bg_4.out.lt
    obtain ⟨ld5, ld6, ld7, ld8, ld9⟩ := Bf_5.out
    have hx1 : w1.heap.size < w5.heap.size := Bf_5.out.lt
    go_wp2_with fail
    refine (implSameName_law g f _ _ w5 Ig_4.out If_4.out false HS2.out).mono ?_
    rintro e w6 ⟨rfl, hb⟩
    have hs6 : w5.heap.size ≤ w6.heap.size := hb.size
    clear ld0 ld1 ld2 ld3 ld4 ld5 ld6 ld7 ld8 ld9 hx0 hx1
    have HL_5 := Lib.hid (HL_4.out.trans (hb.mono (by omega)))
    have If_5 := Lib.hid (inv_up If_4.out hb)
    have Ig_5 := Lib.hid (inv_up Ig_4.out hb)
    have Bf_6 := Lib.hid (FormBox.later Bf_5.out hb)
    have Bg_5 := Lib.hid (FormBox.later Bg_4.out hb)
    clear HL_4 If_4 Ig_4 Bf_5 Bg_4
    clear hb
    go_wp2_with fail
    go_ret
    exact ⟨rfl, HL_5.out⟩
  | true =>
    go_wp2_with fail
    have hba0 := below_alloc w1 (.cells #[.int .i64 f.kind, .string f.name, .int .i64 f.n, .slice f0 f.scopes.length f1, .slice f2 f.kids.length f3] 27)
    have Bf : Hid (FormBox (w1.alloc (.cells #[.int .i64 f.kind, .string f.name, .int .i64 f.n, .slice f0 f.scopes.length f1, .slice f2 f.kids.length f3] 27)) w1.heap.size f f0 f1 f2 f3) := box_lit w1 f w1.heap.size f0 f2 f1 f3 27 (by simp)
    have hba1 : Below w1.heap.size w1 ((w1.alloc (.cells #[.int .i64 f.kind, .string f.name, .int .i64 f.n, .slice f0 f.scopes.length f1, .slice f2 f.kids.length f3] 27)).alloc (.cells #[.int .i64 g.kind, .string g.name, .int .i64 g.n, .slice g0 g.scopes.length g1, .slice g2 g.kids.length g3] 27)) := hba0.trans ((below_alloc (w1.alloc (.cells #[.int .i64 f.kind, .string f.name, .int .i64 f.n, .slice f0 f.scopes.length f1, .slice f2 f.kids.length f3] 27)) (.cells #[.int .i64 g.kind, .string g.name, .int .i64 g.n, .slice g0 g.scopes.length g1, .slice g2 g.kids.length g3] 27)).mono (by simp))
    have Bf_1 := Lib.hid (FormBox.later Bf.out (below_alloc (w1.alloc (.cells #[.int .i64 f.kind, .string f.name, .int .i64 f.n, .slice f0 f.scopes.length f1, .slice f2 f.kids.length f3] 27)) (.cells #[.int .i64 g.kind, .string g.name, .int .i64 g.n, .slice g0 g.scopes.length g1, .slice g2 g.kids.length g3] 27)))
    clear Bf
    have Bg : Hid (FormBox ((w1.alloc (.cells #[.int .i64 f.kind, .string f.name, .int .i64 f.n, .slice f0 f.scopes.length f1, .slice f2 f.kids.length f3] 27)).alloc (.cells #[.int .i64 g.kind, .string g.name, .int .i64 g.n, .slice g0 g.scopes.length g1, .slice g2 g.kids.length g3] 27)) (w1.heap.size + 1) g g0 g1 g2 g3) := box_lit (w1.alloc (.cells #[.int .i64 f.kind, .string f.name, .int .i64 f.n, .slice f0 f.scopes.length f1, .slice f2 f.kids.length f3] 27)) g (w1.heap.size + 1) g0 g2 g1 g3 27 (by simp)
    refine (implSameName_law f g _ _ ((w1.alloc (.cells #[.int .i64 f.kind, .string f.name, .int .i64 f.n, .slice f0 f.scopes.length f1, .slice f2 f.kids.length f3] 27)).alloc (.cells #[.int .i64 g.kind, .string g.name, .int .i64 g.n, .slice g0 g.scopes.length g1, .slice g2 g.kids.length g3] 27)) (inv_up If.out hba1) (inv_up Ig.out hba1) true HS1.out).mono ?_
    rintro e w2 ⟨rfl, hb0⟩
    have hb : Below w1.heap.size w1 w2 := hba1.trans (hb0.mono hba1.size)
    have hs2 : w1.heap.size + 2 ≤ w2.heap.size := by have h := hb0.size; simp at h; omega
    have HL_1 := Lib.hid (HL.out.trans (hb.mono (by omega)))
    have If_1 := Lib.hid (inv_up If.out hb)
    have Ig_1 := Lib.hid (inv_up Ig.out hb)
    have Bf_2 := Lib.hid (FormBox.later Bf_1.out hb0)
    have Bg_1 := Lib.hid (FormBox.later Bg.out hb0)
    clear HL If Ig Bf_1 Bg
    clear hb0 hba0 hba1
    clear hb
    obtain ⟨ld0, ld1, ld2, ld3, ld4⟩ := Bf_2.out
    have hx0 : w1.heap.size < w2.heap.size := Bf_2.out.lt
    obtain ⟨ld5, ld6, ld7, ld8, ld9⟩ := Bg_1.out
    have hx1 : (w1.heap.size + 1) < w2.heap.size := Bg_1.out.lt
    go_wp2_with fail
    refine (specSameName_law f g _ _ w2 If_1.out Ig_1.out hszf hszg true HS1.out).mono ?_
    rintro e w3 ⟨rfl, hb⟩
    have hs3 : w2.heap.size ≤ w3.heap.size := hb.size
    clear ld0 ld1 ld2 ld3 ld4 ld5 ld6 ld7 ld8 ld9 hx0 hx1
    have HL_2 := Lib.hid (HL_1.out.trans (hb.mono (by omega)))
    have If_2 := Lib.hid (inv_up If_1.out hb)
    have Ig_2 := Lib.hid (inv_up Ig_1.out hb)
    have Bf_3 := Lib.hid (FormBox.later Bf_2.out hb)
    have Bg_2 := Lib.hid (FormBox.later Bg_1.out hb)
    clear HL_1 If_1 Ig_1 Bf_2 Bg_1
    clear hb
    obtain ⟨ld0, ld1, ld2, ld3, ld4⟩ := Bg_2.out
    have hx0 : (w1.heap.size + 1) < w3.heap.size := Bg_2.out.lt
    obtain ⟨ld5, ld6, ld7, ld8, ld9⟩ := Bf_3.out
    have hx1 : w1.heap.size < w3.heap.size := Bf_3.out.lt
    go_wp2_with fail
    refine (implSameName_law g f _ _ w3 Ig_2.out If_2.out true HS2.out).mono ?_
    rintro e w4 ⟨rfl, hb⟩
    have hs4 : w3.heap.size ≤ w4.heap.size := hb.size
    clear ld0 ld1 ld2 ld3 ld4 ld5 ld6 ld7 ld8 ld9 hx0 hx1
    have HL_3 := Lib.hid (HL_2.out.trans (hb.mono (by omega)))
    have If_3 := Lib.hid (inv_up If_2.out hb)
    have Ig_3 := Lib.hid (inv_up Ig_2.out hb)
    have Bf_4 := Lib.hid (FormBox.later Bf_3.out hb)
    have Bg_3 := Lib.hid (FormBox.later Bg_2.out hb)
    clear HL_2 If_2 Ig_2 Bf_3 Bg_2
    clear hb
    obtain ⟨hfg, hvf, hkf⟩ := sameName_eq HS1.out
    have hok := add_name (n := 7) hvf hkf (by omega) (by have := HSF.out.head.2; omega)
    have h7 : (0 : Int) ≤ 7 ∧ (7 : Int) ≤ 100 := by omega
    obtain ⟨R, hR⟩ : ∃ R, afterF 0 7 f = R := ⟨_, rfl⟩
    have hvR := (after_valid hok hR).2.2
    have hkR : R.kind = 1 := by rw [← hR, afterF_ok hok]; cases f; exact hkf
    have HOKG : Hid (okF2 0 7 g = true) := by unfold Hid; rw [← hfg]; exact hok
    have HRG : Hid (afterF 0 7 g = R) := by unfold Hid; rw [← hfg]; exact hR
    have HSR := Lib.hid (sameName_self hvR hkR)
    have HSFG : Hid (sameB f g = true) := by unfold Hid; rw [← hfg]; exact sameB_refl f
    have HFC : Hid (f.count ≤ 4294967296) := by have h2 := f.count_le; unfold Hid; omega
    have HOK := Lib.hid hok
    have HR := Lib.hid hR
    have HVF := Lib.hid hvf
    clear hfg hvf hkf hok hR hvR hkR
    obtain ⟨ld0, ld1, ld2, ld3, ld4⟩ := Bf_4.out
    have hx0 : w1.heap.size < w4.heap.size := Bf_4.out.lt
    go_wp2_with fail
    refine (implAddScope_law f _ 7 w4 If_3.out hszf h7 true R HOK.out HR.out).mono ?_
    rintro e w5 ⟨x0, x1, x2, x3, rfl, hin, hend, hb⟩
    have hs5 : w4.heap.size ≤ w5.heap.size := hb.size
    clear ld0 ld1 ld2 ld3 ld4 hx0
    have HL_4 := Lib.hid (HL_3.out.trans (hb.mono (by omega)))
    have If_4 := Lib.hid (inv_up If_3.out hb)
    have Ig_4 := Lib.hid (inv_up Ig_3.out hb)
    have Bf_5 := Lib.hid (FormBox.later Bf_4.out hb)
    have Bg_4 := Lib.hid (FormBox.later Bg_3.out hb)
    clear HL_3 If_3 Ig_3 Bf_4 Bg_3
    clear hb
    have Ix : Hid (InV (· < w5.heap.size) w5 R (.agg #[.int .i64 R.kind, .string R.name, .int .i64 R.n, .slice x0 R.scopes.length x1, .slice x2 R.kids.length x3])) := InV.mono (fun k hk => hk.2) _ _ hin
    have Ex := Lib.hid hend
    clear hin hend
    obtain ⟨ld0, ld1, ld2, ld3, ld4⟩ := Bg_4.out
    have hx0 : (w1.heap.size + 1) < w5.heap.size := Bg_4.out.lt
    go_wp2_with fail
    have hba0 := below_alloc w5 (.cells #[.int .i64 R.kind, .string R.name, .int .i64 R.n, .slice x0 R.scopes.length x1, .slice x2 R.kids.length x3] 27)
    have Bx : Hid (FormBox (w5.alloc (.cells #[.int .i64 R.kind, .string R.name, .int .i64 R.n, .slice x0 R.scopes.length x1, .slice x2 R.kids.length x3] 27)) w5.heap.size R x0 x1 x2 x3) := box_lit w5 R w5.heap.size x0 x2 x1 x3 27 (by simp)
    refine (implAddScope_law g _ 7 (w5.alloc (.cells #[.int .i64 R.kind, .string R.name, .int .i64 R.n, .slice x0 R.scopes.length x1, .slice x2 R.kids.length x3] 27)) (inv_up Ig_4.out hba0) hszg h7 true R HOKG.out HRG.out).mono ?_
    rintro e w6 ⟨y0, y1, y2, y3, rfl, hin, hend, hb0⟩
    have hb : Below w5.heap.size w5 w6 := hba0.trans (hb0.mono hba0.size)
    have hs6 : w5.heap.size + 1 ≤ w6.heap.size := by have h := hb0.size; simp at h; omega
    clear ld0 ld1 ld2 ld3 ld4 hx0
    have HL_5 := Lib.hid (HL_4.out.trans (hb.mono (by omega)))
    have If_5 := Lib.hid (inv_up If_4.out hb)
    have Ig_5 := Lib.hid (inv_up Ig_4.out hb)
    have Bf_6 := Lib.hid (FormBox.later Bf_5.out hb)
    have Bg_5 := Lib.hid (FormBox.later Bg_4.out hb)
    have Ix_1 := Lib.hid (inv_up Ix.out hb)
    have Ex_1 := Lib.hid (EndlessAt.later Ex.out hb)
    have Bx_1 := Lib.hid (FormBox.later Bx.out hb0)
    clear HL_4 If_4 Ig_4 Bf_5 Bg_4 Ix Ex Bx
    clear hb0 hba0
    clear hb
    have Iy : Hid (InV (· < w6.heap.size) w6 R (.agg #[.int .i64 R.kind, .string R.name, .int .i64 R.n, .slice y0 R.scopes.length y1, .slice y2 R.kids.length y3])) := InV.mono (fun k hk => hk.2) _ _ hin
    have Ey := Lib.hid hend
    clear hin hend
    obtain ⟨ld0, ld1, ld2, ld3, ld4⟩ := Bf_6.out
    have hx0 : w1.heap.size < w6.heap.size := Bf_6.out.lt
    obtain ⟨ld5, ld6, ld7, ld8, ld9⟩ := Bg_5.out
    have hx1 : (w1.heap.size + 1) < w6.heap.size := Bg_5.out.lt
    go_wp2_with fail
    have hba0 := below_alloc w6 (.cells #[.int .i64 R.kind, .string R.name, .int .i64 R.n, .slice y0 R.scopes.length y1, .slice y2 R.kids.length y3] 27)
    have By : Hid (FormBox (w6.alloc (.cells #[.int .i64 R.kind, .string R.name, .int .i64 R.n, .slice y0 R.scopes.length y1, .slice y2 R.kids.length y3] 27)) w6.heap.size R y0 y1 y2 y3) := box_lit w6 R w6.heap.size y0 y2 y1 y3 27 (by simp)
    refine (implSame_law f g _ _ (w6.alloc (.cells #[.int .i64 R.kind, .string R.name, .int .i64 R.n, .slice y0 R.scopes.length y1, .slice y2 R.kids.length y3] 27)) (inv_up If_5.out hba0) (inv_up Ig_5.out hba0) HFC.out (endlessAt_valid f HVF.out _ _ _ (Nat.le_refl _) (inv_up If_5.out hba0)) true HSFG.out).mono ?_
    rintro e w7 ⟨rfl, hb0⟩
    have hb : Below w6.heap.size w6 w7 := hba0.trans (hb0.mono hba0.size)
    have hs7 : w6.heap.size + 1 ≤ w7.heap.size := by have h := hb0.size; simp at h; omega
    clear ld0 ld1 ld2 ld3 ld4 ld5 ld6 ld7 ld8 ld9 hx0 hx1
    have HL_6 := Lib.hid (HL_5.out.trans (hb.mono (by omega)))
    have If_6 := Lib.hid (inv_up If_5.out hb)
    have Ig_6 := Lib.hid (inv_up Ig_5.out hb)
    have Bf_7 := Lib.hid (FormBox.later Bf_6.out hb)
    have Bg_6 := Lib.hid (FormBox.later Bg_5.out hb)
    have Ix_2 := Lib.hid (inv_up Ix_1.out hb)
    have Ex_2 := Lib.hid (EndlessAt.later Ex_1.out hb)
    have Bx_2 := Lib.hid (FormBox.later Bx_1.out hb)
    have Iy_1 := Lib.hid (inv_up Iy.out hb)
    have Ey_1 := Lib.hid (EndlessAt.later Ey.out hb)
    have By_1 := Lib.hid (FormBox.later By.out hb0)
    clear HL_5 If_5 Ig_5 Bf_6 Bg_5 Ix_1 Ex_1 Bx_1 Iy Ey By
    clear hb0 hba0
    clear hb
    obtain ⟨ld0, ld1, ld2, ld3, ld4⟩ := Bx_2.out
    have hx0 : w5.heap.size < w7.heap.size := Bx_2.out.lt
    obtain ⟨ld5, ld6, ld7, ld8, ld9⟩ := By_1.out
    have hx1 : w6.heap.size < w7.heap.size := By_1.out.lt
    go_wp2_with fail
    refine (implSameName_law R R _ _ w7 Ix_2.out Iy_1.out true HSR.out).mono ?_
    rintro e w8 ⟨rfl, hb⟩
    have hs8 : w7.heap.size ≤ w8.heap.size := hb.size
    clear ld0 ld1 ld2 ld3 ld4 ld5 ld6 ld7 ld8 ld9 hx0 hx1
    have HL_7 := Lib.hid (HL_6.out.trans (hb.mono (by omega)))
    have If_7 := Lib.hid (inv_up If_6.out hb)
    have Ig_7 := Lib.hid (inv_up Ig_6.out hb)
    have Bf_8 := Lib.hid (FormBox.later Bf_7.out hb)
    have Bg_7 := Lib.hid (FormBox.later Bg_6.out hb)
    have Ix_3 := Lib.hid (inv_up Ix_2.out hb)
    have Ex_3 := Lib.hid (EndlessAt.later Ex_2.out hb)
    have Bx_3 := Lib.hid (FormBox.later Bx_2.out hb)
    have Iy_2 := Lib.hid (inv_up Iy_1.out hb)
    have Ey_2 := Lib.hid (EndlessAt.later Ey_1.out hb)
    have By_2 := Lib.hid (FormBox.later By_1.out hb)
    clear HL_6 If_6 Ig_6 Bf_7 Bg_6 Ix_2 Ex_2 Bx_2 Iy_1 Ey_1 By_1
    clear hb
    go_wp2_with fail
    go_ret
    exact ⟨rfl, HL_7.out⟩
theorem own : ownKnob Try.prog.godebug = none := by kernel_rfl
theorem laidOut : laidOutB Try.prog = true := by kernel_rfl
set_option maxRecDepth 100000 in
theorem lifted (os : Os) (started : os.Started) (H : Type) (enc : TypeId × Value → H) :
    ReturnsInHanded {} Try.checked os 8 .any (Rows.fnSameNameSpec.pre6 enc Try.prog Try.f8 Rows.fnSameNameRow.domain false) (Rows.fnSameNameSpec.post enc Try.prog Try.f8 false true false false) := by
  refine returnsInHanded_of_change (C := Try.checked) own started (by kernel_rfl) Try.func8
    (ChangeSpec.witness6 (enc := enc) (C := Try.checked) false ⟨#[], #[.slice none 0 0], []⟩ 12 (by kernel_rfl) (by kernel_rfl) (by kernel_rfl) (by kernel_rfl)) ?_
  intro W base args ds gs before hval0 hW hcnd _
  have hval : ∀ (j : Nat) t v, Try.f8.params[j]? = some t → args[j]? = some v → Value.okWide Try.prog W .any base t v := hval0
  have hW' := hW
  obtain ⟨p, q, hA0, hV, rfl, hfz, hnd⟩ := hW
  have hA : DataW.TrodAll enc Try.prog W 0 (fun _ => true) true Try.f8.params.toList args.toList ds p := hA0
  rw [Try.params8] at hA hval
  obtain ⟨v0, vs0, d0, ds0, p0, q0, hargs, rfl, rfl, h0, r0⟩ := trodAll_cons hA
  obtain ⟨rfl, rfl, rfl⟩ := trodAll_nil r0
  obtain rfl : args = #[v0] := by cases args; simp_all
  obtain ⟨rfl, rfl⟩ := trodVars_none hV
  have k0 := h0
  have lt0 : ∀ x ∈ p0, x.block < W.heap.size := by obtain ⟨m, hm⟩ := k0; exact DataW.trod_lt m _ _ _ hm
  obtain ⟨f0, i0⟩ := open_bytes_arg (hval 0 22 v0 rfl rfl) h0
  clear hA0 hval0
  try simp only [List.append_nil] at hW'
  refine (walk W f0 v0 i0).mono fun e W' ⟨he, bel⟩ => ?_
  subst he
  exact ⟨_, rfl, _, _, _, [], _, [], hW', trodAll_mk1 (shut_bool Try.underlying4 _), (trodAll_cons_mk (Below.trod laidOut (by kernel_rfl) (of_decide_eq_true (by kernel_rfl)) k0 bel lt0) trodAll_mk0), rfl, bel.frame _, fun h => by cases h⟩
theorem over_named : Try.pinned.checked.prog.funcNamed Rows.fnSameNameRow.func = some 8 := by kernel_rfl
theorem over_closed : joinedFacts Try.pinned.checked.prog 8 Try.f8 Rows.fnSameNameSpec Rows.fnSameNameRow = true := by kernel_rfl
theorem over_inst : Func.isInstance Try.pinned.checked.prog Try.f8 Rows.fnSameNameRow.origin Rows.fnSameNameRow.targs := of_decide_eq_true (by kernel_rfl)
theorem over_wrap : Func.isWrapper Try.pinned.checked.prog Try.f8 Rows.fnSameNameRow.wrapper Rows.fnSameNameRow.mainSum := (by unfold Func.isWrapper; first | (rw [if_pos (by decide +kernel)]; kernel_rfl) | (rw [if_neg (by decide +kernel)]; exact ⟨rfl, rfl⟩))
theorem over : Rows.fnSameNameRow.holds Try.pinned (OpenSpec.ofChange Rows.fnSameNameSpec) :=
  OpenClaim.holds_of_wide 8 Try.f8 rfl rfl rfl rfl rfl rfl rfl ⟨rfl, rfl, rfl, rfl, rfl⟩ rfl rfl rfl rfl rfl over_named Try.func8 over_closed over_inst over_wrap
    (fun os started H enc _ => lifted os started H enc)
theorem proved : Rows.FnSameNameSaid := over
end Go.Proofs.Ytmakaoomdnlebaa.lwSameName
