/- For every two inputs two scopes can be added in either order at the drawn form; the program and the model agree: the law FnAddOrder returns true, whatever the inputs, with no condition beyond the statement's own. -/
import Derived.Test.YtmakaoomdnlebaaRows
import Derived.Test.YtmakaoomdnlebaaLwScopes
namespace Go.Proofs.Ytmakaoomdnlebaa.lwAddOrder
open Go.ChangeShapes Go.WideShapes Go.ChangeAt Go.RowKit
open Go.ChangeMaps (open_string shut_string)
set_option linter.unusedVariables false
set_option linter.unusedSimpArgs false
set_option maxRecDepth 100000 in
set_option maxHeartbeats 4000000 in
theorem walk (w : World) (n : Nat) (v : Value) (hv : Bytes w v n) (m : Nat) (u : Value) (hu : Bytes w u m) :
    Calls Try.prog 12 #[v, u] w fun e w' => e = .returned (.bool true) ∧ Below w.heap.size w w' := by
  have HV := Lib.hid hv
  have HU := Lib.hid hu
  obtain ⟨a0, c0, rfl, hn1, hn2, _⟩ := hv
  obtain ⟨a1, c1, rfl, hm1, hm2, _⟩ := hu
  unfold maxLen at hn2 hm2
  by_cases hbig : (1048576 : Int) < n
  · go_enter Try.func12, Try.ntmps12
    go_wp2_with fail
    go_ret
    exact ⟨rfl, Below.refl _ _⟩
  by_cases hbig2 : (1048576 : Int) < m
  · go_enter Try.func12, Try.ntmps12
    go_wp2_with fail
    go_ret
    exact ⟨rfl, Below.refl _ _⟩
  go_enter Try.func12, Try.ntmps12
  go_wp2_with fail
  refine (drawAddScope_law _ n w HV.out).mono ?_
  rintro e w1 ⟨f, f0, f1, f2, f3, scope, rfl, hin, hsl, hsc, hb⟩
  have hs1 : w.heap.size ≤ w1.heap.size := hb.size
  have HL := Lib.hid hb
  have hscb := scopesCase_bounds scope hsc
  have hszf : f.sz ≤ 1048576 := by have := Slim.big hsl; omega
  clear hsl hsc HV
  have HU_1 := Lib.hid (bytes_up HU.out hb)
  clear HU
  clear hb
  have If : Hid (InV (· < w1.heap.size) w1 f (.agg #[.int .i64 f.kind, .string f.name, .int .i64 f.n, .slice f0 f.scopes.length f1, .slice f2 f.kids.length f3])) := InV.mono (fun k hk => hk.2) _ _ hin
  clear hin
  go_wp2_with fail
  have hba := below_alloc w1 (.cells #[.int .i64 f.kind, .string f.name, .int .i64 f.n, .slice f0 f.scopes.length f1, .slice f2 f.kids.length f3] 27)
  refine (drawAddScope_law _ m (w1.alloc (.cells #[.int .i64 f.kind, .string f.name, .int .i64 f.n, .slice f0 f.scopes.length f1, .slice f2 f.kids.length f3] 27)) (bytes_up HU_1.out hba)).mono ?_
  rintro e w2 ⟨g, g0, g1, g2, g3, other, rfl, hin, hsl, hsc, hb0⟩
  have hb : Below w1.heap.size w1 w2 := hba.trans (hb0.mono (by rw [size_alloc']; omega))
  have hs2 : w1.heap.size + 1 ≤ w2.heap.size := by have h := hb0.size; rw [size_alloc'] at h; exact h
  have HU_2 := Lib.hid (bytes_up HU_1.out hb)
  have HL_1 := Lib.hid (HL.out.trans (hb.mono (by omega)))
  have If_1 := Lib.hid (inv_up If.out hb)
  clear HU_1 HL If
  have Bf := Lib.hid ((FormBox.fresh w1 f f0 f2 f1 f3 27).later hb0)
  clear hb0 hba
  clear hb
  have hsco := scopesCase_bounds other hsc
  clear hsl hsc
  clear HU_2
  have Io : Hid (InV (· < w2.heap.size) w2 g (.agg #[.int .i64 g.kind, .string g.name, .int .i64 g.n, .slice g0 g.scopes.length g1, .slice g2 g.kids.length g3])) := InV.mono (fun k hk => hk.2) _ _ hin
  clear hin
  obtain ⟨ok, hok⟩ : ∃ ok, okF2 0 scope f = ok := ⟨_, rfl⟩
  obtain ⟨R, hR⟩ : ∃ R, afterF 0 scope f = R := ⟨_, rfl⟩
  have HOK := Lib.hid hok
  have HR := Lib.hid hR
  have HRC : Hid (R.count ≤ 4294967296) := by have h1 := afterF_count 0 scope f; have h2 := f.count_le; rw [hR] at h1; unfold Hid; omega
  clear hok hR
  obtain ⟨ld0, ld1, ld2, ld3, ld4⟩ := Bf.out
  have hx0 : w1.heap.size < w2.heap.size := Bf.out.lt
  go_wp2_with fail
  have hba := below_alloc w2 (.cells #[.int .i64 g.kind, .string g.name, .int .i64 g.n, .slice g0 g.scopes.length g1, .slice g2 g.kids.length g3] 27)
  refine (implAddScope_law f _ scope (w2.alloc (.cells #[.int .i64 g.kind, .string g.name, .int .i64 g.n, .slice g0 g.scopes.length g1, .slice g2 g.kids.length g3] 27)) (inv_up If_1.out hba) hszf hscb ok R HOK.out HR.out).mono ?_
  rintro e w3 ⟨x0, x1, x2, x3, rfl, hin, hend, hb0⟩
  have hb : Below w2.heap.size w2 w3 := hba.trans (hb0.mono (by rw [size_alloc']; omega))
  have hs3 : w2.heap.size + 1 ≤ w3.heap.size := by have h := hb0.size; rw [size_alloc'] at h; exact h
  clear ld0 ld1 ld2 ld3 ld4 hx0
  have HL_2 := Lib.hid (HL_1.out.trans (hb.mono (by omega)))
  have If_2 := Lib.hid (inv_up If_1.out hb)
  have Bf_1 := Lib.hid (FormBox.later Bf.out hb)
  have Io_1 := Lib.hid (inv_up Io.out hb)
  clear HL_1 If_1 Bf Io
  have Bo := Lib.hid ((FormBox.fresh w2 g g0 g2 g1 g3 27).later hb0)
  clear hb0 hba
  clear hb
  have Ix : Hid (InV (· < w3.heap.size) w3 R (.agg #[.int .i64 R.kind, .string R.name, .int .i64 R.n, .slice x0 R.scopes.length x1, .slice x2 R.kids.length x3])) := InV.mono (fun k hk => hk.2) _ _ hin
  have Ex := Lib.hid hend
  clear hin hend
  obtain ⟨ld0, ld1, ld2, ld3, ld4⟩ := Bf_1.out
  have hx0 : w1.heap.size < w3.heap.size := Bf_1.out.lt
  go_wp2_with fail
  have hba := below_alloc w3 (.cells #[.int .i64 R.kind, .string R.name, .int .i64 R.n, .slice x0 R.scopes.length x1, .slice x2 R.kids.length x3] 27)
  refine (specAddScope_law f _ scope (w3.alloc (.cells #[.int .i64 R.kind, .string R.name, .int .i64 R.n, .slice x0 R.scopes.length x1, .slice x2 R.kids.length x3] 27)) (inv_up If_2.out hba) hszf hscb ok R HOK.out HR.out).mono ?_
  rintro e w4 ⟨y0, y1, y2, y3, rfl, hin, hb0⟩
  have hb : Below w3.heap.size w3 w4 := hba.trans (hb0.mono (by rw [size_alloc']; omega))
  have hs4 : w3.heap.size + 1 ≤ w4.heap.size := by have h := hb0.size; rw [size_alloc'] at h; exact h
  clear ld0 ld1 ld2 ld3 ld4 hx0
  have HL_3 := Lib.hid (HL_2.out.trans (hb.mono (by omega)))
  have If_3 := Lib.hid (inv_up If_2.out hb)
  have Bf_2 := Lib.hid (FormBox.later Bf_1.out hb)
  have Io_2 := Lib.hid (inv_up Io_1.out hb)
  have Bo_1 := Lib.hid (FormBox.later Bo.out hb)
  have Ix_1 := Lib.hid (inv_up Ix.out hb)
  have Ex_1 := Lib.hid (EndlessAt.later Ex.out hb)
  clear HL_2 If_2 Bf_1 Io_1 Bo Ix Ex
  have Bx := Lib.hid ((FormBox.fresh w3 R x0 x2 x1 x3 27).later hb0)
  clear hb0 hba
  clear hb
  have Iy : Hid (InV (· < w4.heap.size) w4 R (.agg #[.int .i64 R.kind, .string R.name, .int .i64 R.n, .slice y0 R.scopes.length y1, .slice y2 R.kids.length y3])) := InV.mono (fun k hk => hk.2) _ _ hin
  clear hin
  cases ok with
  | false =>
    obtain ⟨ld0, ld1, ld2, ld3, ld4⟩ := Bx.out
    have hx0 : w3.heap.size < w4.heap.size := Bx.out.lt
    go_wp2_with fail
    have hba := below_alloc w4 (.cells #[.int .i64 R.kind, .string R.name, .int .i64 R.n, .slice y0 R.scopes.length y1, .slice y2 R.kids.length y3] 27)
    refine (implSame_law R R _ _ (w4.alloc (.cells #[.int .i64 R.kind, .string R.name, .int .i64 R.n, .slice y0 R.scopes.length y1, .slice y2 R.kids.length y3] 27)) (inv_up Ix_1.out hba) (inv_up Iy.out hba) HRC.out (EndlessAt.later Ex_1.out hba) true (sameB_refl R)).mono ?_
    rintro e w5 ⟨rfl, hb0⟩
    have hb : Below w4.heap.size w4 w5 := hba.trans (hb0.mono (by rw [size_alloc']; omega))
    have hs5 : w4.heap.size + 1 ≤ w5.heap.size := by have h := hb0.size; rw [size_alloc'] at h; exact h
    clear ld0 ld1 ld2 ld3 ld4 hx0
    have HL_4 := Lib.hid (HL_3.out.trans (hb.mono (by omega)))
    have If_4 := Lib.hid (inv_up If_3.out hb)
    have Bf_3 := Lib.hid (FormBox.later Bf_2.out hb)
    have Io_3 := Lib.hid (inv_up Io_2.out hb)
    have Bo_2 := Lib.hid (FormBox.later Bo_1.out hb)
    have Ix_2 := Lib.hid (inv_up Ix_1.out hb)
    have Ex_2 := Lib.hid (EndlessAt.later Ex_1.out hb)
    have Bx_1 := Lib.hid (FormBox.later Bx.out hb)
    have Iy_1 := Lib.hid (inv_up Iy.out hb)
    clear HL_3 If_3 Bf_2 Io_2 Bo_1 Ix_1 Ex_1 Bx Iy
    have By := Lib.hid ((FormBox.fresh w4 R y0 y2 y1 y3 27).later hb0)
    clear hb0 hba
    clear hb
    obtain ⟨ld0, ld1, ld2, ld3, ld4⟩ := Bx_1.out
    have hx0 : w3.heap.size < w5.heap.size := Bx_1.out.lt
    obtain ⟨ld5, ld6, ld7, ld8, ld9⟩ := By.out
    have hx1 : w4.heap.size < w5.heap.size := By.out.lt
    go_wp2_with fail
    refine (implSame_law R R _ _ w5 Ix_2.out Iy_1.out HRC.out Ex_2.out true (sameB_refl R)).mono ?_
    rintro e w6 ⟨rfl, hb⟩
    have hs6 : w5.heap.size ≤ w6.heap.size := hb.size
    clear ld0 ld1 ld2 ld3 ld4 ld5 ld6 ld7 ld8 ld9 hx0 hx1
    have HL_5 := Lib.hid (HL_4.out.trans (hb.mono (by omega)))
    have If_5 := Lib.hid (inv_up If_4.out hb)
    have Bf_4 := Lib.hid (FormBox.later Bf_3.out hb)
    have Io_4 := Lib.hid (inv_up Io_3.out hb)
    have Bo_3 := Lib.hid (FormBox.later Bo_2.out hb)
    have Ix_3 := Lib.hid (inv_up Ix_2.out hb)
    have Ex_3 := Lib.hid (EndlessAt.later Ex_2.out hb)
    have Bx_2 := Lib.hid (FormBox.later Bx_1.out hb)
    have Iy_2 := Lib.hid (inv_up Iy_1.out hb)
    have By_1 := Lib.hid (FormBox.later By.out hb)
    clear HL_4 If_4 Bf_3 Io_3 Bo_2 Ix_2 Ex_2 Bx_1 Iy_1 By
    clear hb
    go_wp2_with fail
    go_ret
    exact ⟨rfl, HL_5.out⟩
  | true =>
    obtain ⟨ld0, ld1, ld2, ld3, ld4⟩ := Bx.out
    have hx0 : w3.heap.size < w4.heap.size := Bx.out.lt
    go_wp2_with fail
    have hba := below_alloc w4 (.cells #[.int .i64 R.kind, .string R.name, .int .i64 R.n, .slice y0 R.scopes.length y1, .slice y2 R.kids.length y3] 27)
    refine (implSame_law R R _ _ (w4.alloc (.cells #[.int .i64 R.kind, .string R.name, .int .i64 R.n, .slice y0 R.scopes.length y1, .slice y2 R.kids.length y3] 27)) (inv_up Ix_1.out hba) (inv_up Iy.out hba) HRC.out (EndlessAt.later Ex_1.out hba) true (sameB_refl R)).mono ?_
    rintro e w5 ⟨rfl, hb0⟩
    have hb : Below w4.heap.size w4 w5 := hba.trans (hb0.mono (by rw [size_alloc']; omega))
    have hs5 : w4.heap.size + 1 ≤ w5.heap.size := by have h := hb0.size; rw [size_alloc'] at h; exact h
    clear ld0 ld1 ld2 ld3 ld4 hx0
    have HL_4 := Lib.hid (HL_3.out.trans (hb.mono (by omega)))
    have If_4 := Lib.hid (inv_up If_3.out hb)
    have Bf_3 := Lib.hid (FormBox.later Bf_2.out hb)
    have Io_3 := Lib.hid (inv_up Io_2.out hb)
    have Bo_2 := Lib.hid (FormBox.later Bo_1.out hb)
    have Ix_2 := Lib.hid (inv_up Ix_1.out hb)
    have Ex_2 := Lib.hid (EndlessAt.later Ex_1.out hb)
    have Bx_1 := Lib.hid (FormBox.later Bx.out hb)
    have Iy_1 := Lib.hid (inv_up Iy.out hb)
    clear HL_3 If_3 Bf_2 Io_2 Bo_1 Ix_1 Ex_1 Bx Iy
    have By := Lib.hid ((FormBox.fresh w4 R y0 y2 y1 y3 27).later hb0)
    clear hb0 hba
    clear hb
    obtain ⟨h1, h2, h3⟩ := after_valid HOK.out HR.out
    have hszR : R.sz ≤ 1048576 := valid_sz h3
    obtain ⟨p, hp⟩ : ∃ p, okF2 0 other R = p := ⟨_, rfl⟩
    obtain ⟨XY, hXY⟩ : ∃ XY, afterF 0 other R = XY := ⟨_, rfl⟩
    obtain ⟨q, hq⟩ : ∃ q, okF2 0 other f = q := ⟨_, rfl⟩
    obtain ⟨Y, hY⟩ : ∃ Y, afterF 0 other f = Y := ⟨_, rfl⟩
    obtain ⟨r, hr⟩ : ∃ r, okF2 0 scope Y = r := ⟨_, rfl⟩
    obtain ⟨YX, hYX⟩ : ∃ YX, afterF 0 scope Y = YX := ⟨_, rfl⟩
    have hszY : Y.sz ≤ 1048576 := by rw [← hY]; exact after_sz 0 other f
    have HXC : Hid (XY.count ≤ 4294967296) := by have h1 := afterF_count 0 other R; have h2 := R.count_le; rw [hXY] at h1; unfold Hid; omega
    have HORD : Hid (p = true → q = true → r = true ∧ XY = YX) := fun h g => by
      have k := order_any (way := 0) (n := scope) (m := other) (fun sc hsc => add_comm' scope other hsc) HOK.out (by rw [HR.out, hp]; exact h) (hq.trans g)
      rw [hY, HR.out, hXY, hYX] at k
      exact ⟨hr.symm.trans k.1, k.2⟩
    have HP := Lib.hid hp
    have HXY := Lib.hid hXY
    have HQ := Lib.hid hq
    have HY := Lib.hid hY
    have HRR := Lib.hid hr
    have HYX := Lib.hid hYX
    clear h1 h2 h3 hp hXY hq hY hr hYX
    obtain ⟨ld0, ld1, ld2, ld3, ld4⟩ := Bx_1.out
    have hx0 : w3.heap.size < w5.heap.size := Bx_1.out.lt
    go_wp2_with fail
    refine (implAddScope_law R _ other w5 Ix_2.out hszR hsco p XY HP.out HXY.out).mono ?_
    rintro e w6 ⟨a0, a1, a2, a3, rfl, hin, hend, hb⟩
    have hs6 : w5.heap.size ≤ w6.heap.size := hb.size
    clear ld0 ld1 ld2 ld3 ld4 hx0
    have HL_5 := Lib.hid (HL_4.out.trans (hb.mono (by omega)))
    have If_5 := Lib.hid (inv_up If_4.out hb)
    have Bf_4 := Lib.hid (FormBox.later Bf_3.out hb)
    have Io_4 := Lib.hid (inv_up Io_3.out hb)
    have Bo_3 := Lib.hid (FormBox.later Bo_2.out hb)
    have Ix_3 := Lib.hid (inv_up Ix_2.out hb)
    have Ex_3 := Lib.hid (EndlessAt.later Ex_2.out hb)
    have Bx_2 := Lib.hid (FormBox.later Bx_1.out hb)
    have Iy_2 := Lib.hid (inv_up Iy_1.out hb)
    have By_1 := Lib.hid (FormBox.later By.out hb)
    clear HL_4 If_4 Bf_3 Io_3 Bo_2 Ix_2 Ex_2 Bx_1 Iy_1 By
    clear hb
    have Ia : Hid (InV (· < w6.heap.size) w6 XY (.agg #[.int .i64 XY.kind, .string XY.name, .int .i64 XY.n, .slice a0 XY.scopes.length a1, .slice a2 XY.kids.length a3])) := InV.mono (fun k hk => hk.2) _ _ hin
    have Ea := Lib.hid hend
    clear hin hend
    obtain ⟨ld0, ld1, ld2, ld3, ld4⟩ := Bf_4.out
    have hx0 : w1.heap.size < w6.heap.size := Bf_4.out.lt
    go_wp2_with fail
    have hba := below_alloc w6 (.cells #[.int .i64 XY.kind, .string XY.name, .int .i64 XY.n, .slice a0 XY.scopes.length a1, .slice a2 XY.kids.length a3] 27)
    refine (implAddScope_law f _ other (w6.alloc (.cells #[.int .i64 XY.kind, .string XY.name, .int .i64 XY.n, .slice a0 XY.scopes.length a1, .slice a2 XY.kids.length a3] 27)) (inv_up If_5.out hba) hszf hsco q Y HQ.out HY.out).mono ?_
    rintro e w7 ⟨b0, b1, b2, b3, rfl, hin, hend, hb0⟩
    have hb : Below w6.heap.size w6 w7 := hba.trans (hb0.mono (by rw [size_alloc']; omega))
    have hs7 : w6.heap.size + 1 ≤ w7.heap.size := by have h := hb0.size; rw [size_alloc'] at h; exact h
    clear ld0 ld1 ld2 ld3 ld4 hx0
    have HL_6 := Lib.hid (HL_5.out.trans (hb.mono (by omega)))
    have If_6 := Lib.hid (inv_up If_5.out hb)
    have Bf_5 := Lib.hid (FormBox.later Bf_4.out hb)
    have Io_5 := Lib.hid (inv_up Io_4.out hb)
    have Bo_4 := Lib.hid (FormBox.later Bo_3.out hb)
    have Ix_4 := Lib.hid (inv_up Ix_3.out hb)
    have Ex_4 := Lib.hid (EndlessAt.later Ex_3.out hb)
    have Bx_3 := Lib.hid (FormBox.later Bx_2.out hb)
    have Iy_3 := Lib.hid (inv_up Iy_2.out hb)
    have By_2 := Lib.hid (FormBox.later By_1.out hb)
    have Ia_1 := Lib.hid (inv_up Ia.out hb)
    have Ea_1 := Lib.hid (EndlessAt.later Ea.out hb)
    clear HL_5 If_5 Bf_4 Io_4 Bo_3 Ix_3 Ex_3 Bx_2 Iy_2 By_1 Ia Ea
    have Ba := Lib.hid ((FormBox.fresh w6 XY a0 a2 a1 a3 27).later hb0)
    clear hb0 hba
    clear hb
    have Ib : Hid (InV (· < w7.heap.size) w7 Y (.agg #[.int .i64 Y.kind, .string Y.name, .int .i64 Y.n, .slice b0 Y.scopes.length b1, .slice b2 Y.kids.length b3])) := InV.mono (fun k hk => hk.2) _ _ hin
    have Eb := Lib.hid hend
    clear hin hend
    go_wp2_with fail
    have hba := below_alloc w7 (.cells #[.int .i64 Y.kind, .string Y.name, .int .i64 Y.n, .slice b0 Y.scopes.length b1, .slice b2 Y.kids.length b3] 27)
    refine (implAddScope_law Y _ scope (w7.alloc (.cells #[.int .i64 Y.kind, .string Y.name, .int .i64 Y.n, .slice b0 Y.scopes.length b1, .slice b2 Y.kids.length b3] 27)) (inv_up Ib.out hba) hszY hscb r YX HRR.out HYX.out).mono ?_
    rintro e w8 ⟨c0, c1, c2, c3, rfl, hin, hend, hb0⟩
    have hb : Below w7.heap.size w7 w8 := hba.trans (hb0.mono (by rw [size_alloc']; omega))
    have hs8 : w7.heap.size + 1 ≤ w8.heap.size := by have h := hb0.size; rw [size_alloc'] at h; exact h
    have HL_7 := Lib.hid (HL_6.out.trans (hb.mono (by omega)))
    have If_7 := Lib.hid (inv_up If_6.out hb)
    have Bf_6 := Lib.hid (FormBox.later Bf_5.out hb)
    have Io_6 := Lib.hid (inv_up Io_5.out hb)
    have Bo_5 := Lib.hid (FormBox.later Bo_4.out hb)
    have Ix_5 := Lib.hid (inv_up Ix_4.out hb)
    have Ex_5 := Lib.hid (EndlessAt.later Ex_4.out hb)
    have Bx_4 := Lib.hid (FormBox.later Bx_3.out hb)
    have Iy_4 := Lib.hid (inv_up Iy_3.out hb)
    have By_3 := Lib.hid (FormBox.later By_2.out hb)
    have Ia_2 := Lib.hid (inv_up Ia_1.out hb)
    have Ea_2 := Lib.hid (EndlessAt.later Ea_1.out hb)
    have Ba_1 := Lib.hid (FormBox.later Ba.out hb)
    have Ib_1 := Lib.hid (inv_up Ib.out hb)
    have Eb_1 := Lib.hid (EndlessAt.later Eb.out hb)
    clear HL_6 If_6 Bf_5 Io_5 Bo_4 Ix_4 Ex_4 Bx_3 Iy_3 By_2 Ia_1 Ea_1 Ba Ib Eb
    have Bb := Lib.hid ((FormBox.fresh w7 Y b0 b2 b1 b3 27).later hb0)
    clear hb0 hba
    clear hb
    have Ic : Hid (InV (· < w8.heap.size) w8 YX (.agg #[.int .i64 YX.kind, .string YX.name, .int .i64 YX.n, .slice c0 YX.scopes.length c1, .slice c2 YX.kids.length c3])) := InV.mono (fun k hk => hk.2) _ _ hin
    have Ec := Lib.hid hend
    clear hin hend
    cases p with
    | false =>
      go_wp2_with fail
      go_ret
      exact ⟨rfl, HL_7.out.alloc (by omega) _⟩
    | true =>
      cases q with
      | false =>
        go_wp2_with fail
        go_ret
        exact ⟨rfl, HL_7.out.alloc (by omega) _⟩
      | true =>
        have HSM : Hid (sameB XY YX = true) := by have h := (HORD.out rfl rfl).2; unfold Hid; rw [h]; exact sameB_refl _
        obtain rfl : r = true := (HORD.out rfl rfl).1
        obtain ⟨ld0, ld1, ld2, ld3, ld4⟩ := Ba_1.out
        have hx0 : w6.heap.size < w8.heap.size := Ba_1.out.lt
        go_wp2_with fail
        have hba := below_alloc w8 (.cells #[.int .i64 YX.kind, .string YX.name, .int .i64 YX.n, .slice c0 YX.scopes.length c1, .slice c2 YX.kids.length c3] 27)
        refine (implSame_law XY YX _ _ (w8.alloc (.cells #[.int .i64 YX.kind, .string YX.name, .int .i64 YX.n, .slice c0 YX.scopes.length c1, .slice c2 YX.kids.length c3] 27)) (inv_up Ia_2.out hba) (inv_up Ic.out hba) HXC.out (EndlessAt.later Ea_2.out hba) true HSM.out).mono ?_
        rintro e w9 ⟨rfl, hb0⟩
        have hb : Below w8.heap.size w8 w9 := hba.trans (hb0.mono (by rw [size_alloc']; omega))
        have hs9 : w8.heap.size + 1 ≤ w9.heap.size := by have h := hb0.size; rw [size_alloc'] at h; exact h
        clear ld0 ld1 ld2 ld3 ld4 hx0
        have HL_8 := Lib.hid (HL_7.out.trans (hb.mono (by omega)))
        have If_8 := Lib.hid (inv_up If_7.out hb)
        have Bf_7 := Lib.hid (FormBox.later Bf_6.out hb)
        have Io_7 := Lib.hid (inv_up Io_6.out hb)
        have Bo_6 := Lib.hid (FormBox.later Bo_5.out hb)
        have Ix_6 := Lib.hid (inv_up Ix_5.out hb)
        have Ex_6 := Lib.hid (EndlessAt.later Ex_5.out hb)
        have Bx_5 := Lib.hid (FormBox.later Bx_4.out hb)
        have Iy_5 := Lib.hid (inv_up Iy_4.out hb)
        have By_4 := Lib.hid (FormBox.later By_3.out hb)
        have Ia_3 := Lib.hid (inv_up Ia_2.out hb)
        have Ea_3 := Lib.hid (EndlessAt.later Ea_2.out hb)
        have Ba_2 := Lib.hid (FormBox.later Ba_1.out hb)
        have Ib_2 := Lib.hid (inv_up Ib_1.out hb)
        have Eb_2 := Lib.hid (EndlessAt.later Eb_1.out hb)
        have Bb_1 := Lib.hid (FormBox.later Bb.out hb)
        have Ic_1 := Lib.hid (inv_up Ic.out hb)
        have Ec_1 := Lib.hid (EndlessAt.later Ec.out hb)
        clear HL_7 If_7 Bf_6 Io_6 Bo_5 Ix_5 Ex_5 Bx_4 Iy_4 By_3 Ia_2 Ea_2 Ba_1 Ib_1 Eb_1 Bb Ic Ec
        have Bc := Lib.hid ((FormBox.fresh w8 YX c0 c2 c1 c3 27).later hb0)
        clear hb0 hba
        clear hb
        go_wp2_with fail
        go_ret
        exact ⟨rfl, HL_8.out⟩
theorem own : ownKnob Try.prog.godebug = none := by kernel_rfl
theorem laidOut : laidOutB Try.prog = true := by kernel_rfl
set_option maxRecDepth 100000 in
theorem lifted (os : Os) (started : os.Started) (H : Type) (enc : TypeId × Value → H) :
    ReturnsInHanded {} Try.checked os 12 .any (Rows.fnAddOrderSpec.pre6 enc Try.prog Try.f12 Rows.fnAddOrderRow.domain false) (Rows.fnAddOrderSpec.post enc Try.prog Try.f12 false true false false) := by
  refine returnsInHanded_of_change (C := Try.checked) own started (by kernel_rfl) Try.func12
    (ChangeSpec.witness6 (enc := enc) (C := Try.checked) false ⟨#[], #[.slice none 0 0, .slice none 0 0], []⟩ 12 (by kernel_rfl) (by kernel_rfl) (by kernel_rfl) (by kernel_rfl)) ?_
  intro W base args ds gs before hval0 hW hcnd _
  have hval : ∀ (j : Nat) t v, Try.f12.params[j]? = some t → args[j]? = some v → Value.okWide Try.prog W .any base t v := hval0
  have hW' := hW
  obtain ⟨p, q, hA0, hV, rfl, hfz, hnd⟩ := hW
  have hA : DataW.TrodAll enc Try.prog W 0 (fun _ => true) true Try.f12.params.toList args.toList ds p := hA0
  rw [Try.params12] at hA hval
  obtain ⟨v0, vs0, d0, ds0, p0, q0, hargs, rfl, rfl, h0, r0⟩ := trodAll_cons hA
  obtain ⟨v1, vs1, d1, ds1, p1, q1, rfl, rfl, rfl, h1, r1⟩ := trodAll_cons r0
  obtain ⟨rfl, rfl, rfl⟩ := trodAll_nil r1
  obtain rfl : args = #[v0, v1] := by cases args; simp_all
  obtain ⟨rfl, rfl⟩ := trodVars_none hV
  have k0 := h0
  have lt0 : ∀ x ∈ p0, x.block < W.heap.size := by obtain ⟨m, hm⟩ := k0; exact DataW.trod_lt m _ _ _ hm
  obtain ⟨f0, i0⟩ := open_bytes_arg (hval 0 22 v0 rfl rfl) h0
  have k1 := h1
  have lt1 : ∀ x ∈ p1, x.block < W.heap.size := by obtain ⟨m, hm⟩ := k1; exact DataW.trod_lt m _ _ _ hm
  obtain ⟨f1, i1⟩ := open_bytes_arg (hval 1 22 v1 rfl rfl) h1
  clear hA0 hval0
  try simp only [List.append_nil] at hW'
  refine (walk W f0 v0 i0 f1 v1 i1).mono fun e W' ⟨he, bel⟩ => ?_
  subst he
  exact ⟨_, rfl, _, _, _, [], _, [], hW', trodAll_mk1 (shut_bool Try.underlying4 _), (trodAll_cons_mk (Below.trod laidOut (by kernel_rfl) (of_decide_eq_true (by kernel_rfl)) k0 bel lt0) (trodAll_cons_mk (Below.trod laidOut (by kernel_rfl) (of_decide_eq_true (by kernel_rfl)) k1 bel lt1) trodAll_mk0)), rfl, bel.frame _, fun h => by cases h⟩
theorem over_named : Try.pinned.checked.prog.funcNamed Rows.fnAddOrderRow.func = some 12 := by kernel_rfl
theorem over_closed : joinedFacts Try.pinned.checked.prog 12 Try.f12 Rows.fnAddOrderSpec Rows.fnAddOrderRow = true := by kernel_rfl
theorem over_inst : Func.isInstance Try.pinned.checked.prog Try.f12 Rows.fnAddOrderRow.origin Rows.fnAddOrderRow.targs := of_decide_eq_true (by kernel_rfl)
theorem over_wrap : Func.isWrapper Try.pinned.checked.prog Try.f12 Rows.fnAddOrderRow.wrapper Rows.fnAddOrderRow.mainSum := (by unfold Func.isWrapper; first | (rw [if_pos (by decide +kernel)]; kernel_rfl) | (rw [if_neg (by decide +kernel)]; exact ⟨rfl, rfl⟩))
theorem over : Rows.fnAddOrderRow.holds Try.pinned (OpenSpec.ofChange Rows.fnAddOrderSpec) :=
  OpenClaim.holds_of_wide 12 Try.f12 rfl rfl rfl rfl rfl rfl rfl ⟨rfl, rfl, rfl, rfl, rfl⟩ rfl rfl rfl rfl rfl over_named Try.func12 over_closed over_inst over_wrap
    (fun os started H enc _ => lifted os started H enc)
theorem proved : Rows.FnAddOrderSaid := over
end Go.Proofs.Ytmakaoomdnlebaa.lwAddOrder
