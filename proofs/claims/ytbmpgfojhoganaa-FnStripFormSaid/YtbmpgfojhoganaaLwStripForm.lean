/- For every input the drawn form without its scopes has the same names and nodes, is not changed again, and is valid if the form is; the program and the model agree: the law FnStripForm returns true, whatever the input, with no condition beyond the statement's own. -/
import Derived.Test.YtbmpgfojhoganaaRows
import Derived.Test.YtbmpgfojhoganaaLwKidEnds
import Derived.Test.YtbmpgfojhoganaaLwSizes
import Derived.Test.YtbmpgfojhoganaaLwTexts
import Derived.Test.YtbmpgfojhoganaaLwStrip
import Derived.Test.YtbmpgfojhoganaaSpecStrip
import Derived.Test.YtbmpgfojhoganaaPValidStripForm
namespace Go.Proofs.Ytbmpgfojhoganaa.lwStripForm
open Go.ChangeShapes Go.WideShapes Go.ChangeAt Go.RowKit
open Go.ChangeMaps (open_string shut_string)
set_option linter.unusedVariables false
set_option linter.unusedSimpArgs false
theorem names_chg (c : Int → List Int → List Int) : ∀ (V : List Fm) (out : List ByteArray), namesF out (V.map fun g => g.chg c) = namesF out V
  | [], out => rfl
  | g :: V, out => by
    have e : addN out (g.chg c) = addN out g := by cases g; rfl
    show namesF (addN out (g.chg c)) (V.map fun g => g.chg c) = namesF (addN out g) V
    rw [e]
    exact names_chg c V _
theorem names_strip (f : Fm) : namesF [] (f.chg fun _ _ => []).pre = namesF [] f.pre := by rw [pre_chg]; exact names_chg _ _ _
mutual
theorem sz_strip : ∀ f : Fm, (f.chg fun _ _ => []).sz ≤ f.sz
  | .mk k nm n sc ks => by
    have := szAll_strip ks
    simp only [Fm.chg, Fm.sz, chgAll_length]
    simp
    omega
theorem szAll_strip : ∀ ks : List Fm, szAll (chgAll (fun _ _ => []) ks) ≤ szAll ks
  | [] => by simp [chgAll]
  | f :: r => by
    have h1 := sz_strip f
    have h2 := szAll_strip r
    simp only [chgAll, szAll]
    omega
end
theorem specStrip_law (f : Fm) (v : Value) (w : World) (hv : InV (· < w.heap.size) w f v) (hsz : f.sz ≤ 1048576) (R : Fm) (hR : f.chg (fun _ _ => []) = R) :
    Calls Try.prog 14 #[v] w fun e w' => ∃ sa scap a cap, e = .returned (.agg #[.int .i64 R.kind, .string R.name, .int .i64 R.n, .slice sa R.scopes.length scap, .slice a R.kids.length cap]) ∧ InV (fun k => w.heap.size ≤ k ∧ k < w'.heap.size) w' R (.agg #[.int .i64 R.kind, .string R.name, .int .i64 R.n, .slice sa R.scopes.length scap, .slice a R.kids.length cap]) ∧ Below w.heap.size w w' := by
  subst hR
  refine (specStrip_any w.heap.size f v w (Nat.le_refl _) hv hsz).mono ?_
  rintro e w' ⟨u, rfl, hin, hb⟩
  obtain ⟨sa, scap, a, cap, rfl⟩ := hin.form
  exact ⟨sa, scap, a, cap, rfl, hin, hb⟩
set_option maxRecDepth 100000 in
set_option maxHeartbeats 4000000 in
theorem walk (w : World) (n : Nat) (v : Value) (hv : Bytes w v n) :
    Calls Try.prog 3 #[v] w fun e w' => e = .returned (.bool true) ∧ Below w.heap.size w w' := by
  have HV := Lib.hid hv
  obtain ⟨a0, c0, rfl, hn1, hn2, _⟩ := hv
  unfold maxLen at hn2
  by_cases hbig : (1048576 : Int) < n
  · go_enter Try.func3, Try.ntmps3
    go_wp2_with fail
    go_ret
    exact ⟨rfl, Below.refl _ _⟩
  go_enter Try.func3, Try.ntmps3
  go_wp2_with fail
  refine (P.drawStripForm_any _ n w HV.out).mono ?_
  rintro e w1 hpost
  obtain ⟨f, f0, f1, f2, f3, rfl, hin, hsl, hb⟩ := hpost.pl
  clear hpost
  have hs1 : w.heap.size ≤ w1.heap.size := hb.size
  have HL := Lib.hid hb
  have hszf : f.sz ≤ 1048576 := by have := hsl.sz; omega
  have hcf : f.count ≤ 1048577 := by have := hsl.1; omega
  have HCF : Hid (f.count ≤ 4294967296) := by have := hsl.1; unfold Hid; omega
  have HSL := Lib.hid hsl
  clear hsl HV
  clear hb
  have Pf := Lib.hid hin
  clear hin
  obtain ⟨n0, hn0⟩ : ∃ n0, f.count = n0 := ⟨_, rfl⟩
  have HN0 := Lib.hid hn0
  obtain ⟨Z, hZ⟩ : ∃ Z, f.chg (fun _ _ => []) = Z := ⟨_, rfl⟩
  obtain ⟨L, hL⟩ : ∃ L, namesF [] f.pre = L := ⟨_, rfl⟩
  obtain ⟨ok, hok⟩ : ∃ ok, formB f = ok := ⟨_, rfl⟩
  have HZ := Lib.hid hZ
  have HL0 := Lib.hid hL
  have HOK := Lib.hid hok
  have HZZ : Hid (Z.chg (fun _ _ => []) = Z) := by rw [← hZ]; exact strip_strip f
  have HZN : Hid (Z.count = n0) := by rw [← hZ, chg_count]; exact hn0
  have HZL : Hid (namesF [] Z.pre = L) := by rw [← hZ, names_strip]; exact hL
  have HZV : Hid (ok = true → formB Z = true) := fun h => by rw [← hZ]; exact formB_strip (by rw [hok]; exact h)
  have hszZ : Z.sz ≤ 1048576 := by rw [← hZ]; exact Nat.le_trans (sz_strip f) hszf
  have hcZ : Z.count ≤ 1048577 := by have := HZN.out; omega
  have HCZ : Hid (Z.count ≤ 4294967296) := by unfold Hid; omega
  have hself : ((n0 : Int) == (n0 : Int)) = true := by simp
  clear hn0 hZ hL hok
  go_wp2_with fail
  have hba0 := below_alloc w1 (.cells #[.int .i64 f.kind, .string f.name, .int .i64 f.n, .slice f0 f.scopes.length f1, .slice f2 f.kids.length f3] 26)
  have Bf : Hid (FormBox (w1.alloc (.cells #[.int .i64 f.kind, .string f.name, .int .i64 f.n, .slice f0 f.scopes.length f1, .slice f2 f.kids.length f3] 26)) w1.heap.size f f0 f1 f2 f3) := box_lit w1 f w1.heap.size f0 f2 f1 f3 26 (by simp)
  refine (implStrip_law f _ (w1.alloc (.cells #[.int .i64 f.kind, .string f.name, .int .i64 f.n, .slice f0 f.scopes.length f1, .slice f2 f.kids.length f3] 26)) (inv_pl (InV.pl hba0 Pf.out)) hszf (end_pl (InV.pl hba0 Pf.out) hcf) Z HZ.out).mono ?_
  rintro e w2 ⟨x0, x1, x2, x3, rfl, hin, hend, hb0⟩
  have hb : Below w1.heap.size w1 w2 := hba0.trans (hb0.mono hba0.size)
  have hs2 : w1.heap.size + 1 ≤ w2.heap.size := by have h := hb0.size; simp at h; omega
  have HL_1 := Lib.hid (HL.out.trans (hb.mono (by omega)))
  have Pf_1 := Lib.hid (InV.pl hb Pf.out)
  have Bf_1 := Lib.hid (FormBox.later Bf.out hb0)
  clear HL Pf Bf
  clear hb0 hba0
  clear hb
  have Ix : Hid (InV (· < w2.heap.size) w2 Z (.agg #[.int .i64 Z.kind, .string Z.name, .int .i64 Z.n, .slice x0 Z.scopes.length x1, .slice x2 Z.kids.length x3])) := InV.mono (fun k hk => hk.2) _ _ hin
  have Ex := Lib.hid hend
  clear hin hend
  obtain ⟨ld0, ld1, ld2, ld3, ld4⟩ := Bf_1.out
  have hx0 : w1.heap.size < w2.heap.size := Bf_1.out.lt
  go_wp2_with fail
  have hba0 := below_alloc w2 (.cells #[.int .i64 Z.kind, .string Z.name, .int .i64 Z.n, .slice x0 Z.scopes.length x1, .slice x2 Z.kids.length x3] 26)
  have Bx : Hid (FormBox (w2.alloc (.cells #[.int .i64 Z.kind, .string Z.name, .int .i64 Z.n, .slice x0 Z.scopes.length x1, .slice x2 Z.kids.length x3] 26)) w2.heap.size Z x0 x1 x2 x3) := box_lit w2 Z w2.heap.size x0 x2 x1 x3 26 (by simp)
  clear ld0 ld1 ld2 ld3 ld4 hx0
  refine upto_begin (fun WS : World => FormBox WS w2.heap.size Z x0 x1 x2 x3 ∧ FormBox WS w1.heap.size f f0 f1 f2 f3) 5 (by kernel_rfl) ?_
  refine gen_upto (fun w3 hu => ?_)
  have hb0 : Below (w2.alloc (.cells #[.int .i64 Z.kind, .string Z.name, .int .i64 Z.n, .slice x0 Z.scopes.length x1, .slice x2 Z.kids.length x3] 26)).heap.size (w2.alloc (.cells #[.int .i64 Z.kind, .string Z.name, .int .i64 Z.n, .slice x0 Z.scopes.length x1, .slice x2 Z.kids.length x3] 26)) w3 := by rw [hu]; exact (Below.refl _ _).drew
  have hb : Below w2.heap.size w2 w3 := hba0.trans (hb0.mono hba0.size)
  have hs3 : w2.heap.size + 1 ≤ w3.heap.size := by have h := hb0.size; simp at h; omega
  have HL_2 := Lib.hid (HL_1.out.trans (hb.mono (by omega)))
  have Pf_2 := Lib.hid (InV.pl hb Pf_1.out)
  have Bf_2 := Lib.hid (FormBox.later Bf_1.out hb)
  have Ix_1 := Lib.hid (inv_up Ix.out hb)
  have Ex_1 := Lib.hid (EndlessAt.later Ex.out hb)
  have Bx_1 := Lib.hid (FormBox.later Bx.out hb0)
  clear HL_1 Pf_1 Bf_1 Ix Ex Bx
  clear hu hb hb0 hba0
  have hS1 : (fun WS : World => FormBox WS w2.heap.size Z x0 x1 x2 x3 ∧ FormBox WS w1.heap.size f f0 f1 f2 f3) w3 := ⟨Bx_1.out, Bf_2.out⟩
  refine upto_take (i := 0) (d := some 12) (v := ?_) rfl rfl (by kernel_rfl) (by kernel_rfl) (by kernel_rfl) (by kernel_rfl) (fun _ _ _ h => h) (Or.inl ⟨by rfl, ?_⟩) hS1 ?_
  rotate_left
  · (intro wS hSw; obtain ⟨⟨_, _, _, _, _⟩, ⟨_, _, _, _, _⟩⟩ := hSw; go_simp; try with_reducible rfl)
  try simp only [Act.put, List.setIfInBounds_toArray, List.set_cons_zero, List.set_cons_succ]
  refine upto_take (i := 1) (d := some 13) (v := ?_) rfl rfl (by kernel_rfl) (by kernel_rfl) (by kernel_rfl) (by kernel_rfl) (fun _ _ _ h => h) (Or.inl ⟨by rfl, ?_⟩) hS1 ?_
  rotate_left
  · (intro wS hSw; obtain ⟨⟨_, _, _, _, _⟩, ⟨_, _, _, _, _⟩⟩ := hSw; go_simp; try with_reducible rfl)
  try simp only [Act.put, List.setIfInBounds_toArray, List.set_cons_zero, List.set_cons_succ]
  refine upto_one (i := 2) (by kernel_rfl) rfl (fun K hK => ?_)
  go_simp
  refine (specStrip_law f _ w3 (inv_pl Pf_2.out) hszf Z HZ.out).mono ?_
  rintro e w4 ⟨y0, y1, y2, y3, rfl, hin, hb⟩
  have hs4 : w3.heap.size ≤ w4.heap.size := hb.size
  clear hS1
  have HL_3 := Lib.hid (HL_2.out.trans (hb.mono (by omega)))
  have Pf_3 := Lib.hid (InV.pl hb Pf_2.out)
  have Bf_3 := Lib.hid (FormBox.later Bf_2.out hb)
  have Ix_2 := Lib.hid (inv_up Ix_1.out hb)
  have Ex_2 := Lib.hid (EndlessAt.later Ex_1.out hb)
  have Bx_2 := Lib.hid (FormBox.later Bx_1.out hb)
  clear HL_2 Pf_2 Bf_2 Ix_1 Ex_1 Bx_1
  have hS2 : (fun WS : World => FormBox WS w2.heap.size Z x0 x1 x2 x3 ∧ FormBox WS w1.heap.size f f0 f1 f2 f3) w4 := ⟨Bx_2.out, Bf_3.out⟩
  have Iy := Lib.hid (InV.mono (ψ := (· < w4.heap.size)) (fun k hk => hk.2) _ _ hin)
  clear hin
  refine hK.out _ _ (.inr hS2) ?_
  clear hK K hb
  refine upto_one (i := 3) (by kernel_rfl) rfl (fun K hK => ?_)
  go_simp
  refine (implSame_law Z Z _ _ w4 Ix_2.out Iy.out HCZ.out Ex_2.out true (sameB_refl Z)).mono ?_
  rintro e w5 ⟨rfl, hb⟩
  have hs5 : w4.heap.size ≤ w5.heap.size := hb.size
  clear hS2
  have HL_4 := Lib.hid (HL_3.out.trans (hb.mono (by omega)))
  have Pf_4 := Lib.hid (InV.pl hb Pf_3.out)
  have Bf_4 := Lib.hid (FormBox.later Bf_3.out hb)
  have Ix_3 := Lib.hid (inv_up Ix_2.out hb)
  have Ex_3 := Lib.hid (EndlessAt.later Ex_2.out hb)
  have Bx_3 := Lib.hid (FormBox.later Bx_2.out hb)
  have Iy_1 := Lib.hid (inv_up Iy.out hb)
  clear HL_3 Pf_3 Bf_3 Ix_2 Ex_2 Bx_2 Iy
  have hS3 : (fun WS : World => FormBox WS w2.heap.size Z x0 x1 x2 x3 ∧ FormBox WS w1.heap.size f f0 f1 f2 f3) w5 := ⟨Bx_3.out, Bf_4.out⟩
  refine hK.out _ _ (.inr hS3) ?_
  clear hK K hb
  refine upto_take (i := 4) (d := some 16) (v := ?_) rfl rfl (by kernel_rfl) (by kernel_rfl) (by kernel_rfl) (by kernel_rfl) (fun _ _ _ h => h) (Or.inl ⟨by rfl, ?_⟩) hS3 ?_
  rotate_left
  · (intro wS hSw; obtain ⟨⟨_, _, _, _, _⟩, ⟨_, _, _, _, _⟩⟩ := hSw; go_simp; try with_reducible rfl)
  try simp only [Act.put, List.setIfInBounds_toArray, List.set_cons_zero, List.set_cons_succ]
  clear hS3
  refine upto_done (by kernel_rfl) ?_ _
  clear Iy_1
  obtain ⟨ld0, ld1, ld2, ld3, ld4⟩ := Bx_3.out
  have hx0 : w2.heap.size < w5.heap.size := Bx_3.out.lt
  obtain ⟨ld5, ld6, ld7, ld8, ld9⟩ := Bf_4.out
  have hx1 : w1.heap.size < w5.heap.size := Bf_4.out.lt
  go_wp2_with fail
  clear ld0 ld1 ld2 ld3 ld4 ld5 ld6 ld7 ld8 ld9 hx0 hx1
  refine upto_begin (fun WS : World => FormBox WS w2.heap.size Z x0 x1 x2 x3 ∧ FormBox WS w1.heap.size f f0 f1 f2 f3) 28 (by kernel_rfl) ?_
  refine gen_upto (fun w6 hu => ?_)
  have hb0 : Below w5.heap.size w5 w6 := by rw [hu]; exact (Below.refl _ _).drew
  have hb := hb0
  have hs6 : w5.heap.size ≤ w6.heap.size := hb.size
  have HL_5 := Lib.hid (HL_4.out.trans (hb.mono (by omega)))
  have Pf_5 := Lib.hid (InV.pl hb Pf_4.out)
  have Bf_5 := Lib.hid (FormBox.later Bf_4.out hb)
  have Ix_4 := Lib.hid (inv_up Ix_3.out hb)
  have Ex_4 := Lib.hid (EndlessAt.later Ex_3.out hb)
  have Bx_4 := Lib.hid (FormBox.later Bx_3.out hb)
  clear HL_4 Pf_4 Bf_4 Ix_3 Ex_3 Bx_3
  clear hu hb hb0 
  have hS4 : (fun WS : World => FormBox WS w2.heap.size Z x0 x1 x2 x3 ∧ FormBox WS w1.heap.size f f0 f1 f2 f3) w6 := ⟨Bx_4.out, Bf_5.out⟩
  refine upto_take (i := 0) (d := some 17) (v := ?_) rfl rfl (by kernel_rfl) (by kernel_rfl) (by kernel_rfl) (by kernel_rfl) (fun _ _ _ h => h) (Or.inl ⟨by rfl, ?_⟩) hS4 ?_
  rotate_left
  · (intro wS hSw; obtain ⟨⟨_, _, _, _, _⟩, ⟨_, _, _, _, _⟩⟩ := hSw; go_simp; try with_reducible rfl)
  try simp only [Act.put, List.setIfInBounds_toArray, List.set_cons_zero, List.set_cons_succ]
  refine upto_take (i := 2) (d := some 19) (v := ?_) rfl rfl (by kernel_rfl) (by kernel_rfl) (by kernel_rfl) (by kernel_rfl) (fun _ _ _ h => h) (Or.inl ⟨by rfl, ?_⟩) hS4 ?_
  rotate_left
  · (intro wS hSw; obtain ⟨⟨_, _, _, _, _⟩, ⟨_, _, _, _, _⟩⟩ := hSw; go_simp; try with_reducible rfl)
  try simp only [Act.put, List.setIfInBounds_toArray, List.set_cons_zero, List.set_cons_succ]
  refine upto_one (i := 1) (by kernel_rfl) rfl (fun K hK => ?_)
  go_simp
  refine (implStrip_law Z _ w6 Ix_4.out hszZ Ex_4.out Z HZZ.out).mono ?_
  rintro e w7 ⟨z0, z1, z2, z3, rfl, hin, hend, hb⟩
  have hs7 : w6.heap.size ≤ w7.heap.size := hb.size
  clear hS4
  have HL_6 := Lib.hid (HL_5.out.trans (hb.mono (by omega)))
  have Pf_6 := Lib.hid (InV.pl hb Pf_5.out)
  have Bf_6 := Lib.hid (FormBox.later Bf_5.out hb)
  have Ix_5 := Lib.hid (inv_up Ix_4.out hb)
  have Ex_5 := Lib.hid (EndlessAt.later Ex_4.out hb)
  have Bx_5 := Lib.hid (FormBox.later Bx_4.out hb)
  clear HL_5 Pf_5 Bf_5 Ix_4 Ex_4 Bx_4
  have hS5 : (fun WS : World => FormBox WS w2.heap.size Z x0 x1 x2 x3 ∧ FormBox WS w1.heap.size f f0 f1 f2 f3) w7 := ⟨Bx_5.out, Bf_6.out⟩
  have Iz := Lib.hid (InV.mono (ψ := (· < w7.heap.size)) (fun k hk => hk.2) _ _ hin)
  have Ez := Lib.hid hend
  clear hin hend
  refine hK.out _ _ (.inr hS5) ?_
  clear hK K hb
  refine upto_one (i := 3) (by kernel_rfl) rfl (fun K hK => ?_)
  go_simp
  refine (implSame_law Z Z _ _ w7 Iz.out Ix_5.out HCZ.out Ez.out true (sameB_refl Z)).mono ?_
  rintro e w8 ⟨rfl, hb⟩
  have hs8 : w7.heap.size ≤ w8.heap.size := hb.size
  clear hS5
  have HL_7 := Lib.hid (HL_6.out.trans (hb.mono (by omega)))
  have Pf_7 := Lib.hid (InV.pl hb Pf_6.out)
  have Bf_7 := Lib.hid (FormBox.later Bf_6.out hb)
  have Ix_6 := Lib.hid (inv_up Ix_5.out hb)
  have Ex_6 := Lib.hid (EndlessAt.later Ex_5.out hb)
  have Bx_6 := Lib.hid (FormBox.later Bx_5.out hb)
  have Iz_1 := Lib.hid (inv_up Iz.out hb)
  have Ez_1 := Lib.hid (EndlessAt.later Ez.out hb)
  clear HL_6 Pf_6 Bf_6 Ix_5 Ex_5 Bx_5 Iz Ez
  have hS6 : (fun WS : World => FormBox WS w2.heap.size Z x0 x1 x2 x3 ∧ FormBox WS w1.heap.size f f0 f1 f2 f3) w8 := ⟨Bx_6.out, Bf_7.out⟩
  refine hK.out _ _ (.inr hS6) ?_
  clear hK K hb
  refine upto_take (i := 4) (d := some 21) (v := ?_) rfl rfl (by kernel_rfl) (by kernel_rfl) (by kernel_rfl) (by kernel_rfl) (fun _ _ _ h => h) (Or.inl ⟨by rfl, ?_⟩) hS6 ?_
  rotate_left
  · (intro wS hSw; obtain ⟨⟨_, _, _, _, _⟩, ⟨_, _, _, _, _⟩⟩ := hSw; go_simp; try with_reducible rfl)
  try simp only [Act.put, List.setIfInBounds_toArray, List.set_cons_zero, List.set_cons_succ]
  refine upto_take (i := 5) (d := some 22) (v := ?_) rfl rfl (by kernel_rfl) (by kernel_rfl) (by kernel_rfl) (by kernel_rfl) (fun _ _ _ h => h) (Or.inl ⟨by rfl, ?_⟩) hS6 ?_
  rotate_left
  · (intro wS hSw; obtain ⟨⟨_, _, _, _, _⟩, ⟨_, _, _, _, _⟩⟩ := hSw; go_simp; try with_reducible rfl)
  try simp only [Act.put, List.setIfInBounds_toArray, List.set_cons_zero, List.set_cons_succ]
  refine upto_take (i := 7) (d := some 24) (v := ?_) rfl rfl (by kernel_rfl) (by kernel_rfl) (by kernel_rfl) (by kernel_rfl) (fun _ _ _ h => h) (Or.inl ⟨by rfl, ?_⟩) hS6 ?_
  rotate_left
  · (intro wS hSw; obtain ⟨⟨_, _, _, _, _⟩, ⟨_, _, _, _, _⟩⟩ := hSw; go_simp; try with_reducible rfl)
  try simp only [Act.put, List.setIfInBounds_toArray, List.set_cons_zero, List.set_cons_succ]
  refine upto_one (i := 6) (by kernel_rfl) rfl (fun K hK => ?_)
  go_simp
  refine (implSize_law Z x0 x1 x2 x3 w8 Ix_6.out hcZ Ex_6.out n0 HZN.out).mono ?_
  rintro e w9 ⟨rfl, hb⟩
  have hs9 : w8.heap.size ≤ w9.heap.size := hb.size
  clear hS6
  have HL_8 := Lib.hid (HL_7.out.trans (hb.mono (by omega)))
  have Pf_8 := Lib.hid (InV.pl hb Pf_7.out)
  have Bf_8 := Lib.hid (FormBox.later Bf_7.out hb)
  have Ix_7 := Lib.hid (inv_up Ix_6.out hb)
  have Ex_7 := Lib.hid (EndlessAt.later Ex_6.out hb)
  have Bx_7 := Lib.hid (FormBox.later Bx_6.out hb)
  have Iz_2 := Lib.hid (inv_up Iz_1.out hb)
  have Ez_2 := Lib.hid (EndlessAt.later Ez_1.out hb)
  clear HL_7 Pf_7 Bf_7 Ix_6 Ex_6 Bx_6 Iz_1 Ez_1
  have hS7 : (fun WS : World => FormBox WS w2.heap.size Z x0 x1 x2 x3 ∧ FormBox WS w1.heap.size f f0 f1 f2 f3) w9 := ⟨Bx_7.out, Bf_8.out⟩
  refine hK.out _ _ (.inr hS7) ?_
  clear hK K hb
  refine upto_one (i := 8) (by kernel_rfl) rfl (fun K hK => ?_)
  go_simp
  refine (implSize_law f f0 f1 f2 f3 w9 (inv_pl Pf_8.out) hcf (end_pl Pf_8.out hcf) n0 HN0.out).mono ?_
  rintro e w10 ⟨rfl, hb⟩
  have hs10 : w9.heap.size ≤ w10.heap.size := hb.size
  clear hS7
  have HL_9 := Lib.hid (HL_8.out.trans (hb.mono (by omega)))
  have Pf_9 := Lib.hid (InV.pl hb Pf_8.out)
  have Bf_9 := Lib.hid (FormBox.later Bf_8.out hb)
  have Ix_8 := Lib.hid (inv_up Ix_7.out hb)
  have Ex_8 := Lib.hid (EndlessAt.later Ex_7.out hb)
  have Bx_8 := Lib.hid (FormBox.later Bx_7.out hb)
  have Iz_3 := Lib.hid (inv_up Iz_2.out hb)
  have Ez_3 := Lib.hid (EndlessAt.later Ez_2.out hb)
  clear HL_8 Pf_8 Bf_8 Ix_7 Ex_7 Bx_7 Iz_2 Ez_2
  have hS8 : (fun WS : World => FormBox WS w2.heap.size Z x0 x1 x2 x3 ∧ FormBox WS w1.heap.size f f0 f1 f2 f3) w10 := ⟨Bx_8.out, Bf_9.out⟩
  refine hK.out _ _ (.inr hS8) ?_
  clear hK K hb
  refine upto_take (i := 9) (d := some 26) (v := ?_) rfl rfl (by kernel_rfl) (by kernel_rfl) (by kernel_rfl) (by kernel_rfl) (fun _ _ _ h => h) (Or.inl ⟨by rfl, ?_⟩) hS8 ?_
  rotate_left
  · (intro wS hSw; obtain ⟨⟨_, _, _, _, _⟩, ⟨_, _, _, _, _⟩⟩ := hSw; go_simp; try with_reducible rfl)
  try simp only [Act.put, List.setIfInBounds_toArray, List.set_cons_zero, List.set_cons_succ]
  refine upto_take (i := 10) (d := some 27) (v := ?_) rfl rfl (by kernel_rfl) (by kernel_rfl) (by kernel_rfl) (by kernel_rfl) (fun _ _ _ h => h) (Or.inl ⟨by rfl, ?_⟩) hS8 ?_
  rotate_left
  · (intro wS hSw; obtain ⟨⟨_, _, _, _, _⟩, ⟨_, _, _, _, _⟩⟩ := hSw; go_simp; try with_reducible rfl)
  try simp only [Act.put, List.setIfInBounds_toArray, List.set_cons_zero, List.set_cons_succ]
  refine upto_take (i := 11) (d := some 28) (v := ?_) rfl rfl (by kernel_rfl) (by kernel_rfl) (by kernel_rfl) (by kernel_rfl) (fun _ _ _ h => h) (Or.inl ⟨by rfl, ?_⟩) hS8 ?_
  rotate_left
  · (intro wS hSw; obtain ⟨⟨_, _, _, _, _⟩, ⟨_, _, _, _, _⟩⟩ := hSw; go_simp; try with_reducible rfl)
  try simp only [Act.put, List.setIfInBounds_toArray, List.set_cons_zero, List.set_cons_succ]
  refine upto_take (i := 12) (d := some 29) (v := ?_) rfl rfl (by kernel_rfl) (by kernel_rfl) (by kernel_rfl) (by kernel_rfl) (fun _ _ _ h => h) (Or.inl ⟨by rfl, ?_⟩) hS8 ?_
  rotate_left
  · (intro wS hSw; obtain ⟨⟨_, _, _, _, _⟩, ⟨_, _, _, _, _⟩⟩ := hSw; go_simp; try with_reducible rfl)
  try simp only [Act.put, List.setIfInBounds_toArray, List.set_cons_zero, List.set_cons_succ]
  refine upto_take (i := 14) (d := some 31) (v := ?_) rfl rfl (by kernel_rfl) (by kernel_rfl) (by kernel_rfl) (by kernel_rfl) (fun _ _ _ h => h) (Or.inl ⟨by rfl, ?_⟩) hS8 ?_
  rotate_left
  · (intro wS hSw; obtain ⟨⟨_, _, _, _, _⟩, ⟨_, _, _, _, _⟩⟩ := hSw; go_simp; try with_reducible rfl)
  try simp only [Act.put, List.setIfInBounds_toArray, List.set_cons_zero, List.set_cons_succ]
  refine upto_one (i := 13) (by kernel_rfl) rfl (fun K hK => ?_)
  go_simp
  refine (implNames_law Z x0 x1 x2 x3 w10 Ix_8.out hszZ Ex_8.out L HZL.out).mono ?_
  rintro e w11 ⟨la, lb, rfl, hrow, hb⟩
  have hs11 : w10.heap.size ≤ w11.heap.size := hb.size
  clear hS8
  have HL_10 := Lib.hid (HL_9.out.trans (hb.mono (by omega)))
  have Pf_10 := Lib.hid (InV.pl hb Pf_9.out)
  have Bf_10 := Lib.hid (FormBox.later Bf_9.out hb)
  have Ix_9 := Lib.hid (inv_up Ix_8.out hb)
  have Ex_9 := Lib.hid (EndlessAt.later Ex_8.out hb)
  have Bx_9 := Lib.hid (FormBox.later Bx_8.out hb)
  have Iz_4 := Lib.hid (inv_up Iz_3.out hb)
  have Ez_4 := Lib.hid (EndlessAt.later Ez_3.out hb)
  clear HL_9 Pf_9 Bf_9 Ix_8 Ex_8 Bx_8 Iz_3 Ez_3
  have hS9 : (fun WS : World => FormBox WS w2.heap.size Z x0 x1 x2 x3 ∧ FormBox WS w1.heap.size f f0 f1 f2 f3) w11 := ⟨Bx_9.out, Bf_10.out⟩
  have SA := Lib.hid hrow
  clear hrow
  refine hK.out _ _ (.inr hS9) ?_
  clear hK K hb
  refine upto_one (i := 15) (by kernel_rfl) rfl (fun K hK => ?_)
  go_simp
  refine (implNames_law f f0 f1 f2 f3 w11 (inv_pl Pf_10.out) hszf (end_pl Pf_10.out hcf) L HL0.out).mono ?_
  rintro e w12 ⟨lc, ld, rfl, hrow, hb⟩
  have hs12 : w11.heap.size ≤ w12.heap.size := hb.size
  clear hS9
  have HL_11 := Lib.hid (HL_10.out.trans (hb.mono (by omega)))
  have Pf_11 := Lib.hid (InV.pl hb Pf_10.out)
  have Bf_11 := Lib.hid (FormBox.later Bf_10.out hb)
  have Ix_10 := Lib.hid (inv_up Ix_9.out hb)
  have Ex_10 := Lib.hid (EndlessAt.later Ex_9.out hb)
  have Bx_10 := Lib.hid (FormBox.later Bx_9.out hb)
  have Iz_5 := Lib.hid (inv_up Iz_4.out hb)
  have Ez_5 := Lib.hid (EndlessAt.later Ez_4.out hb)
  have SA_1 := Lib.hid (StrRow.later hb SA.out)
  clear HL_10 Pf_10 Bf_10 Ix_9 Ex_9 Bx_9 Iz_4 Ez_4 SA
  have hS10 : (fun WS : World => FormBox WS w2.heap.size Z x0 x1 x2 x3 ∧ FormBox WS w1.heap.size f f0 f1 f2 f3) w12 := ⟨Bx_10.out, Bf_11.out⟩
  have SB := Lib.hid hrow
  clear hrow
  refine hK.out _ _ (.inr hS10) ?_
  clear hK K hb
  refine upto_one (i := 16) (by kernel_rfl) rfl (fun K hK => ?_)
  go_simp
  refine (mxTexts_same L _ _ w12 SA_1.out SB.out).mono ?_
  rintro e w13 ⟨rfl, hb⟩
  have hs13 : w12.heap.size ≤ w13.heap.size := hb.size
  clear hS10
  have HL_12 := Lib.hid (HL_11.out.trans (hb.mono (by omega)))
  have Pf_12 := Lib.hid (InV.pl hb Pf_11.out)
  have Bf_12 := Lib.hid (FormBox.later Bf_11.out hb)
  have Ix_11 := Lib.hid (inv_up Ix_10.out hb)
  have Ex_11 := Lib.hid (EndlessAt.later Ex_10.out hb)
  have Bx_11 := Lib.hid (FormBox.later Bx_10.out hb)
  have Iz_6 := Lib.hid (inv_up Iz_5.out hb)
  have Ez_6 := Lib.hid (EndlessAt.later Ez_5.out hb)
  have SA_2 := Lib.hid (StrRow.later hb SA_1.out)
  have SB_1 := Lib.hid (StrRow.later hb SB.out)
  clear HL_11 Pf_11 Bf_11 Ix_10 Ex_10 Bx_10 Iz_5 Ez_5 SA_1 SB
  have hS11 : (fun WS : World => FormBox WS w2.heap.size Z x0 x1 x2 x3 ∧ FormBox WS w1.heap.size f f0 f1 f2 f3) w13 := ⟨Bx_11.out, Bf_12.out⟩
  refine hK.out _ _ (.inr hS11) ?_
  clear hK K hb
  refine upto_take (i := 17) (d := some 34) (v := ?_) rfl rfl (by kernel_rfl) (by kernel_rfl) (by kernel_rfl) (by kernel_rfl) (fun _ _ _ h => h) (Or.inl ⟨by rfl, ?_⟩) hS11 ?_
  rotate_left
  · (intro wS hSw; obtain ⟨⟨_, _, _, _, _⟩, ⟨_, _, _, _, _⟩⟩ := hSw; go_simp; try with_reducible rfl)
  try simp only [Act.put, List.setIfInBounds_toArray, List.set_cons_zero, List.set_cons_succ]
  refine upto_take (i := 18) (d := some 35) (v := ?_) rfl rfl (by kernel_rfl) (by kernel_rfl) (by kernel_rfl) (by kernel_rfl) (fun _ _ _ h => h) (Or.inl ⟨by rfl, ?_⟩) hS11 ?_
  rotate_left
  · (intro wS hSw; obtain ⟨⟨_, _, _, _, _⟩, ⟨_, _, _, _, _⟩⟩ := hSw; go_simp; try with_reducible rfl)
  try simp only [Act.put, List.setIfInBounds_toArray, List.set_cons_zero, List.set_cons_succ]
  refine upto_take (i := 19) (d := some 36) (v := ?_) rfl rfl (by kernel_rfl) (by kernel_rfl) (by kernel_rfl) (by kernel_rfl) (fun _ _ _ h => h) (Or.inl ⟨by rfl, ?_⟩) hS11 ?_
  rotate_left
  · (intro wS hSw; obtain ⟨⟨_, _, _, _, _⟩, ⟨_, _, _, _, _⟩⟩ := hSw; go_simp; try with_reducible rfl)
  try simp only [Act.put, List.setIfInBounds_toArray, List.set_cons_zero, List.set_cons_succ]
  refine upto_one (i := 20) (by kernel_rfl) rfl (fun K hK => ?_)
  go_simp
  refine (implFormValid_law f _ w13 (inv_pl Pf_12.out) ok HOK.out).mono ?_
  rintro e w14 ⟨rfl, hb⟩
  have hs14 : w13.heap.size ≤ w14.heap.size := hb.size
  clear hS11
  have HL_13 := Lib.hid (HL_12.out.trans (hb.mono (by omega)))
  have Pf_13 := Lib.hid (InV.pl hb Pf_12.out)
  have Bf_13 := Lib.hid (FormBox.later Bf_12.out hb)
  have Ix_12 := Lib.hid (inv_up Ix_11.out hb)
  have Ex_12 := Lib.hid (EndlessAt.later Ex_11.out hb)
  have Bx_12 := Lib.hid (FormBox.later Bx_11.out hb)
  have Iz_7 := Lib.hid (inv_up Iz_6.out hb)
  have Ez_7 := Lib.hid (EndlessAt.later Ez_6.out hb)
  have SA_3 := Lib.hid (StrRow.later hb SA_2.out)
  have SB_2 := Lib.hid (StrRow.later hb SB_1.out)
  clear HL_12 Pf_12 Bf_12 Ix_11 Ex_11 Bx_11 Iz_6 Ez_6 SA_2 SB_1
  have hS12 : (fun WS : World => FormBox WS w2.heap.size Z x0 x1 x2 x3 ∧ FormBox WS w1.heap.size f f0 f1 f2 f3) w14 := ⟨Bx_12.out, Bf_13.out⟩
  refine hK.out _ _ (.inr hS12) ?_
  clear hK K hb
  cases ok with
  | false =>
    refine upto_take (i := 21) (d := some 38) (v := ?_) rfl rfl (by kernel_rfl) (by kernel_rfl) (by kernel_rfl) (by kernel_rfl) (fun _ _ _ h => h) (Or.inl ⟨by rfl, ?_⟩) hS12 ?_
    rotate_left
    · (intro wS hSw; obtain ⟨⟨_, _, _, _, _⟩, ⟨_, _, _, _, _⟩⟩ := hSw; go_simp; try with_reducible rfl)
    try simp only [Act.put, List.setIfInBounds_toArray, List.set_cons_zero, List.set_cons_succ]
    refine upto_take (i := 22) (d := some 39) (v := ?_) rfl rfl (by kernel_rfl) (by kernel_rfl) (by kernel_rfl) (by kernel_rfl) (fun _ _ _ h => h) (Or.inl ⟨by rfl, ?_⟩) hS12 ?_
    rotate_left
    · (intro wS hSw; obtain ⟨⟨_, _, _, _, _⟩, ⟨_, _, _, _, _⟩⟩ := hSw; go_simp; try with_reducible rfl)
    try simp only [Act.put, List.setIfInBounds_toArray, List.set_cons_zero, List.set_cons_succ]
    refine upto_take (i := 23) (d := some 40) (v := undef) rfl rfl (by kernel_rfl) (by kernel_rfl) (by kernel_rfl) (by kernel_rfl) (fun _ _ _ h => h) (Or.inr ⟨by rfl, rfl⟩) hS12 ?_
    try simp only [Act.put, List.setIfInBounds_toArray, List.set_cons_zero, List.set_cons_succ]
    refine upto_take (i := 24) (d := some 41) (v := undef) rfl rfl (by kernel_rfl) (by kernel_rfl) (by kernel_rfl) (by kernel_rfl) (fun _ _ _ h => h) (Or.inr ⟨by rfl, rfl⟩) hS12 ?_
    try simp only [Act.put, List.setIfInBounds_toArray, List.set_cons_zero, List.set_cons_succ]
    refine upto_take (i := 25) (d := some 42) (v := ?_) rfl rfl (by kernel_rfl) (by kernel_rfl) (by kernel_rfl) (by kernel_rfl) (fun _ _ _ h => h) (Or.inl ⟨by rfl, ?_⟩) hS12 ?_
    rotate_left
    · (intro wS hSw; obtain ⟨⟨_, _, _, _, _⟩, ⟨_, _, _, _, _⟩⟩ := hSw; go_simp; try with_reducible rfl)
    try simp only [Act.put, List.setIfInBounds_toArray, List.set_cons_zero, List.set_cons_succ]
    refine upto_take (i := 26) (d := some 43) (v := ?_) rfl rfl (by kernel_rfl) (by kernel_rfl) (by kernel_rfl) (by kernel_rfl) (fun _ _ _ h => h) (Or.inl ⟨by rfl, ?_⟩) hS12 ?_
    rotate_left
    · (intro wS hSw; obtain ⟨⟨_, _, _, _, _⟩, ⟨_, _, _, _, _⟩⟩ := hSw; go_simp; try with_reducible rfl)
    try simp only [Act.put, List.setIfInBounds_toArray, List.set_cons_zero, List.set_cons_succ]
    refine upto_take (i := 27) (d := some 2) (v := ?_) rfl rfl (by kernel_rfl) (by kernel_rfl) (by kernel_rfl) (by kernel_rfl) (fun _ _ _ h => h) (Or.inl ⟨by rfl, ?_⟩) hS12 ?_
    rotate_left
    · (intro wS hSw; obtain ⟨⟨_, _, _, _, _⟩, ⟨_, _, _, _, _⟩⟩ := hSw; go_simp; try with_reducible rfl)
    try simp only [Act.put, List.setIfInBounds_toArray, List.set_cons_zero, List.set_cons_succ]
    clear hS12
    refine upto_done (by kernel_rfl) ?_ _
    go_wp2_with fail
    go_ret
    exact ⟨rfl, HL_13.out⟩
  | true =>
    refine upto_take (i := 21) (d := some 38) (v := ?_) rfl rfl (by kernel_rfl) (by kernel_rfl) (by kernel_rfl) (by kernel_rfl) (fun _ _ _ h => h) (Or.inl ⟨by rfl, ?_⟩) hS12 ?_
    rotate_left
    · (intro wS hSw; obtain ⟨⟨_, _, _, _, _⟩, ⟨_, _, _, _, _⟩⟩ := hSw; go_simp; try with_reducible rfl)
    try simp only [Act.put, List.setIfInBounds_toArray, List.set_cons_zero, List.set_cons_succ]
    refine upto_take (i := 22) (d := some 39) (v := ?_) rfl rfl (by kernel_rfl) (by kernel_rfl) (by kernel_rfl) (by kernel_rfl) (fun _ _ _ h => h) (Or.inl ⟨by rfl, ?_⟩) hS12 ?_
    rotate_left
    · (intro wS hSw; obtain ⟨⟨_, _, _, _, _⟩, ⟨_, _, _, _, _⟩⟩ := hSw; go_simp; try with_reducible rfl)
    try simp only [Act.put, List.setIfInBounds_toArray, List.set_cons_zero, List.set_cons_succ]
    refine upto_take (i := 23) (d := some 40) (v := ?_) rfl rfl (by kernel_rfl) (by kernel_rfl) (by kernel_rfl) (by kernel_rfl) (fun _ _ _ h => h) (Or.inl ⟨by rfl, ?_⟩) hS12 ?_
    rotate_left
    · (intro wS hSw; obtain ⟨⟨_, _, _, _, _⟩, ⟨_, _, _, _, _⟩⟩ := hSw; go_simp; try with_reducible rfl)
    try simp only [Act.put, List.setIfInBounds_toArray, List.set_cons_zero, List.set_cons_succ]
    refine upto_one (i := 24) (by kernel_rfl) rfl (fun K hK => ?_)
    go_simp
    refine (implFormValid_law Z _ w14 Ix_12.out true (HZV.out rfl)).mono ?_
    rintro e w15 ⟨rfl, hb⟩
    have hs15 : w14.heap.size ≤ w15.heap.size := hb.size
    clear hS12
    have HL_14 := Lib.hid (HL_13.out.trans (hb.mono (by omega)))
    have Pf_14 := Lib.hid (InV.pl hb Pf_13.out)
    have Bf_14 := Lib.hid (FormBox.later Bf_13.out hb)
    have Ix_13 := Lib.hid (inv_up Ix_12.out hb)
    have Ex_13 := Lib.hid (EndlessAt.later Ex_12.out hb)
    have Bx_13 := Lib.hid (FormBox.later Bx_12.out hb)
    have Iz_8 := Lib.hid (inv_up Iz_7.out hb)
    have Ez_8 := Lib.hid (EndlessAt.later Ez_7.out hb)
    have SA_4 := Lib.hid (StrRow.later hb SA_3.out)
    have SB_3 := Lib.hid (StrRow.later hb SB_2.out)
    clear HL_13 Pf_13 Bf_13 Ix_12 Ex_12 Bx_12 Iz_7 Ez_7 SA_3 SB_2
    have hS13 : (fun WS : World => FormBox WS w2.heap.size Z x0 x1 x2 x3 ∧ FormBox WS w1.heap.size f f0 f1 f2 f3) w15 := ⟨Bx_13.out, Bf_14.out⟩
    refine hK.out _ _ (.inr hS13) ?_
    clear hK K hb
    refine upto_take (i := 25) (d := some 42) (v := ?_) rfl rfl (by kernel_rfl) (by kernel_rfl) (by kernel_rfl) (by kernel_rfl) (fun _ _ _ h => h) (Or.inl ⟨by rfl, ?_⟩) hS13 ?_
    rotate_left
    · (intro wS hSw; obtain ⟨⟨_, _, _, _, _⟩, ⟨_, _, _, _, _⟩⟩ := hSw; go_simp; try with_reducible rfl)
    try simp only [Act.put, List.setIfInBounds_toArray, List.set_cons_zero, List.set_cons_succ]
    refine upto_take (i := 26) (d := some 43) (v := ?_) rfl rfl (by kernel_rfl) (by kernel_rfl) (by kernel_rfl) (by kernel_rfl) (fun _ _ _ h => h) (Or.inl ⟨by rfl, ?_⟩) hS13 ?_
    rotate_left
    · (intro wS hSw; obtain ⟨⟨_, _, _, _, _⟩, ⟨_, _, _, _, _⟩⟩ := hSw; go_simp; try with_reducible rfl)
    try simp only [Act.put, List.setIfInBounds_toArray, List.set_cons_zero, List.set_cons_succ]
    refine upto_take (i := 27) (d := some 2) (v := ?_) rfl rfl (by kernel_rfl) (by kernel_rfl) (by kernel_rfl) (by kernel_rfl) (fun _ _ _ h => h) (Or.inl ⟨by rfl, ?_⟩) hS13 ?_
    rotate_left
    · (intro wS hSw; obtain ⟨⟨_, _, _, _, _⟩, ⟨_, _, _, _, _⟩⟩ := hSw; go_simp; try with_reducible rfl)
    try simp only [Act.put, List.setIfInBounds_toArray, List.set_cons_zero, List.set_cons_succ]
    clear hS13
    refine upto_done (by kernel_rfl) ?_ _
    go_wp2_with fail
    go_ret
    exact ⟨rfl, HL_14.out⟩
theorem own : ownKnob Try.prog.godebug = none := by kernel_rfl
theorem laidOut : laidOutB Try.prog = true := by kernel_rfl
set_option maxRecDepth 100000 in
theorem lifted (os : Os) (started : os.Started) (H : Type) (enc : TypeId × Value → H) :
    ReturnsInHanded {} Try.checked os 3 .any (Rows.fnStripFormSpec.pre6 enc Try.prog Try.f3 Rows.fnStripFormRow.domain false) (Rows.fnStripFormSpec.post enc Try.prog Try.f3 false true false false) := by
  refine returnsInHanded_of_change (C := Try.checked) own started (by kernel_rfl) Try.func3
    (ChangeSpec.witness6 (enc := enc) (C := Try.checked) false ⟨#[], #[.slice none 0 0], []⟩ 12 (by kernel_rfl) (by kernel_rfl) (by kernel_rfl) (by kernel_rfl)) ?_
  intro W base args ds gs before hval0 hW hcnd _
  have hval : ∀ (j : Nat) t v, Try.f3.params[j]? = some t → args[j]? = some v → Value.okWide Try.prog W .any base t v := hval0
  have hW' := hW
  obtain ⟨p, q, hA0, hV, rfl, hfz, hnd⟩ := hW
  have hA : DataW.TrodAll enc Try.prog W 0 (fun _ => true) true Try.f3.params.toList args.toList ds p := hA0
  rw [Try.params3] at hA hval
  obtain ⟨v0, vs0, d0, ds0, p0, q0, hargs, rfl, rfl, h0, r0⟩ := trodAll_cons hA
  obtain ⟨rfl, rfl, rfl⟩ := trodAll_nil r0
  obtain rfl : args = #[v0] := by cases args; simp_all
  obtain ⟨rfl, rfl⟩ := trodVars_none hV
  have k0 := h0
  have lt0 : ∀ x ∈ p0, x.block < W.heap.size := by obtain ⟨m, hm⟩ := k0; exact DataW.trod_lt m _ _ _ hm
  obtain ⟨f0, i0⟩ := open_bytes_arg (hval 0 22 v0 rfl rfl) h0
  clear hA0 hval0
  try simp only [List.append_nil] at hW'
  refine (walk W f0 v0 i0).mono fun e W' ⟨he, bel⟩ => ?_
  subst he
  exact ⟨_, rfl, _, _, _, [], _, [], hW', trodAll_mk1 (shut_bool Try.underlying4 _), (trodAll_cons_mk (Below.trod laidOut (by kernel_rfl) (of_decide_eq_true (by kernel_rfl)) k0 bel lt0) trodAll_mk0), rfl, bel.frame _, fun h => by cases h⟩
theorem over_named : Try.pinned.checked.prog.funcNamed Rows.fnStripFormRow.func = some 3 := by kernel_rfl
theorem over_closed : joinedFacts Try.pinned.checked.prog 3 Try.f3 Rows.fnStripFormSpec Rows.fnStripFormRow = true := by kernel_rfl
theorem over_inst : Func.isInstance Try.pinned.checked.prog Try.f3 Rows.fnStripFormRow.origin Rows.fnStripFormRow.targs := of_decide_eq_true (by kernel_rfl)
theorem over_wrap : Func.isWrapper Try.pinned.checked.prog Try.f3 Rows.fnStripFormRow.wrapper Rows.fnStripFormRow.mainSum := (by unfold Func.isWrapper; first | (rw [if_pos (by decide +kernel)]; kernel_rfl) | (rw [if_neg (by decide +kernel)]; exact ⟨rfl, rfl⟩))
theorem over : Rows.fnStripFormRow.holds Try.pinned (OpenSpec.ofChange Rows.fnStripFormSpec) :=
  OpenClaim.holds_of_wide 3 Try.f3 rfl rfl rfl rfl rfl rfl rfl ⟨rfl, rfl, rfl, rfl, rfl⟩ rfl rfl rfl rfl rfl over_named Try.func3 over_closed over_inst over_wrap
    (fun os started H enc _ => lifted os started H enc)
theorem proved : Rows.FnStripFormSaid := over
end Go.Proofs.Ytbmpgfojhoganaa.lwStripForm
