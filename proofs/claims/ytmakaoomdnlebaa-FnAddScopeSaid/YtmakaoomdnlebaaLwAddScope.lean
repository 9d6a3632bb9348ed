/- For every input a scope that is added to the drawn form is there, is not added again, and keeps the other scopes; the program and the model agree: the law FnAddScope returns true, whatever the input, with no condition beyond the statement's own. -/
import Derived.Test.YtmakaoomdnlebaaRows
import Derived.Test.YtmakaoomdnlebaaLwWithin
import Derived.Test.YtmakaoomdnlebaaLwStrip
import Derived.Test.YtmakaoomdnlebaaLwNames
namespace Go.Proofs.Ytmakaoomdnlebaa.lwAddScope
open Go.ChangeShapes Go.WideShapes Go.ChangeAt Go.RowKit
open Go.ChangeMaps (open_string shut_string)
set_option linter.unusedVariables false
set_option linter.unusedSimpArgs false
set_option maxRecDepth 100000 in
set_option maxHeartbeats 4000000 in
theorem walk (w : World) (n : Nat) (v : Value) (hv : Bytes w v n) :
    Calls Try.prog 5 #[v] w fun e w' => e = .returned (.bool true) ∧ Below w.heap.size w w' := by
  have HV := Lib.hid hv
  obtain ⟨a0, c0, rfl, hn1, hn2, _⟩ := hv
  unfold maxLen at hn2
  by_cases hbig : (1048576 : Int) < n
  · go_enter Try.func5, Try.ntmps5
    go_wp2_with fail
    go_ret
    exact ⟨rfl, Below.refl _ _⟩
  go_enter Try.func5, Try.ntmps5
  go_wp2_with fail
  refine (drawAddScope_law _ n w HV.out).mono ?_
  rintro e w1 ⟨f, f0, f1, f2, f3, scope, rfl, hin, hsl, hsc, hb⟩
  have hs1 : w.heap.size ≤ w1.heap.size := hb.size
  have HL := Lib.hid hb
  have hscb := scopesCase_bounds scope hsc
  have hszf : f.sz ≤ 1048576 := by have := Slim.big hsl; omega
  clear hsl hsc HV
  clear hb
  have If : Hid (InV (· < w1.heap.size) w1 f (.agg #[.int .i64 f.kind, .string f.name, .int .i64 f.n, .slice f0 f.scopes.length f1, .slice f2 f.kids.length f3])) := InV.mono (fun k hk => hk.2) _ _ hin
  clear hin
  obtain ⟨ok, hok⟩ : ∃ ok, okF2 0 scope f = ok := ⟨_, rfl⟩
  obtain ⟨R, hR⟩ : ∃ R, afterF 0 scope f = R := ⟨_, rfl⟩
  have HOK := Lib.hid hok
  have HR := Lib.hid hR
  have HRC : Hid (R.count ≤ 4294967296) := by have h1 := afterF_count 0 scope f; have h2 := f.count_le; rw [hR] at h1; unfold Hid; omega
  clear hok hR
  go_wp2_with fail
  have hba0 := below_alloc w1 (.cells #[.int .i64 f.kind, .string f.name, .int .i64 f.n, .slice f0 f.scopes.length f1, .slice f2 f.kids.length f3] 27)
  have Bf : Hid (FormBox (w1.alloc (.cells #[.int .i64 f.kind, .string f.name, .int .i64 f.n, .slice f0 f.scopes.length f1, .slice f2 f.kids.length f3] 27)) w1.heap.size f f0 f1 f2 f3) := box_lit w1 f w1.heap.size f0 f2 f1 f3 27 (by simp)
  refine (implAddScope_law f _ scope (w1.alloc (.cells #[.int .i64 f.kind, .string f.name, .int .i64 f.n, .slice f0 f.scopes.length f1, .slice f2 f.kids.length f3] 27)) (inv_up If.out hba0) hszf hscb ok R HOK.out HR.out).mono ?_
  rintro e w2 ⟨x0, x1, x2, x3, rfl, hin, hend, hb0⟩
  have hb : Below w1.heap.size w1 w2 := hba0.trans (hb0.mono hba0.size)
  have hs2 : w1.heap.size + 1 ≤ w2.heap.size := by have h := hb0.size; simp at h; omega
  have HL_1 := Lib.hid (HL.out.trans (hb.mono (by omega)))
  have If_1 := Lib.hid (inv_up If.out hb)
  have Bf_1 := Lib.hid (FormBox.later Bf.out hb0)
  clear HL If Bf
  clear hb0 hba0
  clear hb
  have Ix : Hid (InV (· < w2.heap.size) w2 R (.agg #[.int .i64 R.kind, .string R.name, .int .i64 R.n, .slice x0 R.scopes.length x1, .slice x2 R.kids.length x3])) := InV.mono (fun k hk => hk.2) _ _ hin
  have Ex := Lib.hid hend
  clear hin hend
  obtain ⟨ld0, ld1, ld2, ld3, ld4⟩ := Bf_1.out
  have hx0 : w1.heap.size < w2.heap.size := Bf_1.out.lt
  go_wp2_with fail
  have hba0 := below_alloc w2 (.cells #[.int .i64 R.kind, .string R.name, .int .i64 R.n, .slice x0 R.scopes.length x1, .slice x2 R.kids.length x3] 27)
  have Bx : Hid (FormBox (w2.alloc (.cells #[.int .i64 R.kind, .string R.name, .int .i64 R.n, .slice x0 R.scopes.length x1, .slice x2 R.kids.length x3] 27)) w2.heap.size R x0 x1 x2 x3) := box_lit w2 R w2.heap.size x0 x2 x1 x3 27 (by simp)
  refine (specAddScope_law f _ scope (w2.alloc (.cells #[.int .i64 R.kind, .string R.name, .int .i64 R.n, .slice x0 R.scopes.length x1, .slice x2 R.kids.length x3] 27)) (inv_up If_1.out hba0) hszf hscb ok R HOK.out HR.out).mono ?_
  rintro e w3 ⟨y0, y1, y2, y3, rfl, hin, hb0⟩
  have hb : Below w2.heap.size w2 w3 := hba0.trans (hb0.mono hba0.size)
  have hs3 : w2.heap.size + 1 ≤ w3.heap.size := by have h := hb0.size; simp at h; omega
  clear ld0 ld1 ld2 ld3 ld4 hx0
  have HL_2 := Lib.hid (HL_1.out.trans (hb.mono (by omega)))
  have If_2 := Lib.hid (inv_up If_1.out hb)
  have Bf_2 := Lib.hid (FormBox.later Bf_1.out hb)
  have Ix_1 := Lib.hid (inv_up Ix.out hb)
  have Ex_1 := Lib.hid (EndlessAt.later Ex.out hb)
  have Bx_1 := Lib.hid (FormBox.later Bx.out hb0)
  clear HL_1 If_1 Bf_1 Ix Ex Bx
  clear hb0 hba0
  clear hb
  have Iy : Hid (InV (· < w3.heap.size) w3 R (.agg #[.int .i64 R.kind, .string R.name, .int .i64 R.n, .slice y0 R.scopes.length y1, .slice y2 R.kids.length y3])) := InV.mono (fun k hk => hk.2) _ _ hin
  clear hin
  cases ok with
  | false =>
    obtain ⟨ld0, ld1, ld2, ld3, ld4⟩ := Bx_1.out
    have hx0 : w2.heap.size < w3.heap.size := Bx_1.out.lt
    go_wp2_with fail
    have hba0 := below_alloc w3 (.cells #[.int .i64 R.kind, .string R.name, .int .i64 R.n, .slice y0 R.scopes.length y1, .slice y2 R.kids.length y3] 27)
    have By : Hid (FormBox (w3.alloc (.cells #[.int .i64 R.kind, .string R.name, .int .i64 R.n, .slice y0 R.scopes.length y1, .slice y2 R.kids.length y3] 27)) w3.heap.size R y0 y1 y2 y3) := box_lit w3 R w3.heap.size y0 y2 y1 y3 27 (by simp)
    refine (implSame_law R R _ _ (w3.alloc (.cells #[.int .i64 R.kind, .string R.name, .int .i64 R.n, .slice y0 R.scopes.length y1, .slice y2 R.kids.length y3] 27)) (inv_up Ix_1.out hba0) (inv_up Iy.out hba0) HRC.out (EndlessAt.later Ex_1.out hba0) true (sameB_refl R)).mono ?_
    rintro e w4 ⟨rfl, hb0⟩
    have hb : Below w3.heap.size w3 w4 := hba0.trans (hb0.mono hba0.size)
    have hs4 : w3.heap.size + 1 ≤ w4.heap.size := by have h := hb0.size; simp at h; omega
    clear ld0 ld1 ld2 ld3 ld4 hx0
    have HL_3 := Lib.hid (HL_2.out.trans (hb.mono (by omega)))
    have If_3 := Lib.hid (inv_up If_2.out hb)
    have Bf_3 := Lib.hid (FormBox.later Bf_2.out hb)
    have Ix_2 := Lib.hid (inv_up Ix_1.out hb)
    have Ex_2 := Lib.hid (EndlessAt.later Ex_1.out hb)
    have Bx_2 := Lib.hid (FormBox.later Bx_1.out hb)
    have Iy_1 := Lib.hid (inv_up Iy.out hb)
    have By_1 := Lib.hid (FormBox.later By.out hb0)
    clear HL_2 If_2 Bf_2 Ix_1 Ex_1 Bx_1 Iy By
    clear hb0 hba0
    clear hb
    obtain ⟨ld0, ld1, ld2, ld3, ld4⟩ := Bx_2.out
    have hx0 : w2.heap.size < w4.heap.size := Bx_2.out.lt
    obtain ⟨ld5, ld6, ld7, ld8, ld9⟩ := By_1.out
    have hx1 : w3.heap.size < w4.heap.size := By_1.out.lt
    go_wp2_with fail
    refine (implSame_law R R _ _ w4 Ix_2.out Iy_1.out HRC.out Ex_2.out true (sameB_refl R)).mono ?_
    rintro e w5 ⟨rfl, hb⟩
    have hs5 : w4.heap.size ≤ w5.heap.size := hb.size
    clear ld0 ld1 ld2 ld3 ld4 ld5 ld6 ld7 ld8 ld9 hx0 hx1
    have HL_4 := Lib.hid (HL_3.out.trans (hb.mono (by omega)))
    have If_4 := Lib.hid (inv_up If_3.out hb)
    have Bf_4 := Lib.hid (FormBox.later Bf_3.out hb)
    have Ix_3 := Lib.hid (inv_up Ix_2.out hb)
    have Ex_3 := Lib.hid (EndlessAt.later Ex_2.out hb)
    have Bx_3 := Lib.hid (FormBox.later Bx_2.out hb)
    have Iy_2 := Lib.hid (inv_up Iy_1.out hb)
    have By_2 := Lib.hid (FormBox.later By_1.out hb)
    clear HL_3 If_3 Bf_3 Ix_2 Ex_2 Bx_2 Iy_1 By_1
    clear hb
    go_wp2_with fail
    go_ret
    exact ⟨rfl, HL_4.out⟩
  | true =>
    obtain ⟨ld0, ld1, ld2, ld3, ld4⟩ := Bx_1.out
    have hx0 : w2.heap.size < w3.heap.size := Bx_1.out.lt
    go_wp2_with fail
    have hba0 := below_alloc w3 (.cells #[.int .i64 R.kind, .string R.name, .int .i64 R.n, .slice y0 R.scopes.length y1, .slice y2 R.kids.length y3] 27)
    have By : Hid (FormBox (w3.alloc (.cells #[.int .i64 R.kind, .string R.name, .int .i64 R.n, .slice y0 R.scopes.length y1, .slice y2 R.kids.length y3] 27)) w3.heap.size R y0 y1 y2 y3) := box_lit w3 R w3.heap.size y0 y2 y1 y3 27 (by simp)
    refine (implSame_law R R _ _ (w3.alloc (.cells #[.int .i64 R.kind, .string R.name, .int .i64 R.n, .slice y0 R.scopes.length y1, .slice y2 R.kids.length y3] 27)) (inv_up Ix_1.out hba0) (inv_up Iy.out hba0) HRC.out (EndlessAt.later Ex_1.out hba0) true (sameB_refl R)).mono ?_
    rintro e w4 ⟨rfl, hb0⟩
    have hb : Below w3.heap.size w3 w4 := hba0.trans (hb0.mono hba0.size)
    have hs4 : w3.heap.size + 1 ≤ w4.heap.size := by have h := hb0.size; simp at h; omega
    clear ld0 ld1 ld2 ld3 ld4 hx0
    have HL_3 := Lib.hid (HL_2.out.trans (hb.mono (by omega)))
    have If_3 := Lib.hid (inv_up If_2.out hb)
    have Bf_3 := Lib.hid (FormBox.later Bf_2.out hb)
    have Ix_2 := Lib.hid (inv_up Ix_1.out hb)
    have Ex_2 := Lib.hid (EndlessAt.later Ex_1.out hb)
    have Bx_2 := Lib.hid (FormBox.later Bx_1.out hb)
    have Iy_1 := Lib.hid (inv_up Iy.out hb)
    have By_1 := Lib.hid (FormBox.later By.out hb0)
    clear HL_2 If_2 Bf_2 Ix_1 Ex_1 Bx_1 Iy By
    clear hb0 hba0
    clear hb
    obtain ⟨h1, h2, h3⟩ := after_valid HOK.out HR.out
    have hszR : R.sz ≤ 1048576 := valid_sz h3
    have hag := add_again HOK.out
    rw [HR.out] at hag
    obtain ⟨L, hL⟩ : ∃ L, scopesOf R = L := ⟨_, rfl⟩
    obtain ⟨M, hM⟩ : ∃ M, scopesOf f = M := ⟨_, rfl⟩
    obtain ⟨Z, hZ⟩ : ∃ Z, f.chg (fun _ _ => []) = Z := ⟨_, rfl⟩
    have hst := strip_after 0 scope f HOK.out
    rw [HR.out, hZ] at hst
    obtain ⟨NL, hNL⟩ : ∃ NL, (namesF [] f.pre).length = NL := ⟨_, rfl⟩
    have HTH : Hid (NL ≠ 0 → withinB [scope] L = true) := fun hn => by
      rw [withinB_one, ← hL, ← HR.out]
      exact add_there HOK.out (names_some (by rw [hNL]; exact hn))
    have HKP : Hid (withinB M L = true) := by
      unfold Hid
      rw [withinB_iff, ← hL, ← hM, ← HR.out]
      exact fun x hx => add_keeps HOK.out hx
    have HLL : Hid (L.length ≤ 1000) := by have h4 := scopesOf_len R; rw [hL] at h4; unfold Hid; omega
    have HML : Hid (M.length ≤ 1000) := by have h4 := scopesOf_len f; rw [hM] at h4; unfold Hid; omega
    have HZC : Hid (Z.count ≤ 4294967296) := by have h2 := f.count_le; unfold Hid; rw [← hZ, chg_count]; omega
    have HAG := Lib.hid hag
    have HL0 := Lib.hid hL
    have HM0 := Lib.hid hM
    have HZ0 := Lib.hid hZ
    have HST := Lib.hid hst
    have HNL := Lib.hid hNL
    have HVF := Lib.hid h1
    have hsc1 : ∀ n ∈ [scope], 0 ≤ n ∧ n ≤ 100 := fun n hn => by obtain rfl := List.mem_singleton.1 hn; omega
    have HSC1 := Lib.hid hsc1
    clear h1 h2 h3 hag hL hM hZ hst hNL hsc1
    obtain ⟨ld0, ld1, ld2, ld3, ld4⟩ := Bx_2.out
    have hx0 : w2.heap.size < w4.heap.size := Bx_2.out.lt
    go_wp2_with fail
    refine (implAddScope_law R _ scope w4 Ix_2.out hszR hscb true R HAG.out.1 HAG.out.2).mono ?_
    rintro e w5 ⟨a0, a1, a2, a3, rfl, hin, hend, hb⟩
    have hs5 : w4.heap.size ≤ w5.heap.size := hb.size
    clear ld0 ld1 ld2 ld3 ld4 hx0
    have HL_4 := Lib.hid (HL_3.out.trans (hb.mono (by omega)))
    have If_4 := Lib.hid (inv_up If_3.out hb)
    have Bf_4 := Lib.hid (FormBox.later Bf_3.out hb)
    have Ix_3 := Lib.hid (inv_up Ix_2.out hb)
    have Ex_3 := Lib.hid (EndlessAt.later Ex_2.out hb)
    have Bx_3 := Lib.hid (FormBox.later Bx_2.out hb)
    have Iy_2 := Lib.hid (inv_up Iy_1.out hb)
    have By_2 := Lib.hid (FormBox.later By_1.out hb)
    clear HL_3 If_3 Bf_3 Ix_2 Ex_2 Bx_2 Iy_1 By_1
    clear hb
    have Ia : Hid (InV (· < w5.heap.size) w5 R (.agg #[.int .i64 R.kind, .string R.name, .int .i64 R.n, .slice a0 R.scopes.length a1, .slice a2 R.kids.length a3])) := InV.mono (fun k hk => hk.2) _ _ hin
    have Ea := Lib.hid hend
    clear hin hend
    obtain ⟨ld0, ld1, ld2, ld3, ld4⟩ := Bx_3.out
    have hx0 : w2.heap.size < w5.heap.size := Bx_3.out.lt
    go_wp2_with fail
    have hba0 := below_alloc w5 (.cells #[.int .i64 R.kind, .string R.name, .int .i64 R.n, .slice a0 R.scopes.length a1, .slice a2 R.kids.length a3] 27)
    have Ba : Hid (FormBox (w5.alloc (.cells #[.int .i64 R.kind, .string R.name, .int .i64 R.n, .slice a0 R.scopes.length a1, .slice a2 R.kids.length a3] 27)) w5.heap.size R a0 a1 a2 a3) := box_lit w5 R w5.heap.size a0 a2 a1 a3 27 (by simp)
    refine (implScopesOf_law R _ _ _ _ (w5.alloc (.cells #[.int .i64 R.kind, .string R.name, .int .i64 R.n, .slice a0 R.scopes.length a1, .slice a2 R.kids.length a3] 27)) (inv_up Ix_3.out hba0) hszR (EndlessAt.later Ex_3.out hba0) L HL0.out).mono ?_
    rintro e w6 ⟨pa, ca, rfl, hrow, hb0⟩
    have hb : Below w5.heap.size w5 w6 := hba0.trans (hb0.mono hba0.size)
    have hs6 : w5.heap.size + 1 ≤ w6.heap.size := by have h := hb0.size; simp at h; omega
    clear ld0 ld1 ld2 ld3 ld4 hx0
    have HL_5 := Lib.hid (HL_4.out.trans (hb.mono (by omega)))
    have If_5 := Lib.hid (inv_up If_4.out hb)
    have Bf_5 := Lib.hid (FormBox.later Bf_4.out hb)
    have Ix_4 := Lib.hid (inv_up Ix_3.out hb)
    have Ex_4 := Lib.hid (EndlessAt.later Ex_3.out hb)
    have Bx_4 := Lib.hid (FormBox.later Bx_3.out hb)
    have Iy_3 := Lib.hid (inv_up Iy_2.out hb)
    have By_3 := Lib.hid (FormBox.later By_2.out hb)
    have Ia_1 := Lib.hid (inv_up Ia.out hb)
    have Ea_1 := Lib.hid (EndlessAt.later Ea.out hb)
    have Ba_1 := Lib.hid (FormBox.later Ba.out hb0)
    clear HL_4 If_4 Bf_4 Ix_3 Ex_3 Bx_3 Iy_2 By_2 Ia Ea Ba
    clear hb0 hba0
    clear hb
    have RL := Lib.hid hrow
    clear hrow
    by_cases hNL0 : NL = 0
    · subst hNL0
      obtain ⟨ld0, ld1, ld2, ld3, ld4⟩ := Ba_1.out
      have hx0 : w5.heap.size < w6.heap.size := Ba_1.out.lt
      obtain ⟨ld5, ld6, ld7, ld8, ld9⟩ := Bx_4.out
      have hx1 : w2.heap.size < w6.heap.size := Bx_4.out.lt
      obtain ⟨ld10, ld11, ld12, ld13, ld14⟩ := Bf_5.out
      have hx2 : w1.heap.size < w6.heap.size := Bf_5.out.lt
      go_wp2_with fail
      clear ld0 ld1 ld2 ld3 ld4 ld5 ld6 ld7 ld8 ld9 ld10 ld11 ld12 ld13 ld14 hx0 hx1 hx2
      refine upto_begin (fun WS : World => FormBox WS w5.heap.size R a0 a1 a2 a3 ∧ FormBox WS w2.heap.size R x0 x1 x2 x3 ∧ FormBox WS w1.heap.size f f0 f1 f2 f3) 32 (by kernel_rfl) ?_
      refine gen_upto (fun w7 hu => ?_)
      have hb0 : Below w6.heap.size w6 w7 := by rw [hu]; exact (Below.refl _ _).drew
      have hb := hb0
      have hs7 : w6.heap.size ≤ w7.heap.size := hb.size
      have HL_6 := Lib.hid (HL_5.out.trans (hb.mono (by omega)))
      have If_6 := Lib.hid (inv_up If_5.out hb)
      have Bf_6 := Lib.hid (FormBox.later Bf_5.out hb)
      have Ix_5 := Lib.hid (inv_up Ix_4.out hb)
      have Ex_5 := Lib.hid (EndlessAt.later Ex_4.out hb)
      have Bx_5 := Lib.hid (FormBox.later Bx_4.out hb)
      have Iy_4 := Lib.hid (inv_up Iy_3.out hb)
      have By_4 := Lib.hid (FormBox.later By_3.out hb)
      have Ia_2 := Lib.hid (inv_up Ia_1.out hb)
      have Ea_2 := Lib.hid (EndlessAt.later Ea_1.out hb)
      have Ba_2 := Lib.hid (FormBox.later Ba_1.out hb)
      have RL_1 := Lib.hid (irow_up RL.out hb)
      clear HL_5 If_5 Bf_5 Ix_4 Ex_4 Bx_4 Iy_3 By_3 Ia_1 Ea_1 Ba_1 RL
      clear hu hb hb0 
      have hS1 : (fun WS : World => FormBox WS w5.heap.size R a0 a1 a2 a3 ∧ FormBox WS w2.heap.size R x0 x1 x2 x3 ∧ FormBox WS w1.heap.size f f0 f1 f2 f3) w7 := ⟨Ba_2.out, Bx_5.out, Bf_6.out⟩
      refine upto_take (i := 0) (d := some 61) (v := ?_) rfl rfl (by kernel_rfl) (by kernel_rfl) (by kernel_rfl) (by kernel_rfl) (fun _ _ _ h => h) (Or.inl ⟨by rfl, ?_⟩) hS1 ?_
      rotate_left
      · (intro wS hSw; obtain ⟨⟨_, _, _, _, _⟩, ⟨_, _, _, _, _⟩, ⟨_, _, _, _, _⟩⟩ := hSw; go_simp; try with_reducible rfl)
      try simp only [Act.put, List.setIfInBounds_toArray, List.set_cons_zero, List.set_cons_succ]
      refine upto_take (i := 1) (d := some 62) (v := ?_) rfl rfl (by kernel_rfl) (by kernel_rfl) (by kernel_rfl) (by kernel_rfl) (fun _ _ _ h => h) (Or.inl ⟨by rfl, ?_⟩) hS1 ?_
      rotate_left
      · (intro wS hSw; obtain ⟨⟨_, _, _, _, _⟩, ⟨_, _, _, _, _⟩, ⟨_, _, _, _, _⟩⟩ := hSw; go_simp; try with_reducible rfl)
      try simp only [Act.put, List.setIfInBounds_toArray, List.set_cons_zero, List.set_cons_succ]
      refine upto_take (i := 2) (d := some 63) (v := ?_) rfl rfl (by kernel_rfl) (by kernel_rfl) (by kernel_rfl) (by kernel_rfl) (fun _ _ _ h => h) (Or.inl ⟨by rfl, ?_⟩) hS1 ?_
      rotate_left
      · (intro wS hSw; obtain ⟨⟨_, _, _, _, _⟩, ⟨_, _, _, _, _⟩, ⟨_, _, _, _, _⟩⟩ := hSw; go_simp; try with_reducible rfl)
      try simp only [Act.put, List.setIfInBounds_toArray, List.set_cons_zero, List.set_cons_succ]
      refine upto_take (i := 3) (d := some 64) (v := ?_) rfl rfl (by kernel_rfl) (by kernel_rfl) (by kernel_rfl) (by kernel_rfl) (fun _ _ _ h => h) (Or.inl ⟨by rfl, ?_⟩) hS1 ?_
      rotate_left
      · (intro wS hSw; obtain ⟨⟨_, _, _, _, _⟩, ⟨_, _, _, _, _⟩, ⟨_, _, _, _, _⟩⟩ := hSw; go_simp; try with_reducible rfl)
      try simp only [Act.put, List.setIfInBounds_toArray, List.set_cons_zero, List.set_cons_succ]
      refine upto_one (i := 4) (by kernel_rfl) rfl (fun K hK => ?_)
      go_simp
      refine (implSame_law R R _ _ w7 Ia_2.out Ix_5.out HRC.out Ea_2.out true (sameB_refl R)).mono ?_
      rintro e w8 ⟨rfl, hb⟩
      have hs8 : w7.heap.size ≤ w8.heap.size := hb.size
      clear hS1
      have HL_7 := Lib.hid (HL_6.out.trans (hb.mono (by omega)))
      have If_7 := Lib.hid (inv_up If_6.out hb)
      have Bf_7 := Lib.hid (FormBox.later Bf_6.out hb)
      have Ix_6 := Lib.hid (inv_up Ix_5.out hb)
      have Ex_6 := Lib.hid (EndlessAt.later Ex_5.out hb)
      have Bx_6 := Lib.hid (FormBox.later Bx_5.out hb)
      have Iy_5 := Lib.hid (inv_up Iy_4.out hb)
      have By_5 := Lib.hid (FormBox.later By_4.out hb)
      have Ia_3 := Lib.hid (inv_up Ia_2.out hb)
      have Ea_3 := Lib.hid (EndlessAt.later Ea_2.out hb)
      have Ba_3 := Lib.hid (FormBox.later Ba_2.out hb)
      have RL_2 := Lib.hid (irow_up RL_1.out hb)
      clear HL_6 If_6 Bf_6 Ix_5 Ex_5 Bx_5 Iy_4 By_4 Ia_2 Ea_2 Ba_2 RL_1
      have hS2 : (fun WS : World => FormBox WS w5.heap.size R a0 a1 a2 a3 ∧ FormBox WS w2.heap.size R x0 x1 x2 x3 ∧ FormBox WS w1.heap.size f f0 f1 f2 f3) w8 := ⟨Ba_3.out, Bx_6.out, Bf_7.out⟩
      refine hK.out _ _ (.inr hS2) ?_
      clear hK K hb
      refine upto_take (i := 5) (d := some 66) (v := ?_) rfl rfl (by kernel_rfl) (by kernel_rfl) (by kernel_rfl) (by kernel_rfl) (fun _ _ _ h => h) (Or.inl ⟨by rfl, ?_⟩) hS2 ?_
      rotate_left
      · (intro wS hSw; obtain ⟨⟨_, _, _, _, _⟩, ⟨_, _, _, _, _⟩, ⟨_, _, _, _, _⟩⟩ := hSw; go_simp; try with_reducible rfl)
      try simp only [Act.put, List.setIfInBounds_toArray, List.set_cons_zero, List.set_cons_succ]
      refine upto_take (i := 6) (d := some 67) (v := ?_) rfl rfl (by kernel_rfl) (by kernel_rfl) (by kernel_rfl) (by kernel_rfl) (fun _ _ _ h => h) (Or.inl ⟨by rfl, ?_⟩) hS2 ?_
      rotate_left
      · (intro wS hSw; obtain ⟨⟨_, _, _, _, _⟩, ⟨_, _, _, _, _⟩, ⟨_, _, _, _, _⟩⟩ := hSw; go_simp; try with_reducible rfl)
      try simp only [Act.put, List.setIfInBounds_toArray, List.set_cons_zero, List.set_cons_succ]
      refine upto_take (i := 7) (d := some 68) (v := ?_) rfl rfl (by kernel_rfl) (by kernel_rfl) (by kernel_rfl) (by kernel_rfl) (fun _ _ _ h => h) (Or.inl ⟨by rfl, ?_⟩) hS2 ?_
      rotate_left
      · (intro wS hSw; obtain ⟨⟨_, _, _, _, _⟩, ⟨_, _, _, _, _⟩, ⟨_, _, _, _, _⟩⟩ := hSw; go_simp; try with_reducible rfl)
      try simp only [Act.put, List.setIfInBounds_toArray, List.set_cons_zero, List.set_cons_succ]
      refine upto_take (i := 9) (d := some 70) (v := ?_) rfl rfl (by kernel_rfl) (by kernel_rfl) (by kernel_rfl) (by kernel_rfl) (fun _ _ _ h => h) (Or.inl ⟨by rfl, ?_⟩) hS2 ?_
      rotate_left
      · (intro wS hSw; obtain ⟨⟨_, _, _, _, _⟩, ⟨_, _, _, _, _⟩, ⟨_, _, _, _, _⟩⟩ := hSw; go_simp; try with_reducible rfl)
      try simp only [Act.put, List.setIfInBounds_toArray, List.set_cons_zero, List.set_cons_succ]
      refine upto_one (i := 8) (by kernel_rfl) rfl (fun K hK => ?_)
      go_simp
      refine (implStrip_law R _ w8 Ix_6.out hszR Ex_6.out Z HST.out).mono ?_
      rintro e w9 ⟨za, zb, zc, zd, rfl, hin, hend, hb⟩
      have hs9 : w8.heap.size ≤ w9.heap.size := hb.size
      clear hS2
      have HL_8 := Lib.hid (HL_7.out.trans (hb.mono (by omega)))
      have If_8 := Lib.hid (inv_up If_7.out hb)
      have Bf_8 := Lib.hid (FormBox.later Bf_7.out hb)
      have Ix_7 := Lib.hid (inv_up Ix_6.out hb)
      have Ex_7 := Lib.hid (EndlessAt.later Ex_6.out hb)
      have Bx_7 := Lib.hid (FormBox.later Bx_6.out hb)
      have Iy_6 := Lib.hid (inv_up Iy_5.out hb)
      have By_6 := Lib.hid (FormBox.later By_5.out hb)
      have Ia_4 := Lib.hid (inv_up Ia_3.out hb)
      have Ea_4 := Lib.hid (EndlessAt.later Ea_3.out hb)
      have Ba_4 := Lib.hid (FormBox.later Ba_3.out hb)
      have RL_3 := Lib.hid (irow_up RL_2.out hb)
      clear HL_7 If_7 Bf_7 Ix_6 Ex_6 Bx_6 Iy_5 By_5 Ia_3 Ea_3 Ba_3 RL_2
      have hS3 : (fun WS : World => FormBox WS w5.heap.size R a0 a1 a2 a3 ∧ FormBox WS w2.heap.size R x0 x1 x2 x3 ∧ FormBox WS w1.heap.size f f0 f1 f2 f3) w9 := ⟨Ba_4.out, Bx_7.out, Bf_8.out⟩
      have IZ := Lib.hid (InV.mono (ψ := (· < w9.heap.size)) (fun k hk => hk.2) _ _ hin)
      have EZ := Lib.hid hend
      clear hin hend
      refine hK.out _ _ (.inr hS3) ?_
      clear hK K hb
      refine upto_one (i := 10) (by kernel_rfl) rfl (fun K hK => ?_)
      go_simp
      refine (implStrip_law f _ w9 If_8.out hszf (valid_end HVF.out If_8.out) Z HZ0.out).mono ?_
      rintro e w10 ⟨ya, yb, yc, yd, rfl, hin, hend, hb⟩
      have hs10 : w9.heap.size ≤ w10.heap.size := hb.size
      clear hS3
      have HL_9 := Lib.hid (HL_8.out.trans (hb.mono (by omega)))
      have If_9 := Lib.hid (inv_up If_8.out hb)
      have Bf_9 := Lib.hid (FormBox.later Bf_8.out hb)
      have Ix_8 := Lib.hid (inv_up Ix_7.out hb)
      have Ex_8 := Lib.hid (EndlessAt.later Ex_7.out hb)
      have Bx_8 := Lib.hid (FormBox.later Bx_7.out hb)
      have Iy_7 := Lib.hid (inv_up Iy_6.out hb)
      have By_7 := Lib.hid (FormBox.later By_6.out hb)
      have Ia_5 := Lib.hid (inv_up Ia_4.out hb)
      have Ea_5 := Lib.hid (EndlessAt.later Ea_4.out hb)
      have Ba_5 := Lib.hid (FormBox.later Ba_4.out hb)
      have RL_4 := Lib.hid (irow_up RL_3.out hb)
      have IZ_1 := Lib.hid (inv_up IZ.out hb)
      have EZ_1 := Lib.hid (EndlessAt.later EZ.out hb)
      clear HL_8 If_8 Bf_8 Ix_7 Ex_7 Bx_7 Iy_6 By_6 Ia_4 Ea_4 Ba_4 RL_3 IZ EZ
      have hS4 : (fun WS : World => FormBox WS w5.heap.size R a0 a1 a2 a3 ∧ FormBox WS w2.heap.size R x0 x1 x2 x3 ∧ FormBox WS w1.heap.size f f0 f1 f2 f3) w10 := ⟨Ba_5.out, Bx_8.out, Bf_9.out⟩
      have IY := Lib.hid (InV.mono (ψ := (· < w10.heap.size)) (fun k hk => hk.2) _ _ hin)
      clear hin hend
      refine hK.out _ _ (.inr hS4) ?_
      clear hK K hb
      refine upto_one (i := 11) (by kernel_rfl) rfl (fun K hK => ?_)
      go_simp
      refine (implSame_law Z Z _ _ w10 IZ_1.out IY.out HZC.out EZ_1.out true (sameB_refl Z)).mono ?_
      rintro e w11 ⟨rfl, hb⟩
      have hs11 : w10.heap.size ≤ w11.heap.size := hb.size
      clear hS4
      have HL_10 := Lib.hid (HL_9.out.trans (hb.mono (by omega)))
      have If_10 := Lib.hid (inv_up If_9.out hb)
      have Bf_10 := Lib.hid (FormBox.later Bf_9.out hb)
      have Ix_9 := Lib.hid (inv_up Ix_8.out hb)
      have Ex_9 := Lib.hid (EndlessAt.later Ex_8.out hb)
      have Bx_9 := Lib.hid (FormBox.later Bx_8.out hb)
      have Iy_8 := Lib.hid (inv_up Iy_7.out hb)
      have By_8 := Lib.hid (FormBox.later By_7.out hb)
      have Ia_6 := Lib.hid (inv_up Ia_5.out hb)
      have Ea_6 := Lib.hid (EndlessAt.later Ea_5.out hb)
      have Ba_6 := Lib.hid (FormBox.later Ba_5.out hb)
      have RL_5 := Lib.hid (irow_up RL_4.out hb)
      have IZ_2 := Lib.hid (inv_up IZ_1.out hb)
      have EZ_2 := Lib.hid (EndlessAt.later EZ_1.out hb)
      have IY_1 := Lib.hid (inv_up IY.out hb)
      clear HL_9 If_9 Bf_9 Ix_8 Ex_8 Bx_8 Iy_7 By_7 Ia_5 Ea_5 Ba_5 RL_4 IZ_1 EZ_1 IY
      have hS5 : (fun WS : World => FormBox WS w5.heap.size R a0 a1 a2 a3 ∧ FormBox WS w2.heap.size R x0 x1 x2 x3 ∧ FormBox WS w1.heap.size f f0 f1 f2 f3) w11 := ⟨Ba_6.out, Bx_9.out, Bf_10.out⟩
      refine hK.out _ _ (.inr hS5) ?_
      clear hK K hb
      refine upto_take (i := 12) (d := some 73) (v := ?_) rfl rfl (by kernel_rfl) (by kernel_rfl) (by kernel_rfl) (by kernel_rfl) (fun _ _ _ h => h) (Or.inl ⟨by rfl, ?_⟩) hS5 ?_
      rotate_left
      · (intro wS hSw; obtain ⟨⟨_, _, _, _, _⟩, ⟨_, _, _, _, _⟩, ⟨_, _, _, _, _⟩⟩ := hSw; go_simp; try with_reducible rfl)
      try simp only [Act.put, List.setIfInBounds_toArray, List.set_cons_zero, List.set_cons_succ]
      refine upto_take (i := 13) (d := some 74) (v := ?_) rfl rfl (by kernel_rfl) (by kernel_rfl) (by kernel_rfl) (by kernel_rfl) (fun _ _ _ h => h) (Or.inl ⟨by rfl, ?_⟩) hS5 ?_
      rotate_left
      · (intro wS hSw; obtain ⟨⟨_, _, _, _, _⟩, ⟨_, _, _, _, _⟩, ⟨_, _, _, _, _⟩⟩ := hSw; go_simp; try with_reducible rfl)
      try simp only [Act.put, List.setIfInBounds_toArray, List.set_cons_zero, List.set_cons_succ]
      refine upto_take (i := 14) (d := some 75) (v := ?_) rfl rfl (by kernel_rfl) (by kernel_rfl) (by kernel_rfl) (by kernel_rfl) (fun _ _ _ h => h) (Or.inl ⟨by rfl, ?_⟩) hS5 ?_
      rotate_left
      · (intro wS hSw; obtain ⟨⟨_, _, _, _, _⟩, ⟨_, _, _, _, _⟩, ⟨_, _, _, _, _⟩⟩ := hSw; go_simp; try with_reducible rfl)
      try simp only [Act.put, List.setIfInBounds_toArray, List.set_cons_zero, List.set_cons_succ]
      refine upto_one (i := 15) (by kernel_rfl) rfl (fun K hK => ?_)
      go_simp
      refine (implNamesOf_len f _ _ _ _ w11 If_10.out hszf (valid_end HVF.out If_10.out) 0 HNL.out).mono ?_
      rintro e w12 ⟨na, nc, rfl, hb⟩
      have hs12 : w11.heap.size ≤ w12.heap.size := hb.size
      clear hS5
      have HL_11 := Lib.hid (HL_10.out.trans (hb.mono (by omega)))
      have If_11 := Lib.hid (inv_up If_10.out hb)
      have Bf_11 := Lib.hid (FormBox.later Bf_10.out hb)
      have Ix_10 := Lib.hid (inv_up Ix_9.out hb)
      have Ex_10 := Lib.hid (EndlessAt.later Ex_9.out hb)
      have Bx_10 := Lib.hid (FormBox.later Bx_9.out hb)
      have Iy_9 := Lib.hid (inv_up Iy_8.out hb)
      have By_9 := Lib.hid (FormBox.later By_8.out hb)
      have Ia_7 := Lib.hid (inv_up Ia_6.out hb)
      have Ea_7 := Lib.hid (EndlessAt.later Ea_6.out hb)
      have Ba_7 := Lib.hid (FormBox.later Ba_6.out hb)
      have RL_6 := Lib.hid (irow_up RL_5.out hb)
      have IZ_3 := Lib.hid (inv_up IZ_2.out hb)
      have EZ_3 := Lib.hid (EndlessAt.later EZ_2.out hb)
      have IY_2 := Lib.hid (inv_up IY_1.out hb)
      clear HL_10 If_10 Bf_10 Ix_9 Ex_9 Bx_9 Iy_8 By_8 Ia_6 Ea_6 Ba_6 RL_5 IZ_2 EZ_2 IY_1
      have hS6 : (fun WS : World => FormBox WS w5.heap.size R a0 a1 a2 a3 ∧ FormBox WS w2.heap.size R x0 x1 x2 x3 ∧ FormBox WS w1.heap.size f f0 f1 f2 f3) w12 := ⟨Ba_7.out, Bx_10.out, Bf_11.out⟩
      refine hK.out _ _ (.inr hS6) ?_
      clear hK K hb
      refine upto_take (i := 16) (d := some 77) (v := ?_) rfl rfl (by kernel_rfl) (by kernel_rfl) (by kernel_rfl) (by kernel_rfl) (fun _ _ _ h => h) (Or.inl ⟨by rfl, ?_⟩) hS6 ?_
      rotate_left
      · (intro wS hSw; obtain ⟨⟨_, _, _, _, _⟩, ⟨_, _, _, _, _⟩, ⟨_, _, _, _, _⟩⟩ := hSw; go_simp; try with_reducible rfl)
      try simp only [Act.put, List.setIfInBounds_toArray, List.set_cons_zero, List.set_cons_succ]
      refine upto_take (i := 17) (d := some 78) (v := ?_) rfl rfl (by kernel_rfl) (by kernel_rfl) (by kernel_rfl) (by kernel_rfl) (fun _ _ _ h => h) (Or.inl ⟨by rfl, ?_⟩) hS6 ?_
      rotate_left
      · (intro wS hSw; obtain ⟨⟨_, _, _, _, _⟩, ⟨_, _, _, _, _⟩, ⟨_, _, _, _, _⟩⟩ := hSw; go_simp; try with_reducible rfl)
      try simp only [Act.put, List.setIfInBounds_toArray, List.set_cons_zero, List.set_cons_succ]
      refine upto_take (i := 18) (d := some 79) (v := ?_) rfl rfl (by kernel_rfl) (by kernel_rfl) (by kernel_rfl) (by kernel_rfl) (fun _ _ _ h => h) (Or.inl ⟨by rfl, ?_⟩) hS6 ?_
      rotate_left
      · (intro wS hSw; obtain ⟨⟨_, _, _, _, _⟩, ⟨_, _, _, _, _⟩, ⟨_, _, _, _, _⟩⟩ := hSw; go_simp; try with_reducible rfl)
      try simp only [Act.put, List.setIfInBounds_toArray, List.set_cons_zero, List.set_cons_succ]
      refine upto_take (i := 19) (d := some 80) (v := undef) rfl rfl (by kernel_rfl) (by kernel_rfl) (by kernel_rfl) (by kernel_rfl) (fun _ _ _ h => h) (Or.inr ⟨by rfl, rfl⟩) hS6 ?_
      try simp only [Act.put, List.setIfInBounds_toArray, List.set_cons_zero, List.set_cons_succ]
      refine upto_take (i := 21) (d := some 82) (v := undef) rfl rfl (by kernel_rfl) (by kernel_rfl) (by kernel_rfl) (by kernel_rfl) (fun _ _ _ h => h) (Or.inr ⟨by rfl, rfl⟩) hS6 ?_
      try simp only [Act.put, List.setIfInBounds_toArray, List.set_cons_zero, List.set_cons_succ]
      refine upto_take (i := 20) (d := some 81) (v := undef) rfl rfl (by kernel_rfl) (by kernel_rfl) (by kernel_rfl) (by kernel_rfl) (fun _ _ _ h => h) (Or.inr ⟨by rfl, rfl⟩) hS6 ?_
      try simp only [Act.put, List.setIfInBounds_toArray, List.set_cons_zero, List.set_cons_succ]
      refine upto_take (i := 22) (d := some 83) (v := undef) rfl rfl (by kernel_rfl) (by kernel_rfl) (by kernel_rfl) (by kernel_rfl) (fun _ _ _ h => h) (Or.inr ⟨by rfl, rfl⟩) hS6 ?_
      try simp only [Act.put, List.setIfInBounds_toArray, List.set_cons_zero, List.set_cons_succ]
      refine upto_take (i := 23) (d := some 84) (v := ?_) rfl rfl (by kernel_rfl) (by kernel_rfl) (by kernel_rfl) (by kernel_rfl) (fun _ _ _ h => h) (Or.inl ⟨by rfl, ?_⟩) hS6 ?_
      rotate_left
      · (intro wS hSw; obtain ⟨⟨_, _, _, _, _⟩, ⟨_, _, _, _, _⟩, ⟨_, _, _, _, _⟩⟩ := hSw; go_simp; try with_reducible rfl)
      try simp only [Act.put, List.setIfInBounds_toArray, List.set_cons_zero, List.set_cons_succ]
      refine upto_take (i := 24) (d := some 85) (v := ?_) rfl rfl (by kernel_rfl) (by kernel_rfl) (by kernel_rfl) (by kernel_rfl) (fun _ _ _ h => h) (Or.inl ⟨by rfl, ?_⟩) hS6 ?_
      rotate_left
      · (intro wS hSw; obtain ⟨⟨_, _, _, _, _⟩, ⟨_, _, _, _, _⟩, ⟨_, _, _, _, _⟩⟩ := hSw; go_simp; try with_reducible rfl)
      try simp only [Act.put, List.setIfInBounds_toArray, List.set_cons_zero, List.set_cons_succ]
      refine upto_take (i := 25) (d := some 86) (v := ?_) rfl rfl (by kernel_rfl) (by kernel_rfl) (by kernel_rfl) (by kernel_rfl) (fun _ _ _ h => h) (Or.inl ⟨by rfl, ?_⟩) hS6 ?_
      rotate_left
      · (intro wS hSw; obtain ⟨⟨_, _, _, _, _⟩, ⟨_, _, _, _, _⟩, ⟨_, _, _, _, _⟩⟩ := hSw; go_simp; try with_reducible rfl)
      try simp only [Act.put, List.setIfInBounds_toArray, List.set_cons_zero, List.set_cons_succ]
      refine upto_take (i := 26) (d := some 87) (v := ?_) rfl rfl (by kernel_rfl) (by kernel_rfl) (by kernel_rfl) (by kernel_rfl) (fun _ _ _ h => h) (Or.inl ⟨by rfl, ?_⟩) hS6 ?_
      rotate_left
      · (intro wS hSw; obtain ⟨⟨_, _, _, _, _⟩, ⟨_, _, _, _, _⟩, ⟨_, _, _, _, _⟩⟩ := hSw; go_simp; try with_reducible rfl)
      try simp only [Act.put, List.setIfInBounds_toArray, List.set_cons_zero, List.set_cons_succ]
      refine upto_take (i := 28) (d := some 89) (v := ?_) rfl rfl (by kernel_rfl) (by kernel_rfl) (by kernel_rfl) (by kernel_rfl) (fun _ _ _ h => h) (Or.inl ⟨by rfl, ?_⟩) hS6 ?_
      rotate_left
      · (intro wS hSw; obtain ⟨⟨_, _, _, _, _⟩, ⟨_, _, _, _, _⟩, ⟨_, _, _, _, _⟩⟩ := hSw; go_simp; try with_reducible rfl)
      try simp only [Act.put, List.setIfInBounds_toArray, List.set_cons_zero, List.set_cons_succ]
      refine upto_one (i := 27) (by kernel_rfl) rfl (fun K hK => ?_)
      go_simp
      refine (implScopesOf_law f _ _ _ _ w12 If_11.out hszf (valid_end HVF.out If_11.out) M HM0.out).mono ?_
      rintro e w13 ⟨ma, mc, rfl, hrow, hb⟩
      have hs13 : w12.heap.size ≤ w13.heap.size := hb.size
      clear hS6
      have HL_12 := Lib.hid (HL_11.out.trans (hb.mono (by omega)))
      have If_12 := Lib.hid (inv_up If_11.out hb)
      have Bf_12 := Lib.hid (FormBox.later Bf_11.out hb)
      have Ix_11 := Lib.hid (inv_up Ix_10.out hb)
      have Ex_11 := Lib.hid (EndlessAt.later Ex_10.out hb)
      have Bx_11 := Lib.hid (FormBox.later Bx_10.out hb)
      have Iy_10 := Lib.hid (inv_up Iy_9.out hb)
      have By_10 := Lib.hid (FormBox.later By_9.out hb)
      have Ia_8 := Lib.hid (inv_up Ia_7.out hb)
      have Ea_8 := Lib.hid (EndlessAt.later Ea_7.out hb)
      have Ba_8 := Lib.hid (FormBox.later Ba_7.out hb)
      have RL_7 := Lib.hid (irow_up RL_6.out hb)
      have IZ_4 := Lib.hid (inv_up IZ_3.out hb)
      have EZ_4 := Lib.hid (EndlessAt.later EZ_3.out hb)
      have IY_3 := Lib.hid (inv_up IY_2.out hb)
      clear HL_11 If_11 Bf_11 Ix_10 Ex_10 Bx_10 Iy_9 By_9 Ia_7 Ea_7 Ba_7 RL_6 IZ_3 EZ_3 IY_2
      have hS7 : (fun WS : World => FormBox WS w5.heap.size R a0 a1 a2 a3 ∧ FormBox WS w2.heap.size R x0 x1 x2 x3 ∧ FormBox WS w1.heap.size f f0 f1 f2 f3) w13 := ⟨Ba_8.out, Bx_11.out, Bf_12.out⟩
      have RM := Lib.hid hrow
      clear hrow
      refine hK.out _ _ (.inr hS7) ?_
      clear hK K hb
      refine upto_one (i := 29) (by kernel_rfl) rfl (fun K hK => ?_)
      go_simp
      refine (implWithin_law M L _ _ _ _ w13 RM.out RL_7.out HML.out HLL.out true HKP.out).mono ?_
      rintro e w14 ⟨rfl, hb⟩
      have hs14 : w13.heap.size ≤ w14.heap.size := hb.size
      clear hS7
      have HL_13 := Lib.hid (HL_12.out.trans (hb.mono (by omega)))
      have If_13 := Lib.hid (inv_up If_12.out hb)
      have Bf_13 := Lib.hid (FormBox.later Bf_12.out hb)
      have Ix_12 := Lib.hid (inv_up Ix_11.out hb)
      have Ex_12 := Lib.hid (EndlessAt.later Ex_11.out hb)
      have Bx_12 := Lib.hid (FormBox.later Bx_11.out hb)
      have Iy_11 := Lib.hid (inv_up Iy_10.out hb)
      have By_11 := Lib.hid (FormBox.later By_10.out hb)
      have Ia_9 := Lib.hid (inv_up Ia_8.out hb)
      have Ea_9 := Lib.hid (EndlessAt.later Ea_8.out hb)
      have Ba_9 := Lib.hid (FormBox.later Ba_8.out hb)
      have RL_8 := Lib.hid (irow_up RL_7.out hb)
      have IZ_5 := Lib.hid (inv_up IZ_4.out hb)
      have EZ_5 := Lib.hid (EndlessAt.later EZ_4.out hb)
      have IY_4 := Lib.hid (inv_up IY_3.out hb)
      have RM_1 := Lib.hid (irow_up RM.out hb)
      clear HL_12 If_12 Bf_12 Ix_11 Ex_11 Bx_11 Iy_10 By_10 Ia_8 Ea_8 Ba_8 RL_7 IZ_4 EZ_4 IY_3 RM
      have hS8 : (fun WS : World => FormBox WS w5.heap.size R a0 a1 a2 a3 ∧ FormBox WS w2.heap.size R x0 x1 x2 x3 ∧ FormBox WS w1.heap.size f f0 f1 f2 f3) w14 := ⟨Ba_9.out, Bx_12.out, Bf_13.out⟩
      refine hK.out _ _ (.inr hS8) ?_
      clear hK K hb
      refine upto_take (i := 30) (d := some 91) (v := ?_) rfl rfl (by kernel_rfl) (by kernel_rfl) (by kernel_rfl) (by kernel_rfl) (fun _ _ _ h => h) (Or.inl ⟨by rfl, ?_⟩) hS8 ?_
      rotate_left
      · (intro wS hSw; obtain ⟨⟨_, _, _, _, _⟩, ⟨_, _, _, _, _⟩, ⟨_, _, _, _, _⟩⟩ := hSw; go_simp; try with_reducible rfl)
      try simp only [Act.put, List.setIfInBounds_toArray, List.set_cons_zero, List.set_cons_succ]
      refine upto_take (i := 31) (d := some 2) (v := ?_) rfl rfl (by kernel_rfl) (by kernel_rfl) (by kernel_rfl) (by kernel_rfl) (fun _ _ _ h => h) (Or.inl ⟨by rfl, ?_⟩) hS8 ?_
      rotate_left
      · (intro wS hSw; obtain ⟨⟨_, _, _, _, _⟩, ⟨_, _, _, _, _⟩, ⟨_, _, _, _, _⟩⟩ := hSw; go_simp; try with_reducible rfl)
      try simp only [Act.put, List.setIfInBounds_toArray, List.set_cons_zero, List.set_cons_succ]
      clear hS8
      refine upto_done (by kernel_rfl) ?_ _
      go_wp2_with fail
      go_ret
      exact ⟨rfl, HL_13.out⟩
    · have hNLb : ((NL : Int) == 0) = false := by rw [beq_eq_false_iff_ne]; omega
      have hNLn : NL ≠ 0 := hNL0
      clear hNL0
      obtain ⟨ld0, ld1, ld2, ld3, ld4⟩ := Ba_1.out
      have hx0 : w5.heap.size < w6.heap.size := Ba_1.out.lt
      obtain ⟨ld5, ld6, ld7, ld8, ld9⟩ := Bx_4.out
      have hx1 : w2.heap.size < w6.heap.size := Bx_4.out.lt
      obtain ⟨ld10, ld11, ld12, ld13, ld14⟩ := Bf_5.out
      have hx2 : w1.heap.size < w6.heap.size := Bf_5.out.lt
      go_wp2_with fail
      clear ld0 ld1 ld2 ld3 ld4 ld5 ld6 ld7 ld8 ld9 ld10 ld11 ld12 ld13 ld14 hx0 hx1 hx2
      refine upto_begin (fun WS : World => FormBox WS w5.heap.size R a0 a1 a2 a3 ∧ FormBox WS w2.heap.size R x0 x1 x2 x3 ∧ FormBox WS w1.heap.size f f0 f1 f2 f3) 32 (by kernel_rfl) ?_
      refine gen_upto (fun w7 hu => ?_)
      have hb0 : Below w6.heap.size w6 w7 := by rw [hu]; exact (Below.refl _ _).drew
      have hb := hb0
      have hs7 : w6.heap.size ≤ w7.heap.size := hb.size
      have HL_6 := Lib.hid (HL_5.out.trans (hb.mono (by omega)))
      have If_6 := Lib.hid (inv_up If_5.out hb)
      have Bf_6 := Lib.hid (FormBox.later Bf_5.out hb)
      have Ix_5 := Lib.hid (inv_up Ix_4.out hb)
      have Ex_5 := Lib.hid (EndlessAt.later Ex_4.out hb)
      have Bx_5 := Lib.hid (FormBox.later Bx_4.out hb)
      have Iy_4 := Lib.hid (inv_up Iy_3.out hb)
      have By_4 := Lib.hid (FormBox.later By_3.out hb)
      have Ia_2 := Lib.hid (inv_up Ia_1.out hb)
      have Ea_2 := Lib.hid (EndlessAt.later Ea_1.out hb)
      have Ba_2 := Lib.hid (FormBox.later Ba_1.out hb)
      have RL_1 := Lib.hid (irow_up RL.out hb)
      clear HL_5 If_5 Bf_5 Ix_4 Ex_4 Bx_4 Iy_3 By_3 Ia_1 Ea_1 Ba_1 RL
      clear hu hb hb0 
      have hS1 : (fun WS : World => FormBox WS w5.heap.size R a0 a1 a2 a3 ∧ FormBox WS w2.heap.size R x0 x1 x2 x3 ∧ FormBox WS w1.heap.size f f0 f1 f2 f3) w7 := ⟨Ba_2.out, Bx_5.out, Bf_6.out⟩
      refine upto_take (i := 0) (d := some 61) (v := ?_) rfl rfl (by kernel_rfl) (by kernel_rfl) (by kernel_rfl) (by kernel_rfl) (fun _ _ _ h => h) (Or.inl ⟨by rfl, ?_⟩) hS1 ?_
      rotate_left
      · (intro wS hSw; obtain ⟨⟨_, _, _, _, _⟩, ⟨_, _, _, _, _⟩, ⟨_, _, _, _, _⟩⟩ := hSw; go_simp; try with_reducible rfl)
      try simp only [Act.put, List.setIfInBounds_toArray, List.set_cons_zero, List.set_cons_succ]
      refine upto_take (i := 1) (d := some 62) (v := ?_) rfl rfl (by kernel_rfl) (by kernel_rfl) (by kernel_rfl) (by kernel_rfl) (fun _ _ _ h => h) (Or.inl ⟨by rfl, ?_⟩) hS1 ?_
      rotate_left
      · (intro wS hSw; obtain ⟨⟨_, _, _, _, _⟩, ⟨_, _, _, _, _⟩, ⟨_, _, _, _, _⟩⟩ := hSw; go_simp; try with_reducible rfl)
      try simp only [Act.put, List.setIfInBounds_toArray, List.set_cons_zero, List.set_cons_succ]
      refine upto_take (i := 2) (d := some 63) (v := ?_) rfl rfl (by kernel_rfl) (by kernel_rfl) (by kernel_rfl) (by kernel_rfl) (fun _ _ _ h => h) (Or.inl ⟨by rfl, ?_⟩) hS1 ?_
      rotate_left
      · (intro wS hSw; obtain ⟨⟨_, _, _, _, _⟩, ⟨_, _, _, _, _⟩, ⟨_, _, _, _, _⟩⟩ := hSw; go_simp; try with_reducible rfl)
      try simp only [Act.put, List.setIfInBounds_toArray, List.set_cons_zero, List.set_cons_succ]
      refine upto_take (i := 3) (d := some 64) (v := ?_) rfl rfl (by kernel_rfl) (by kernel_rfl) (by kernel_rfl) (by kernel_rfl) (fun _ _ _ h => h) (Or.inl ⟨by rfl, ?_⟩) hS1 ?_
      rotate_left
      · (intro wS hSw; obtain ⟨⟨_, _, _, _, _⟩, ⟨_, _, _, _, _⟩, ⟨_, _, _, _, _⟩⟩ := hSw; go_simp; try with_reducible rfl)
      try simp only [Act.put, List.setIfInBounds_toArray, List.set_cons_zero, List.set_cons_succ]
      refine upto_one (i := 4) (by kernel_rfl) rfl (fun K hK => ?_)
      go_simp
      refine (implSame_law R R _ _ w7 Ia_2.out Ix_5.out HRC.out Ea_2.out true (sameB_refl R)).mono ?_
      rintro e w8 ⟨rfl, hb⟩
      have hs8 : w7.heap.size ≤ w8.heap.size := hb.size
      clear hS1
      have HL_7 := Lib.hid (HL_6.out.trans (hb.mono (by omega)))
      have If_7 := Lib.hid (inv_up If_6.out hb)
      have Bf_7 := Lib.hid (FormBox.later Bf_6.out hb)
      have Ix_6 := Lib.hid (inv_up Ix_5.out hb)
      have Ex_6 := Lib.hid (EndlessAt.later Ex_5.out hb)
      have Bx_6 := Lib.hid (FormBox.later Bx_5.out hb)
      have Iy_5 := Lib.hid (inv_up Iy_4.out hb)
      have By_5 := Lib.hid (FormBox.later By_4.out hb)
      have Ia_3 := Lib.hid (inv_up Ia_2.out hb)
      have Ea_3 := Lib.hid (EndlessAt.later Ea_2.out hb)
      have Ba_3 := Lib.hid (FormBox.later Ba_2.out hb)
      have RL_2 := Lib.hid (irow_up RL_1.out hb)
      clear HL_6 If_6 Bf_6 Ix_5 Ex_5 Bx_5 Iy_4 By_4 Ia_2 Ea_2 Ba_2 RL_1
      have hS2 : (fun WS : World => FormBox WS w5.heap.size R a0 a1 a2 a3 ∧ FormBox WS w2.heap.size R x0 x1 x2 x3 ∧ FormBox WS w1.heap.size f f0 f1 f2 f3) w8 := ⟨Ba_3.out, Bx_6.out, Bf_7.out⟩
      refine hK.out _ _ (.inr hS2) ?_
      clear hK K hb
      refine upto_take (i := 5) (d := some 66) (v := ?_) rfl rfl (by kernel_rfl) (by kernel_rfl) (by kernel_rfl) (by kernel_rfl) (fun _ _ _ h => h) (Or.inl ⟨by rfl, ?_⟩) hS2 ?_
      rotate_left
      · (intro wS hSw; obtain ⟨⟨_, _, _, _, _⟩, ⟨_, _, _, _, _⟩, ⟨_, _, _, _, _⟩⟩ := hSw; go_simp; try with_reducible rfl)
      try simp only [Act.put, List.setIfInBounds_toArray, List.set_cons_zero, List.set_cons_succ]
      refine upto_take (i := 6) (d := some 67) (v := ?_) rfl rfl (by kernel_rfl) (by kernel_rfl) (by kernel_rfl) (by kernel_rfl) (fun _ _ _ h => h) (Or.inl ⟨by rfl, ?_⟩) hS2 ?_
      rotate_left
      · (intro wS hSw; obtain ⟨⟨_, _, _, _, _⟩, ⟨_, _, _, _, _⟩, ⟨_, _, _, _, _⟩⟩ := hSw; go_simp; try with_reducible rfl)
      try simp only [Act.put, List.setIfInBounds_toArray, List.set_cons_zero, List.set_cons_succ]
      refine upto_take (i := 7) (d := some 68) (v := ?_) rfl rfl (by kernel_rfl) (by kernel_rfl) (by kernel_rfl) (by kernel_rfl) (fun _ _ _ h => h) (Or.inl ⟨by rfl, ?_⟩) hS2 ?_
      rotate_left
      · (intro wS hSw; obtain ⟨⟨_, _, _, _, _⟩, ⟨_, _, _, _, _⟩, ⟨_, _, _, _, _⟩⟩ := hSw; go_simp; try with_reducible rfl)
      try simp only [Act.put, List.setIfInBounds_toArray, List.set_cons_zero, List.set_cons_succ]
      refine upto_take (i := 9) (d := some 70) (v := ?_) rfl rfl (by kernel_rfl) (by kernel_rfl) (by kernel_rfl) (by kernel_rfl) (fun _ _ _ h => h) (Or.inl ⟨by rfl, ?_⟩) hS2 ?_
      rotate_left
      · (intro wS hSw; obtain ⟨⟨_, _, _, _, _⟩, ⟨_, _, _, _, _⟩, ⟨_, _, _, _, _⟩⟩ := hSw; go_simp; try with_reducible rfl)
      try simp only [Act.put, List.setIfInBounds_toArray, List.set_cons_zero, List.set_cons_succ]
      refine upto_one (i := 8) (by kernel_rfl) rfl (fun K hK => ?_)
      go_simp
      refine (implStrip_law R _ w8 Ix_6.out hszR Ex_6.out Z HST.out).mono ?_
      rintro e w9 ⟨za, zb, zc, zd, rfl, hin, hend, hb⟩
      have hs9 : w8.heap.size ≤ w9.heap.size := hb.size
      clear hS2
      have HL_8 := Lib.hid (HL_7.out.trans (hb.mono (by omega)))
      have If_8 := Lib.hid (inv_up If_7.out hb)
      have Bf_8 := Lib.hid (FormBox.later Bf_7.out hb)
      have Ix_7 := Lib.hid (inv_up Ix_6.out hb)
      have Ex_7 := Lib.hid (EndlessAt.later Ex_6.out hb)
      have Bx_7 := Lib.hid (FormBox.later Bx_6.out hb)
      have Iy_6 := Lib.hid (inv_up Iy_5.out hb)
      have By_6 := Lib.hid (FormBox.later By_5.out hb)
      have Ia_4 := Lib.hid (inv_up Ia_3.out hb)
      have Ea_4 := Lib.hid (EndlessAt.later Ea_3.out hb)
      have Ba_4 := Lib.hid (FormBox.later Ba_3.out hb)
      have RL_3 := Lib.hid (irow_up RL_2.out hb)
      clear HL_7 If_7 Bf_7 Ix_6 Ex_6 Bx_6 Iy_5 By_5 Ia_3 Ea_3 Ba_3 RL_2
      have hS3 : (fun WS : World => FormBox WS w5.heap.size R a0 a1 a2 a3 ∧ FormBox WS w2.heap.size R x0 x1 x2 x3 ∧ FormBox WS w1.heap.size f f0 f1 f2 f3) w9 := ⟨Ba_4.out, Bx_7.out, Bf_8.out⟩
      have IZ := Lib.hid (InV.mono (ψ := (· < w9.heap.size)) (fun k hk => hk.2) _ _ hin)
      have EZ := Lib.hid hend
      clear hin hend
      refine hK.out _ _ (.inr hS3) ?_
      clear hK K hb
      refine upto_one (i := 10) (by kernel_rfl) rfl (fun K hK => ?_)
      go_simp
      refine (implStrip_law f _ w9 If_8.out hszf (valid_end HVF.out If_8.out) Z HZ0.out).mono ?_
      rintro e w10 ⟨ya, yb, yc, yd, rfl, hin, hend, hb⟩
      have hs10 : w9.heap.size ≤ w10.heap.size := hb.size
      clear hS3
      have HL_9 := Lib.hid (HL_8.out.trans (hb.mono (by omega)))
      have If_9 := Lib.hid (inv_up If_8.out hb)
      have Bf_9 := Lib.hid (FormBox.later Bf_8.out hb)
      have Ix_8 := Lib.hid (inv_up Ix_7.out hb)
      have Ex_8 := Lib.hid (EndlessAt.later Ex_7.out hb)
      have Bx_8 := Lib.hid (FormBox.later Bx_7.out hb)
      have Iy_7 := Lib.hid (inv_up Iy_6.out hb)
      have By_7 := Lib.hid (FormBox.later By_6.out hb)
      have Ia_5 := Lib.hid (inv_up Ia_4.out hb)
      have Ea_5 := Lib.hid (EndlessAt.later Ea_4.out hb)
      have Ba_5 := Lib.hid (FormBox.later Ba_4.out hb)
      have RL_4 := Lib.hid (irow_up RL_3.out hb)
      have IZ_1 := Lib.hid (inv_up IZ.out hb)
      have EZ_1 := Lib.hid (EndlessAt.later EZ.out hb)
      clear HL_8 If_8 Bf_8 Ix_7 Ex_7 Bx_7 Iy_6 By_6 Ia_4 Ea_4 Ba_4 RL_3 IZ EZ
      have hS4 : (fun WS : World => FormBox WS w5.heap.size R a0 a1 a2 a3 ∧ FormBox WS w2.heap.size R x0 x1 x2 x3 ∧ FormBox WS w1.heap.size f f0 f1 f2 f3) w10 := ⟨Ba_5.out, Bx_8.out, Bf_9.out⟩
      have IY := Lib.hid (InV.mono (ψ := (· < w10.heap.size)) (fun k hk => hk.2) _ _ hin)
      clear hin hend
      refine hK.out _ _ (.inr hS4) ?_
      clear hK K hb
      refine upto_one (i := 11) (by kernel_rfl) rfl (fun K hK => ?_)
      go_simp
      refine (implSame_law Z Z _ _ w10 IZ_1.out IY.out HZC.out EZ_1.out true (sameB_refl Z)).mono ?_
      rintro e w11 ⟨rfl, hb⟩
      have hs11 : w10.heap.size ≤ w11.heap.size := hb.size
      clear hS4
      have HL_10 := Lib.hid (HL_9.out.trans (hb.mono (by omega)))
      have If_10 := Lib.hid (inv_up If_9.out hb)
      have Bf_10 := Lib.hid (FormBox.later Bf_9.out hb)
      have Ix_9 := Lib.hid (inv_up Ix_8.out hb)
      have Ex_9 := Lib.hid (EndlessAt.later Ex_8.out hb)
      have Bx_9 := Lib.hid (FormBox.later Bx_8.out hb)
      have Iy_8 := Lib.hid (inv_up Iy_7.out hb)
      have By_8 := Lib.hid (FormBox.later By_7.out hb)
      have Ia_6 := Lib.hid (inv_up Ia_5.out hb)
      have Ea_6 := Lib.hid (EndlessAt.later Ea_5.out hb)
      have Ba_6 := Lib.hid (FormBox.later Ba_5.out hb)
      have RL_5 := Lib.hid (irow_up RL_4.out hb)
      have IZ_2 := Lib.hid (inv_up IZ_1.out hb)
      have EZ_2 := Lib.hid (EndlessAt.later EZ_1.out hb)
      have IY_1 := Lib.hid (inv_up IY.out hb)
      clear HL_9 If_9 Bf_9 Ix_8 Ex_8 Bx_8 Iy_7 By_7 Ia_5 Ea_5 Ba_5 RL_4 IZ_1 EZ_1 IY
      have hS5 : (fun WS : World => FormBox WS w5.heap.size R a0 a1 a2 a3 ∧ FormBox WS w2.heap.size R x0 x1 x2 x3 ∧ FormBox WS w1.heap.size f f0 f1 f2 f3) w11 := ⟨Ba_6.out, Bx_9.out, Bf_10.out⟩
      refine hK.out _ _ (.inr hS5) ?_
      clear hK K hb
      refine upto_take (i := 12) (d := some 73) (v := ?_) rfl rfl (by kernel_rfl) (by kernel_rfl) (by kernel_rfl) (by kernel_rfl) (fun _ _ _ h => h) (Or.inl ⟨by rfl, ?_⟩) hS5 ?_
      rotate_left
      · (intro wS hSw; obtain ⟨⟨_, _, _, _, _⟩, ⟨_, _, _, _, _⟩, ⟨_, _, _, _, _⟩⟩ := hSw; go_simp; try with_reducible rfl)
      try simp only [Act.put, List.setIfInBounds_toArray, List.set_cons_zero, List.set_cons_succ]
      refine upto_take (i := 13) (d := some 74) (v := ?_) rfl rfl (by kernel_rfl) (by kernel_rfl) (by kernel_rfl) (by kernel_rfl) (fun _ _ _ h => h) (Or.inl ⟨by rfl, ?_⟩) hS5 ?_
      rotate_left
      · (intro wS hSw; obtain ⟨⟨_, _, _, _, _⟩, ⟨_, _, _, _, _⟩, ⟨_, _, _, _, _⟩⟩ := hSw; go_simp; try with_reducible rfl)
      try simp only [Act.put, List.setIfInBounds_toArray, List.set_cons_zero, List.set_cons_succ]
      refine upto_take (i := 14) (d := some 75) (v := ?_) rfl rfl (by kernel_rfl) (by kernel_rfl) (by kernel_rfl) (by kernel_rfl) (fun _ _ _ h => h) (Or.inl ⟨by rfl, ?_⟩) hS5 ?_
      rotate_left
      · (intro wS hSw; obtain ⟨⟨_, _, _, _, _⟩, ⟨_, _, _, _, _⟩, ⟨_, _, _, _, _⟩⟩ := hSw; go_simp; try with_reducible rfl)
      try simp only [Act.put, List.setIfInBounds_toArray, List.set_cons_zero, List.set_cons_succ]
      refine upto_one (i := 15) (by kernel_rfl) rfl (fun K hK => ?_)
      go_simp
      refine (implNamesOf_len f _ _ _ _ w11 If_10.out hszf (valid_end HVF.out If_10.out) NL HNL.out).mono ?_
      rintro e w12 ⟨na, nc, rfl, hb⟩
      have hs12 : w11.heap.size ≤ w12.heap.size := hb.size
      clear hS5
      have HL_11 := Lib.hid (HL_10.out.trans (hb.mono (by omega)))
      have If_11 := Lib.hid (inv_up If_10.out hb)
      have Bf_11 := Lib.hid (FormBox.later Bf_10.out hb)
      have Ix_10 := Lib.hid (inv_up Ix_9.out hb)
      have Ex_10 := Lib.hid (EndlessAt.later Ex_9.out hb)
      have Bx_10 := Lib.hid (FormBox.later Bx_9.out hb)
      have Iy_9 := Lib.hid (inv_up Iy_8.out hb)
      have By_9 := Lib.hid (FormBox.later By_8.out hb)
      have Ia_7 := Lib.hid (inv_up Ia_6.out hb)
      have Ea_7 := Lib.hid (EndlessAt.later Ea_6.out hb)
      have Ba_7 := Lib.hid (FormBox.later Ba_6.out hb)
      have RL_6 := Lib.hid (irow_up RL_5.out hb)
      have IZ_3 := Lib.hid (inv_up IZ_2.out hb)
      have EZ_3 := Lib.hid (EndlessAt.later EZ_2.out hb)
      have IY_2 := Lib.hid (inv_up IY_1.out hb)
      clear HL_10 If_10 Bf_10 Ix_9 Ex_9 Bx_9 Iy_8 By_8 Ia_6 Ea_6 Ba_6 RL_5 IZ_2 EZ_2 IY_1
      have hS6 : (fun WS : World => FormBox WS w5.heap.size R a0 a1 a2 a3 ∧ FormBox WS w2.heap.size R x0 x1 x2 x3 ∧ FormBox WS w1.heap.size f f0 f1 f2 f3) w12 := ⟨Ba_7.out, Bx_10.out, Bf_11.out⟩
      refine hK.out _ _ (.inr hS6) ?_
      clear hK K hb
      refine upto_take (i := 16) (d := some 77) (v := ?_) rfl rfl (by kernel_rfl) (by kernel_rfl) (by kernel_rfl) (by kernel_rfl) (fun _ _ _ h => h) (Or.inl ⟨by rfl, ?_⟩) hS6 ?_
      rotate_left
      · (intro wS hSw; obtain ⟨⟨_, _, _, _, _⟩, ⟨_, _, _, _, _⟩, ⟨_, _, _, _, _⟩⟩ := hSw; go_simp; try with_reducible rfl)
      try simp only [Act.put, List.setIfInBounds_toArray, List.set_cons_zero, List.set_cons_succ]
      refine upto_take (i := 17) (d := some 78) (v := ?_) rfl rfl (by kernel_rfl) (by kernel_rfl) (by kernel_rfl) (by kernel_rfl) (fun _ _ _ h => h) (Or.inl ⟨by rfl, ?_⟩) hS6 ?_
      rotate_left
      · (intro wS hSw; obtain ⟨⟨_, _, _, _, _⟩, ⟨_, _, _, _, _⟩, ⟨_, _, _, _, _⟩⟩ := hSw; go_simp; try with_reducible rfl)
      try simp only [Act.put, List.setIfInBounds_toArray, List.set_cons_zero, List.set_cons_succ]
      refine upto_take (i := 18) (d := some 79) (v := ?_) rfl rfl (by kernel_rfl) (by kernel_rfl) (by kernel_rfl) (by kernel_rfl) (fun _ _ _ h => h) (Or.inl ⟨by rfl, ?_⟩) hS6 ?_
      rotate_left
      · (intro wS hSw; obtain ⟨⟨_, _, _, _, _⟩, ⟨_, _, _, _, _⟩, ⟨_, _, _, _, _⟩⟩ := hSw; go_simp; try with_reducible rfl)
      try simp only [Act.put, List.setIfInBounds_toArray, List.set_cons_zero, List.set_cons_succ]
      refine upto_take (i := 19) (d := some 80) (v := ?_) rfl rfl (by kernel_rfl) (by kernel_rfl) (by kernel_rfl) (by kernel_rfl) (fun _ _ _ h => h) (Or.inl ⟨by rfl, ?_⟩) hS6 ?_
      rotate_left
      · (intro wS hSw; obtain ⟨⟨_, _, _, _, _⟩, ⟨_, _, _, _, _⟩, ⟨_, _, _, _, _⟩⟩ := hSw; go_simp; try with_reducible rfl)
      try simp only [Act.put, List.setIfInBounds_toArray, List.set_cons_zero, List.set_cons_succ]
      refine upto_take (i := 21) (d := some 82) (v := ?_) rfl rfl (by kernel_rfl) (by kernel_rfl) (by kernel_rfl) (by kernel_rfl) (fun _ _ _ h => h) (Or.inl ⟨by rfl, ?_⟩) hS6 ?_
      rotate_left
      · (intro wS hSw; obtain ⟨⟨_, _, _, _, _⟩, ⟨_, _, _, _, _⟩, ⟨_, _, _, _, _⟩⟩ := hSw; go_simp; try with_reducible rfl)
      try simp only [Act.put, List.setIfInBounds_toArray, List.set_cons_zero, List.set_cons_succ]
      refine upto_one (i := 20) (by kernel_rfl) rfl (fun K hK => ?_)
      go_simp
      refine gen_world' (fun w13 hu => ?_)
      have hb : Below w12.heap.size w12 w13 := by rw [hu]; exact below_alloc _ _
      have hs13 : w12.heap.size ≤ w13.heap.size := hb.size
      have Rl : Hid (IntRow (· < w13.heap.size) w13 (.slice (some ⟨w12.heap.size, 0, none⟩) [scope].length [scope].length) [scope]) := by rw [hu]; exact row_lit w12 3 [scope] _ (by simp) HSC1.out rfl
      clear hS6 hu
      have HL_12 := Lib.hid (HL_11.out.trans (hb.mono (by omega)))
      have If_12 := Lib.hid (inv_up If_11.out hb)
      have Bf_12 := Lib.hid (FormBox.later Bf_11.out hb)
      have Ix_11 := Lib.hid (inv_up Ix_10.out hb)
      have Ex_11 := Lib.hid (EndlessAt.later Ex_10.out hb)
      have Bx_11 := Lib.hid (FormBox.later Bx_10.out hb)
      have Iy_10 := Lib.hid (inv_up Iy_9.out hb)
      have By_10 := Lib.hid (FormBox.later By_9.out hb)
      have Ia_8 := Lib.hid (inv_up Ia_7.out hb)
      have Ea_8 := Lib.hid (EndlessAt.later Ea_7.out hb)
      have Ba_8 := Lib.hid (FormBox.later Ba_7.out hb)
      have RL_7 := Lib.hid (irow_up RL_6.out hb)
      have IZ_4 := Lib.hid (inv_up IZ_3.out hb)
      have EZ_4 := Lib.hid (EndlessAt.later EZ_3.out hb)
      have IY_3 := Lib.hid (inv_up IY_2.out hb)
      clear HL_11 If_11 Bf_11 Ix_10 Ex_10 Bx_10 Iy_9 By_9 Ia_7 Ea_7 Ba_7 RL_6 IZ_3 EZ_3 IY_2
      have hS7 : (fun WS : World => FormBox WS w5.heap.size R a0 a1 a2 a3 ∧ FormBox WS w2.heap.size R x0 x1 x2 x3 ∧ FormBox WS w1.heap.size f f0 f1 f2 f3) w13 := ⟨Ba_8.out, Bx_11.out, Bf_12.out⟩
      refine hK.out _ _ (.inr hS7) ?_
      clear hK K hb
      refine upto_one (i := 22) (by kernel_rfl) rfl (fun K hK => ?_)
      go_simp
      refine (implWithin_law [scope] L _ _ _ _ w13 Rl.out RL_7.out (by simp) HLL.out true (HTH.out hNLn)).mono ?_
      rintro e w14 ⟨rfl, hb⟩
      have hs14 : w13.heap.size ≤ w14.heap.size := hb.size
      clear hS7
      have HL_13 := Lib.hid (HL_12.out.trans (hb.mono (by omega)))
      have If_13 := Lib.hid (inv_up If_12.out hb)
      have Bf_13 := Lib.hid (FormBox.later Bf_12.out hb)
      have Ix_12 := Lib.hid (inv_up Ix_11.out hb)
      have Ex_12 := Lib.hid (EndlessAt.later Ex_11.out hb)
      have Bx_12 := Lib.hid (FormBox.later Bx_11.out hb)
      have Iy_11 := Lib.hid (inv_up Iy_10.out hb)
      have By_11 := Lib.hid (FormBox.later By_10.out hb)
      have Ia_9 := Lib.hid (inv_up Ia_8.out hb)
      have Ea_9 := Lib.hid (EndlessAt.later Ea_8.out hb)
      have Ba_9 := Lib.hid (FormBox.later Ba_8.out hb)
      have RL_8 := Lib.hid (irow_up RL_7.out hb)
      have IZ_5 := Lib.hid (inv_up IZ_4.out hb)
      have EZ_5 := Lib.hid (EndlessAt.later EZ_4.out hb)
      have IY_4 := Lib.hid (inv_up IY_3.out hb)
      have Rl_1 := Lib.hid (irow_up Rl.out hb)
      clear HL_12 If_12 Bf_12 Ix_11 Ex_11 Bx_11 Iy_10 By_10 Ia_8 Ea_8 Ba_8 RL_7 IZ_4 EZ_4 IY_3 Rl
      have hS8 : (fun WS : World => FormBox WS w5.heap.size R a0 a1 a2 a3 ∧ FormBox WS w2.heap.size R x0 x1 x2 x3 ∧ FormBox WS w1.heap.size f f0 f1 f2 f3) w14 := ⟨Ba_9.out, Bx_12.out, Bf_13.out⟩
      refine hK.out _ _ (.inr hS8) ?_
      clear hK K hb
      refine upto_take (i := 23) (d := some 84) (v := ?_) rfl rfl (by kernel_rfl) (by kernel_rfl) (by kernel_rfl) (by kernel_rfl) (fun _ _ _ h => h) (Or.inl ⟨by rfl, ?_⟩) hS8 ?_
      rotate_left
      · (intro wS hSw; obtain ⟨⟨_, _, _, _, _⟩, ⟨_, _, _, _, _⟩, ⟨_, _, _, _, _⟩⟩ := hSw; go_simp; try with_reducible rfl)
      try simp only [Act.put, List.setIfInBounds_toArray, List.set_cons_zero, List.set_cons_succ]
      refine upto_take (i := 24) (d := some 85) (v := ?_) rfl rfl (by kernel_rfl) (by kernel_rfl) (by kernel_rfl) (by kernel_rfl) (fun _ _ _ h => h) (Or.inl ⟨by rfl, ?_⟩) hS8 ?_
      rotate_left
      · (intro wS hSw; obtain ⟨⟨_, _, _, _, _⟩, ⟨_, _, _, _, _⟩, ⟨_, _, _, _, _⟩⟩ := hSw; go_simp; try with_reducible rfl)
      try simp only [Act.put, List.setIfInBounds_toArray, List.set_cons_zero, List.set_cons_succ]
      refine upto_take (i := 25) (d := some 86) (v := ?_) rfl rfl (by kernel_rfl) (by kernel_rfl) (by kernel_rfl) (by kernel_rfl) (fun _ _ _ h => h) (Or.inl ⟨by rfl, ?_⟩) hS8 ?_
      rotate_left
      · (intro wS hSw; obtain ⟨⟨_, _, _, _, _⟩, ⟨_, _, _, _, _⟩, ⟨_, _, _, _, _⟩⟩ := hSw; go_simp; try with_reducible rfl)
      try simp only [Act.put, List.setIfInBounds_toArray, List.set_cons_zero, List.set_cons_succ]
      refine upto_take (i := 26) (d := some 87) (v := ?_) rfl rfl (by kernel_rfl) (by kernel_rfl) (by kernel_rfl) (by kernel_rfl) (fun _ _ _ h => h) (Or.inl ⟨by rfl, ?_⟩) hS8 ?_
      rotate_left
      · (intro wS hSw; obtain ⟨⟨_, _, _, _, _⟩, ⟨_, _, _, _, _⟩, ⟨_, _, _, _, _⟩⟩ := hSw; go_simp; try with_reducible rfl)
      try simp only [Act.put, List.setIfInBounds_toArray, List.set_cons_zero, List.set_cons_succ]
      refine upto_take (i := 28) (d := some 89) (v := ?_) rfl rfl (by kernel_rfl) (by kernel_rfl) (by kernel_rfl) (by kernel_rfl) (fun _ _ _ h => h) (Or.inl ⟨by rfl, ?_⟩) hS8 ?_
      rotate_left
      · (intro wS hSw; obtain ⟨⟨_, _, _, _, _⟩, ⟨_, _, _, _, _⟩, ⟨_, _, _, _, _⟩⟩ := hSw; go_simp; try with_reducible rfl)
      try simp only [Act.put, List.setIfInBounds_toArray, List.set_cons_zero, List.set_cons_succ]
      refine upto_one (i := 27) (by kernel_rfl) rfl (fun K hK => ?_)
      go_simp
      refine (implScopesOf_law f _ _ _ _ w14 If_13.out hszf (valid_end HVF.out If_13.out) M HM0.out).mono ?_
      rintro e w15 ⟨ma, mc, rfl, hrow, hb⟩
      have hs15 : w14.heap.size ≤ w15.heap.size := hb.size
      clear hS8
      have HL_14 := Lib.hid (HL_13.out.trans (hb.mono (by omega)))
      have If_14 := Lib.hid (inv_up If_13.out hb)
      have Bf_14 := Lib.hid (FormBox.later Bf_13.out hb)
      have Ix_13 := Lib.hid (inv_up Ix_12.out hb)
      have Ex_13 := Lib.hid (EndlessAt.later Ex_12.out hb)
      have Bx_13 := Lib.hid (FormBox.later Bx_12.out hb)
      have Iy_12 := Lib.hid (inv_up Iy_11.out hb)
      have By_12 := Lib.hid (FormBox.later By_11.out hb)
      have Ia_10 := Lib.hid (inv_up Ia_9.out hb)
      have Ea_10 := Lib.hid (EndlessAt.later Ea_9.out hb)
      have Ba_10 := Lib.hid (FormBox.later Ba_9.out hb)
      have RL_9 := Lib.hid (irow_up RL_8.out hb)
      have IZ_6 := Lib.hid (inv_up IZ_5.out hb)
      have EZ_6 := Lib.hid (EndlessAt.later EZ_5.out hb)
      have IY_5 := Lib.hid (inv_up IY_4.out hb)
      have Rl_2 := Lib.hid (irow_up Rl_1.out hb)
      clear HL_13 If_13 Bf_13 Ix_12 Ex_12 Bx_12 Iy_11 By_11 Ia_9 Ea_9 Ba_9 RL_8 IZ_5 EZ_5 IY_4 Rl_1
      have hS9 : (fun WS : World => FormBox WS w5.heap.size R a0 a1 a2 a3 ∧ FormBox WS w2.heap.size R x0 x1 x2 x3 ∧ FormBox WS w1.heap.size f f0 f1 f2 f3) w15 := ⟨Ba_10.out, Bx_13.out, Bf_14.out⟩
      have RM := Lib.hid hrow
      clear hrow
      refine hK.out _ _ (.inr hS9) ?_
      clear hK K hb
      refine upto_one (i := 29) (by kernel_rfl) rfl (fun K hK => ?_)
      go_simp
      refine (implWithin_law M L _ _ _ _ w15 RM.out RL_9.out HML.out HLL.out true HKP.out).mono ?_
      rintro e w16 ⟨rfl, hb⟩
      have hs16 : w15.heap.size ≤ w16.heap.size := hb.size
      clear hS9
      have HL_15 := Lib.hid (HL_14.out.trans (hb.mono (by omega)))
      have If_15 := Lib.hid (inv_up If_14.out hb)
      have Bf_15 := Lib.hid (FormBox.later Bf_14.out hb)
      have Ix_14 := Lib.hid (inv_up Ix_13.out hb)
      have Ex_14 := Lib.hid (EndlessAt.later Ex_13.out hb)
      have Bx_14 := Lib.hid (FormBox.later Bx_13.out hb)
      have Iy_13 := Lib.hid (inv_up Iy_12.out hb)
      have By_13 := Lib.hid (FormBox.later By_12.out hb)
      have Ia_11 := Lib.hid (inv_up Ia_10.out hb)
      have Ea_11 := Lib.hid (EndlessAt.later Ea_10.out hb)
      have Ba_11 := Lib.hid (FormBox.later Ba_10.out hb)
      have RL_10 := Lib.hid (irow_up RL_9.out hb)
      have IZ_7 := Lib.hid (inv_up IZ_6.out hb)
      have EZ_7 := Lib.hid (EndlessAt.later EZ_6.out hb)
      have IY_6 := Lib.hid (inv_up IY_5.out hb)
      have Rl_3 := Lib.hid (irow_up Rl_2.out hb)
      have RM_1 := Lib.hid (irow_up RM.out hb)
      clear HL_14 If_14 Bf_14 Ix_13 Ex_13 Bx_13 Iy_12 By_12 Ia_10 Ea_10 Ba_10 RL_9 IZ_6 EZ_6 IY_5 Rl_2 RM
      have hS10 : (fun WS : World => FormBox WS w5.heap.size R a0 a1 a2 a3 ∧ FormBox WS w2.heap.size R x0 x1 x2 x3 ∧ FormBox WS w1.heap.size f f0 f1 f2 f3) w16 := ⟨Ba_11.out, Bx_14.out, Bf_15.out⟩
      refine hK.out _ _ (.inr hS10) ?_
      clear hK K hb
      refine upto_take (i := 30) (d := some 91) (v := ?_) rfl rfl (by kernel_rfl) (by kernel_rfl) (by kernel_rfl) (by kernel_rfl) (fun _ _ _ h => h) (Or.inl ⟨by rfl, ?_⟩) hS10 ?_
      rotate_left
      · (intro wS hSw; obtain ⟨⟨_, _, _, _, _⟩, ⟨_, _, _, _, _⟩, ⟨_, _, _, _, _⟩⟩ := hSw; go_simp; try with_reducible rfl)
      try simp only [Act.put, List.setIfInBounds_toArray, List.set_cons_zero, List.set_cons_succ]
      refine upto_take (i := 31) (d := some 2) (v := ?_) rfl rfl (by kernel_rfl) (by kernel_rfl) (by kernel_rfl) (by kernel_rfl) (fun _ _ _ h => h) (Or.inl ⟨by rfl, ?_⟩) hS10 ?_
      rotate_left
      · (intro wS hSw; obtain ⟨⟨_, _, _, _, _⟩, ⟨_, _, _, _, _⟩, ⟨_, _, _, _, _⟩⟩ := hSw; go_simp; try with_reducible rfl)
      try simp only [Act.put, List.setIfInBounds_toArray, List.set_cons_zero, List.set_cons_succ]
      clear hS10
      refine upto_done (by kernel_rfl) ?_ _
      go_wp2_with fail
      go_ret
      exact ⟨rfl, HL_15.out⟩
theorem own : ownKnob Try.prog.godebug = none := by kernel_rfl
theorem laidOut : laidOutB Try.prog = true := by kernel_rfl
set_option maxRecDepth 100000 in
theorem lifted (os : Os) (started : os.Started) (H : Type) (enc : TypeId × Value → H) :
    ReturnsInHanded {} Try.checked os 5 .any (Rows.fnAddScopeSpec.pre6 enc Try.prog Try.f5 Rows.fnAddScopeRow.domain false) (Rows.fnAddScopeSpec.post enc Try.prog Try.f5 false true false false) := by
  refine returnsInHanded_of_change (C := Try.checked) own started (by kernel_rfl) Try.func5
    (ChangeSpec.witness6 (enc := enc) (C := Try.checked) false ⟨#[], #[.slice none 0 0], []⟩ 12 (by kernel_rfl) (by kernel_rfl) (by kernel_rfl) (by kernel_rfl)) ?_
  intro W base args ds gs before hval0 hW hcnd _
  have hval : ∀ (j : Nat) t v, Try.f5.params[j]? = some t → args[j]? = some v → Value.okWide Try.prog W .any base t v := hval0
  have hW' := hW
  obtain ⟨p, q, hA0, hV, rfl, hfz, hnd⟩ := hW
  have hA : DataW.TrodAll enc Try.prog W 0 (fun _ => true) true Try.f5.params.toList args.toList ds p := hA0
  rw [Try.params5] at hA hval
  obtain ⟨v0, vs0, d0, ds0, p0, q0, hargs, rfl, rfl, h0, r0⟩ := trodAll_cons hA
  obtain ⟨rfl, rfl, rfl⟩ := trodAll_nil r0
  obtain rfl : args = #[v0] := by cases args; simp_all
  obtain ⟨rfl, rfl⟩ := trodVars_none hV
  have k0 := h0
  have lt0 : ∀ x ∈ p0, x.block < W.heap.size := by obtain ⟨m, hm⟩ := k0; exact DataW.trod_lt m _ _ _ hm
  obtain ⟨f0, i0⟩ := open_bytes_arg (hval 0 22 v0 rfl rfl) h0
  clear hA0 hval0
  try simp only [List.append_nil] at hW'
  refine (walk W f0 v0 i0).mono fun e W' ⟨he, bel⟩ => ?_
  subst he
  exact ⟨_, rfl, _, _, _, [], _, [], hW', trodAll_mk1 (shut_bool Try.underlying4 _), (trodAll_cons_mk (Below.trod laidOut (by kernel_rfl) (of_decide_eq_true (by kernel_rfl)) k0 bel lt0) trodAll_mk0), rfl, bel.frame _, fun h => by cases h⟩
theorem over_named : Try.pinned.checked.prog.funcNamed Rows.fnAddScopeRow.func = some 5 := by kernel_rfl
theorem over_closed : joinedFacts Try.pinned.checked.prog 5 Try.f5 Rows.fnAddScopeSpec Rows.fnAddScopeRow = true := by kernel_rfl
theorem over_inst : Func.isInstance Try.pinned.checked.prog Try.f5 Rows.fnAddScopeRow.origin Rows.fnAddScopeRow.targs := of_decide_eq_true (by kernel_rfl)
theorem over_wrap : Func.isWrapper Try.pinned.checked.prog Try.f5 Rows.fnAddScopeRow.wrapper Rows.fnAddScopeRow.mainSum := (by unfold Func.isWrapper; first | (rw [if_pos (by decide +kernel)]; kernel_rfl) | (rw [if_neg (by decide +kernel)]; exact ⟨rfl, rfl⟩))
theorem over : Rows.fnAddScopeRow.holds Try.pinned (OpenSpec.ofChange Rows.fnAddScopeSpec) :=
  OpenClaim.holds_of_wide 5 Try.f5 rfl rfl rfl rfl rfl rfl rfl ⟨rfl, rfl, rfl, rfl, rfl⟩ rfl rfl rfl rfl rfl over_named Try.func5 over_closed over_inst over_wrap
    (fun os started H enc _ => lifted os started H enc)
theorem proved : Rows.FnAddScopeSaid := over
end Go.Proofs.Ytmakaoomdnlebaa.lwAddScope
