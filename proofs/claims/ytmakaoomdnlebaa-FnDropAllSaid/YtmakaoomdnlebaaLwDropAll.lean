/- For every input the drawn form whose scopes are all dropped, one by one, is the form without scopes; the program and the model agree: the law FnDropAll returns true, whatever the input, with no condition beyond the statement's own. -/
import Derived.Test.YtmakaoomdnlebaaRows
import Derived.Test.YtmakaoomdnlebaaLwDrops
import Derived.Test.YtmakaoomdnlebaaLwStrip
namespace Go.Proofs.Ytmakaoomdnlebaa.lwDropAll
open Go.ChangeShapes Go.WideShapes Go.ChangeAt Go.RowKit
open Go.ChangeMaps (open_string shut_string)
set_option linter.unusedVariables false
set_option linter.unusedSimpArgs false
set_option maxRecDepth 100000 in
set_option maxHeartbeats 4000000 in
theorem walk (w : World) (n : Nat) (v : Value) (hv : Bytes w v n) :
    Calls Try.prog 13 #[v] w fun e w' => e = .returned (.bool true) ∧ Below w.heap.size w w' := by
  have HV := Lib.hid hv
  obtain ⟨a0, c0, rfl, hn1, hn2, _⟩ := hv
  unfold maxLen at hn2
  by_cases hbig : (1048576 : Int) < n
  · go_enter Try.func13, Try.ntmps13
    go_wp2_with fail
    go_ret
    exact ⟨rfl, Below.refl _ _⟩
  go_enter Try.func13, Try.ntmps13
  go_wp2_with fail
  refine (drawDropScope_law _ n w HV.out).mono ?_
  rintro e w1 ⟨f, f0, f1, f2, f3, scope, rfl, hin, hsl, hsc, hb⟩
  have hs1 : w.heap.size ≤ w1.heap.size := hb.size
  have HL := Lib.hid hb
  have hscb := scopesCase_bounds scope hsc
  have hszf : f.sz ≤ 1048576 := by have := Slim.big hsl; omega
  clear hsl hsc HV
  clear hb
  have If : Hid (InV (· < w1.heap.size) w1 f (.agg #[.int .i64 f.kind, .string f.name, .int .i64 f.n, .slice f0 f.scopes.length f1, .slice f2 f.kids.length f3])) := InV.mono (fun k hk => hk.2) _ _ hin
  clear hin
  obtain ⟨ok, hok⟩ : ∃ ok, okF2 2 scope f = ok := ⟨_, rfl⟩
  obtain ⟨R, hR⟩ : ∃ R, afterF 2 scope f = R := ⟨_, rfl⟩
  have HOK := Lib.hid hok
  have HR := Lib.hid hR
  have HRC : Hid (R.count ≤ 4294967296) := by have h1 := afterF_count 2 scope f; have h2 := f.count_le; rw [hR] at h1; unfold Hid; omega
  clear hok hR
  go_wp2_with fail
  have hba0 := below_alloc w1 (.cells #[.int .i64 f.kind, .string f.name, .int .i64 f.n, .slice f0 f.scopes.length f1, .slice f2 f.kids.length f3] 27)
  have Bf : Hid (FormBox (w1.alloc (.cells #[.int .i64 f.kind, .string f.name, .int .i64 f.n, .slice f0 f.scopes.length f1, .slice f2 f.kids.length f3] 27)) w1.heap.size f f0 f1 f2 f3) := box_lit w1 f w1.heap.size f0 f2 f1 f3 27 (by simp)
  refine (implDropScope_law f _ scope (w1.alloc (.cells #[.int .i64 f.kind, .string f.name, .int .i64 f.n, .slice f0 f.scopes.length f1, .slice f2 f.kids.length f3] 27)) (inv_up If.out hba0) hszf hscb ok R HOK.out HR.out).mono ?_
  rintro e w2 ⟨x0, x1, x2, x3, rfl, hin, hend, hb0⟩
  have hb : Below w1.heap.size w1 w2 := hba0.trans (hb0.mono hba0.size)
  have hs2 : w1.heap.size + 1 ≤ w2.heap.size := by have h := hb0.size; simp at h; omega
  have HL_1 := Lib.hid (HL.out.trans (hb.mono (by omega)))
  have If_1 := Lib.hid (inv_up If.out hb)
  have Bf_1 := Lib.hid (FormBox.later Bf.out hb0)
  clear HL If Bf
  clear hb0 hba0
  clear hb
  have Ix : Hid (InV (· < w2.heap.size) w2 R (.agg #[.int .i64 R.kind, .string R.name, .int .i64 R.n, .slice x0 R.scopes.length x1, .slice x2 R.kids.length x3])) := InV.mono (fun k hk => hk.2) _ _ hin
  have Ex := Lib.hid hend
  clear hin hend
  obtain ⟨ld0, ld1, ld2, ld3, ld4⟩ := Bf_1.out
  have hx0 : w1.heap.size < w2.heap.size := Bf_1.out.lt
  go_wp2_with fail
  have hba0 := below_alloc w2 (.cells #[.int .i64 R.kind, .string R.name, .int .i64 R.n, .slice x0 R.scopes.length x1, .slice x2 R.kids.length x3] 27)
  have Bx : Hid (FormBox (w2.alloc (.cells #[.int .i64 R.kind, .string R.name, .int .i64 R.n, .slice x0 R.scopes.length x1, .slice x2 R.kids.length x3] 27)) w2.heap.size R x0 x1 x2 x3) := box_lit w2 R w2.heap.size x0 x2 x1 x3 27 (by simp)
  refine (specDropScope_law f _ scope (w2.alloc (.cells #[.int .i64 R.kind, .string R.name, .int .i64 R.n, .slice x0 R.scopes.length x1, .slice x2 R.kids.length x3] 27)) (inv_up If_1.out hba0) hszf hscb ok R HOK.out HR.out).mono ?_
  rintro e w3 ⟨y0, y1, y2, y3, rfl, hin, hb0⟩
  have hb : Below w2.heap.size w2 w3 := hba0.trans (hb0.mono hba0.size)
  have hs3 : w2.heap.size + 1 ≤ w3.heap.size := by have h := hb0.size; simp at h; omega
  clear ld0 ld1 ld2 ld3 ld4 hx0
  have HL_2 := Lib.hid (HL_1.out.trans (hb.mono (by omega)))
  have If_2 := Lib.hid (inv_up If_1.out hb)
  have Bf_2 := Lib.hid (FormBox.later Bf_1.out hb)
  have Ix_1 := Lib.hid (inv_up Ix.out hb)
  have Ex_1 := Lib.hid (EndlessAt.later Ex.out hb)
  have Bx_1 := Lib.hid (FormBox.later Bx.out hb0)
  clear HL_1 If_1 Bf_1 Ix Ex Bx
  clear hb0 hba0
  clear hb
  have Iy : Hid (InV (· < w3.heap.size) w3 R (.agg #[.int .i64 R.kind, .string R.name, .int .i64 R.n, .slice y0 R.scopes.length y1, .slice y2 R.kids.length y3])) := InV.mono (fun k hk => hk.2) _ _ hin
  clear hin
  cases ok with
  | false =>
    obtain ⟨ld0, ld1, ld2, ld3, ld4⟩ := Bx_1.out
    have hx0 : w2.heap.size < w3.heap.size := Bx_1.out.lt
    go_wp2_with fail
    have hba0 := below_alloc w3 (.cells #[.int .i64 R.kind, .string R.name, .int .i64 R.n, .slice y0 R.scopes.length y1, .slice y2 R.kids.length y3] 27)
    have By : Hid (FormBox (w3.alloc (.cells #[.int .i64 R.kind, .string R.name, .int .i64 R.n, .slice y0 R.scopes.length y1, .slice y2 R.kids.length y3] 27)) w3.heap.size R y0 y1 y2 y3) := box_lit w3 R w3.heap.size y0 y2 y1 y3 27 (by simp)
    refine (implSame_law R R _ _ (w3.alloc (.cells #[.int .i64 R.kind, .string R.name, .int .i64 R.n, .slice y0 R.scopes.length y1, .slice y2 R.kids.length y3] 27)) (inv_up Ix_1.out hba0) (inv_up Iy.out hba0) HRC.out (EndlessAt.later Ex_1.out hba0) true (sameB_refl R)).mono ?_
    rintro e w4 ⟨rfl, hb0⟩
    have hb : Below w3.heap.size w3 w4 := hba0.trans (hb0.mono hba0.size)
    have hs4 : w3.heap.size + 1 ≤ w4.heap.size := by have h := hb0.size; simp at h; omega
    clear ld0 ld1 ld2 ld3 ld4 hx0
    have HL_3 := Lib.hid (HL_2.out.trans (hb.mono (by omega)))
    have If_3 := Lib.hid (inv_up If_2.out hb)
    have Bf_3 := Lib.hid (FormBox.later Bf_2.out hb)
    have Ix_2 := Lib.hid (inv_up Ix_1.out hb)
    have Ex_2 := Lib.hid (EndlessAt.later Ex_1.out hb)
    have Bx_2 := Lib.hid (FormBox.later Bx_1.out hb)
    have Iy_1 := Lib.hid (inv_up Iy.out hb)
    have By_1 := Lib.hid (FormBox.later By.out hb0)
    clear HL_2 If_2 Bf_2 Ix_1 Ex_1 Bx_1 Iy By
    clear hb0 hba0
    clear hb
    obtain ⟨ld0, ld1, ld2, ld3, ld4⟩ := Bx_2.out
    have hx0 : w2.heap.size < w4.heap.size := Bx_2.out.lt
    obtain ⟨ld5, ld6, ld7, ld8, ld9⟩ := By_1.out
    have hx1 : w3.heap.size < w4.heap.size := By_1.out.lt
    go_wp2_with fail
    refine (implSame_law R R _ _ w4 Ix_2.out Iy_1.out HRC.out Ex_2.out true (sameB_refl R)).mono ?_
    rintro e w5 ⟨rfl, hb⟩
    have hs5 : w4.heap.size ≤ w5.heap.size := hb.size
    clear ld0 ld1 ld2 ld3 ld4 ld5 ld6 ld7 ld8 ld9 hx0 hx1
    have HL_4 := Lib.hid (HL_3.out.trans (hb.mono (by omega)))
    have If_4 := Lib.hid (inv_up If_3.out hb)
    have Bf_4 := Lib.hid (FormBox.later Bf_3.out hb)
    have Ix_3 := Lib.hid (inv_up Ix_2.out hb)
    have Ex_3 := Lib.hid (EndlessAt.later Ex_2.out hb)
    have Bx_3 := Lib.hid (FormBox.later Bx_2.out hb)
    have Iy_2 := Lib.hid (inv_up Iy_1.out hb)
    have By_2 := Lib.hid (FormBox.later By_1.out hb)
    clear HL_3 If_3 Bf_3 Ix_2 Ex_2 Bx_2 Iy_1 By_1
    clear hb
    go_wp2_with fail
    go_ret
    exact ⟨rfl, HL_4.out⟩
  | true =>
    obtain ⟨ld0, ld1, ld2, ld3, ld4⟩ := Bx_1.out
    have hx0 : w2.heap.size < w3.heap.size := Bx_1.out.lt
    go_wp2_with fail
    have hba0 := below_alloc w3 (.cells #[.int .i64 R.kind, .string R.name, .int .i64 R.n, .slice y0 R.scopes.length y1, .slice y2 R.kids.length y3] 27)
    have By : Hid (FormBox (w3.alloc (.cells #[.int .i64 R.kind, .string R.name, .int .i64 R.n, .slice y0 R.scopes.length y1, .slice y2 R.kids.length y3] 27)) w3.heap.size R y0 y1 y2 y3) := box_lit w3 R w3.heap.size y0 y2 y1 y3 27 (by simp)
    refine (implSame_law R R _ _ (w3.alloc (.cells #[.int .i64 R.kind, .string R.name, .int .i64 R.n, .slice y0 R.scopes.length y1, .slice y2 R.kids.length y3] 27)) (inv_up Ix_1.out hba0) (inv_up Iy.out hba0) HRC.out (EndlessAt.later Ex_1.out hba0) true (sameB_refl R)).mono ?_
    rintro e w4 ⟨rfl, hb0⟩
    have hb : Below w3.heap.size w3 w4 := hba0.trans (hb0.mono hba0.size)
    have hs4 : w3.heap.size + 1 ≤ w4.heap.size := by have h := hb0.size; simp at h; omega
    clear ld0 ld1 ld2 ld3 ld4 hx0
    have HL_3 := Lib.hid (HL_2.out.trans (hb.mono (by omega)))
    have If_3 := Lib.hid (inv_up If_2.out hb)
    have Bf_3 := Lib.hid (FormBox.later Bf_2.out hb)
    have Ix_2 := Lib.hid (inv_up Ix_1.out hb)
    have Ex_2 := Lib.hid (EndlessAt.later Ex_1.out hb)
    have Bx_2 := Lib.hid (FormBox.later Bx_1.out hb)
    have Iy_1 := Lib.hid (inv_up Iy.out hb)
    have By_1 := Lib.hid (FormBox.later By.out hb0)
    clear HL_2 If_2 Bf_2 Ix_1 Ex_1 Bx_1 Iy By
    clear hb0 hba0
    clear hb
    obtain ⟨h1, h2, h3⟩ := after_valid HOK.out HR.out
    obtain ⟨M, hM⟩ : ∃ M, scopesOf f = M := ⟨_, rfl⟩
    obtain ⟨Z, hZ⟩ : ∃ Z, f.chg (fun _ _ => []) = Z := ⟨_, rfl⟩
    have hmb := scopesOf_bounds h1
    rw [hM] at hmb
    have HSTEP : Hid (∀ (j : Nat) (hj : j < M.length), formB (dropsF (M.take j) f) = true ∧ okF2 2 M[j] (dropsF (M.take j) f) = true ∧ afterF 2 M[j] (dropsF (M.take j) f) = dropsF (M.take (j + 1)) f) := fun j hj => by
      have hv := (drops_chg (M.take j) f h1 fun n hn => hmb n (List.mem_of_mem_take hn)).2
      exact ⟨hv, drop_ok hv (hmb _ (List.getElem_mem hj)), (drops_succ M f j hj).symm⟩
    have HMB : Hid (∀ (j : Nat) (hj : j < M.length), 0 ≤ M[j] ∧ M[j] ≤ 100) := fun j hj => by have := hmb _ (List.getElem_mem hj); omega
    have HALL : Hid (dropsF (M.take M.length) f = Z ∧ formB Z = true) := by
      have h4 := drops_chg M f h1 hmb
      have h5 := drops_all h1
      rw [hM, hZ] at h5
      unfold Hid
      rw [List.take_length]
      exact ⟨h5, by rw [← h5]; exact h4.2⟩
    have HZC : Hid (Z.count ≤ 4294967296) := by have h2 := f.count_le; unfold Hid; rw [← hZ, chg_count]; omega
    have HM0 := Lib.hid hM
    have HZ0 := Lib.hid hZ
    have HVF := Lib.hid h1
    have hml : M.length ≤ 1000 := by have h4 := scopesOf_len f; rw [hM] at h4; omega
    clear h1 h2 h3 hM hZ hmb
    obtain ⟨ld0, ld1, ld2, ld3, ld4⟩ := Bf_3.out
    have hx0 : w1.heap.size < w4.heap.size := Bf_3.out.lt
    go_wp2_with fail
    refine (implScopesOf_law f _ _ _ _ w4 If_3.out hszf (valid_end HVF.out If_3.out) M HM0.out).mono ?_
    rintro e w5 ⟨pa, ca, rfl, hrow, hb⟩
    have hs5 : w4.heap.size ≤ w5.heap.size := hb.size
    clear ld0 ld1 ld2 ld3 ld4 hx0
    have HL_4 := Lib.hid (HL_3.out.trans (hb.mono (by omega)))
    have If_4 := Lib.hid (inv_up If_3.out hb)
    have Bf_4 := Lib.hid (FormBox.later Bf_3.out hb)
    have Ix_3 := Lib.hid (inv_up Ix_2.out hb)
    have Ex_3 := Lib.hid (EndlessAt.later Ex_2.out hb)
    have Bx_3 := Lib.hid (FormBox.later Bx_2.out hb)
    have Iy_2 := Lib.hid (inv_up Iy_1.out hb)
    have By_2 := Lib.hid (FormBox.later By_1.out hb)
    clear HL_3 If_3 Bf_3 Ix_2 Ex_2 Bx_2 Iy_1 By_1
    clear hb
    have RM := Lib.hid hrow
    clear hrow
    obtain ⟨ld0, ld1, ld2, ld3, ld4⟩ := Bf_4.out
    have hx0 : w1.heap.size < w5.heap.size := Bf_4.out.lt
    go_wp2_with fail
    clear ld0 ld1 ld2 ld3 ld4 hx0
    go_loopw [11, 12, 13] (fun i _ _ wr => ∃ (j : Nat) (Y : Fm) (y0 : Option Addr) (y1 : Nat) (y2 : Option Addr) (y3 : Nat), i = .int .i64 j ∧ j ≤ M.length ∧ Y = dropsF (M.take j) f ∧ YAt w5 wr Y y0 y1 y2 y3) (fun i _ _ _ => M.length - (intOf i).toNat)
    case atStart => exact ⟨0, f, f0, f1, f2, f3, rfl, Nat.zero_le _, rfl, YAt.start If_4.out 27⟩
    case round =>
      obtain ⟨j, Y, y0, y1, y2, y3, rfl, hj, hY, hy⟩ := hrel
      have hbl := hy.below
      have hsr : w5.heap.size ≤ wr.heap.size := hbl.size
      have HY := Lib.hid hy
      have HYE := Lib.hid hY
      have HL_5 := Lib.hid (HL_4.out.trans (hbl.mono (by omega)))
      have If_5 := Lib.hid (inv_up If_4.out hbl)
      have Bf_5 := Lib.hid (FormBox.later Bf_4.out hbl)
      have Ix_4 := Lib.hid (inv_up Ix_3.out hbl)
      have Ex_4 := Lib.hid (EndlessAt.later Ex_3.out hbl)
      have Bx_4 := Lib.hid (FormBox.later Bx_3.out hbl)
      have Iy_3 := Lib.hid (inv_up Iy_2.out hbl)
      have By_3 := Lib.hid (FormBox.later By_2.out hbl)
      have RM_1 := Lib.hid (irow_up RM.out hbl)
      clear HL_4 If_4 Bf_4 Ix_3 Ex_3 Bx_3 Iy_2 By_2 RM
      clear hbl
      by_cases hlt : j < M.length
      · have hltI : (j : Int) < (M.length : Int) := by omega
        have hj0 : (0 : Int) ≤ (j : Int) := by omega
        obtain ⟨lb, lo, rfl, hlb, hca, hcell⟩ := row_at RM_1.out j hlt
        obtain ⟨hvY, hokY, hnx⟩ := HSTEP.out j hlt
        rw [← hY] at hvY hokY hnx
        have hszY : Y.sz ≤ 1048576 := valid_sz hvY
        obtain ⟨n, hn⟩ : ∃ n, M[j] = n := ⟨_, rfl⟩
        obtain ⟨Q, hQ⟩ : ∃ Q, afterF 2 n Y = Q := ⟨_, rfl⟩
        have hnb := HMB.out j hlt
        rw [hn] at hcell hokY hnx hnb
        rw [hQ] at hnx
        have HQ := Lib.hid hQ
        have HOKY := Lib.hid hokY
        have HNX := Lib.hid hnx
        clear hn hQ hokY hnx hvY hY hy
        obtain ⟨b0, b1, b2, b3, b4⟩ := HY.out.box
        have hxb : w5.heap.size < wr.heap.size := HY.out.box.lt
        go_wp2_with fail
        clear b0 b1 b2 b3 b4
        refine upto_begin (fun WS : World => FormBox WS w5.heap.size Y y0 y1 y2 y3 ∧ WS.cell? ⟨lb, lo + j, none⟩ = some (.int .i64 n)) 12 (by kernel_rfl) ?_
        refine gen_upto (fun u0 hu => ?_)
        have hb0 : Below wr.heap.size wr u0 := by rw [hu]; exact (Below.refl _ _).drew
        have hsu : wr.heap.size ≤ u0.heap.size := hb0.size
        have HY0 := Lib.hid (HY.out.later hb0)
        have hS0 : (fun WS : World => FormBox WS w5.heap.size Y y0 y1 y2 y3 ∧ WS.cell? ⟨lb, lo + j, none⟩ = some (.int .i64 n)) u0 := ⟨HY0.out.box, cell_later' hb0 hcell⟩
        clear hu
        refine upto_take (i := 0) (d := some 65) (v := ?_) rfl rfl (by kernel_rfl) (by kernel_rfl) (by kernel_rfl) (by kernel_rfl) (fun _ _ _ h => h) (Or.inl ⟨by rfl, ?_⟩) hS0 ?_
        rotate_left
        · (intro wS hSw; obtain ⟨⟨_, _, _, _, _⟩, _⟩ := hSw; go_simp; try with_reducible rfl)
        try simp only [Act.put, List.setIfInBounds_toArray, List.set_cons_zero, List.set_cons_succ]
        refine upto_take (i := 1) (d := some 66) (v := ?_) rfl rfl (by kernel_rfl) (by kernel_rfl) (by kernel_rfl) (by kernel_rfl) (fun _ _ _ h => h) (Or.inl ⟨by rfl, ?_⟩) hS0 ?_
        rotate_left
        · (intro wS hSw; obtain ⟨⟨_, _, _, _, _⟩, _⟩ := hSw; go_simp; try with_reducible rfl)
        try simp only [Act.put, List.setIfInBounds_toArray, List.set_cons_zero, List.set_cons_succ]
        refine upto_take (i := 2) (d := some 67) (v := ?_) rfl rfl (by kernel_rfl) (by kernel_rfl) (by kernel_rfl) (by kernel_rfl) (fun _ _ _ h => h) (Or.inl ⟨by rfl, ?_⟩) hS0 ?_
        rotate_left
        · (intro wS hSw; obtain ⟨⟨_, _, _, _, _⟩, _⟩ := hSw; go_simp; try with_reducible rfl)
        try simp only [Act.put, List.setIfInBounds_toArray, List.set_cons_zero, List.set_cons_succ]
        refine upto_take (i := 3) (d := some 68) (v := ?_) rfl rfl (by kernel_rfl) (by kernel_rfl) (by kernel_rfl) (by kernel_rfl) (fun _ _ _ h => h) (Or.inl ⟨by rfl, ?_⟩) hS0 ?_
        rotate_left
        · (intro wS hSw; obtain ⟨⟨_, _, _, _, _⟩, _⟩ := hSw; go_simp; try with_reducible rfl)
        try simp only [Act.put, List.setIfInBounds_toArray, List.set_cons_zero, List.set_cons_succ]
        refine upto_take (i := 4) (d := some 69) (v := ?_) rfl rfl (by kernel_rfl) (by kernel_rfl) (by kernel_rfl) (by kernel_rfl) (fun _ _ _ h => h) (Or.inl ⟨by rfl, ?_⟩) hS0 ?_
        rotate_left
        · (intro wS hSw; obtain ⟨⟨_, _, _, _, _⟩, _⟩ := hSw; go_simp; try with_reducible rfl)
        try simp only [Act.put, List.setIfInBounds_toArray, List.set_cons_zero, List.set_cons_succ]
        refine upto_two (i := 5) (j := 9) (by kernel_rfl) rfl rfl (fun K hK => ?_) (fun K hK => ?_)
        · go_simp
          refine (implDropScope_law Y _ n u0 (InV.mono (fun k hk => hk.1) _ _ HY0.out.inv) hszY hnb true Q HOKY.out HQ.out).mono ?_
          rintro e v1 ⟨q0, q1, q2, q3, rfl, hin, hend, hb⟩
          have hsv1 : u0.heap.size ≤ v1.heap.size := hb.size
          clear hend
          have HY1 := Lib.hid (HY0.out.later hb)
          have hc1 : v1.cell? ⟨lb, lo + j, none⟩ = some (.int .i64 n) := cell_later' (hb0.trans (hb.mono hsu)) hcell
          have hS1 : (fun WS : World => FormBox WS w5.heap.size Y y0 y1 y2 y3 ∧ WS.cell? ⟨lb, lo + j, none⟩ = some (.int .i64 n)) v1 := ⟨HY1.out.box, hc1⟩
          refine hK.out _ _ (.inr hS1) ?_
          clear hK K hS0
          refine upto_take (i := 6) (d := some 64) (v := ?_) rfl rfl (by kernel_rfl) (by kernel_rfl) (by kernel_rfl) (by kernel_rfl) (fun _ _ _ h => h) (Or.inl ⟨by rfl, ?_⟩) hS1 ?_
          rotate_left
          · (intro wS hSw; obtain ⟨⟨_, _, _, _, _⟩, _⟩ := hSw; go_simp; try with_reducible rfl)
          try simp only [Act.put, List.setIfInBounds_toArray, List.set_cons_zero, List.set_cons_succ]
          refine upto_take (i := 7) (d := some 71) (v := ?_) rfl rfl (by kernel_rfl) (by kernel_rfl) (by kernel_rfl) (by kernel_rfl) (fun _ _ _ h => h) (Or.inl ⟨by rfl, ?_⟩) hS1 ?_
          rotate_left
          · (intro wS hSw; obtain ⟨⟨_, _, _, _, _⟩, _⟩ := hSw; go_simp; try with_reducible rfl)
          try simp only [Act.put, List.setIfInBounds_toArray, List.set_cons_zero, List.set_cons_succ]
          refine upto_take (i := 8) (d := some 72) (v := ?_) rfl rfl (by kernel_rfl) (by kernel_rfl) (by kernel_rfl) (by kernel_rfl) (fun _ _ _ h => h) (Or.inl ⟨by rfl, ?_⟩) hS1 ?_
          rotate_left
          · (intro wS hSw; obtain ⟨⟨_, _, _, _, _⟩, _⟩ := hSw; go_simp; try with_reducible rfl)
          try simp only [Act.put, List.setIfInBounds_toArray, List.set_cons_zero, List.set_cons_succ]
          refine upto_one (i := 9) (by kernel_rfl) rfl (fun K hK => ?_)
          go_simp
          refine gen_world' (fun v2 hu => ?_)
          have hb2 : Below v1.heap.size v1 v2 := by rw [hu]; exact below_alloc _ _
          have hzz : v2.heap[v1.heap.size]? = some (.cells #[.int .i64 0, .string { data := #[] }, .int .i64 0, .slice none 0 0, .slice none 0 0] 27 (0, 0)) := by rw [hu]; exact heap_alloc_new _ _
          have hs2 : v1.heap.size + 1 ≤ v2.heap.size := by rw [hu]; simp
          have HY2 := Lib.hid (HY1.out.later hb2)
          have hcz : v2.cell? ⟨lb, lo + j, none⟩ = some (.int .i64 n) := cell_later' hb2 hc1
          have hin2 : InV (fun k => u0.heap.size ≤ k ∧ k < v1.heap.size) v2 Q (.agg #[.int .i64 Q.kind, .string Q.name, .int .i64 Q.n, .slice q0 Q.scopes.length q1, .slice q2 Q.kids.length q3]) := InV.later (Same.of_below hb2 fun k hk => hk.2) _ _ hin
          have HIN := Lib.hid hin2
          have hy1 : InV (fun k => k < v1.heap.size ∧ k ≠ w5.heap.size) v2 Y (.agg #[.int .i64 Y.kind, .string Y.name, .int .i64 Y.n, .slice y0 Y.scopes.length y1, .slice y2 Y.kids.length y3]) := InV.later (Same.of_below hb2 fun k hk => hk.1) _ _ HY1.out.inv
          have HIY := Lib.hid hy1
          have hw0 : w5.heap.size < u0.heap.size := by omega
          refine hK.out _ _ (.inr ⟨HY2.out.box, hcz⟩) ?_
          clear hK K hu hb hb2 hin hin2 hS1 hc1 hy1
          obtain ⟨r0, r1, r2, r3, r4, t0, t1, t2, t3, t4⟩ := zeroFacts hzz
          have hS2 : (fun WS : World => FormBox WS w5.heap.size Y y0 y1 y2 y3 ∧ WS.cell? ⟨lb, lo + j, none⟩ = some (.int .i64 n)) v2 := ⟨HY2.out.box, hcz⟩
          refine upto_one (i := 10) (by kernel_rfl) rfl (fun K hK => ?_)
          go_simp
          refine gen_world' (fun vS hu => ?_)
          have hv : vS = set5 v2 v1.heap.size 0 (.int .i64 Q.kind) (.string Q.name) (.int .i64 Q.n) (.slice q0 Q.scopes.length q1) (.slice q2 Q.kids.length q3) := by rw [hu]; simp only [set5, Nat.zero_add]
          clear hu
          have hx9 : FormBox vS v1.heap.size Q q0 q1 q2 q3 := by rw [hv]; exact set5_in v2 v1.heap.size 0 (.int .i64 Q.kind) (.string Q.name) (.int .i64 Q.n) (.slice q0 Q.scopes.length q1) (.slice q2 Q.kids.length q3) (zeroThere hzz)
          have hblk : ∀ k, k ≠ v1.heap.size → vS.heap[k]? = v2.heap[k]? := fun k hk => by rw [hv]; exact set5_block _ _ _ _ _ _ _ _ hk
          have hsS : vS.heap.size = v2.heap.size := by rw [hv]; exact set5_size _ _ _ _ _ _ _ _
          have HYS : Hid (YAt w5 vS Y y0 y1 y2 y3) := by
            have h := HY2.out
            have hb9 : vS.heap[w5.heap.size]? = v2.heap[w5.heap.size]? := hblk _ (by omega)
            refine ⟨by rw [hv]; exact set5_below h.below (b := v1.heap.size) (by omega) 0 _ _ _ _ _, ?_, fun i => (World.frozen?_of_block (a := ⟨w5.heap.size, i, none⟩) hb9).trans (h.free i), ?_⟩
            · obtain ⟨b0, b1, b2, b3, b4⟩ := h.box
              exact ⟨(World.cell?_of_block (a := ⟨w5.heap.size, 0, none⟩) hb9).trans b0, (World.cell?_of_block (a := ⟨w5.heap.size, 1, none⟩) hb9).trans b1, (World.cell?_of_block (a := ⟨w5.heap.size, 2, none⟩) hb9).trans b2, (World.cell?_of_block (a := ⟨w5.heap.size, 3, none⟩) hb9).trans b3, (World.cell?_of_block (a := ⟨w5.heap.size, 4, none⟩) hb9).trans b4⟩
            · exact InV.mono (fun k hk => by omega) _ _ (InV.later (w := v2) (fun k hk => hblk k (by omega)) _ _ HIY.out)
          have hcS : vS.cell? ⟨lb, lo + j, none⟩ = some (.int .i64 n) := (World.cell?_of_block (a := ⟨lb, lo + j, none⟩) (hblk lb (by omega))).trans hcz
          have HQS : Hid (InV (fun k => k < vS.heap.size ∧ k ≠ w5.heap.size) vS Q (.agg #[.int .i64 Q.kind, .string Q.name, .int .i64 Q.n, .slice q0 Q.scopes.length q1, .slice q2 Q.kids.length q3])) := InV.mono (fun k hk => by omega) _ _ (InV.later (w := v2) (fun k hk => hblk k (by omega)) _ _ HIN.out)
          have hzl : v1.heap.size < vS.heap.size := hx9.lt
          clear r0 r1 r2 r3 r4 t0 t1 t2 t3 t4 hv hblk hsS
          have hS3 : (fun WS : World => FormBox WS w5.heap.size Y y0 y1 y2 y3 ∧ WS.cell? ⟨lb, lo + j, none⟩ = some (.int .i64 n)) vS := ⟨HYS.out.box, hcS⟩
          refine hK.out _ _ (.inr hS3) ?_
          clear hK K hS2 hzz hcz
          refine upto_take (i := 11) (d := some 13) (v := ?_) rfl rfl (by kernel_rfl) (by kernel_rfl) (by kernel_rfl) (by kernel_rfl) (fun _ _ _ h => h) (Or.inl ⟨by rfl, ?_⟩) hS3 ?_
          rotate_left
          · (intro wS hSw; obtain ⟨⟨_, _, _, _, _⟩, _⟩ := hSw; go_simp; try with_reducible rfl)
          try simp only [Act.put, List.setIfInBounds_toArray, List.set_cons_zero, List.set_cons_succ]
          clear hS3 hcS
          refine upto_done (by kernel_rfl) ?_ _
          obtain ⟨c0, c1, c2, c3, c4⟩ := HYS.out.box
          obtain ⟨z0, z1, z2, z3, z4⟩ := hx9
          have g0 := HYS.out.free 0
          have g1 := HYS.out.free 1
          have g2 := HYS.out.free 2
          have g3 := HYS.out.free 3
          have g4 := HYS.out.free 4
          have hset := HYS.out.set (Q := Q) (q0 := q0) (q1 := q1) (q2 := q2) (q3 := q3) HQS.out
          unfold set5 at hset
          simp only [Nat.zero_add] at hset
          have HSET := Lib.hid hset
          clear hset
          go_wp2_with fail
          go_roundw
          case rel => exact ⟨j + 1, Q, q0, q1, q2, q3, by go_num, by omega, HNX.out, HSET.out⟩
          case measure => simp [intOf]; omega
        · go_simp
          refine gen_world' (fun v1 hu => ?_)
          have hb2 : Below u0.heap.size u0 v1 := by rw [hu]; exact below_alloc _ _
          have hz1 : v1.heap[u0.heap.size]? = some (.cells #[.int .i64 0, .string { data := #[] }, .int .i64 0, .slice none 0 0, .slice none 0 0] 27 (0, 0)) := by rw [hu]; exact heap_alloc_new _ _
          have hs1 : u0.heap.size + 1 ≤ v1.heap.size := by rw [hu]; simp
          have HY1 := Lib.hid (HY0.out.later hb2)
          have hc1 : v1.cell? ⟨lb, lo + j, none⟩ = some (.int .i64 n) := cell_later' (hb0.trans (hb2.mono hsu)) hcell
          have hS1 : (fun WS : World => FormBox WS w5.heap.size Y y0 y1 y2 y3 ∧ WS.cell? ⟨lb, lo + j, none⟩ = some (.int .i64 n)) v1 := ⟨HY1.out.box, hc1⟩
          have hy1 : InV (fun k => k < u0.heap.size ∧ k ≠ w5.heap.size) v1 Y (.agg #[.int .i64 Y.kind, .string Y.name, .int .i64 Y.n, .slice y0 Y.scopes.length y1, .slice y2 Y.kids.length y3]) := InV.later (Same.of_below hb2 fun k hk => hk.1) _ _ HY0.out.inv
          have hw0 : w5.heap.size < u0.heap.size := by omega
          refine hK.out _ _ (.inr hS1) ?_
          clear hK K hu hb2 hS0
          refine upto_one (i := 5) (by kernel_rfl) rfl (fun K hK => ?_)
          go_simp
          refine (implDropScope_law Y _ n v1 (InV.mono (fun k hk => hk.1) _ _ HY1.out.inv) hszY hnb true Q HOKY.out HQ.out).mono ?_
          rintro e v2 ⟨q0, q1, q2, q3, rfl, hin, hend, hb⟩
          have hsv2 : v1.heap.size ≤ v2.heap.size := hb.size
          clear hend
          have HY2 := Lib.hid (HY1.out.later hb)
          have hcz : v2.cell? ⟨lb, lo + j, none⟩ = some (.int .i64 n) := cell_later' hb hc1
          have hzz : v2.heap[u0.heap.size]? = some (.cells #[.int .i64 0, .string { data := #[] }, .int .i64 0, .slice none 0 0, .slice none 0 0] 27 (0, 0)) := (hb.block _ (by omega)).trans hz1
          have HIN := Lib.hid hin
          have HIY : Hid (InV (fun k => k < u0.heap.size ∧ k ≠ w5.heap.size) v2 Y (.agg #[.int .i64 Y.kind, .string Y.name, .int .i64 Y.n, .slice y0 Y.scopes.length y1, .slice y2 Y.kids.length y3])) := InV.later (fun k hk => hb.block k (by omega)) _ _ hy1
          refine hK.out _ _ (.inr ⟨HY2.out.box, hcz⟩) ?_
          clear hK K hb hin hS1 hc1 hz1 hy1
          obtain ⟨r0, r1, r2, r3, r4, t0, t1, t2, t3, t4⟩ := zeroFacts hzz
          have hS2 : (fun WS : World => FormBox WS w5.heap.size Y y0 y1 y2 y3 ∧ WS.cell? ⟨lb, lo + j, none⟩ = some (.int .i64 n)) v2 := ⟨HY2.out.box, hcz⟩
          refine upto_take (i := 6) (d := some 64) (v := ?_) rfl rfl (by kernel_rfl) (by kernel_rfl) (by kernel_rfl) (by kernel_rfl) (fun _ _ _ h => h) (Or.inl ⟨by rfl, ?_⟩) hS2 ?_
          rotate_left
          · (intro wS hSw; obtain ⟨⟨_, _, _, _, _⟩, _⟩ := hSw; go_simp; try with_reducible rfl)
          try simp only [Act.put, List.setIfInBounds_toArray, List.set_cons_zero, List.set_cons_succ]
          refine upto_take (i := 7) (d := some 71) (v := ?_) rfl rfl (by kernel_rfl) (by kernel_rfl) (by kernel_rfl) (by kernel_rfl) (fun _ _ _ h => h) (Or.inl ⟨by rfl, ?_⟩) hS2 ?_
          rotate_left
          · (intro wS hSw; obtain ⟨⟨_, _, _, _, _⟩, _⟩ := hSw; go_simp; try with_reducible rfl)
          try simp only [Act.put, List.setIfInBounds_toArray, List.set_cons_zero, List.set_cons_succ]
          refine upto_take (i := 8) (d := some 72) (v := ?_) rfl rfl (by kernel_rfl) (by kernel_rfl) (by kernel_rfl) (by kernel_rfl) (fun _ _ _ h => h) (Or.inl ⟨by rfl, ?_⟩) hS2 ?_
          rotate_left
          · (intro wS hSw; obtain ⟨⟨_, _, _, _, _⟩, _⟩ := hSw; go_simp; try with_reducible rfl)
          try simp only [Act.put, List.setIfInBounds_toArray, List.set_cons_zero, List.set_cons_succ]
          refine upto_one (i := 10) (by kernel_rfl) rfl (fun K hK => ?_)
          go_simp
          refine gen_world' (fun vS hu => ?_)
          have hv : vS = set5 v2 u0.heap.size 0 (.int .i64 Q.kind) (.string Q.name) (.int .i64 Q.n) (.slice q0 Q.scopes.length q1) (.slice q2 Q.kids.length q3) := by rw [hu]; simp only [set5, Nat.zero_add]
          clear hu
          have hx9 : FormBox vS u0.heap.size Q q0 q1 q2 q3 := by rw [hv]; exact set5_in v2 u0.heap.size 0 (.int .i64 Q.kind) (.string Q.name) (.int .i64 Q.n) (.slice q0 Q.scopes.length q1) (.slice q2 Q.kids.length q3) (zeroThere hzz)
          have hblk : ∀ k, k ≠ u0.heap.size → vS.heap[k]? = v2.heap[k]? := fun k hk => by rw [hv]; exact set5_block _ _ _ _ _ _ _ _ hk
          have hsS : vS.heap.size = v2.heap.size := by rw [hv]; exact set5_size _ _ _ _ _ _ _ _
          have HYS : Hid (YAt w5 vS Y y0 y1 y2 y3) := by
            have h := HY2.out
            have hb9 : vS.heap[w5.heap.size]? = v2.heap[w5.heap.size]? := hblk _ (by omega)
            refine ⟨by rw [hv]; exact set5_below h.below (b := u0.heap.size) (by omega) 0 _ _ _ _ _, ?_, fun i => (World.frozen?_of_block (a := ⟨w5.heap.size, i, none⟩) hb9).trans (h.free i), ?_⟩
            · obtain ⟨b0, b1, b2, b3, b4⟩ := h.box
              exact ⟨(World.cell?_of_block (a := ⟨w5.heap.size, 0, none⟩) hb9).trans b0, (World.cell?_of_block (a := ⟨w5.heap.size, 1, none⟩) hb9).trans b1, (World.cell?_of_block (a := ⟨w5.heap.size, 2, none⟩) hb9).trans b2, (World.cell?_of_block (a := ⟨w5.heap.size, 3, none⟩) hb9).trans b3, (World.cell?_of_block (a := ⟨w5.heap.size, 4, none⟩) hb9).trans b4⟩
            · exact InV.mono (fun k hk => by omega) _ _ (InV.later (w := v2) (fun k hk => hblk k (by omega)) _ _ HIY.out)
          have hcS : vS.cell? ⟨lb, lo + j, none⟩ = some (.int .i64 n) := (World.cell?_of_block (a := ⟨lb, lo + j, none⟩) (hblk lb (by omega))).trans hcz
          have HQS : Hid (InV (fun k => k < vS.heap.size ∧ k ≠ w5.heap.size) vS Q (.agg #[.int .i64 Q.kind, .string Q.name, .int .i64 Q.n, .slice q0 Q.scopes.length q1, .slice q2 Q.kids.length q3])) := InV.mono (fun k hk => by omega) _ _ (InV.later (w := v2) (fun k hk => hblk k (by omega)) _ _ HIN.out)
          have hzl : u0.heap.size < vS.heap.size := hx9.lt
          clear r0 r1 r2 r3 r4 t0 t1 t2 t3 t4 hv hblk hsS
          have hS3 : (fun WS : World => FormBox WS w5.heap.size Y y0 y1 y2 y3 ∧ WS.cell? ⟨lb, lo + j, none⟩ = some (.int .i64 n)) vS := ⟨HYS.out.box, hcS⟩
          refine hK.out _ _ (.inr hS3) ?_
          clear hK K hS2 hzz hcz
          refine upto_take (i := 11) (d := some 13) (v := ?_) rfl rfl (by kernel_rfl) (by kernel_rfl) (by kernel_rfl) (by kernel_rfl) (fun _ _ _ h => h) (Or.inl ⟨by rfl, ?_⟩) hS3 ?_
          rotate_left
          · (intro wS hSw; obtain ⟨⟨_, _, _, _, _⟩, _⟩ := hSw; go_simp; try with_reducible rfl)
          try simp only [Act.put, List.setIfInBounds_toArray, List.set_cons_zero, List.set_cons_succ]
          clear hS3 hcS
          refine upto_done (by kernel_rfl) ?_ _
          obtain ⟨c0, c1, c2, c3, c4⟩ := HYS.out.box
          obtain ⟨z0, z1, z2, z3, z4⟩ := hx9
          have g0 := HYS.out.free 0
          have g1 := HYS.out.free 1
          have g2 := HYS.out.free 2
          have g3 := HYS.out.free 3
          have g4 := HYS.out.free 4
          have hset := HYS.out.set (Q := Q) (q0 := q0) (q1 := q1) (q2 := q2) (q3 := q3) HQS.out
          unfold set5 at hset
          simp only [Nat.zero_add] at hset
          have HSET := Lib.hid hset
          clear hset
          go_wp2_with fail
          go_roundw
          case rel => exact ⟨j + 1, Q, q0, q1, q2, q3, by go_num, by omega, HNX.out, HSET.out⟩
          case measure => simp [intOf]; omega
      · have hjl : j = M.length := by omega
        subst hjl
        have hnb : ¬ ((M.length : Int) < (M.length : Int)) := by omega
        have hYZ : Y = Z := hY.trans HALL.out.1
        subst hYZ
        have Byy : Hid (FormBox wr w5.heap.size Y y0 y1 y2 y3) := hy.box
        have Iyy : Hid (InV (· < wr.heap.size) wr Y (.agg #[.int .i64 Y.kind, .string Y.name, .int .i64 Y.n, .slice y0 Y.scopes.length y1, .slice y2 Y.kids.length y3])) := InV.mono (fun k hk => hk.1) _ _ hy.inv
        have HVY := Lib.hid HALL.out.2
        clear hy hY HY HYE HALL
        obtain ⟨ld0, ld1, ld2, ld3, ld4⟩ := Byy.out
        have hx0 : w5.heap.size < wr.heap.size := Byy.out.lt
        obtain ⟨ld5, ld6, ld7, ld8, ld9⟩ := Bf_5.out
        have hx1 : w1.heap.size < wr.heap.size := Bf_5.out.lt
        go_wp2_with fail
        clear ld0 ld1 ld2 ld3 ld4 ld5 ld6 ld7 ld8 ld9 hx0 hx1
        refine upto_begin (fun WS : World => FormBox WS w5.heap.size Y y0 y1 y2 y3 ∧ FormBox WS w1.heap.size f f0 f1 f2 f3) 5 (by kernel_rfl) ?_
        refine gen_upto (fun w6 hu => ?_)
        have hb0 : Below wr.heap.size wr w6 := by rw [hu]; exact (Below.refl _ _).drew
        have hb := hb0
        have hs6 : wr.heap.size ≤ w6.heap.size := hb.size
        have HL_6 := Lib.hid (HL_5.out.trans (hb.mono (by omega)))
        have If_6 := Lib.hid (inv_up If_5.out hb)
        have Bf_6 := Lib.hid (FormBox.later Bf_5.out hb)
        have Ix_5 := Lib.hid (inv_up Ix_4.out hb)
        have Ex_5 := Lib.hid (EndlessAt.later Ex_4.out hb)
        have Bx_5 := Lib.hid (FormBox.later Bx_4.out hb)
        have RM_2 := Lib.hid (irow_up RM_1.out hb)
        have Byy_1 := Lib.hid (FormBox.later Byy.out hb)
        have Iyy_1 := Lib.hid (inv_up Iyy.out hb)
        clear HL_5 If_5 Bf_5 Ix_4 Ex_4 Bx_4 RM_1 Byy Iyy
        clear hu hb hb0 
        have hS1 : (fun WS : World => FormBox WS w5.heap.size Y y0 y1 y2 y3 ∧ FormBox WS w1.heap.size f f0 f1 f2 f3) w6 := ⟨Byy_1.out, Bf_6.out⟩
        refine upto_take (i := 0) (d := some 76) (v := ?_) rfl rfl (by kernel_rfl) (by kernel_rfl) (by kernel_rfl) (by kernel_rfl) (fun _ _ _ h => h) (Or.inl ⟨by rfl, ?_⟩) hS1 ?_
        rotate_left
        · (intro wS hSw; obtain ⟨⟨_, _, _, _, _⟩, ⟨_, _, _, _, _⟩⟩ := hSw; go_simp; try with_reducible rfl)
        try simp only [Act.put, List.setIfInBounds_toArray, List.set_cons_zero, List.set_cons_succ]
        refine upto_take (i := 1) (d := some 77) (v := ?_) rfl rfl (by kernel_rfl) (by kernel_rfl) (by kernel_rfl) (by kernel_rfl) (fun _ _ _ h => h) (Or.inl ⟨by rfl, ?_⟩) hS1 ?_
        rotate_left
        · (intro wS hSw; obtain ⟨⟨_, _, _, _, _⟩, ⟨_, _, _, _, _⟩⟩ := hSw; go_simp; try with_reducible rfl)
        try simp only [Act.put, List.setIfInBounds_toArray, List.set_cons_zero, List.set_cons_succ]
        refine upto_one (i := 2) (by kernel_rfl) rfl (fun K hK => ?_)
        go_simp
        refine (implStrip_law f _ w6 If_6.out hszf (valid_end HVF.out If_6.out) Y HZ0.out).mono ?_
        rintro e w7 ⟨za, zb, zc, zd, rfl, hin, hend, hb⟩
        have hs7 : w6.heap.size ≤ w7.heap.size := hb.size
        clear hS1
        have HL_7 := Lib.hid (HL_6.out.trans (hb.mono (by omega)))
        have If_7 := Lib.hid (inv_up If_6.out hb)
        have Bf_7 := Lib.hid (FormBox.later Bf_6.out hb)
        have Ix_6 := Lib.hid (inv_up Ix_5.out hb)
        have Ex_6 := Lib.hid (EndlessAt.later Ex_5.out hb)
        have Bx_6 := Lib.hid (FormBox.later Bx_5.out hb)
        have RM_3 := Lib.hid (irow_up RM_2.out hb)
        have Byy_2 := Lib.hid (FormBox.later Byy_1.out hb)
        have Iyy_2 := Lib.hid (inv_up Iyy_1.out hb)
        clear HL_6 If_6 Bf_6 Ix_5 Ex_5 Bx_5 RM_2 Byy_1 Iyy_1
        have hS2 : (fun WS : World => FormBox WS w5.heap.size Y y0 y1 y2 y3 ∧ FormBox WS w1.heap.size f f0 f1 f2 f3) w7 := ⟨Byy_2.out, Bf_7.out⟩
        have IZ := Lib.hid (InV.mono (ψ := (· < w7.heap.size)) (fun k hk => hk.2) _ _ hin)
        clear hin hend
        refine hK.out _ _ (.inr hS2) ?_
        clear hK K hb
        refine upto_one (i := 3) (by kernel_rfl) rfl (fun K hK => ?_)
        go_simp
        refine (implSame_law Y Y _ _ w7 Iyy_2.out IZ.out HZC.out (valid_end HVY.out Iyy_2.out) true (sameB_refl Y)).mono ?_
        rintro e w8 ⟨rfl, hb⟩
        have hs8 : w7.heap.size ≤ w8.heap.size := hb.size
        clear hS2
        have HL_8 := Lib.hid (HL_7.out.trans (hb.mono (by omega)))
        have If_8 := Lib.hid (inv_up If_7.out hb)
        have Bf_8 := Lib.hid (FormBox.later Bf_7.out hb)
        have Ix_7 := Lib.hid (inv_up Ix_6.out hb)
        have Ex_7 := Lib.hid (EndlessAt.later Ex_6.out hb)
        have Bx_7 := Lib.hid (FormBox.later Bx_6.out hb)
        have RM_4 := Lib.hid (irow_up RM_3.out hb)
        have Byy_3 := Lib.hid (FormBox.later Byy_2.out hb)
        have Iyy_3 := Lib.hid (inv_up Iyy_2.out hb)
        have IZ_1 := Lib.hid (inv_up IZ.out hb)
        clear HL_7 If_7 Bf_7 Ix_6 Ex_6 Bx_6 RM_3 Byy_2 Iyy_2 IZ
        have hS3 : (fun WS : World => FormBox WS w5.heap.size Y y0 y1 y2 y3 ∧ FormBox WS w1.heap.size f f0 f1 f2 f3) w8 := ⟨Byy_3.out, Bf_8.out⟩
        refine hK.out _ _ (.inr hS3) ?_
        clear hK K hb
        refine upto_take (i := 4) (d := some 2) (v := ?_) rfl rfl (by kernel_rfl) (by kernel_rfl) (by kernel_rfl) (by kernel_rfl) (fun _ _ _ h => h) (Or.inl ⟨by rfl, ?_⟩) hS3 ?_
        rotate_left
        · (intro wS hSw; obtain ⟨⟨_, _, _, _, _⟩, ⟨_, _, _, _, _⟩⟩ := hSw; go_simp; try with_reducible rfl)
        try simp only [Act.put, List.setIfInBounds_toArray, List.set_cons_zero, List.set_cons_succ]
        clear hS3
        refine upto_done (by kernel_rfl) ?_ _
        go_wp2_with fail
        go_ret
        exact ⟨rfl, HL_8.out⟩
theorem own : ownKnob Try.prog.godebug = none := by kernel_rfl
theorem laidOut : laidOutB Try.prog = true := by kernel_rfl
set_option maxRecDepth 100000 in
theorem lifted (os : Os) (started : os.Started) (H : Type) (enc : TypeId × Value → H) :
    ReturnsInHanded {} Try.checked os 13 .any (Rows.fnDropAllSpec.pre6 enc Try.prog Try.f13 Rows.fnDropAllRow.domain false) (Rows.fnDropAllSpec.post enc Try.prog Try.f13 false true false false) := by
  refine returnsInHanded_of_change (C := Try.checked) own started (by kernel_rfl) Try.func13
    (ChangeSpec.witness6 (enc := enc) (C := Try.checked) false ⟨#[], #[.slice none 0 0], []⟩ 12 (by kernel_rfl) (by kernel_rfl) (by kernel_rfl) (by kernel_rfl)) ?_
  intro W base args ds gs before hval0 hW hcnd _
  have hval : ∀ (j : Nat) t v, Try.f13.params[j]? = some t → args[j]? = some v → Value.okWide Try.prog W .any base t v := hval0
  have hW' := hW
  obtain ⟨p, q, hA0, hV, rfl, hfz, hnd⟩ := hW
  have hA : DataW.TrodAll enc Try.prog W 0 (fun _ => true) true Try.f13.params.toList args.toList ds p := hA0
  rw [Try.params13] at hA hval
  obtain ⟨v0, vs0, d0, ds0, p0, q0, hargs, rfl, rfl, h0, r0⟩ := trodAll_cons hA
  obtain ⟨rfl, rfl, rfl⟩ := trodAll_nil r0
  obtain rfl : args = #[v0] := by cases args; simp_all
  obtain ⟨rfl, rfl⟩ := trodVars_none hV
  have k0 := h0
  have lt0 : ∀ x ∈ p0, x.block < W.heap.size := by obtain ⟨m, hm⟩ := k0; exact DataW.trod_lt m _ _ _ hm
  obtain ⟨f0, i0⟩ := open_bytes_arg (hval 0 22 v0 rfl rfl) h0
  clear hA0 hval0
  try simp only [List.append_nil] at hW'
  refine (walk W f0 v0 i0).mono fun e W' ⟨he, bel⟩ => ?_
  subst he
  exact ⟨_, rfl, _, _, _, [], _, [], hW', trodAll_mk1 (shut_bool Try.underlying4 _), (trodAll_cons_mk (Below.trod laidOut (by kernel_rfl) (of_decide_eq_true (by kernel_rfl)) k0 bel lt0) trodAll_mk0), rfl, bel.frame _, fun h => by cases h⟩
theorem over_named : Try.pinned.checked.prog.funcNamed Rows.fnDropAllRow.func = some 13 := by kernel_rfl
theorem over_closed : joinedFacts Try.pinned.checked.prog 13 Try.f13 Rows.fnDropAllSpec Rows.fnDropAllRow = true := by kernel_rfl
theorem over_inst : Func.isInstance Try.pinned.checked.prog Try.f13 Rows.fnDropAllRow.origin Rows.fnDropAllRow.targs := of_decide_eq_true (by kernel_rfl)
theorem over_wrap : Func.isWrapper Try.pinned.checked.prog Try.f13 Rows.fnDropAllRow.wrapper Rows.fnDropAllRow.mainSum := (by unfold Func.isWrapper; first | (rw [if_pos (by decide +kernel)]; kernel_rfl) | (rw [if_neg (by decide +kernel)]; exact ⟨rfl, rfl⟩))
theorem over : Rows.fnDropAllRow.holds Try.pinned (OpenSpec.ofChange Rows.fnDropAllSpec) :=
  OpenClaim.holds_of_wide 13 Try.f13 rfl rfl rfl rfl rfl rfl rfl ⟨rfl, rfl, rfl, rfl, rfl⟩ rfl rfl rfl rfl rfl over_named Try.func13 over_closed over_inst over_wrap
    (fun os started H enc _ => lifted os started H enc)
theorem proved : Rows.FnDropAllSaid := over
end Go.Proofs.Ytmakaoomdnlebaa.lwDropAll
