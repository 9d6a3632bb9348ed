/- For every input the form of the drawn list has its forms, and as many nodes and one more; the program and the model agree: the law FnListForm returns true, whatever the input, with no condition beyond the statement's own. -/
import Derived.Test.YtbmpgfojhoganaaRows
import Derived.Test.YtbmpgfojhoganaaLwLists
import Derived.Test.YtbmpgfojhoganaaLwSizes
namespace Go.Proofs.Ytbmpgfojhoganaa.lwListForm
open Go.ChangeShapes Go.WideShapes Go.ChangeAt Go.RowKit
open Go.ChangeMaps (open_string shut_string)
set_option linter.unusedVariables false
set_option linter.unusedSimpArgs false
set_option maxRecDepth 100000 in
set_option maxHeartbeats 4000000 in
theorem walk (w : World) (n : Nat) (v : Value) (hv : Bytes w v n) :
    Calls Try.prog 5 #[v] w fun e w' => e = .returned (.bool true) ∧ Below w.heap.size w w' := by
  have HV := Lib.hid hv
  obtain ⟨a0, c0, rfl, hn1, hn2, _⟩ := hv
  unfold maxLen at hn2
  by_cases hbig : (1048576 : Int) < n
  · go_enter Try.func5, Try.ntmps5
    go_wp2_with fail
    go_ret
    exact ⟨rfl, Below.refl _ _⟩
  go_enter Try.func5, Try.ntmps5
  go_wp2_with fail
  refine (drawListForm_any _ n w HV.out).mono ?_
  rintro e w1 ⟨ks, ksa, ksc, rfl, hfi, hl3, hsl, hb⟩
  have hs1 : w.heap.size ≤ w1.heap.size := hb.size
  have HL := Lib.hid hb
  clear HV
  clear hb
  obtain ⟨hszks, hctks⟩ := list_small hl3 hsl
  have hlnks : ks.length ≤ 3 := hl3
  have Fks : Hid (FormsIn (· < w1.heap.size) w1 ksa ksc ks) := by
    refine ⟨hfi.1, hfi.2.1, ?_⟩
    rcases hfi.2.2 with h | ⟨b3, o3, h1, h2, h3⟩
    · exact .inl h
    · exact .inr ⟨b3, o3, h1, by omega, RowIn.mono (fun k hk => by omega) b3 o3 ks h3⟩
  clear hfi hl3 hsl
  obtain ⟨ok, hok⟩ : ∃ ok, formB (listFm ks) = ok := ⟨_, rfl⟩
  obtain ⟨R, hR⟩ : ∃ R, (if ok = true then listFm ks else zeroForm) = R := ⟨_, rfl⟩
  have HCR : Hid (R.count ≤ 4294967296) := by have h1 := listFm_count hR; unfold Hid; omega
  have HOKR := Lib.hid hok
  have HRR := Lib.hid hR
  clear hok hR
  go_wp2_with fail
  refine (implListForm_law ks ksa ksc w1 Fks.out hszks (by omega) ok R HOKR.out HRR.out).mono ?_
  rintro e w2 ⟨x0, x1, x2, x3, rfl, hin, hend, hb⟩
  have hs2 : w1.heap.size ≤ w2.heap.size := hb.size
  have HL_1 := Lib.hid (HL.out.trans (hb.mono (by omega)))
  have Fks_1 := Lib.hid (forms_up Fks.out hb)
  clear HL Fks
  clear hb
  have Ix : Hid (InV (· < w2.heap.size) w2 R (.agg #[.int .i64 R.kind, .string R.name, .int .i64 R.n, .slice x0 R.scopes.length x1, .slice x2 R.kids.length x3])) := InV.mono (fun k hk => hk.2) _ _ hin
  have Ex := Lib.hid hend
  clear hin hend
  go_wp2_with fail
  have hba0 := below_alloc w2 (.cells #[.int .i64 R.kind, .string R.name, .int .i64 R.n, .slice x0 R.scopes.length x1, .slice x2 R.kids.length x3] 26)
  have Bx : Hid (FormBox (w2.alloc (.cells #[.int .i64 R.kind, .string R.name, .int .i64 R.n, .slice x0 R.scopes.length x1, .slice x2 R.kids.length x3] 26)) w2.heap.size R x0 x1 x2 x3) := box_lit w2 R w2.heap.size x0 x2 x1 x3 26 (by simp)
  refine (specListForm_law ks ksa ksc (w2.alloc (.cells #[.int .i64 R.kind, .string R.name, .int .i64 R.n, .slice x0 R.scopes.length x1, .slice x2 R.kids.length x3] 26)) (forms_up Fks_1.out hba0) hszks ok R HOKR.out HRR.out).mono ?_
  rintro e w3 ⟨y0, y1, y2, y3, rfl, hin, hb0⟩
  have hb : Below w2.heap.size w2 w3 := hba0.trans (hb0.mono hba0.size)
  have hs3 : w2.heap.size + 1 ≤ w3.heap.size := by have h := hb0.size; simp at h; omega
  have HL_2 := Lib.hid (HL_1.out.trans (hb.mono (by omega)))
  have Fks_2 := Lib.hid (forms_up Fks_1.out hb)
  have Ix_1 := Lib.hid (inv_up Ix.out hb)
  have Ex_1 := Lib.hid (EndlessAt.later Ex.out hb)
  have Bx_1 := Lib.hid (FormBox.later Bx.out hb0)
  clear HL_1 Fks_1 Ix Ex Bx
  clear hb0 hba0
  clear hb
  have Iy : Hid (InV (· < w3.heap.size) w3 R (.agg #[.int .i64 R.kind, .string R.name, .int .i64 R.n, .slice y0 R.scopes.length y1, .slice y2 R.kids.length y3])) := InV.mono (fun k hk => hk.2) _ _ hin
  clear hin
  cases ok with
  | false =>
    obtain ⟨ld0, ld1, ld2, ld3, ld4⟩ := Bx_1.out
    have hx0 : w2.heap.size < w3.heap.size := Bx_1.out.lt
    go_wp2_with fail
    have hba0 := below_alloc w3 (.cells #[.int .i64 R.kind, .string R.name, .int .i64 R.n, .slice y0 R.scopes.length y1, .slice y2 R.kids.length y3] 26)
    have By : Hid (FormBox (w3.alloc (.cells #[.int .i64 R.kind, .string R.name, .int .i64 R.n, .slice y0 R.scopes.length y1, .slice y2 R.kids.length y3] 26)) w3.heap.size R y0 y1 y2 y3) := box_lit w3 R w3.heap.size y0 y2 y1 y3 26 (by simp)
    refine (implSame_law R R _ _ (w3.alloc (.cells #[.int .i64 R.kind, .string R.name, .int .i64 R.n, .slice y0 R.scopes.length y1, .slice y2 R.kids.length y3] 26)) (inv_up Ix_1.out hba0) (inv_up Iy.out hba0) HCR.out (EndlessAt.later Ex_1.out hba0) true (sameB_refl R)).mono ?_
    rintro e w4 ⟨rfl, hb0⟩
    have hb : Below w3.heap.size w3 w4 := hba0.trans (hb0.mono hba0.size)
    have hs4 : w3.heap.size + 1 ≤ w4.heap.size := by have h := hb0.size; simp at h; omega
    clear ld0 ld1 ld2 ld3 ld4 hx0
    have HL_3 := Lib.hid (HL_2.out.trans (hb.mono (by omega)))
    have Fks_3 := Lib.hid (forms_up Fks_2.out hb)
    have Ix_2 := Lib.hid (inv_up Ix_1.out hb)
    have Ex_2 := Lib.hid (EndlessAt.later Ex_1.out hb)
    have Bx_2 := Lib.hid (FormBox.later Bx_1.out hb)
    have Iy_1 := Lib.hid (inv_up Iy.out hb)
    have By_1 := Lib.hid (FormBox.later By.out hb0)
    clear HL_2 Fks_2 Ix_1 Ex_1 Bx_1 Iy By
    clear hb0 hba0
    clear hb
    obtain ⟨ld0, ld1, ld2, ld3, ld4⟩ := Bx_2.out
    have hx0 : w2.heap.size < w4.heap.size := Bx_2.out.lt
    obtain ⟨ld5, ld6, ld7, ld8, ld9⟩ := By_1.out
    have hx1 : w3.heap.size < w4.heap.size := By_1.out.lt
    go_wp2_with fail
    refine (implSame_law R R _ _ w4 Ix_2.out Iy_1.out HCR.out Ex_2.out true (sameB_refl R)).mono ?_
    rintro e w5 ⟨rfl, hb⟩
    have hs5 : w4.heap.size ≤ w5.heap.size := hb.size
    clear ld0 ld1 ld2 ld3 ld4 ld5 ld6 ld7 ld8 ld9 hx0 hx1
    have HL_4 := Lib.hid (HL_3.out.trans (hb.mono (by omega)))
    have Fks_4 := Lib.hid (forms_up Fks_3.out hb)
    have Ix_3 := Lib.hid (inv_up Ix_2.out hb)
    have Ex_3 := Lib.hid (EndlessAt.later Ex_2.out hb)
    have Bx_3 := Lib.hid (FormBox.later Bx_2.out hb)
    have Iy_2 := Lib.hid (inv_up Iy_1.out hb)
    have By_2 := Lib.hid (FormBox.later By_1.out hb)
    clear HL_3 Fks_3 Ix_2 Ex_2 Bx_2 Iy_1 By_1
    clear hb
    go_wp2_with fail
    go_ret
    exact ⟨rfl, HL_4.out⟩
  | true =>
    obtain ⟨ld0, ld1, ld2, ld3, ld4⟩ := Bx_1.out
    have hx0 : w2.heap.size < w3.heap.size := Bx_1.out.lt
    go_wp2_with fail
    have hba0 := below_alloc w3 (.cells #[.int .i64 R.kind, .string R.name, .int .i64 R.n, .slice y0 R.scopes.length y1, .slice y2 R.kids.length y3] 26)
    have By : Hid (FormBox (w3.alloc (.cells #[.int .i64 R.kind, .string R.name, .int .i64 R.n, .slice y0 R.scopes.length y1, .slice y2 R.kids.length y3] 26)) w3.heap.size R y0 y1 y2 y3) := box_lit w3 R w3.heap.size y0 y2 y1 y3 26 (by simp)
    refine (implSame_law R R _ _ (w3.alloc (.cells #[.int .i64 R.kind, .string R.name, .int .i64 R.n, .slice y0 R.scopes.length y1, .slice y2 R.kids.length y3] 26)) (inv_up Ix_1.out hba0) (inv_up Iy.out hba0) HCR.out (EndlessAt.later Ex_1.out hba0) true (sameB_refl R)).mono ?_
    rintro e w4 ⟨rfl, hb0⟩
    have hb : Below w3.heap.size w3 w4 := hba0.trans (hb0.mono hba0.size)
    have hs4 : w3.heap.size + 1 ≤ w4.heap.size := by have h := hb0.size; simp at h; omega
    clear ld0 ld1 ld2 ld3 ld4 hx0
    have HL_3 := Lib.hid (HL_2.out.trans (hb.mono (by omega)))
    have Fks_3 := Lib.hid (forms_up Fks_2.out hb)
    have Ix_2 := Lib.hid (inv_up Ix_1.out hb)
    have Ex_2 := Lib.hid (EndlessAt.later Ex_1.out hb)
    have Bx_2 := Lib.hid (FormBox.later Bx_1.out hb)
    have Iy_1 := Lib.hid (inv_up Iy.out hb)
    have By_1 := Lib.hid (FormBox.later By.out hb0)
    clear HL_2 Fks_2 Ix_1 Ex_1 Bx_1 Iy By
    clear hb0 hba0
    clear hb
    have hRk : R.kids = ks := by rw [← HRR.out]; rfl
    have hRv : formB R = true := by rw [← HRR.out]; exact HOKR.out
    obtain ⟨n0, hn0⟩ : ∃ n0, R.count = n0 := ⟨_, rfl⟩
    have hcR : R.count ≤ 1048577 := by rw [← HRR.out]; simp [listFm, Fm.count]; omega
    have HN0 := Lib.hid hn0
    have HRV := Lib.hid hRv
    have HRK := Lib.hid hRk
    have hrl : R.kids.length = ks.length := by rw [hRk]
    have HRL := Lib.hid hrl
    have hself : ((n0 : Int) == (n0 : Int)) = true := by simp
    have hlself : ((R.kids.length : Int) == (ks.length : Int)) = true := by rw [hrl]; simp
    have hn0b : n0 ≤ 1048577 := by omega
    clear hn0 hRv hRk hrl
    go_wp2_with fail
    go_loopw [8, 9] (fun m i wr => (∃ j : Nat, m = .int .i64 ((countAll (ks.take j) + 1 : Nat) : Int) ∧ i = .int .i64 j ∧ j ≤ ks.length) ∧ Below w4.heap.size w4 wr) (fun _ i _ => ks.length - (intOf i).toNat)
    case atStart => exact ⟨⟨0, by simp [countAll], rfl, Nat.zero_le _⟩, Below.refl _ _⟩
    case round =>
      obtain ⟨⟨j, rfl, rfl, hj⟩, hbl⟩ := hrel
      have hsr : w4.heap.size ≤ wr.heap.size := hbl.size
      have HBL := Lib.hid hbl
      have HL_4 := Lib.hid (HL_3.out.trans (hbl.mono (by omega)))
      have Fks_4 := Lib.hid (forms_up Fks_3.out hbl)
      have Ix_3 := Lib.hid (inv_up Ix_2.out hbl)
      have Ex_3 := Lib.hid (EndlessAt.later Ex_2.out hbl)
      have Bx_3 := Lib.hid (FormBox.later Bx_2.out hbl)
      have Iy_2 := Lib.hid (inv_up Iy_1.out hbl)
      have By_2 := Lib.hid (FormBox.later By_1.out hbl)
      clear HL_3 Fks_3 Ix_2 Ex_2 Bx_2 Iy_1 By_1
      clear hbl
      by_cases hlt : j < ks.length
      · have hltI : (j : Int) < (ks.length : Int) := by omega
        have hj0 : (0 : Int) ≤ (j : Int) := by omega
        have hltR : j < R.kids.length := by rw [HRL.out]; exact hlt
        have hltRI : (j : Int) < (R.kids.length : Int) := by omega
        obtain ⟨gb, go, g1, g2, g3, g4, hg, hcg, hkbg, hkig⟩ := list_cells Fks_4.out j hlt
        obtain ⟨G, hGg⟩ : ∃ G, ks[j] = G := ⟨_, rfl⟩
        have hmg : G ∈ ks := by rw [← hGg]; exact List.getElem_mem hlt
        rw [hGg] at hkbg hkig
        subst hg
        have Lg := Lib.hid hkbg
        have Jg := Lib.hid hkig
        have HMg := Lib.hid hmg
        have HGg := Lib.hid hGg
        clear hkig hGg hmg
        obtain ⟨xb, xo, xa, xc, xd, xe, hx2, hxc, hxk, hxi⟩ := kid_cells Ix_3.out j hltR
        have hxG : R.kids[j] = G := by rw [← HGg.out]; simp only [HRK.out]
        rw [hxG] at hxk hxi
        subst hx2
        have LX := Lib.hid hxk
        have JX := Lib.hid hxi
        clear hxG hxi hxk
        obtain ⟨m0, hm0⟩ : ∃ m0, G.count = m0 := ⟨_, rfl⟩
        have HM0 := Lib.hid hm0
        obtain ⟨c0, hc0⟩ : ∃ c0, countAll (ks.take j) + 1 = c0 := ⟨_, rfl⟩
        have hcj : countAll (ks.take (j + 1)) + 1 = c0 + m0 := by rw [countAll_take_succ ks j hlt, HGg.out]; omega
        have hcl := countAll_take_le ks (j + 1)
        have hcb : c0 + m0 ≤ 1048577 := by omega
        have HCJ := Lib.hid hcj
        have HVG : Hid (formB G = true) := list_kid HOKR.out HMg.out
        have hcG : G.count ≤ 1048577 := by omega
        have HCG : Hid (G.count ≤ 4294967296) := by unfold Hid; omega
        rw [hc0]
        clear hm0 hcj hcl hc0
        obtain ⟨kc0, kc1, kc2, kc3, kc4⟩ := hkbg
        go_wp2_with fail
        refine (implSize_law G g1 g2 g3 g4 wr Jg.out hcG (valid_end HVG.out Jg.out) m0 HM0.out).mono ?_
        rintro e w5 ⟨rfl, hb⟩
        have hs5 : wr.heap.size ≤ w5.heap.size := hb.size
        have HL_5 := Lib.hid (HL_4.out.trans (hb.mono (by omega)))
        have Fks_5 := Lib.hid (forms_up Fks_4.out hb)
        have Ix_4 := Lib.hid (inv_up Ix_3.out hb)
        have Ex_4 := Lib.hid (EndlessAt.later Ex_3.out hb)
        have Bx_4 := Lib.hid (FormBox.later Bx_3.out hb)
        have Iy_3 := Lib.hid (inv_up Iy_2.out hb)
        have By_3 := Lib.hid (FormBox.later By_2.out hb)
        have HBL_1 := Lib.hid (HBL.out.trans (hb.mono (by omega)))
        have Lg_1 := Lib.hid (KidBox.later Lg.out hb)
        have Jg_1 := Lib.hid (inv_up Jg.out hb)
        have LX_1 := Lib.hid (KidBox.later LX.out hb)
        have JX_1 := Lib.hid (inv_up JX.out hb)
        clear HL_4 Fks_4 Ix_3 Ex_3 Bx_3 Iy_2 By_2 HBL Lg Jg LX JX
        clear hb
        clear kc0 kc1 kc2 kc3 kc4
        obtain ⟨ld0, ld1, ld2, ld3, ld4⟩ := Bx_4.out
        have hx0 : w2.heap.size < w5.heap.size := Bx_4.out.lt
        go_wp2_with fail
        clear ld0 ld1 ld2 ld3 ld4 hx0
        refine upto_begin (fun WS : World => FormBox WS w2.heap.size R x0 x1 (some ⟨xb, xo, none⟩) x3 ∧ KidBox WS gb (go + j * 5) G g1 g2 g3 g4 ∧ KidBox WS xb (xo + j * 5) G xa xc xd xe) 19 (by kernel_rfl) ?_
        refine gen_upto (fun w6 hu => ?_)
        have hb0 : Below w5.heap.size w5 w6 := by rw [hu]; exact (Below.refl _ _).drew
        have hb := hb0
        have hs6 : w5.heap.size ≤ w6.heap.size := hb.size
        have HL_6 := Lib.hid (HL_5.out.trans (hb.mono (by omega)))
        have Fks_6 := Lib.hid (forms_up Fks_5.out hb)
        have Ix_5 := Lib.hid (inv_up Ix_4.out hb)
        have Ex_5 := Lib.hid (EndlessAt.later Ex_4.out hb)
        have Bx_5 := Lib.hid (FormBox.later Bx_4.out hb)
        have Iy_4 := Lib.hid (inv_up Iy_3.out hb)
        have By_4 := Lib.hid (FormBox.later By_3.out hb)
        have HBL_2 := Lib.hid (HBL_1.out.trans (hb.mono (by omega)))
        have Lg_2 := Lib.hid (KidBox.later Lg_1.out hb)
        have Jg_2 := Lib.hid (inv_up Jg_1.out hb)
        have LX_2 := Lib.hid (KidBox.later LX_1.out hb)
        have JX_2 := Lib.hid (inv_up JX_1.out hb)
        clear HL_5 Fks_5 Ix_4 Ex_4 Bx_4 Iy_3 By_3 HBL_1 Lg_1 Jg_1 LX_1 JX_1
        clear hu hb hb0 
        have hS1 : (fun WS : World => FormBox WS w2.heap.size R x0 x1 (some ⟨xb, xo, none⟩) x3 ∧ KidBox WS gb (go + j * 5) G g1 g2 g3 g4 ∧ KidBox WS xb (xo + j * 5) G xa xc xd xe) w6 := ⟨Bx_5.out, Lg_2.out, LX_2.out⟩
        refine upto_take (i := 0) (d := some 59) (v := ?_) rfl rfl (by kernel_rfl) (by kernel_rfl) (by kernel_rfl) (by kernel_rfl) (fun _ _ _ h => h) (Or.inl ⟨by rfl, ?_⟩) hS1 ?_
        rotate_left
        · (intro wS hSw; obtain ⟨⟨_, _, _, _, _⟩, ⟨_, _, _, _, _⟩, ⟨_, _, _, _, _⟩⟩ := hSw; go_simp; try with_reducible rfl)
        try simp only [Act.put, List.setIfInBounds_toArray, List.set_cons_zero, List.set_cons_succ]
        refine upto_take (i := 1) (d := some 60) (v := ?_) rfl rfl (by kernel_rfl) (by kernel_rfl) (by kernel_rfl) (by kernel_rfl) (fun _ _ _ h => h) (Or.inl ⟨by rfl, ?_⟩) hS1 ?_
        rotate_left
        · (intro wS hSw; obtain ⟨⟨_, _, _, _, _⟩, ⟨_, _, _, _, _⟩, ⟨_, _, _, _, _⟩⟩ := hSw; go_simp; try with_reducible rfl)
        try simp only [Act.put, List.setIfInBounds_toArray, List.set_cons_zero, List.set_cons_succ]
        refine upto_take (i := 2) (d := some 61) (v := ?_) rfl rfl (by kernel_rfl) (by kernel_rfl) (by kernel_rfl) (by kernel_rfl) (fun _ _ _ h => h) (Or.inl ⟨by rfl, ?_⟩) hS1 ?_
        rotate_left
        · (intro wS hSw; obtain ⟨⟨_, _, _, _, _⟩, ⟨_, _, _, _, _⟩, ⟨_, _, _, _, _⟩⟩ := hSw; go_simp; try with_reducible rfl)
        try simp only [Act.put, List.setIfInBounds_toArray, List.set_cons_zero, List.set_cons_succ]
        refine upto_take (i := 3) (d := some 62) (v := ?_) rfl rfl (by kernel_rfl) (by kernel_rfl) (by kernel_rfl) (by kernel_rfl) (fun _ _ _ h => h) (Or.inl ⟨by rfl, ?_⟩) hS1 ?_
        rotate_left
        · (intro wS hSw; obtain ⟨⟨_, _, _, _, _⟩, ⟨_, _, _, _, _⟩, ⟨_, _, _, _, _⟩⟩ := hSw; go_simp; try with_reducible rfl)
        try simp only [Act.put, List.setIfInBounds_toArray, List.set_cons_zero, List.set_cons_succ]
        refine upto_take (i := 4) (d := some 63) (v := ?_) rfl rfl (by kernel_rfl) (by kernel_rfl) (by kernel_rfl) (by kernel_rfl) (fun _ _ _ h => h) (Or.inl ⟨by rfl, ?_⟩) hS1 ?_
        rotate_left
        · (intro wS hSw; obtain ⟨⟨_, _, _, _, _⟩, ⟨_, _, _, _, _⟩, ⟨_, _, _, _, _⟩⟩ := hSw; go_simp; try with_reducible rfl)
        try simp only [Act.put, List.setIfInBounds_toArray, List.set_cons_zero, List.set_cons_succ]
        refine upto_take (i := 5) (d := some 64) (v := ?_) rfl rfl (by kernel_rfl) (by kernel_rfl) (by kernel_rfl) (by kernel_rfl) (fun _ _ _ h => h) (Or.inl ⟨by rfl, ?_⟩) hS1 ?_
        rotate_left
        · (intro wS hSw; obtain ⟨⟨_, _, _, _, _⟩, ⟨_, _, _, _, _⟩, ⟨_, _, _, _, _⟩⟩ := hSw; go_simp; try with_reducible rfl)
        try simp only [Act.put, List.setIfInBounds_toArray, List.set_cons_zero, List.set_cons_succ]
        refine upto_take (i := 6) (d := some 65) (v := ?_) rfl rfl (by kernel_rfl) (by kernel_rfl) (by kernel_rfl) (by kernel_rfl) (fun _ _ _ h => h) (Or.inl ⟨by rfl, ?_⟩) hS1 ?_
        rotate_left
        · (intro wS hSw; obtain ⟨⟨_, _, _, _, _⟩, ⟨_, _, _, _, _⟩, ⟨_, _, _, _, _⟩⟩ := hSw; go_simp; try with_reducible rfl)
        try simp only [Act.put, List.setIfInBounds_toArray, List.set_cons_zero, List.set_cons_succ]
        refine upto_take (i := 7) (d := some 66) (v := ?_) rfl rfl (by kernel_rfl) (by kernel_rfl) (by kernel_rfl) (by kernel_rfl) (fun _ _ _ h => h) (Or.inl ⟨by rfl, ?_⟩) hS1 ?_
        rotate_left
        · (intro wS hSw; obtain ⟨⟨_, _, _, _, _⟩, ⟨_, _, _, _, _⟩, ⟨_, _, _, _, _⟩⟩ := hSw; go_simp; try with_reducible rfl)
        try simp only [Act.put, List.setIfInBounds_toArray, List.set_cons_zero, List.set_cons_succ]
        refine upto_take (i := 8) (d := some 67) (v := ?_) rfl rfl (by kernel_rfl) (by kernel_rfl) (by kernel_rfl) (by kernel_rfl) (fun _ _ _ h => h) (Or.inl ⟨by rfl, ?_⟩) hS1 ?_
        rotate_left
        · (intro wS hSw; obtain ⟨⟨_, _, _, _, _⟩, ⟨_, _, _, _, _⟩, ⟨_, _, _, _, _⟩⟩ := hSw; go_simp; try with_reducible rfl)
        try simp only [Act.put, List.setIfInBounds_toArray, List.set_cons_zero, List.set_cons_succ]
        refine upto_one (i := 9) (by kernel_rfl) rfl (fun K hK => ?_)
        go_simp
        refine (implSame_law G G _ _ w6 JX_2.out Jg_2.out HCG.out (valid_end HVG.out JX_2.out) true (sameB_refl G)).mono ?_
        rintro e w7 ⟨rfl, hb⟩
        have hs7 : w6.heap.size ≤ w7.heap.size := hb.size
        clear hS1
        have HL_7 := Lib.hid (HL_6.out.trans (hb.mono (by omega)))
        have Fks_7 := Lib.hid (forms_up Fks_6.out hb)
        have Ix_6 := Lib.hid (inv_up Ix_5.out hb)
        have Ex_6 := Lib.hid (EndlessAt.later Ex_5.out hb)
        have Bx_6 := Lib.hid (FormBox.later Bx_5.out hb)
        have Iy_5 := Lib.hid (inv_up Iy_4.out hb)
        have By_5 := Lib.hid (FormBox.later By_4.out hb)
        have HBL_3 := Lib.hid (HBL_2.out.trans (hb.mono (by omega)))
        have Lg_3 := Lib.hid (KidBox.later Lg_2.out hb)
        have Jg_3 := Lib.hid (inv_up Jg_2.out hb)
        have LX_3 := Lib.hid (KidBox.later LX_2.out hb)
        have JX_3 := Lib.hid (inv_up JX_2.out hb)
        clear HL_6 Fks_6 Ix_5 Ex_5 Bx_5 Iy_4 By_4 HBL_2 Lg_2 Jg_2 LX_2 JX_2
        have hS2 : (fun WS : World => FormBox WS w2.heap.size R x0 x1 (some ⟨xb, xo, none⟩) x3 ∧ KidBox WS gb (go + j * 5) G g1 g2 g3 g4 ∧ KidBox WS xb (xo + j * 5) G xa xc xd xe) w7 := ⟨Bx_6.out, Lg_3.out, LX_3.out⟩
        refine hK.out _ _ (.inr hS2) ?_
        clear hK K hb
        refine upto_take (i := 10) (d := some 69) (v := ?_) rfl rfl (by kernel_rfl) (by kernel_rfl) (by kernel_rfl) (by kernel_rfl) (fun _ _ _ h => h) (Or.inl ⟨by rfl, ?_⟩) hS2 ?_
        rotate_left
        · (intro wS hSw; obtain ⟨⟨_, _, _, _, _⟩, ⟨_, _, _, _, _⟩, ⟨_, _, _, _, _⟩⟩ := hSw; go_simp; try with_reducible rfl)
        try simp only [Act.put, List.setIfInBounds_toArray, List.set_cons_zero, List.set_cons_succ]
        refine upto_take (i := 11) (d := some 70) (v := ?_) rfl rfl (by kernel_rfl) (by kernel_rfl) (by kernel_rfl) (by kernel_rfl) (fun _ _ _ h => h) (Or.inl ⟨by rfl, ?_⟩) hS2 ?_
        rotate_left
        · (intro wS hSw; obtain ⟨⟨_, _, _, _, _⟩, ⟨_, _, _, _, _⟩, ⟨_, _, _, _, _⟩⟩ := hSw; go_simp; try with_reducible rfl)
        try simp only [Act.put, List.setIfInBounds_toArray, List.set_cons_zero, List.set_cons_succ]
        refine upto_take (i := 12) (d := some 71) (v := ?_) rfl rfl (by kernel_rfl) (by kernel_rfl) (by kernel_rfl) (by kernel_rfl) (fun _ _ _ h => h) (Or.inl ⟨by rfl, ?_⟩) hS2 ?_
        rotate_left
        · (intro wS hSw; obtain ⟨⟨_, _, _, _, _⟩, ⟨_, _, _, _, _⟩, ⟨_, _, _, _, _⟩⟩ := hSw; go_simp; try with_reducible rfl)
        try simp only [Act.put, List.setIfInBounds_toArray, List.set_cons_zero, List.set_cons_succ]
        refine upto_take (i := 13) (d := some 72) (v := ?_) rfl rfl (by kernel_rfl) (by kernel_rfl) (by kernel_rfl) (by kernel_rfl) (fun _ _ _ h => h) (Or.inl ⟨by rfl, ?_⟩) hS2 ?_
        rotate_left
        · (intro wS hSw; obtain ⟨⟨_, _, _, _, _⟩, ⟨_, _, _, _, _⟩, ⟨_, _, _, _, _⟩⟩ := hSw; go_simp; try with_reducible rfl)
        try simp only [Act.put, List.setIfInBounds_toArray, List.set_cons_zero, List.set_cons_succ]
        refine upto_take (i := 14) (d := some 73) (v := ?_) rfl rfl (by kernel_rfl) (by kernel_rfl) (by kernel_rfl) (by kernel_rfl) (fun _ _ _ h => h) (Or.inl ⟨by rfl, ?_⟩) hS2 ?_
        rotate_left
        · (intro wS hSw; obtain ⟨⟨_, _, _, _, _⟩, ⟨_, _, _, _, _⟩, ⟨_, _, _, _, _⟩⟩ := hSw; go_simp; try with_reducible rfl)
        try simp only [Act.put, List.setIfInBounds_toArray, List.set_cons_zero, List.set_cons_succ]
        refine upto_take (i := 15) (d := some 74) (v := ?_) rfl rfl (by kernel_rfl) (by kernel_rfl) (by kernel_rfl) (by kernel_rfl) (fun _ _ _ h => h) (Or.inl ⟨by rfl, ?_⟩) hS2 ?_
        rotate_left
        · (intro wS hSw; obtain ⟨⟨_, _, _, _, _⟩, ⟨_, _, _, _, _⟩, ⟨_, _, _, _, _⟩⟩ := hSw; go_simp; try with_reducible rfl)
        try simp only [Act.put, List.setIfInBounds_toArray, List.set_cons_zero, List.set_cons_succ]
        refine upto_one (i := 16) (by kernel_rfl) rfl (fun K hK => ?_)
        go_simp
        refine (implFormValid_law G _ w7 Jg_3.out true HVG.out).mono ?_
        rintro e w8 ⟨rfl, hb⟩
        have hs8 : w7.heap.size ≤ w8.heap.size := hb.size
        clear hS2
        have HL_8 := Lib.hid (HL_7.out.trans (hb.mono (by omega)))
        have Fks_8 := Lib.hid (forms_up Fks_7.out hb)
        have Ix_7 := Lib.hid (inv_up Ix_6.out hb)
        have Ex_7 := Lib.hid (EndlessAt.later Ex_6.out hb)
        have Bx_7 := Lib.hid (FormBox.later Bx_6.out hb)
        have Iy_6 := Lib.hid (inv_up Iy_5.out hb)
        have By_6 := Lib.hid (FormBox.later By_5.out hb)
        have HBL_4 := Lib.hid (HBL_3.out.trans (hb.mono (by omega)))
        have Lg_4 := Lib.hid (KidBox.later Lg_3.out hb)
        have Jg_4 := Lib.hid (inv_up Jg_3.out hb)
        have LX_4 := Lib.hid (KidBox.later LX_3.out hb)
        have JX_4 := Lib.hid (inv_up JX_3.out hb)
        clear HL_7 Fks_7 Ix_6 Ex_6 Bx_6 Iy_5 By_5 HBL_3 Lg_3 Jg_3 LX_3 JX_3
        have hS3 : (fun WS : World => FormBox WS w2.heap.size R x0 x1 (some ⟨xb, xo, none⟩) x3 ∧ KidBox WS gb (go + j * 5) G g1 g2 g3 g4 ∧ KidBox WS xb (xo + j * 5) G xa xc xd xe) w8 := ⟨Bx_7.out, Lg_4.out, LX_4.out⟩
        refine hK.out _ _ (.inr hS3) ?_
        clear hK K hb
        refine upto_take (i := 17) (d := some 76) (v := ?_) rfl rfl (by kernel_rfl) (by kernel_rfl) (by kernel_rfl) (by kernel_rfl) (fun _ _ _ h => h) (Or.inl ⟨by rfl, ?_⟩) hS3 ?_
        rotate_left
        · (intro wS hSw; obtain ⟨⟨_, _, _, _, _⟩, ⟨_, _, _, _, _⟩, ⟨_, _, _, _, _⟩⟩ := hSw; go_simp; try with_reducible rfl)
        try simp only [Act.put, List.setIfInBounds_toArray, List.set_cons_zero, List.set_cons_succ]
        refine upto_take (i := 18) (d := some 77) (v := ?_) rfl rfl (by kernel_rfl) (by kernel_rfl) (by kernel_rfl) (by kernel_rfl) (fun _ _ _ h => h) (Or.inl ⟨by rfl, ?_⟩) hS3 ?_
        rotate_left
        · (intro wS hSw; obtain ⟨⟨_, _, _, _, _⟩, ⟨_, _, _, _, _⟩, ⟨_, _, _, _, _⟩⟩ := hSw; go_simp; try with_reducible rfl)
        try simp only [Act.put, List.setIfInBounds_toArray, List.set_cons_zero, List.set_cons_succ]
        clear hS3
        refine upto_done (by kernel_rfl) ?_ _
        go_wp2_with fail
        go_roundw
        case rel => exact ⟨⟨j + 1, by rw [HCJ.out]; go_num, by go_num, by omega⟩, HBL_4.out⟩
        case measure => simp [intOf]; omega
      · have hnb : ¬ ((j : Int) < (ks.length : Int)) := by omega
        obtain rfl : j = ks.length := by omega
        have hsum : countAll (ks.take ks.length) + 1 = n0 := by rw [List.take_length, ← HN0.out, count_eq R, HRK.out]
        rw [hsum]
        obtain ⟨ld0, ld1, ld2, ld3, ld4⟩ := Bx_3.out
        have hx0 : w2.heap.size < wr.heap.size := Bx_3.out.lt
        go_wp2_with fail
        refine (implFormValid_law R _ wr Ix_3.out true HRV.out).mono ?_
        rintro e w5 ⟨rfl, hb⟩
        have hs5 : wr.heap.size ≤ w5.heap.size := hb.size
        clear ld0 ld1 ld2 ld3 ld4 hx0
        have HL_5 := Lib.hid (HL_4.out.trans (hb.mono (by omega)))
        have Fks_5 := Lib.hid (forms_up Fks_4.out hb)
        have Ix_4 := Lib.hid (inv_up Ix_3.out hb)
        have Ex_4 := Lib.hid (EndlessAt.later Ex_3.out hb)
        have Bx_4 := Lib.hid (FormBox.later Bx_3.out hb)
        have Iy_3 := Lib.hid (inv_up Iy_2.out hb)
        have By_3 := Lib.hid (FormBox.later By_2.out hb)
        have HBL_1 := Lib.hid (HBL.out.trans (hb.mono (by omega)))
        clear HL_4 Fks_4 Ix_3 Ex_3 Bx_3 Iy_2 By_2 HBL
        clear hb
        obtain ⟨ld0, ld1, ld2, ld3, ld4⟩ := Bx_4.out
        have hx0 : w2.heap.size < w5.heap.size := Bx_4.out.lt
        go_wp2_with fail
        refine (implSize_law R x0 x1 x2 x3 w5 Ix_4.out hcR Ex_4.out n0 HN0.out).mono ?_
        rintro e w6 ⟨rfl, hb⟩
        have hs6 : w5.heap.size ≤ w6.heap.size := hb.size
        clear ld0 ld1 ld2 ld3 ld4 hx0
        have HL_6 := Lib.hid (HL_5.out.trans (hb.mono (by omega)))
        have Fks_6 := Lib.hid (forms_up Fks_5.out hb)
        have Ix_5 := Lib.hid (inv_up Ix_4.out hb)
        have Ex_5 := Lib.hid (EndlessAt.later Ex_4.out hb)
        have Bx_5 := Lib.hid (FormBox.later Bx_4.out hb)
        have Iy_4 := Lib.hid (inv_up Iy_3.out hb)
        have By_4 := Lib.hid (FormBox.later By_3.out hb)
        have HBL_2 := Lib.hid (HBL_1.out.trans (hb.mono (by omega)))
        clear HL_5 Fks_5 Ix_4 Ex_4 Bx_4 Iy_3 By_3 HBL_1
        clear hb
        obtain ⟨ld0, ld1, ld2, ld3, ld4⟩ := Bx_5.out
        have hx0 : w2.heap.size < w6.heap.size := Bx_5.out.lt
        go_wp2_with fail
        go_ret
        exact ⟨rfl, HL_6.out⟩
theorem own : ownKnob Try.prog.godebug = none := by kernel_rfl
theorem laidOut : laidOutB Try.prog = true := by kernel_rfl
set_option maxRecDepth 100000 in
theorem lifted (os : Os) (started : os.Started) (H : Type) (enc : TypeId × Value → H) :
    ReturnsInHanded {} Try.checked os 5 .any (Rows.fnListFormSpec.pre6 enc Try.prog Try.f5 Rows.fnListFormRow.domain false) (Rows.fnListFormSpec.post enc Try.prog Try.f5 false true false false) := by
  refine returnsInHanded_of_change (C := Try.checked) own started (by kernel_rfl) Try.func5
    (ChangeSpec.witness6 (enc := enc) (C := Try.checked) false ⟨#[], #[.slice none 0 0], []⟩ 12 (by kernel_rfl) (by kernel_rfl) (by kernel_rfl) (by kernel_rfl)) ?_
  intro W base args ds gs before hval0 hW hcnd _
  have hval : ∀ (j : Nat) t v, Try.f5.params[j]? = some t → args[j]? = some v → Value.okWide Try.prog W .any base t v := hval0
  have hW' := hW
  obtain ⟨p, q, hA0, hV, rfl, hfz, hnd⟩ := hW
  have hA : DataW.TrodAll enc Try.prog W 0 (fun _ => true) true Try.f5.params.toList args.toList ds p := hA0
  rw [Try.params5] at hA hval
  obtain ⟨v0, vs0, d0, ds0, p0, q0, hargs, rfl, rfl, h0, r0⟩ := trodAll_cons hA
  obtain ⟨rfl, rfl, rfl⟩ := trodAll_nil r0
  obtain rfl : args = #[v0] := by cases args; simp_all
  obtain ⟨rfl, rfl⟩ := trodVars_none hV
  have k0 := h0
  have lt0 : ∀ x ∈ p0, x.block < W.heap.size := by obtain ⟨m, hm⟩ := k0; exact DataW.trod_lt m _ _ _ hm
  obtain ⟨f0, i0⟩ := open_bytes_arg (hval 0 22 v0 rfl rfl) h0
  clear hA0 hval0
  try simp only [List.append_nil] at hW'
  refine (walk W f0 v0 i0).mono fun e W' ⟨he, bel⟩ => ?_
  subst he
  exact ⟨_, rfl, _, _, _, [], _, [], hW', trodAll_mk1 (shut_bool Try.underlying4 _), (trodAll_cons_mk (Below.trod laidOut (by kernel_rfl) (of_decide_eq_true (by kernel_rfl)) k0 bel lt0) trodAll_mk0), rfl, bel.frame _, fun h => by cases h⟩
theorem over_named : Try.pinned.checked.prog.funcNamed Rows.fnListFormRow.func = some 5 := by kernel_rfl
theorem over_closed : joinedFacts Try.pinned.checked.prog 5 Try.f5 Rows.fnListFormSpec Rows.fnListFormRow = true := by kernel_rfl
theorem over_inst : Func.isInstance Try.pinned.checked.prog Try.f5 Rows.fnListFormRow.origin Rows.fnListFormRow.targs := of_decide_eq_true (by kernel_rfl)
theorem over_wrap : Func.isWrapper Try.pinned.checked.prog Try.f5 Rows.fnListFormRow.wrapper Rows.fnListFormRow.mainSum := (by unfold Func.isWrapper; first | (rw [if_pos (by decide +kernel)]; kernel_rfl) | (rw [if_neg (by decide +kernel)]; exact ⟨rfl, rfl⟩))
theorem over : Rows.fnListFormRow.holds Try.pinned (OpenSpec.ofChange Rows.fnListFormSpec) :=
  OpenClaim.holds_of_wide 5 Try.f5 rfl rfl rfl rfl rfl rfl rfl ⟨rfl, rfl, rfl, rfl, rfl⟩ rfl rfl rfl rfl rfl over_named Try.func5 over_closed over_inst over_wrap
    (fun os started H enc _ => lifted os started H enc)
theorem proved : Rows.FnListFormSaid := over
end Go.Proofs.Ytbmpgfojhoganaa.lwListForm
