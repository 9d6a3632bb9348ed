/- For every input the parts of the drawn form are valid and smaller if it is valid, and its kind is known; the program and the model agree: the law FnFormParts returns true, whatever the input, with no condition beyond the statement's own. -/
import Derived.Test.YtbmpgfojhoganaaRows
import Derived.Test.YtbmpgfojhoganaaLwParts
import Derived.Test.YtbmpgfojhoganaaLwSizesS
import Derived.Test.YtbmpgfojhoganaaPValid
namespace Go.Proofs.Ytbmpgfojhoganaa.lwFormParts
open Go.ChangeShapes Go.WideShapes Go.ChangeAt Go.RowKit
open Go.ChangeMaps (open_string shut_string)
set_option linter.unusedVariables false
set_option linter.unusedSimpArgs false
theorem valid_kind {f : Fm} (h : formB f = true) : 1 ≤ f.kind ∧ f.kind ≤ 3 := by
  have h := formB_isB h
  cases f with
  | mk k nm n sc ks =>
    unfold isB at h
    show 1 ≤ k ∧ k ≤ 3
    split at h
    · omega
    · split at h
      · omega
      · simp only [Bool.and_eq_true, beq_iff_eq] at h
        omega
set_option maxRecDepth 100000 in
set_option maxHeartbeats 4000000 in
theorem walk (w : World) (n : Nat) (v : Value) (hv : Bytes w v n) :
    Calls Try.prog 6 #[v] w fun e w' => e = .returned (.bool true) ∧ Below w.heap.size w w' := by
  have HV := Lib.hid hv
  obtain ⟨a0, c0, rfl, hn1, hn2, _⟩ := hv
  unfold maxLen at hn2
  by_cases hbig : (1048576 : Int) < n
  · go_enter Try.func6, Try.ntmps6
    go_wp2_with fail
    go_ret
    exact ⟨rfl, Below.refl _ _⟩
  go_enter Try.func6, Try.ntmps6
  go_wp2_with fail
  refine (P.drawFormValid_any _ n w HV.out).mono ?_
  rintro e w1 hpost
  obtain ⟨f, f0, f1, f2, f3, rfl, hin, hend, hsl, hb⟩ := hpost.law
  clear hpost
  have hs1 : w.heap.size ≤ w1.heap.size := hb.size
  have HL := Lib.hid hb
  have hszf : f.sz ≤ 1048576 := by have := hsl.sz; omega
  have hcf : f.count ≤ 1048577 := by have := hsl.1; omega
  have HCF : Hid (f.count ≤ 4294967296) := by have := hsl.1; unfold Hid; omega
  have HSL := Lib.hid hsl
  clear hsl HV
  clear hb
  have If : Hid (InV (· < w1.heap.size) w1 f (.agg #[.int .i64 f.kind, .string f.name, .int .i64 f.n, .slice f0 f.scopes.length f1, .slice f2 f.kids.length f3])) := hin
  have Ef := Lib.hid hend
  clear hin hend
  obtain ⟨ok, hok⟩ : ∃ ok, formB f = ok := ⟨_, rfl⟩
  have HOK := Lib.hid hok
  clear hok
  go_wp2_with fail
  have hba0 := below_alloc w1 (.cells #[.int .i64 f.kind, .string f.name, .int .i64 f.n, .slice f0 f.scopes.length f1, .slice f2 f.kids.length f3] 26)
  have Bf : Hid (FormBox (w1.alloc (.cells #[.int .i64 f.kind, .string f.name, .int .i64 f.n, .slice f0 f.scopes.length f1, .slice f2 f.kids.length f3] 26)) w1.heap.size f f0 f1 f2 f3) := box_lit w1 f w1.heap.size f0 f2 f1 f3 26 (by simp)
  refine (implFormValid_law f _ (w1.alloc (.cells #[.int .i64 f.kind, .string f.name, .int .i64 f.n, .slice f0 f.scopes.length f1, .slice f2 f.kids.length f3] 26)) (inv_up If.out hba0) ok HOK.out).mono ?_
  rintro e w2 ⟨rfl, hb0⟩
  have hb : Below w1.heap.size w1 w2 := hba0.trans (hb0.mono hba0.size)
  have hs2 : w1.heap.size + 1 ≤ w2.heap.size := by have h := hb0.size; simp at h; omega
  have HL_1 := Lib.hid (HL.out.trans (hb.mono (by omega)))
  have If_1 := Lib.hid (inv_up If.out hb)
  have Ef_1 := Lib.hid (EndlessAt.later Ef.out hb)
  have Bf_1 := Lib.hid (FormBox.later Bf.out hb0)
  clear HL If Ef Bf
  clear hb0 hba0
  clear hb
  obtain ⟨ld0, ld1, ld2, ld3, ld4⟩ := Bf_1.out
  have hx0 : w1.heap.size < w2.heap.size := Bf_1.out.lt
  go_wp2_with fail
  refine (specFormValid_law f _ w2 If_1.out hcf ok HOK.out).mono ?_
  rintro e w3 ⟨rfl, hb⟩
  have hs3 : w2.heap.size ≤ w3.heap.size := hb.size
  clear ld0 ld1 ld2 ld3 ld4 hx0
  have HL_2 := Lib.hid (HL_1.out.trans (hb.mono (by omega)))
  have If_2 := Lib.hid (inv_up If_1.out hb)
  have Ef_2 := Lib.hid (EndlessAt.later Ef_1.out hb)
  have Bf_2 := Lib.hid (FormBox.later Bf_1.out hb)
  clear HL_1 If_1 Ef_1 Bf_1
  clear hb
  cases ok with
  | false =>
    obtain ⟨ld0, ld1, ld2, ld3, ld4⟩ := Bf_2.out
    have hx0 : w1.heap.size < w3.heap.size := Bf_2.out.lt
    go_wp2_with fail
    refine (specFormValid_law f _ w3 If_2.out hcf false HOK.out).mono ?_
    rintro e w4 ⟨rfl, hb⟩
    have hs4 : w3.heap.size ≤ w4.heap.size := hb.size
    clear ld0 ld1 ld2 ld3 ld4 hx0
    have HL_3 := Lib.hid (HL_2.out.trans (hb.mono (by omega)))
    have If_3 := Lib.hid (inv_up If_2.out hb)
    have Ef_3 := Lib.hid (EndlessAt.later Ef_2.out hb)
    have Bf_3 := Lib.hid (FormBox.later Bf_2.out hb)
    clear HL_2 If_2 Ef_2 Bf_2
    clear hb
    go_wp2_with fail
    go_ret
    exact ⟨rfl, HL_3.out⟩
  | true =>
    obtain ⟨n0, hn0⟩ : ∃ n0, f.count = n0 := ⟨_, rfl⟩
    have HN0 := Lib.hid hn0
    have hkl : f.kids.length ≤ 1048576 := Nat.le_trans (sz_scopes f).2 hszf
    have HKID : Hid (∀ y ∈ f.kids, formB y = true ∧ y.count < n0) := fun y hy => ⟨kid_valid HOK.out hy, by have h1 := count_mem hy; have h2 := count_eq f; omega⟩
    have hn0b : n0 ≤ 1048577 := by omega
    clear hn0
    obtain ⟨ld0, ld1, ld2, ld3, ld4⟩ := Bf_2.out
    have hx0 : w1.heap.size < w3.heap.size := Bf_2.out.lt
    go_wp2_with fail
    clear ld0 ld1 ld2 ld3 ld4 hx0
    go_loopw [5] (fun i wr => ∃ j : Nat, i = .int .i64 j ∧ j ≤ f.kids.length ∧ Below w3.heap.size w3 wr) (fun i _ => f.kids.length - (intOf i).toNat)
    case atStart => exact ⟨0, rfl, Nat.zero_le _, Below.refl _ _⟩
    case round =>
      obtain ⟨j, rfl, hj, hbl⟩ := hrel
      have hsr : w3.heap.size ≤ wr.heap.size := hbl.size
      have HBL := Lib.hid hbl
      have HL_3 := Lib.hid (HL_2.out.trans (hbl.mono (by omega)))
      have If_3 := Lib.hid (inv_up If_2.out hbl)
      have Ef_3 := Lib.hid (EndlessAt.later Ef_2.out hbl)
      have Bf_3 := Lib.hid (FormBox.later Bf_2.out hbl)
      clear HL_2 If_2 Ef_2 Bf_2
      clear hbl
      by_cases hlt : j < f.kids.length
      · have hltI : (j : Int) < (f.kids.length : Int) := by omega
        have hj0 : (0 : Int) ≤ (j : Int) := by omega
        obtain ⟨fb, fo, ka, kb, kc, kd, hf2, hfc, hkb, hki⟩ := kid_cells If_3.out j hlt
        obtain ⟨G, hG⟩ : ∃ G, f.kids[j] = G := ⟨_, rfl⟩
        have hmem : G ∈ f.kids := by rw [← hG]; exact List.getElem_mem hlt
        rw [hG] at hkb hki
        subst hf2
        have HKB := Lib.hid hkb
        have HKI := Lib.hid hki
        have HG := Lib.hid hG
        have HMEM := Lib.hid hmem
        clear hki hG
        obtain ⟨m0, hm0⟩ : ∃ m0, G.count = m0 := ⟨_, rfl⟩
        have HM0 := Lib.hid hm0
        have HVG : Hid (formB G = true) := (HKID.out G HMEM.out).1
        have hmn : m0 < n0 := by have := (HKID.out G HMEM.out).2; omega
        have hge : ¬ ((n0 : Int) ≤ (m0 : Int)) := by omega
        have hcG : G.count ≤ 1048577 := by omega
        have EK : Hid (EndlessAt (.agg #[.int .i64 G.kind, .string G.name, .int .i64 G.n, .slice ka G.scopes.length kb, .slice kc G.kids.length kd]) wr) := valid_end HVG.out HKI.out
        obtain ⟨kc0, kc1, kc2, kc3, kc4⟩ := hkb
        clear hm0 hmem
        clear kc0 kc1 kc2 kc3 kc4
        obtain ⟨ld0, ld1, ld2, ld3, ld4⟩ := Bf_3.out
        have hx0 : w1.heap.size < wr.heap.size := Bf_3.out.lt
        go_wp2_with fail
        clear ld0 ld1 ld2 ld3 ld4 hx0
        refine upto_begin (fun WS : World => FormBox WS w1.heap.size f f0 f1 (some ⟨fb, fo, none⟩) f3 ∧ KidBox WS fb (fo + j * 5) G ka kb kc kd) 18 (by kernel_rfl) ?_
        refine gen_upto (fun w4 hu => ?_)
        have hb0 : Below wr.heap.size wr w4 := by rw [hu]; exact (Below.refl _ _).drew
        have hb := hb0
        have hs4 : wr.heap.size ≤ w4.heap.size := hb.size
        have HL_4 := Lib.hid (HL_3.out.trans (hb.mono (by omega)))
        have If_4 := Lib.hid (inv_up If_3.out hb)
        have Ef_4 := Lib.hid (EndlessAt.later Ef_3.out hb)
        have Bf_4 := Lib.hid (FormBox.later Bf_3.out hb)
        have HBL_1 := Lib.hid (HBL.out.trans (hb.mono (by omega)))
        have HKB_1 := Lib.hid (KidBox.later HKB.out hb)
        have HKI_1 := Lib.hid (inv_up HKI.out hb)
        have EK_1 := Lib.hid (EndlessAt.later EK.out hb)
        clear HL_3 If_3 Ef_3 Bf_3 HBL HKB HKI EK
        clear hu hb hb0 
        have hS1 : (fun WS : World => FormBox WS w1.heap.size f f0 f1 (some ⟨fb, fo, none⟩) f3 ∧ KidBox WS fb (fo + j * 5) G ka kb kc kd) w4 := ⟨Bf_4.out, HKB_1.out⟩
        refine upto_take (i := 0) (d := some 32) (v := ?_) rfl rfl (by kernel_rfl) (by kernel_rfl) (by kernel_rfl) (by kernel_rfl) (fun _ _ _ h => h) (Or.inl ⟨by rfl, ?_⟩) hS1 ?_
        rotate_left
        · (intro wS hSw; obtain ⟨⟨_, _, _, _, _⟩, ⟨_, _, _, _, _⟩⟩ := hSw; go_simp; try with_reducible rfl)
        try simp only [Act.put, List.setIfInBounds_toArray, List.set_cons_zero, List.set_cons_succ]
        refine upto_take (i := 1) (d := some 33) (v := ?_) rfl rfl (by kernel_rfl) (by kernel_rfl) (by kernel_rfl) (by kernel_rfl) (fun _ _ _ h => h) (Or.inl ⟨by rfl, ?_⟩) hS1 ?_
        rotate_left
        · (intro wS hSw; obtain ⟨⟨_, _, _, _, _⟩, ⟨_, _, _, _, _⟩⟩ := hSw; go_simp; try with_reducible rfl)
        try simp only [Act.put, List.setIfInBounds_toArray, List.set_cons_zero, List.set_cons_succ]
        refine upto_take (i := 2) (d := some 34) (v := ?_) rfl rfl (by kernel_rfl) (by kernel_rfl) (by kernel_rfl) (by kernel_rfl) (fun _ _ _ h => h) (Or.inl ⟨by rfl, ?_⟩) hS1 ?_
        rotate_left
        · (intro wS hSw; obtain ⟨⟨_, _, _, _, _⟩, ⟨_, _, _, _, _⟩⟩ := hSw; go_simp; try with_reducible rfl)
        try simp only [Act.put, List.setIfInBounds_toArray, List.set_cons_zero, List.set_cons_succ]
        refine upto_take (i := 3) (d := some 35) (v := ?_) rfl rfl (by kernel_rfl) (by kernel_rfl) (by kernel_rfl) (by kernel_rfl) (fun _ _ _ h => h) (Or.inl ⟨by rfl, ?_⟩) hS1 ?_
        rotate_left
        · (intro wS hSw; obtain ⟨⟨_, _, _, _, _⟩, ⟨_, _, _, _, _⟩⟩ := hSw; go_simp; try with_reducible rfl)
        try simp only [Act.put, List.setIfInBounds_toArray, List.set_cons_zero, List.set_cons_succ]
        refine upto_take (i := 4) (d := some 36) (v := ?_) rfl rfl (by kernel_rfl) (by kernel_rfl) (by kernel_rfl) (by kernel_rfl) (fun _ _ _ h => h) (Or.inl ⟨by rfl, ?_⟩) hS1 ?_
        rotate_left
        · (intro wS hSw; obtain ⟨⟨_, _, _, _, _⟩, ⟨_, _, _, _, _⟩⟩ := hSw; go_simp; try with_reducible rfl)
        try simp only [Act.put, List.setIfInBounds_toArray, List.set_cons_zero, List.set_cons_succ]
        refine upto_one (i := 5) (by kernel_rfl) rfl (fun K hK => ?_)
        go_simp
        refine (implFormValid_law G _ w4 HKI_1.out true HVG.out).mono ?_
        rintro e w5 ⟨rfl, hb⟩
        have hs5 : w4.heap.size ≤ w5.heap.size := hb.size
        clear hS1
        have HL_5 := Lib.hid (HL_4.out.trans (hb.mono (by omega)))
        have If_5 := Lib.hid (inv_up If_4.out hb)
        have Ef_5 := Lib.hid (EndlessAt.later Ef_4.out hb)
        have Bf_5 := Lib.hid (FormBox.later Bf_4.out hb)
        have HBL_2 := Lib.hid (HBL_1.out.trans (hb.mono (by omega)))
        have HKB_2 := Lib.hid (KidBox.later HKB_1.out hb)
        have HKI_2 := Lib.hid (inv_up HKI_1.out hb)
        have EK_2 := Lib.hid (EndlessAt.later EK_1.out hb)
        clear HL_4 If_4 Ef_4 Bf_4 HBL_1 HKB_1 HKI_1 EK_1
        have hS2 : (fun WS : World => FormBox WS w1.heap.size f f0 f1 (some ⟨fb, fo, none⟩) f3 ∧ KidBox WS fb (fo + j * 5) G ka kb kc kd) w5 := ⟨Bf_5.out, HKB_2.out⟩
        refine hK.out _ _ (.inr hS2) ?_
        clear hK K hb
        refine upto_take (i := 6) (d := some 38) (v := ?_) rfl rfl (by kernel_rfl) (by kernel_rfl) (by kernel_rfl) (by kernel_rfl) (fun _ _ _ h => h) (Or.inl ⟨by rfl, ?_⟩) hS2 ?_
        rotate_left
        · (intro wS hSw; obtain ⟨⟨_, _, _, _, _⟩, ⟨_, _, _, _, _⟩⟩ := hSw; go_simp; try with_reducible rfl)
        try simp only [Act.put, List.setIfInBounds_toArray, List.set_cons_zero, List.set_cons_succ]
        refine upto_take (i := 7) (d := some 39) (v := ?_) rfl rfl (by kernel_rfl) (by kernel_rfl) (by kernel_rfl) (by kernel_rfl) (fun _ _ _ h => h) (Or.inl ⟨by rfl, ?_⟩) hS2 ?_
        rotate_left
        · (intro wS hSw; obtain ⟨⟨_, _, _, _, _⟩, ⟨_, _, _, _, _⟩⟩ := hSw; go_simp; try with_reducible rfl)
        try simp only [Act.put, List.setIfInBounds_toArray, List.set_cons_zero, List.set_cons_succ]
        refine upto_take (i := 8) (d := some 40) (v := ?_) rfl rfl (by kernel_rfl) (by kernel_rfl) (by kernel_rfl) (by kernel_rfl) (fun _ _ _ h => h) (Or.inl ⟨by rfl, ?_⟩) hS2 ?_
        rotate_left
        · (intro wS hSw; obtain ⟨⟨_, _, _, _, _⟩, ⟨_, _, _, _, _⟩⟩ := hSw; go_simp; try with_reducible rfl)
        try simp only [Act.put, List.setIfInBounds_toArray, List.set_cons_zero, List.set_cons_succ]
        refine upto_take (i := 9) (d := some 41) (v := ?_) rfl rfl (by kernel_rfl) (by kernel_rfl) (by kernel_rfl) (by kernel_rfl) (fun _ _ _ h => h) (Or.inl ⟨by rfl, ?_⟩) hS2 ?_
        rotate_left
        · (intro wS hSw; obtain ⟨⟨_, _, _, _, _⟩, ⟨_, _, _, _, _⟩⟩ := hSw; go_simp; try with_reducible rfl)
        try simp only [Act.put, List.setIfInBounds_toArray, List.set_cons_zero, List.set_cons_succ]
        refine upto_take (i := 10) (d := some 42) (v := ?_) rfl rfl (by kernel_rfl) (by kernel_rfl) (by kernel_rfl) (by kernel_rfl) (fun _ _ _ h => h) (Or.inl ⟨by rfl, ?_⟩) hS2 ?_
        rotate_left
        · (intro wS hSw; obtain ⟨⟨_, _, _, _, _⟩, ⟨_, _, _, _, _⟩⟩ := hSw; go_simp; try with_reducible rfl)
        try simp only [Act.put, List.setIfInBounds_toArray, List.set_cons_zero, List.set_cons_succ]
        refine upto_take (i := 11) (d := some 43) (v := ?_) rfl rfl (by kernel_rfl) (by kernel_rfl) (by kernel_rfl) (by kernel_rfl) (fun _ _ _ h => h) (Or.inl ⟨by rfl, ?_⟩) hS2 ?_
        rotate_left
        · (intro wS hSw; obtain ⟨⟨_, _, _, _, _⟩, ⟨_, _, _, _, _⟩⟩ := hSw; go_simp; try with_reducible rfl)
        try simp only [Act.put, List.setIfInBounds_toArray, List.set_cons_zero, List.set_cons_succ]
        refine upto_take (i := 12) (d := some 44) (v := ?_) rfl rfl (by kernel_rfl) (by kernel_rfl) (by kernel_rfl) (by kernel_rfl) (fun _ _ _ h => h) (Or.inl ⟨by rfl, ?_⟩) hS2 ?_
        rotate_left
        · (intro wS hSw; obtain ⟨⟨_, _, _, _, _⟩, ⟨_, _, _, _, _⟩⟩ := hSw; go_simp; try with_reducible rfl)
        try simp only [Act.put, List.setIfInBounds_toArray, List.set_cons_zero, List.set_cons_succ]
        refine upto_take (i := 14) (d := some 46) (v := ?_) rfl rfl (by kernel_rfl) (by kernel_rfl) (by kernel_rfl) (by kernel_rfl) (fun _ _ _ h => h) (Or.inl ⟨by rfl, ?_⟩) hS2 ?_
        rotate_left
        · (intro wS hSw; obtain ⟨⟨_, _, _, _, _⟩, ⟨_, _, _, _, _⟩⟩ := hSw; go_simp; try with_reducible rfl)
        try simp only [Act.put, List.setIfInBounds_toArray, List.set_cons_zero, List.set_cons_succ]
        refine upto_one (i := 13) (by kernel_rfl) rfl (fun K hK => ?_)
        go_simp
        refine (implSize_law G ka kb kc kd w5 HKI_2.out hcG EK_2.out m0 HM0.out).mono ?_
        rintro e w6 ⟨rfl, hb⟩
        have hs6 : w5.heap.size ≤ w6.heap.size := hb.size
        clear hS2
        have HL_6 := Lib.hid (HL_5.out.trans (hb.mono (by omega)))
        have If_6 := Lib.hid (inv_up If_5.out hb)
        have Ef_6 := Lib.hid (EndlessAt.later Ef_5.out hb)
        have Bf_6 := Lib.hid (FormBox.later Bf_5.out hb)
        have HBL_3 := Lib.hid (HBL_2.out.trans (hb.mono (by omega)))
        have HKB_3 := Lib.hid (KidBox.later HKB_2.out hb)
        have HKI_3 := Lib.hid (inv_up HKI_2.out hb)
        have EK_3 := Lib.hid (EndlessAt.later EK_2.out hb)
        clear HL_5 If_5 Ef_5 Bf_5 HBL_2 HKB_2 HKI_2 EK_2
        have hS3 : (fun WS : World => FormBox WS w1.heap.size f f0 f1 (some ⟨fb, fo, none⟩) f3 ∧ KidBox WS fb (fo + j * 5) G ka kb kc kd) w6 := ⟨Bf_6.out, HKB_3.out⟩
        refine hK.out _ _ (.inr hS3) ?_
        clear hK K hb
        refine upto_one (i := 15) (by kernel_rfl) rfl (fun K hK => ?_)
        go_simp
        refine (implSize_law f f0 f1 (some ⟨fb, fo, none⟩) f3 w6 If_6.out hcf Ef_6.out n0 HN0.out).mono ?_
        rintro e w7 ⟨rfl, hb⟩
        have hs7 : w6.heap.size ≤ w7.heap.size := hb.size
        clear hS3
        have HL_7 := Lib.hid (HL_6.out.trans (hb.mono (by omega)))
        have If_7 := Lib.hid (inv_up If_6.out hb)
        have Ef_7 := Lib.hid (EndlessAt.later Ef_6.out hb)
        have Bf_7 := Lib.hid (FormBox.later Bf_6.out hb)
        have HBL_4 := Lib.hid (HBL_3.out.trans (hb.mono (by omega)))
        have HKB_4 := Lib.hid (KidBox.later HKB_3.out hb)
        have HKI_4 := Lib.hid (inv_up HKI_3.out hb)
        have EK_4 := Lib.hid (EndlessAt.later EK_3.out hb)
        clear HL_6 If_6 Ef_6 Bf_6 HBL_3 HKB_3 HKI_3 EK_3
        have hS4 : (fun WS : World => FormBox WS w1.heap.size f f0 f1 (some ⟨fb, fo, none⟩) f3 ∧ KidBox WS fb (fo + j * 5) G ka kb kc kd) w7 := ⟨Bf_7.out, HKB_4.out⟩
        refine hK.out _ _ (.inr hS4) ?_
        clear hK K hb
        refine upto_take (i := 16) (d := some 48) (v := ?_) rfl rfl (by kernel_rfl) (by kernel_rfl) (by kernel_rfl) (by kernel_rfl) (fun _ _ _ h => h) (Or.inl ⟨by rfl, ?_⟩) hS4 ?_
        rotate_left
        · (intro wS hSw; obtain ⟨⟨_, _, _, _, _⟩, ⟨_, _, _, _, _⟩⟩ := hSw; go_simp; try with_reducible rfl)
        try simp only [Act.put, List.setIfInBounds_toArray, List.set_cons_zero, List.set_cons_succ]
        refine upto_take (i := 17) (d := some 49) (v := ?_) rfl rfl (by kernel_rfl) (by kernel_rfl) (by kernel_rfl) (by kernel_rfl) (fun _ _ _ h => h) (Or.inl ⟨by rfl, ?_⟩) hS4 ?_
        rotate_left
        · (intro wS hSw; obtain ⟨⟨_, _, _, _, _⟩, ⟨_, _, _, _, _⟩⟩ := hSw; go_simp; try with_reducible rfl)
        try simp only [Act.put, List.setIfInBounds_toArray, List.set_cons_zero, List.set_cons_succ]
        clear hS4
        refine upto_done (by kernel_rfl) ?_ _
        go_wp2_with fail
        go_roundw
        case rel => exact ⟨j + 1, by go_num, by omega, HBL_4.out⟩
        case measure => simp [intOf]; omega
      · have hnb : ¬ ((j : Int) < (f.kids.length : Int)) := by omega
        have hkd := valid_kind HOK.out
        obtain ⟨ld0, ld1, ld2, ld3, ld4⟩ := Bf_3.out
        have hx0 : w1.heap.size < wr.heap.size := Bf_3.out.lt
        go_wp2_with fail
        go_ret
        exact ⟨rfl, HL_3.out⟩
theorem own : ownKnob Try.prog.godebug = none := by kernel_rfl
theorem laidOut : laidOutB Try.prog = true := by kernel_rfl
set_option maxRecDepth 100000 in
theorem lifted (os : Os) (started : os.Started) (H : Type) (enc : TypeId × Value → H) :
    ReturnsInHanded {} Try.checked os 6 .any (Rows.fnFormPartsSpec.pre6 enc Try.prog Try.f6 Rows.fnFormPartsRow.domain false) (Rows.fnFormPartsSpec.post enc Try.prog Try.f6 false true false false) := by
  refine returnsInHanded_of_change (C := Try.checked) own started (by kernel_rfl) Try.func6
    (ChangeSpec.witness6 (enc := enc) (C := Try.checked) false ⟨#[], #[.slice none 0 0], []⟩ 12 (by kernel_rfl) (by kernel_rfl) (by kernel_rfl) (by kernel_rfl)) ?_
  intro W base args ds gs before hval0 hW hcnd _
  have hval : ∀ (j : Nat) t v, Try.f6.params[j]? = some t → args[j]? = some v → Value.okWide Try.prog W .any base t v := hval0
  have hW' := hW
  obtain ⟨p, q, hA0, hV, rfl, hfz, hnd⟩ := hW
  have hA : DataW.TrodAll enc Try.prog W 0 (fun _ => true) true Try.f6.params.toList args.toList ds p := hA0
  rw [Try.params6] at hA hval
  obtain ⟨v0, vs0, d0, ds0, p0, q0, hargs, rfl, rfl, h0, r0⟩ := trodAll_cons hA
  obtain ⟨rfl, rfl, rfl⟩ := trodAll_nil r0
  obtain rfl : args = #[v0] := by cases args; simp_all
  obtain ⟨rfl, rfl⟩ := trodVars_none hV
  have k0 := h0
  have lt0 : ∀ x ∈ p0, x.block < W.heap.size := by obtain ⟨m, hm⟩ := k0; exact DataW.trod_lt m _ _ _ hm
  obtain ⟨f0, i0⟩ := open_bytes_arg (hval 0 22 v0 rfl rfl) h0
  clear hA0 hval0
  try simp only [List.append_nil] at hW'
  refine (walk W f0 v0 i0).mono fun e W' ⟨he, bel⟩ => ?_
  subst he
  exact ⟨_, rfl, _, _, _, [], _, [], hW', trodAll_mk1 (shut_bool Try.underlying4 _), (trodAll_cons_mk (Below.trod laidOut (by kernel_rfl) (of_decide_eq_true (by kernel_rfl)) k0 bel lt0) trodAll_mk0), rfl, bel.frame _, fun h => by cases h⟩
theorem over_named : Try.pinned.checked.prog.funcNamed Rows.fnFormPartsRow.func = some 6 := by kernel_rfl
theorem over_closed : joinedFacts Try.pinned.checked.prog 6 Try.f6 Rows.fnFormPartsSpec Rows.fnFormPartsRow = true := by kernel_rfl
theorem over_inst : Func.isInstance Try.pinned.checked.prog Try.f6 Rows.fnFormPartsRow.origin Rows.fnFormPartsRow.targs := of_decide_eq_true (by kernel_rfl)
theorem over_wrap : Func.isWrapper Try.pinned.checked.prog Try.f6 Rows.fnFormPartsRow.wrapper Rows.fnFormPartsRow.mainSum := (by unfold Func.isWrapper; first | (rw [if_pos (by decide +kernel)]; kernel_rfl) | (rw [if_neg (by decide +kernel)]; exact ⟨rfl, rfl⟩))
theorem over : Rows.fnFormPartsRow.holds Try.pinned (OpenSpec.ofChange Rows.fnFormPartsSpec) :=
  OpenClaim.holds_of_wide 6 Try.f6 rfl rfl rfl rfl rfl rfl rfl ⟨rfl, rfl, rfl, rfl, rfl⟩ rfl rfl rfl rfl rfl over_named Try.func6 over_closed over_inst over_wrap
    (fun os started H enc _ => lifted os started H enc)
theorem proved : Rows.FnFormPartsSaid := over
end Go.Proofs.Ytbmpgfojhoganaa.lwFormParts
