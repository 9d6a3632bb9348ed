/- For every two inputs the drawn lists are equal exactly if their forms are; the program and the model agree: the law FnListSame returns true, whatever the inputs, with no condition beyond the statement's own. -/
import Derived.Test.YtbmpgfojhoganaaRows
import Derived.Test.YtbmpgfojhoganaaLwLists
namespace Go.Proofs.Ytbmpgfojhoganaa.lwListSame
open Go.ChangeShapes Go.WideShapes Go.ChangeAt Go.RowKit
open Go.ChangeMaps (open_string shut_string)
set_option linter.unusedVariables false
set_option linter.unusedSimpArgs false
theorem gen_world3 {w : World} {Q : World → Prop} (h : ∀ W', W' = w → Q W') : Q w := h w rfl
theorem same_list (ks ls : List Fm) : sameB (listFm ks) (listFm ls) = sameAll ks ls := by
  simp [listFm, sameB]
theorem same_take : ∀ (ks ls : List Fm) (j : Nat) (h1 : j < ks.length) (h2 : j < ls.length), sameAll (ks.take (j + 1)) (ls.take (j + 1)) = (sameAll (ks.take j) (ls.take j) && sameB ks[j] ls[j])
  | f :: r, g :: s, 0, _, _ => by simp [sameAll]
  | f :: r, g :: s, j + 1, h1, h2 => by
    have h := same_take r s j (by simpa using h1) (by simpa using h2)
    simp only [List.take_succ_cons, sameAll, h, List.getElem_cons_succ, Bool.and_assoc]
theorem same_no : ∀ (ks ls : List Fm) (j : Nat), sameAll (ks.take j) (ls.take j) = false → sameAll ks ls = false
  | _, _, 0, h => by simp [sameAll] at h
  | [], [], j + 1, h => by simp [sameAll] at h
  | [], g :: s, j + 1, _ => by simp [sameAll]
  | f :: r, [], j + 1, _ => by simp [sameAll]
  | f :: r, g :: s, j + 1, h => by
    simp only [List.take_succ_cons, sameAll] at h ⊢
    cases hf : sameB f g with
    | false => simp
    | true =>
      rw [hf] at h
      rw [Bool.true_and] at h ⊢
      exact same_no r s j h
set_option maxRecDepth 100000 in
set_option maxHeartbeats 4000000 in
theorem walk (w : World) (n : Nat) (v : Value) (hv : Bytes w v n) (m : Nat) (u : Value) (hu : Bytes w u m) :
    Calls Try.prog 9 #[v, u] w fun e w' => e = .returned (.bool true) ∧ Below w.heap.size w w' := by
  have HV := Lib.hid hv
  have HU := Lib.hid hu
  obtain ⟨a0, c0, rfl, hn1, hn2, _⟩ := hv
  obtain ⟨a1, c1, rfl, hm1, hm2, _⟩ := hu
  unfold maxLen at hn2 hm2
  by_cases hbig : (1048576 : Int) < n
  · go_enter Try.func9, Try.ntmps9
    go_wp2_with fail
    go_ret
    exact ⟨rfl, Below.refl _ _⟩
  by_cases hbig2 : (1048576 : Int) < m
  · go_enter Try.func9, Try.ntmps9
    go_wp2_with fail
    go_ret
    exact ⟨rfl, Below.refl _ _⟩
  go_enter Try.func9, Try.ntmps9
  go_wp2_with fail
  refine (drawListForm_any _ n w HV.out).mono ?_
  rintro e w1 ⟨ks, ksa, ksc, rfl, hfi, hl3, hsl, hb⟩
  have hs1 : w.heap.size ≤ w1.heap.size := hb.size
  have HL := Lib.hid hb
  clear HV
  have HU_1 := Lib.hid (bytes_up HU.out hb)
  clear HU
  clear hb
  obtain ⟨hszks, hctks⟩ := list_small hl3 hsl
  have hlnks : ks.length ≤ 3 := hl3
  have Fks : Hid (FormsIn (· < w1.heap.size) w1 ksa ksc ks) := by
    refine ⟨hfi.1, hfi.2.1, ?_⟩
    rcases hfi.2.2 with h | ⟨b3, o3, h1, h2, h3⟩
    · exact .inl h
    · exact .inr ⟨b3, o3, h1, by omega, RowIn.mono (fun k hk => by omega) b3 o3 ks h3⟩
  clear hfi hl3 hsl
  go_wp2_with fail
  refine (drawListForm_any _ m w1 HU_1.out).mono ?_
  rintro e w2 ⟨ls, lsa, lsc, rfl, hfi, hl3, hsl, hb⟩
  have hs2 : w1.heap.size ≤ w2.heap.size := hb.size
  clear HU_1
  have HL_1 := Lib.hid (HL.out.trans (hb.mono (by omega)))
  have Fks_1 := Lib.hid (forms_up Fks.out hb)
  clear HL Fks
  clear hb
  obtain ⟨hszls, hctls⟩ := list_small hl3 hsl
  have hlnls : ls.length ≤ 3 := hl3
  have Fls : Hid (FormsIn (· < w2.heap.size) w2 lsa lsc ls) := by
    refine ⟨hfi.1, hfi.2.1, ?_⟩
    rcases hfi.2.2 with h | ⟨b3, o3, h1, h2, h3⟩
    · exact .inl h
    · exact .inr ⟨b3, o3, h1, by omega, RowIn.mono (fun k hk => by omega) b3 o3 ls h3⟩
  clear hfi hl3 hsl
  obtain ⟨ok, hok⟩ : ∃ ok, formB (listFm ks) = ok := ⟨_, rfl⟩
  obtain ⟨R, hR⟩ : ∃ R, (if ok = true then listFm ks else zeroForm) = R := ⟨_, rfl⟩
  have HCR : Hid (R.count ≤ 4294967296) := by have h1 := listFm_count hR; unfold Hid; omega
  have HOKR := Lib.hid hok
  have HRR := Lib.hid hR
  clear hok hR
  obtain ⟨fine, hok⟩ : ∃ ok, formB (listFm ls) = ok := ⟨_, rfl⟩
  obtain ⟨Q, hR⟩ : ∃ R, (if fine = true then listFm ls else zeroForm) = R := ⟨_, rfl⟩
  have HCQ : Hid (Q.count ≤ 4294967296) := by have h1 := listFm_count hR; unfold Hid; omega
  have HOKQ := Lib.hid hok
  have HRQ := Lib.hid hR
  clear hok hR
  go_wp2_with fail
  refine (implListForm_law ks ksa ksc w2 Fks_1.out hszks (by omega) ok R HOKR.out HRR.out).mono ?_
  rintro e w3 ⟨x0, x1, x2, x3, rfl, hin, hend, hb⟩
  have hs3 : w2.heap.size ≤ w3.heap.size := hb.size
  have HL_2 := Lib.hid (HL_1.out.trans (hb.mono (by omega)))
  have Fks_2 := Lib.hid (forms_up Fks_1.out hb)
  have Fls_1 := Lib.hid (forms_up Fls.out hb)
  clear HL_1 Fks_1 Fls
  clear hb
  have Ix : Hid (InV (· < w3.heap.size) w3 R (.agg #[.int .i64 R.kind, .string R.name, .int .i64 R.n, .slice x0 R.scopes.length x1, .slice x2 R.kids.length x3])) := InV.mono (fun k hk => hk.2) _ _ hin
  have Ex := Lib.hid hend
  clear hin hend
  go_wp2_with fail
  have hba0 := below_alloc w3 (.cells #[.int .i64 R.kind, .string R.name, .int .i64 R.n, .slice x0 R.scopes.length x1, .slice x2 R.kids.length x3] 26)
  have Bx : Hid (FormBox (w3.alloc (.cells #[.int .i64 R.kind, .string R.name, .int .i64 R.n, .slice x0 R.scopes.length x1, .slice x2 R.kids.length x3] 26)) w3.heap.size R x0 x1 x2 x3) := box_lit w3 R w3.heap.size x0 x2 x1 x3 26 (by simp)
  refine (specListForm_law ks ksa ksc (w3.alloc (.cells #[.int .i64 R.kind, .string R.name, .int .i64 R.n, .slice x0 R.scopes.length x1, .slice x2 R.kids.length x3] 26)) (forms_up Fks_2.out hba0) hszks ok R HOKR.out HRR.out).mono ?_
  rintro e w4 ⟨y0, y1, y2, y3, rfl, hin, hb0⟩
  have hb : Below w3.heap.size w3 w4 := hba0.trans (hb0.mono hba0.size)
  have hs4 : w3.heap.size + 1 ≤ w4.heap.size := by have h := hb0.size; simp at h; omega
  have HL_3 := Lib.hid (HL_2.out.trans (hb.mono (by omega)))
  have Fks_3 := Lib.hid (forms_up Fks_2.out hb)
  have Fls_2 := Lib.hid (forms_up Fls_1.out hb)
  have Ix_1 := Lib.hid (inv_up Ix.out hb)
  have Ex_1 := Lib.hid (EndlessAt.later Ex.out hb)
  have Bx_1 := Lib.hid (FormBox.later Bx.out hb0)
  clear HL_2 Fks_2 Fls_1 Ix Ex Bx
  clear hb0 hba0
  clear hb
  have Iy : Hid (InV (· < w4.heap.size) w4 R (.agg #[.int .i64 R.kind, .string R.name, .int .i64 R.n, .slice y0 R.scopes.length y1, .slice y2 R.kids.length y3])) := InV.mono (fun k hk => hk.2) _ _ hin
  clear hin
  cases ok with
  | false =>
    obtain ⟨ld0, ld1, ld2, ld3, ld4⟩ := Bx_1.out
    have hx0 : w3.heap.size < w4.heap.size := Bx_1.out.lt
    go_wp2_with fail
    have hba0 := below_alloc w4 (.cells #[.int .i64 R.kind, .string R.name, .int .i64 R.n, .slice y0 R.scopes.length y1, .slice y2 R.kids.length y3] 26)
    have By : Hid (FormBox (w4.alloc (.cells #[.int .i64 R.kind, .string R.name, .int .i64 R.n, .slice y0 R.scopes.length y1, .slice y2 R.kids.length y3] 26)) w4.heap.size R y0 y1 y2 y3) := box_lit w4 R w4.heap.size y0 y2 y1 y3 26 (by simp)
    refine (implSame_law R R _ _ (w4.alloc (.cells #[.int .i64 R.kind, .string R.name, .int .i64 R.n, .slice y0 R.scopes.length y1, .slice y2 R.kids.length y3] 26)) (inv_up Ix_1.out hba0) (inv_up Iy.out hba0) HCR.out (EndlessAt.later Ex_1.out hba0) true (sameB_refl R)).mono ?_
    rintro e w5 ⟨rfl, hb0⟩
    have hb : Below w4.heap.size w4 w5 := hba0.trans (hb0.mono hba0.size)
    have hs5 : w4.heap.size + 1 ≤ w5.heap.size := by have h := hb0.size; simp at h; omega
    clear ld0 ld1 ld2 ld3 ld4 hx0
    have HL_4 := Lib.hid (HL_3.out.trans (hb.mono (by omega)))
    have Fks_4 := Lib.hid (forms_up Fks_3.out hb)
    have Fls_3 := Lib.hid (forms_up Fls_2.out hb)
    have Ix_2 := Lib.hid (inv_up Ix_1.out hb)
    have Ex_2 := Lib.hid (EndlessAt.later Ex_1.out hb)
    have Bx_2 := Lib.hid (FormBox.later Bx_1.out hb)
    have Iy_1 := Lib.hid (inv_up Iy.out hb)
    have By_1 := Lib.hid (FormBox.later By.out hb0)
    clear HL_3 Fks_3 Fls_2 Ix_1 Ex_1 Bx_1 Iy By
    clear hb0 hba0
    clear hb
    obtain ⟨ld0, ld1, ld2, ld3, ld4⟩ := Bx_2.out
    have hx0 : w3.heap.size < w5.heap.size := Bx_2.out.lt
    obtain ⟨ld5, ld6, ld7, ld8, ld9⟩ := By_1.out
    have hx1 : w4.heap.size < w5.heap.size := By_1.out.lt
    go_wp2_with fail
    refine (implSame_law R R _ _ w5 Ix_2.out Iy_1.out HCR.out Ex_2.out true (sameB_refl R)).mono ?_
    rintro e w6 ⟨rfl, hb⟩
    have hs6 : w5.heap.size ≤ w6.heap.size := hb.size
    clear ld0 ld1 ld2 ld3 ld4 ld5 ld6 ld7 ld8 ld9 hx0 hx1
    have HL_5 := Lib.hid (HL_4.out.trans (hb.mono (by omega)))
    have Fks_5 := Lib.hid (forms_up Fks_4.out hb)
    have Fls_4 := Lib.hid (forms_up Fls_3.out hb)
    have Ix_3 := Lib.hid (inv_up Ix_2.out hb)
    have Ex_3 := Lib.hid (EndlessAt.later Ex_2.out hb)
    have Bx_3 := Lib.hid (FormBox.later Bx_2.out hb)
    have Iy_2 := Lib.hid (inv_up Iy_1.out hb)
    have By_2 := Lib.hid (FormBox.later By_1.out hb)
    clear HL_4 Fks_4 Fls_3 Ix_2 Ex_2 Bx_2 Iy_1 By_1
    clear hb
    go_wp2_with fail
    go_ret
    exact ⟨rfl, HL_5.out⟩
  | true =>
    obtain ⟨ld0, ld1, ld2, ld3, ld4⟩ := Bx_1.out
    have hx0 : w3.heap.size < w4.heap.size := Bx_1.out.lt
    go_wp2_with fail
    have hba0 := below_alloc w4 (.cells #[.int .i64 R.kind, .string R.name, .int .i64 R.n, .slice y0 R.scopes.length y1, .slice y2 R.kids.length y3] 26)
    have By : Hid (FormBox (w4.alloc (.cells #[.int .i64 R.kind, .string R.name, .int .i64 R.n, .slice y0 R.scopes.length y1, .slice y2 R.kids.length y3] 26)) w4.heap.size R y0 y1 y2 y3) := box_lit w4 R w4.heap.size y0 y2 y1 y3 26 (by simp)
    refine (implSame_law R R _ _ (w4.alloc (.cells #[.int .i64 R.kind, .string R.name, .int .i64 R.n, .slice y0 R.scopes.length y1, .slice y2 R.kids.length y3] 26)) (inv_up Ix_1.out hba0) (inv_up Iy.out hba0) HCR.out (EndlessAt.later Ex_1.out hba0) true (sameB_refl R)).mono ?_
    rintro e w5 ⟨rfl, hb0⟩
    have hb : Below w4.heap.size w4 w5 := hba0.trans (hb0.mono hba0.size)
    have hs5 : w4.heap.size + 1 ≤ w5.heap.size := by have h := hb0.size; simp at h; omega
    clear ld0 ld1 ld2 ld3 ld4 hx0
    have HL_4 := Lib.hid (HL_3.out.trans (hb.mono (by omega)))
    have Fks_4 := Lib.hid (forms_up Fks_3.out hb)
    have Fls_3 := Lib.hid (forms_up Fls_2.out hb)
    have Ix_2 := Lib.hid (inv_up Ix_1.out hb)
    have Ex_2 := Lib.hid (EndlessAt.later Ex_1.out hb)
    have Bx_2 := Lib.hid (FormBox.later Bx_1.out hb)
    have Iy_1 := Lib.hid (inv_up Iy.out hb)
    have By_1 := Lib.hid (FormBox.later By.out hb0)
    clear HL_3 Fks_3 Fls_2 Ix_1 Ex_1 Bx_1 Iy By
    clear hb0 hba0
    clear hb
    go_wp2_with fail
    refine (implListForm_law ls lsa lsc w5 Fls_3.out hszls (by omega) fine Q HOKQ.out HRQ.out).mono ?_
    rintro e w6 ⟨z0, z1, z2, z3, rfl, hin, hend, hb⟩
    have hs6 : w5.heap.size ≤ w6.heap.size := hb.size
    have HL_5 := Lib.hid (HL_4.out.trans (hb.mono (by omega)))
    have Fks_5 := Lib.hid (forms_up Fks_4.out hb)
    have Fls_4 := Lib.hid (forms_up Fls_3.out hb)
    have Ix_3 := Lib.hid (inv_up Ix_2.out hb)
    have Ex_3 := Lib.hid (EndlessAt.later Ex_2.out hb)
    have Bx_3 := Lib.hid (FormBox.later Bx_2.out hb)
    have Iy_2 := Lib.hid (inv_up Iy_1.out hb)
    have By_2 := Lib.hid (FormBox.later By_1.out hb)
    clear HL_4 Fks_4 Fls_3 Ix_2 Ex_2 Bx_2 Iy_1 By_1
    clear hb
    have Iz : Hid (InV (· < w6.heap.size) w6 Q (.agg #[.int .i64 Q.kind, .string Q.name, .int .i64 Q.n, .slice z0 Q.scopes.length z1, .slice z2 Q.kids.length z3])) := InV.mono (fun k hk => hk.2) _ _ hin
    have Ez := Lib.hid hend
    clear hin hend
    cases fine with
    | false =>
      go_wp2_with fail
      go_ret
      exact ⟨rfl, HL_5.out.alloc (by omega) _⟩
    | true =>
      obtain ⟨t, ht⟩ : ∃ t, sameAll ks ls = t := ⟨_, rfl⟩
      have HT := Lib.hid ht
      have HSM : Hid (sameB R Q = t) := by rw [← HRR.out, ← HRQ.out, ← ht]; exact same_list ks ls
      have hlb : ((ks.length : Int) == (ls.length : Int)) = decide (ks.length = ls.length) := by rw [Bool.eq_iff_iff, beq_iff_eq, decide_eq_true_iff]; omega
      clear ht
      go_wp2_with fail
      have hba0 := below_alloc w6 (.cells #[.int .i64 Q.kind, .string Q.name, .int .i64 Q.n, .slice z0 Q.scopes.length z1, .slice z2 Q.kids.length z3] 26)
      have Bz : Hid (FormBox (w6.alloc (.cells #[.int .i64 Q.kind, .string Q.name, .int .i64 Q.n, .slice z0 Q.scopes.length z1, .slice z2 Q.kids.length z3] 26)) w6.heap.size Q z0 z1 z2 z3) := box_lit w6 Q w6.heap.size z0 z2 z1 z3 26 (by simp)
      refine gen_world3 (fun wb hwb => ?_)
      rw [← hwb] at hba0 Bz
      have hswb : w6.heap.size + 1 ≤ wb.heap.size := by rw [hwb]; simp
      have HL_6 := Lib.hid (HL_5.out.trans (hba0.mono (by omega)))
      have Fks_6 := Lib.hid (forms_up Fks_5.out hba0)
      have Fls_5 := Lib.hid (forms_up Fls_4.out hba0)
      have Ix_4 := Lib.hid (inv_up Ix_3.out hba0)
      have Ex_4 := Lib.hid (EndlessAt.later Ex_3.out hba0)
      have Bx_4 := Lib.hid (FormBox.later Bx_3.out hba0)
      have Iy_3 := Lib.hid (inv_up Iy_2.out hba0)
      have By_3 := Lib.hid (FormBox.later By_2.out hba0)
      have Iz_1 := Lib.hid (inv_up Iz.out hba0)
      have Ez_1 := Lib.hid (EndlessAt.later Ez.out hba0)
      clear HL_5 Fks_5 Fls_4 Ix_3 Ex_3 Bx_3 Iy_2 By_2 Iz Ez
      clear hba0 hwb
      try rw [hlb]
      go_loopw [13, 14] (fun m i wr => (∃ (j : Nat) (sb : Bool), m = .bool sb ∧ i = .int .i64 j ∧ j ≤ ks.length ∧ ((sb = true ∧ ks.length = ls.length ∧ sameAll (ks.take j) (ls.take j) = true) ∨ (sb = false ∧ t = false))) ∧ Below wb.heap.size wb wr) (fun _ i _ => ks.length - (intOf i).toNat)
      case atStart =>
        refine ⟨⟨0, decide (ks.length = ls.length), rfl, rfl, Nat.zero_le _, ?_⟩, Below.refl _ _⟩
        by_cases hl : ks.length = ls.length
        · exact .inl ⟨decide_eq_true hl, hl, by simp [sameAll]⟩
        · exact .inr ⟨decide_eq_false hl, by rw [← HT.out]; exact Bool.eq_false_iff.2 fun h => hl (sameAll_length h)⟩
      case round =>
        obtain ⟨⟨j, sb, rfl, rfl, hj, hcase⟩, hbl⟩ := hrel
        have hsr : wb.heap.size ≤ wr.heap.size := hbl.size
        have HBL := Lib.hid hbl
        have HL_7 := Lib.hid (HL_6.out.trans (hbl.mono (by omega)))
        have Fks_7 := Lib.hid (forms_up Fks_6.out hbl)
        have Fls_6 := Lib.hid (forms_up Fls_5.out hbl)
        have Ix_5 := Lib.hid (inv_up Ix_4.out hbl)
        have Ex_5 := Lib.hid (EndlessAt.later Ex_4.out hbl)
        have Bx_5 := Lib.hid (FormBox.later Bx_4.out hbl)
        have Iy_4 := Lib.hid (inv_up Iy_3.out hbl)
        have By_4 := Lib.hid (FormBox.later By_3.out hbl)
        have Iz_2 := Lib.hid (inv_up Iz_1.out hbl)
        have Ez_2 := Lib.hid (EndlessAt.later Ez_1.out hbl)
        have Bz_1 := Lib.hid (FormBox.later Bz.out hbl)
        clear HL_6 Fks_6 Fls_5 Ix_4 Ex_4 Bx_4 Iy_3 By_3 Iz_1 Ez_1 Bz
        clear hbl
        rcases hcase with ⟨rfl, hll, hta⟩ | ⟨rfl, htf⟩
        · have HTA := Lib.hid hta
          have HLL := Lib.hid hll
          clear hta
          by_cases hlt : j < ks.length
          · have hlt2 : j < ls.length := by omega
            have hltI : (j : Int) < (ks.length : Int) := by omega
            have hltJ : (j : Int) < (ls.length : Int) := by omega
            have hj0 : (0 : Int) ≤ (j : Int) := by omega
            clear hll
            obtain ⟨gb, go, g1, g2, g3, g4, hg, hcg, hkbg, hkig⟩ := list_cells Fks_7.out j hlt
            obtain ⟨G, hGg⟩ : ∃ G, ks[j] = G := ⟨_, rfl⟩
            have hmg : G ∈ ks := by rw [← hGg]; exact List.getElem_mem hlt
            rw [hGg] at hkbg hkig
            subst hg
            have Lg := Lib.hid hkbg
            have Jg := Lib.hid hkig
            have HMg := Lib.hid hmg
            have HGg := Lib.hid hGg
            clear hkig hGg hmg
            obtain ⟨ub, uo, u1, u2, u3, u4, hu, hcu, hkbu, hkiu⟩ := list_cells Fls_6.out j hlt2
            obtain ⟨H, hGu⟩ : ∃ G, ls[j] = G := ⟨_, rfl⟩
            have hmu : H ∈ ls := by rw [← hGu]; exact List.getElem_mem hlt2
            rw [hGu] at hkbu hkiu
            subst hu
            have Lu := Lib.hid hkbu
            have Ju := Lib.hid hkiu
            have HMu := Lib.hid hmu
            have HGu := Lib.hid hGu
            clear hkiu hGu hmu
            obtain ⟨sg, hsg⟩ : ∃ sg, sameB G H = sg := ⟨_, rfl⟩
            have HSG := Lib.hid hsg
            have HVG : Hid (formB G = true) := list_kid HOKR.out HMg.out
            have HCG : Hid (G.count ≤ 4294967296) := by have h := countAll_take_le ks (j + 1); rw [countAll_take_succ ks j hlt, HGg.out] at h; unfold Hid; omega
            have HNX : Hid (((sg = true ∧ ks.length = ls.length ∧ sameAll (ks.take (j + 1)) (ls.take (j + 1)) = true) ∨ (sg = false ∧ t = false))) := by
              have h1 := same_take ks ls j hlt hlt2
              rw [HTA.out, Bool.true_and, HGg.out, HGu.out, hsg] at h1
              cases sg with
              | true => exact .inl ⟨rfl, HLL.out, h1⟩
              | false => exact .inr ⟨rfl, by rw [← HT.out]; exact same_no ks ls (j + 1) h1⟩
            clear hsg
            clear hkbg hkbu
            go_wp2_with fail
            refine upto_begin (fun WS : World => KidBox WS gb (go + j * 5) G g1 g2 g3 g4 ∧ KidBox WS ub (uo + j * 5) H u1 u2 u3 u4) 10 (by kernel_rfl) ?_
            refine gen_upto (fun w7 hu => ?_)
            have hb0 : Below wr.heap.size wr w7 := by rw [hu]; exact (Below.refl _ _).drew
            have hb := hb0
            have hs7 : wr.heap.size ≤ w7.heap.size := hb.size
            have HL_8 := Lib.hid (HL_7.out.trans (hb.mono (by omega)))
            have Fks_8 := Lib.hid (forms_up Fks_7.out hb)
            have Fls_7 := Lib.hid (forms_up Fls_6.out hb)
            have Ix_6 := Lib.hid (inv_up Ix_5.out hb)
            have Ex_6 := Lib.hid (EndlessAt.later Ex_5.out hb)
            have Bx_6 := Lib.hid (FormBox.later Bx_5.out hb)
            have Iy_5 := Lib.hid (inv_up Iy_4.out hb)
            have By_5 := Lib.hid (FormBox.later By_4.out hb)
            have Iz_3 := Lib.hid (inv_up Iz_2.out hb)
            have Ez_3 := Lib.hid (EndlessAt.later Ez_2.out hb)
            have Bz_2 := Lib.hid (FormBox.later Bz_1.out hb)
            have HBL_1 := Lib.hid (HBL.out.trans (hb.mono (by omega)))
            have Lg_1 := Lib.hid (KidBox.later Lg.out hb)
            have Jg_1 := Lib.hid (inv_up Jg.out hb)
            have Lu_1 := Lib.hid (KidBox.later Lu.out hb)
            have Ju_1 := Lib.hid (inv_up Ju.out hb)
            clear HL_7 Fks_7 Fls_6 Ix_5 Ex_5 Bx_5 Iy_4 By_4 Iz_2 Ez_2 Bz_1 HBL Lg Jg Lu Ju
            clear hu hb hb0 
            have hS1 : (fun WS : World => KidBox WS gb (go + j * 5) G g1 g2 g3 g4 ∧ KidBox WS ub (uo + j * 5) H u1 u2 u3 u4) w7 := ⟨Lg_1.out, Lu_1.out⟩
            refine upto_take (i := 0) (d := some 79) (v := ?_) rfl rfl (by kernel_rfl) (by kernel_rfl) (by kernel_rfl) (by kernel_rfl) (fun _ _ _ h => h) (Or.inl ⟨by rfl, ?_⟩) hS1 ?_
            rotate_left
            · (intro wS hSw; obtain ⟨⟨_, _, _, _, _⟩, ⟨_, _, _, _, _⟩⟩ := hSw; go_simp; try with_reducible rfl)
            try simp only [Act.put, List.setIfInBounds_toArray, List.set_cons_zero, List.set_cons_succ]
            refine upto_take (i := 1) (d := some 80) (v := ?_) rfl rfl (by kernel_rfl) (by kernel_rfl) (by kernel_rfl) (by kernel_rfl) (fun _ _ _ h => h) (Or.inl ⟨by rfl, ?_⟩) hS1 ?_
            rotate_left
            · (intro wS hSw; obtain ⟨⟨_, _, _, _, _⟩, ⟨_, _, _, _, _⟩⟩ := hSw; go_simp; try with_reducible rfl)
            try simp only [Act.put, List.setIfInBounds_toArray, List.set_cons_zero, List.set_cons_succ]
            refine upto_take (i := 2) (d := some 81) (v := ?_) rfl rfl (by kernel_rfl) (by kernel_rfl) (by kernel_rfl) (by kernel_rfl) (fun _ _ _ h => h) (Or.inl ⟨by rfl, ?_⟩) hS1 ?_
            rotate_left
            · (intro wS hSw; obtain ⟨⟨_, _, _, _, _⟩, ⟨_, _, _, _, _⟩⟩ := hSw; go_simp; try with_reducible rfl)
            try simp only [Act.put, List.setIfInBounds_toArray, List.set_cons_zero, List.set_cons_succ]
            refine upto_take (i := 3) (d := some 82) (v := ?_) rfl rfl (by kernel_rfl) (by kernel_rfl) (by kernel_rfl) (by kernel_rfl) (fun _ _ _ h => h) (Or.inl ⟨by rfl, ?_⟩) hS1 ?_
            rotate_left
            · (intro wS hSw; obtain ⟨⟨_, _, _, _, _⟩, ⟨_, _, _, _, _⟩⟩ := hSw; go_simp; try with_reducible rfl)
            try simp only [Act.put, List.setIfInBounds_toArray, List.set_cons_zero, List.set_cons_succ]
            refine upto_take (i := 4) (d := some 83) (v := ?_) rfl rfl (by kernel_rfl) (by kernel_rfl) (by kernel_rfl) (by kernel_rfl) (fun _ _ _ h => h) (Or.inl ⟨by rfl, ?_⟩) hS1 ?_
            rotate_left
            · (intro wS hSw; obtain ⟨⟨_, _, _, _, _⟩, ⟨_, _, _, _, _⟩⟩ := hSw; go_simp; try with_reducible rfl)
            try simp only [Act.put, List.setIfInBounds_toArray, List.set_cons_zero, List.set_cons_succ]
            refine upto_take (i := 5) (d := some 84) (v := ?_) rfl rfl (by kernel_rfl) (by kernel_rfl) (by kernel_rfl) (by kernel_rfl) (fun _ _ _ h => h) (Or.inl ⟨by rfl, ?_⟩) hS1 ?_
            rotate_left
            · (intro wS hSw; obtain ⟨⟨_, _, _, _, _⟩, ⟨_, _, _, _, _⟩⟩ := hSw; go_simp; try with_reducible rfl)
            try simp only [Act.put, List.setIfInBounds_toArray, List.set_cons_zero, List.set_cons_succ]
            refine upto_take (i := 6) (d := some 85) (v := ?_) rfl rfl (by kernel_rfl) (by kernel_rfl) (by kernel_rfl) (by kernel_rfl) (fun _ _ _ h => h) (Or.inl ⟨by rfl, ?_⟩) hS1 ?_
            rotate_left
            · (intro wS hSw; obtain ⟨⟨_, _, _, _, _⟩, ⟨_, _, _, _, _⟩⟩ := hSw; go_simp; try with_reducible rfl)
            try simp only [Act.put, List.setIfInBounds_toArray, List.set_cons_zero, List.set_cons_succ]
            refine upto_take (i := 7) (d := some 86) (v := ?_) rfl rfl (by kernel_rfl) (by kernel_rfl) (by kernel_rfl) (by kernel_rfl) (fun _ _ _ h => h) (Or.inl ⟨by rfl, ?_⟩) hS1 ?_
            rotate_left
            · (intro wS hSw; obtain ⟨⟨_, _, _, _, _⟩, ⟨_, _, _, _, _⟩⟩ := hSw; go_simp; try with_reducible rfl)
            try simp only [Act.put, List.setIfInBounds_toArray, List.set_cons_zero, List.set_cons_succ]
            refine upto_one (i := 8) (by kernel_rfl) rfl (fun K hK => ?_)
            go_simp
            refine (implSame_law G H _ _ w7 Jg_1.out Ju_1.out HCG.out (valid_end HVG.out Jg_1.out) sg HSG.out).mono ?_
            rintro e w8 ⟨rfl, hb⟩
            have hs8 : w7.heap.size ≤ w8.heap.size := hb.size
            clear hS1
            have HL_9 := Lib.hid (HL_8.out.trans (hb.mono (by omega)))
            have Fks_9 := Lib.hid (forms_up Fks_8.out hb)
            have Fls_8 := Lib.hid (forms_up Fls_7.out hb)
            have Ix_7 := Lib.hid (inv_up Ix_6.out hb)
            have Ex_7 := Lib.hid (EndlessAt.later Ex_6.out hb)
            have Bx_7 := Lib.hid (FormBox.later Bx_6.out hb)
            have Iy_6 := Lib.hid (inv_up Iy_5.out hb)
            have By_6 := Lib.hid (FormBox.later By_5.out hb)
            have Iz_4 := Lib.hid (inv_up Iz_3.out hb)
            have Ez_4 := Lib.hid (EndlessAt.later Ez_3.out hb)
            have Bz_3 := Lib.hid (FormBox.later Bz_2.out hb)
            have HBL_2 := Lib.hid (HBL_1.out.trans (hb.mono (by omega)))
            have Lg_2 := Lib.hid (KidBox.later Lg_1.out hb)
            have Jg_2 := Lib.hid (inv_up Jg_1.out hb)
            have Lu_2 := Lib.hid (KidBox.later Lu_1.out hb)
            have Ju_2 := Lib.hid (inv_up Ju_1.out hb)
            clear HL_8 Fks_8 Fls_7 Ix_6 Ex_6 Bx_6 Iy_5 By_5 Iz_3 Ez_3 Bz_2 HBL_1 Lg_1 Jg_1 Lu_1 Ju_1
            have hS2 : (fun WS : World => KidBox WS gb (go + j * 5) G g1 g2 g3 g4 ∧ KidBox WS ub (uo + j * 5) H u1 u2 u3 u4) w8 := ⟨Lg_2.out, Lu_2.out⟩
            refine hK.out _ _ (.inr hS2) ?_
            clear hK K hb
            refine upto_take (i := 9) (d := some 13) (v := ?_) rfl rfl (by kernel_rfl) (by kernel_rfl) (by kernel_rfl) (by kernel_rfl) (fun _ _ _ h => h) (Or.inl ⟨by rfl, ?_⟩) hS2 ?_
            rotate_left
            · (intro wS hSw; obtain ⟨⟨_, _, _, _, _⟩, ⟨_, _, _, _, _⟩⟩ := hSw; go_simp; try with_reducible rfl)
            try simp only [Act.put, List.setIfInBounds_toArray, List.set_cons_zero, List.set_cons_succ]
            clear hS2
            refine upto_done (by kernel_rfl) ?_ _
            go_wp2_with fail
            go_roundw
            case rel => exact ⟨⟨j + 1, sg, rfl, by go_num, by omega, HNX.out⟩, HBL_2.out⟩
            case measure => simp [intOf]; omega
          · have hnb : ¬ ((j : Int) < (ks.length : Int)) := by omega
            obtain rfl : j = ks.length := by omega
            have htt : t = true := by have h := HTA.out; rw [List.take_length, HLL.out, List.take_length] at h; rw [← HT.out]; exact h
            subst htt
            clear hll
            obtain ⟨ld0, ld1, ld2, ld3, ld4⟩ := Bx_5.out
            have hx0 : w3.heap.size < wr.heap.size := Bx_5.out.lt
            obtain ⟨ld5, ld6, ld7, ld8, ld9⟩ := Bz_1.out
            have hx1 : w6.heap.size < wr.heap.size := Bz_1.out.lt
            go_wp2_with fail
            refine (implSame_law R Q _ _ wr Ix_5.out Iz_2.out HCR.out Ex_5.out true HSM.out).mono ?_
            rintro e w7 ⟨rfl, hb⟩
            have hs7 : wr.heap.size ≤ w7.heap.size := hb.size
            clear ld0 ld1 ld2 ld3 ld4 ld5 ld6 ld7 ld8 ld9 hx0 hx1
            have HL_8 := Lib.hid (HL_7.out.trans (hb.mono (by omega)))
            have Fks_8 := Lib.hid (forms_up Fks_7.out hb)
            have Fls_7 := Lib.hid (forms_up Fls_6.out hb)
            have Ix_6 := Lib.hid (inv_up Ix_5.out hb)
            have Ex_6 := Lib.hid (EndlessAt.later Ex_5.out hb)
            have Bx_6 := Lib.hid (FormBox.later Bx_5.out hb)
            have Iy_5 := Lib.hid (inv_up Iy_4.out hb)
            have By_5 := Lib.hid (FormBox.later By_4.out hb)
            have Iz_3 := Lib.hid (inv_up Iz_2.out hb)
            have Ez_3 := Lib.hid (EndlessAt.later Ez_2.out hb)
            have Bz_2 := Lib.hid (FormBox.later Bz_1.out hb)
            have HBL_1 := Lib.hid (HBL.out.trans (hb.mono (by omega)))
            clear HL_7 Fks_7 Fls_6 Ix_5 Ex_5 Bx_5 Iy_4 By_4 Iz_2 Ez_2 Bz_1 HBL
            clear hb
            go_wp2_with fail
            go_ret
            exact ⟨rfl, HL_8.out⟩
        · subst htf
          by_cases hlt : j < ks.length
          · have hltI : (j : Int) < (ks.length : Int) := by omega
            obtain ⟨ld0, ld1, ld2, ld3, ld4⟩ := Bx_5.out
            have hx0 : w3.heap.size < wr.heap.size := Bx_5.out.lt
            obtain ⟨ld5, ld6, ld7, ld8, ld9⟩ := Bz_1.out
            have hx1 : w6.heap.size < wr.heap.size := Bz_1.out.lt
            go_wp2_with fail
            refine (implSame_law R Q _ _ wr Ix_5.out Iz_2.out HCR.out Ex_5.out false HSM.out).mono ?_
            rintro e w7 ⟨rfl, hb⟩
            have hs7 : wr.heap.size ≤ w7.heap.size := hb.size
            clear ld0 ld1 ld2 ld3 ld4 ld5 ld6 ld7 ld8 ld9 hx0 hx1
            have HL_8 := Lib.hid (HL_7.out.trans (hb.mono (by omega)))
            have Fks_8 := Lib.hid (forms_up Fks_7.out hb)
            have Fls_7 := Lib.hid (forms_up Fls_6.out hb)
            have Ix_6 := Lib.hid (inv_up Ix_5.out hb)
            have Ex_6 := Lib.hid (EndlessAt.later Ex_5.out hb)
            have Bx_6 := Lib.hid (FormBox.later Bx_5.out hb)
            have Iy_5 := Lib.hid (inv_up Iy_4.out hb)
            have By_5 := Lib.hid (FormBox.later By_4.out hb)
            have Iz_3 := Lib.hid (inv_up Iz_2.out hb)
            have Ez_3 := Lib.hid (EndlessAt.later Ez_2.out hb)
            have Bz_2 := Lib.hid (FormBox.later Bz_1.out hb)
            have HBL_1 := Lib.hid (HBL.out.trans (hb.mono (by omega)))
            clear HL_7 Fks_7 Fls_6 Ix_5 Ex_5 Bx_5 Iy_4 By_4 Iz_2 Ez_2 Bz_1 HBL
            clear hb
            go_wp2_with fail
            go_ret
            exact ⟨rfl, HL_8.out⟩
          · have hltI : ¬ ((j : Int) < (ks.length : Int)) := by omega
            obtain ⟨ld0, ld1, ld2, ld3, ld4⟩ := Bx_5.out
            have hx0 : w3.heap.size < wr.heap.size := Bx_5.out.lt
            obtain ⟨ld5, ld6, ld7, ld8, ld9⟩ := Bz_1.out
            have hx1 : w6.heap.size < wr.heap.size := Bz_1.out.lt
            go_wp2_with fail
            refine (implSame_law R Q _ _ wr Ix_5.out Iz_2.out HCR.out Ex_5.out false HSM.out).mono ?_
            rintro e w7 ⟨rfl, hb⟩
            have hs7 : wr.heap.size ≤ w7.heap.size := hb.size
            clear ld0 ld1 ld2 ld3 ld4 ld5 ld6 ld7 ld8 ld9 hx0 hx1
            have HL_8 := Lib.hid (HL_7.out.trans (hb.mono (by omega)))
            have Fks_8 := Lib.hid (forms_up Fks_7.out hb)
            have Fls_7 := Lib.hid (forms_up Fls_6.out hb)
            have Ix_6 := Lib.hid (inv_up Ix_5.out hb)
            have Ex_6 := Lib.hid (EndlessAt.later Ex_5.out hb)
            have Bx_6 := Lib.hid (FormBox.later Bx_5.out hb)
            have Iy_5 := Lib.hid (inv_up Iy_4.out hb)
            have By_5 := Lib.hid (FormBox.later By_4.out hb)
            have Iz_3 := Lib.hid (inv_up Iz_2.out hb)
            have Ez_3 := Lib.hid (EndlessAt.later Ez_2.out hb)
            have Bz_2 := Lib.hid (FormBox.later Bz_1.out hb)
            have HBL_1 := Lib.hid (HBL.out.trans (hb.mono (by omega)))
            clear HL_7 Fks_7 Fls_6 Ix_5 Ex_5 Bx_5 Iy_4 By_4 Iz_2 Ez_2 Bz_1 HBL
            clear hb
            go_wp2_with fail
            go_ret
            exact ⟨rfl, HL_8.out⟩
theorem own : ownKnob Try.prog.godebug = none := by kernel_rfl
theorem laidOut : laidOutB Try.prog = true := by kernel_rfl
set_option maxRecDepth 100000 in
theorem lifted (os : Os) (started : os.Started) (H : Type) (enc : TypeId × Value → H) :
    ReturnsInHanded {} Try.checked os 9 .any (Rows.fnListSameSpec.pre6 enc Try.prog Try.f9 Rows.fnListSameRow.domain false) (Rows.fnListSameSpec.post enc Try.prog Try.f9 false true false false) := by
  refine returnsInHanded_of_change (C := Try.checked) own started (by kernel_rfl) Try.func9
    (ChangeSpec.witness6 (enc := enc) (C := Try.checked) false ⟨#[], #[.slice none 0 0, .slice none 0 0], []⟩ 12 (by kernel_rfl) (by kernel_rfl) (by kernel_rfl) (by kernel_rfl)) ?_
  intro W base args ds gs before hval0 hW hcnd _
  have hval : ∀ (j : Nat) t v, Try.f9.params[j]? = some t → args[j]? = some v → Value.okWide Try.prog W .any base t v := hval0
  have hW' := hW
  obtain ⟨p, q, hA0, hV, rfl, hfz, hnd⟩ := hW
  have hA : DataW.TrodAll enc Try.prog W 0 (fun _ => true) true Try.f9.params.toList args.toList ds p := hA0
  rw [Try.params9] at hA hval
  obtain ⟨v0, vs0, d0, ds0, p0, q0, hargs, rfl, rfl, h0, r0⟩ := trodAll_cons hA
  obtain ⟨v1, vs1, d1, ds1, p1, q1, rfl, rfl, rfl, h1, r1⟩ := trodAll_cons r0
  obtain ⟨rfl, rfl, rfl⟩ := trodAll_nil r1
  obtain rfl : args = #[v0, v1] := by cases args; simp_all
  obtain ⟨rfl, rfl⟩ := trodVars_none hV
  have k0 := h0
  have lt0 : ∀ x ∈ p0, x.block < W.heap.size := by obtain ⟨m, hm⟩ := k0; exact DataW.trod_lt m _ _ _ hm
  obtain ⟨f0, i0⟩ := open_bytes_arg (hval 0 22 v0 rfl rfl) h0
  have k1 := h1
  have lt1 : ∀ x ∈ p1, x.block < W.heap.size := by obtain ⟨m, hm⟩ := k1; exact DataW.trod_lt m _ _ _ hm
  obtain ⟨f1, i1⟩ := open_bytes_arg (hval 1 22 v1 rfl rfl) h1
  clear hA0 hval0
  try simp only [List.append_nil] at hW'
  refine (walk W f0 v0 i0 f1 v1 i1).mono fun e W' ⟨he, bel⟩ => ?_
  subst he
  exact ⟨_, rfl, _, _, _, [], _, [], hW', trodAll_mk1 (shut_bool Try.underlying4 _), (trodAll_cons_mk (Below.trod laidOut (by kernel_rfl) (of_decide_eq_true (by kernel_rfl)) k0 bel lt0) (trodAll_cons_mk (Below.trod laidOut (by kernel_rfl) (of_decide_eq_true (by kernel_rfl)) k1 bel lt1) trodAll_mk0)), rfl, bel.frame _, fun h => by cases h⟩
theorem over_named : Try.pinned.checked.prog.funcNamed Rows.fnListSameRow.func = some 9 := by kernel_rfl
theorem over_closed : joinedFacts Try.pinned.checked.prog 9 Try.f9 Rows.fnListSameSpec Rows.fnListSameRow = true := by kernel_rfl
theorem over_inst : Func.isInstance Try.pinned.checked.prog Try.f9 Rows.fnListSameRow.origin Rows.fnListSameRow.targs := of_decide_eq_true (by kernel_rfl)
theorem over_wrap : Func.isWrapper Try.pinned.checked.prog Try.f9 Rows.fnListSameRow.wrapper Rows.fnListSameRow.mainSum := (by unfold Func.isWrapper; first | (rw [if_pos (by decide +kernel)]; kernel_rfl) | (rw [if_neg (by decide +kernel)]; exact ⟨rfl, rfl⟩))
theorem over : Rows.fnListSameRow.holds Try.pinned (OpenSpec.ofChange Rows.fnListSameSpec) :=
  OpenClaim.holds_of_wide 9 Try.f9 rfl rfl rfl rfl rfl rfl rfl ⟨rfl, rfl, rfl, rfl, rfl⟩ rfl rfl rfl rfl rfl over_named Try.func9 over_closed over_inst over_wrap
    (fun os started H enc _ => lifted os started H enc)
theorem proved : Rows.FnListSameSaid := over
end Go.Proofs.Ytbmpgfojhoganaa.lwListSame
