/- For every input the scopes of the drawn form are in order, those of its parts are among them, and those of a name are the name's; the program and the model agree: the law FnScopesOf returns true, whatever the input, with no condition beyond the statement's own. -/
import Derived.Test.YtmakaoomdnlebaaRows
import Derived.Test.YtmakaoomdnlebaaLwSame
namespace Go.Proofs.Ytmakaoomdnlebaa.lwScopesOf
open Go.ChangeShapes Go.WideShapes Go.ChangeAt Go.RowKit
open Go.ChangeMaps (open_string shut_string)
set_option linter.unusedVariables false
set_option linter.unusedSimpArgs false
set_option maxRecDepth 100000 in
set_option maxHeartbeats 4000000 in
theorem walk (w : World) (n : Nat) (v : Value) (hv : Bytes w v n) :
    Calls Try.prog 10 #[v] w fun e w' => e = .returned (.bool true) ∧ Below w.heap.size w w' := by
  have HV := Lib.hid hv
  obtain ⟨a0, c0, rfl, hn1, hn2, _⟩ := hv
  unfold maxLen at hn2
  by_cases hbig : (1048576 : Int) < n
  · go_enter Try.func10, Try.ntmps10
    go_wp2_with fail
    go_ret
    exact ⟨rfl, Below.refl _ _⟩
  go_enter Try.func10, Try.ntmps10
  go_wp2_with fail
  refine (drawScopesOf_law _ n w HV.out).mono ?_
  rintro e w1 ⟨f, f0, f1, f2, f3, rfl, hin, hsl, hb⟩
  have hs1 : w.heap.size ≤ w1.heap.size := hb.size
  have HL := Lib.hid hb
  have hszf : f.sz ≤ 1048576 := by have := Slim.big hsl; omega
  clear hsl HV hb
  have If : Hid (InV (· < w1.heap.size) w1 f (.agg #[.int .i64 f.kind, .string f.name, .int .i64 f.n, .slice f0 f.scopes.length f1, .slice f2 f.kids.length f3])) := InV.mono (fun k hk => hk.2) _ _ hin
  clear hin
  obtain ⟨L, hL⟩ : ∃ L, scopesOf f = L := ⟨_, rfl⟩
  have hLL : L.length ≤ 1000 := by have h4 := scopesOf_len f; rw [hL] at h4; omega
  obtain ⟨vf, hvf⟩ : ∃ vf, formB f = vf := ⟨_, rfl⟩
  have HVF := Lib.hid hvf
  have HL0 := Lib.hid hL
  clear hL hvf
  go_wp2_with fail
  have hba0 := below_alloc w1 (.cells #[.int .i64 f.kind, .string f.name, .int .i64 f.n, .slice f0 f.scopes.length f1, .slice f2 f.kids.length f3] 27)
  have Bf : Hid (FormBox (w1.alloc (.cells #[.int .i64 f.kind, .string f.name, .int .i64 f.n, .slice f0 f.scopes.length f1, .slice f2 f.kids.length f3] 27)) w1.heap.size f f0 f1 f2 f3) := box_lit w1 f w1.heap.size f0 f2 f1 f3 27 (by simp)
  refine (implScopesOf_gen f _ _ _ _ (w1.alloc (.cells #[.int .i64 f.kind, .string f.name, .int .i64 f.n, .slice f0 f.scopes.length f1, .slice f2 f.kids.length f3] 27)) (inv_up If.out hba0) hszf L HL0.out).mono ?_
  rintro e w2 ⟨pa, ca, rfl, hrow, hb0⟩
  have hb : Below w1.heap.size w1 w2 := hba0.trans (hb0.mono hba0.size)
  have hs2 : w1.heap.size + 1 ≤ w2.heap.size := by have h := hb0.size; simp at h; omega
  have HL_1 := Lib.hid (HL.out.trans (hb.mono (by omega)))
  have If_1 := Lib.hid (inv_up If.out hb)
  have Bf_1 := Lib.hid (FormBox.later Bf.out hb0)
  clear HL If Bf
  clear hb0 hba0
  clear hb
  have RL := Lib.hid hrow
  clear hrow
  obtain ⟨ld0, ld1, ld2, ld3, ld4⟩ := Bf_1.out
  have hx0 : w1.heap.size < w2.heap.size := Bf_1.out.lt
  go_wp2_with fail
  refine (specScopesOf_law f _ w2 If_1.out hszf L HL0.out).mono ?_
  rintro e w3 ⟨p1, c1, rfl, hrow, hb⟩
  have hs3 : w2.heap.size ≤ w3.heap.size := hb.size
  clear ld0 ld1 ld2 ld3 ld4 hx0
  have HL_2 := Lib.hid (HL_1.out.trans (hb.mono (by omega)))
  have If_2 := Lib.hid (inv_up If_1.out hb)
  have Bf_2 := Lib.hid (FormBox.later Bf_1.out hb)
  have RL_1 := Lib.hid (irow_up RL.out hb)
  clear HL_1 If_1 Bf_1 RL
  clear hb
  have RS1 := Lib.hid hrow
  clear hrow
  go_wp2_with fail
  refine (mxSame_same L _ _ _ _ w3 RL_1.out RS1.out hLL).mono ?_
  rintro e w4 ⟨rfl, hb⟩
  have hs4 : w3.heap.size ≤ w4.heap.size := hb.size
  have HL_3 := Lib.hid (HL_2.out.trans (hb.mono (by omega)))
  have If_3 := Lib.hid (inv_up If_2.out hb)
  have Bf_3 := Lib.hid (FormBox.later Bf_2.out hb)
  have RL_2 := Lib.hid (irow_up RL_1.out hb)
  have RS1_1 := Lib.hid (irow_up RS1.out hb)
  clear HL_2 If_2 Bf_2 RL_1 RS1
  clear hb
  obtain ⟨ld0, ld1, ld2, ld3, ld4⟩ := Bf_3.out
  have hx0 : w1.heap.size < w4.heap.size := Bf_3.out.lt
  go_wp2_with fail
  refine (implFormValid_law f _ w4 If_3.out vf HVF.out).mono ?_
  rintro e w5 ⟨rfl, hb⟩
  have hs5 : w4.heap.size ≤ w5.heap.size := hb.size
  clear ld0 ld1 ld2 ld3 ld4 hx0
  have HL_4 := Lib.hid (HL_3.out.trans (hb.mono (by omega)))
  have If_4 := Lib.hid (inv_up If_3.out hb)
  have Bf_4 := Lib.hid (FormBox.later Bf_3.out hb)
  have RL_3 := Lib.hid (irow_up RL_2.out hb)
  have RS1_2 := Lib.hid (irow_up RS1_1.out hb)
  clear HL_3 If_3 Bf_3 RL_2 RS1_1
  clear hb
  cases vf with
  | false =>
    have hle : ((L.length : Int) == 0) = true := by rw [← HL0.out]; unfold scopesOf; rw [HVF.out]; rfl
    obtain ⟨ld0, ld1, ld2, ld3, ld4⟩ := Bf_4.out
    have hx0 : w1.heap.size < w5.heap.size := Bf_4.out.lt
    go_wp2_with fail
    refine (specScopesOf_law f _ w5 If_4.out hszf L HL0.out).mono ?_
    rintro e w6 ⟨p2, c2, rfl, hrow, hb⟩
    have hs6 : w5.heap.size ≤ w6.heap.size := hb.size
    clear ld0 ld1 ld2 ld3 ld4 hx0
    have HL_5 := Lib.hid (HL_4.out.trans (hb.mono (by omega)))
    have If_5 := Lib.hid (inv_up If_4.out hb)
    have Bf_5 := Lib.hid (FormBox.later Bf_4.out hb)
    have RL_4 := Lib.hid (irow_up RL_3.out hb)
    have RS1_3 := Lib.hid (irow_up RS1_2.out hb)
    clear HL_4 If_4 Bf_4 RL_3 RS1_2
    clear hb
    have RS2 := Lib.hid hrow
    clear hrow
    go_wp2_with fail
    refine (mxSame_same L _ _ _ _ w6 RL_4.out RS2.out hLL).mono ?_
    rintro e w7 ⟨rfl, hb⟩
    have hs7 : w6.heap.size ≤ w7.heap.size := hb.size
    have HL_6 := Lib.hid (HL_5.out.trans (hb.mono (by omega)))
    have If_6 := Lib.hid (inv_up If_5.out hb)
    have Bf_6 := Lib.hid (FormBox.later Bf_5.out hb)
    have RL_5 := Lib.hid (irow_up RL_4.out hb)
    have RS1_4 := Lib.hid (irow_up RS1_3.out hb)
    have RS2_1 := Lib.hid (irow_up RS2.out hb)
    clear HL_5 If_5 Bf_5 RL_4 RS1_3 RS2
    clear hb
    go_wp2_with fail
    go_ret
    exact ⟨rfl, HL_6.out⟩
  | true =>
    have HUP : Hid (∀ (j : Nat) (hj : j < L.length), 1 ≤ j → (L[j] ≤ L[j - 1]) = False) := fun j hj h1 => by have h := scopes_up HVF.out j (by rw [HL0.out]; exact hj) h1; simpa only [HL0.out] using h
    go_wp2_with fail
    go_loopw [5] (fun i wr => ∃ j : Nat, i = .int .i64 j ∧ 1 ≤ j ∧ j ≤ L.length + 1 ∧ Below w5.heap.size w5 wr) (fun i _ => L.length + 1 - (intOf i).toNat)
    case atStart => exact ⟨1, rfl, Nat.le_refl _, by omega, Below.refl _ _⟩
    case round =>
      obtain ⟨j, rfl, hj1, hj, hbl⟩ := hrel
      have hsr : w5.heap.size ≤ wr.heap.size := hbl.size
      have HBL := Lib.hid hbl
      have HL_5 := Lib.hid (HL_4.out.trans (hbl.mono (by omega)))
      have If_5 := Lib.hid (inv_up If_4.out hbl)
      have Bf_5 := Lib.hid (FormBox.later Bf_4.out hbl)
      have RL_4 := Lib.hid (irow_up RL_3.out hbl)
      have RS1_3 := Lib.hid (irow_up RS1_2.out hbl)
      clear HL_4 If_4 Bf_4 RL_3 RS1_2
      clear hbl
      by_cases hlt : j < L.length
      · obtain ⟨lb, lo, rfl, hlb, hca, hc1⟩ := row_at RL_4.out j hlt
        have hc0 : wr.cell? ⟨lb, lo + (j - 1), none⟩ = some (.int .i64 L[j - 1]) := by
          obtain ⟨lb', lo', e, _, _, h⟩ := row_at RL_4.out (j - 1) (by omega)
          injection e with e
          injection e with e1 e2 _
          subst e1 e2
          exact h
        have hup := HUP.out j hlt hj1
        obtain ⟨n, hn⟩ : ∃ n, L[j] = n := ⟨_, rfl⟩
        obtain ⟨m, hm⟩ : ∃ m, L[j - 1] = m := ⟨_, rfl⟩
        rw [hn] at hc1 hup
        rw [hm] at hc0 hup
        obtain ⟨i, rfl⟩ : ∃ i, j = i + 1 := ⟨j - 1, by omega⟩
        rw [show i + 1 - 1 = i by omega] at hc0
        have hno : ¬ n ≤ m := by simpa using hup
        have hltI : (i : Int) + 1 < (L.length : Int) := by omega
        have hltJ : (i : Int) < (L.length : Int) := by omega
        have hj0 : (0 : Int) ≤ (i : Int) + 1 := by omega
        have hi0 : (0 : Int) ≤ (i : Int) := by omega
        have hsub : (i : Int) + 1 - 1 = (i : Int) := by omega
        have hwrap : IntKind.i64.wrap (i : Int) = (i : Int) := by simp [IntKind.wrap, IntKind.bits, IntKind.signed]; omega
        clear hup hn hm
        go_wp2_with fail
        have hS0 : (fun WS : World => WS.cell? ⟨lb, lo + (i + 1), none⟩ = some (.int .i64 n) ∧ WS.cell? ⟨lb, lo + i, none⟩ = some (.int .i64 m)) wr.drew := ⟨hc1, hc0⟩
        refine upto_begin (fun WS : World => WS.cell? ⟨lb, lo + (i + 1), none⟩ = some (.int .i64 n) ∧ WS.cell? ⟨lb, lo + i, none⟩ = some (.int .i64 m)) 10 (by kernel_rfl) ?_
        refine upto_take (i := 0) (d := some 39) (v := ?_) rfl rfl (by kernel_rfl) (by kernel_rfl) (by kernel_rfl) (by kernel_rfl) (fun _ _ _ h => h) (Or.inl ⟨by rfl, ?_⟩) hS0 ?_
        rotate_left
        · (intro wS hSw; obtain ⟨_, _⟩ := hSw; go_simp; try with_reducible rfl)
        try simp only [Act.put, List.setIfInBounds_toArray, List.set_cons_zero, List.set_cons_succ]
        refine upto_take (i := 1) (d := some 40) (v := ?_) rfl rfl (by kernel_rfl) (by kernel_rfl) (by kernel_rfl) (by kernel_rfl) (fun _ _ _ h => h) (Or.inl ⟨by rfl, ?_⟩) hS0 ?_
        rotate_left
        · (intro wS hSw; obtain ⟨_, _⟩ := hSw; go_simp; try with_reducible rfl)
        try simp only [Act.put, List.setIfInBounds_toArray, List.set_cons_zero, List.set_cons_succ]
        refine upto_take (i := 2) (d := some 41) (v := ?_) rfl rfl (by kernel_rfl) (by kernel_rfl) (by kernel_rfl) (by kernel_rfl) (fun _ _ _ h => h) (Or.inl ⟨by rfl, ?_⟩) hS0 ?_
        rotate_left
        · (intro wS hSw; obtain ⟨_, _⟩ := hSw; go_simp; try with_reducible rfl)
        try simp only [Act.put, List.setIfInBounds_toArray, List.set_cons_zero, List.set_cons_succ]
        refine upto_take (i := 3) (d := some 42) (v := ?_) rfl rfl (by kernel_rfl) (by kernel_rfl) (by kernel_rfl) (by kernel_rfl) (fun _ _ _ h => h) (Or.inl ⟨by rfl, ?_⟩) hS0 ?_
        rotate_left
        · (intro wS hSw; obtain ⟨_, _⟩ := hSw; go_simp; try with_reducible rfl)
        try simp only [Act.put, List.setIfInBounds_toArray, List.set_cons_zero, List.set_cons_succ]
        refine upto_take (i := 4) (d := some 43) (v := ?_) rfl rfl (by kernel_rfl) (by kernel_rfl) (by kernel_rfl) (by kernel_rfl) (fun _ _ _ h => h) (Or.inl ⟨by rfl, ?_⟩) hS0 ?_
        rotate_left
        · (intro wS hSw; obtain ⟨_, _⟩ := hSw; go_simp; try with_reducible rfl)
        try simp only [Act.put, List.setIfInBounds_toArray, List.set_cons_zero, List.set_cons_succ]
        refine upto_take (i := 5) (d := some 44) (v := ?_) rfl rfl (by kernel_rfl) (by kernel_rfl) (by kernel_rfl) (by kernel_rfl) (fun _ _ _ h => h) (Or.inl ⟨by rfl, ?_⟩) hS0 ?_
        rotate_left
        · (intro wS hSw; obtain ⟨_, _⟩ := hSw; go_simp; try with_reducible rfl)
        try simp only [Act.put, List.setIfInBounds_toArray, List.set_cons_zero, List.set_cons_succ]
        refine upto_take (i := 6) (d := some 45) (v := ?_) rfl rfl (by kernel_rfl) (by kernel_rfl) (by kernel_rfl) (by kernel_rfl) (fun _ _ _ h => h) (Or.inl ⟨by rfl, ?_⟩) hS0 ?_
        rotate_left
        · (intro wS hSw; obtain ⟨_, _⟩ := hSw; go_simp; try with_reducible rfl)
        try simp only [Act.put, List.setIfInBounds_toArray, List.set_cons_zero, List.set_cons_succ]
        refine upto_take (i := 7) (d := some 46) (v := ?_) rfl rfl (by kernel_rfl) (by kernel_rfl) (by kernel_rfl) (by kernel_rfl) (fun _ _ _ h => h) (Or.inl ⟨by rfl, ?_⟩) hS0 ?_
        rotate_left
        · (intro wS hSw; obtain ⟨_, _⟩ := hSw; go_simp; try with_reducible rfl)
        try simp only [Act.put, List.setIfInBounds_toArray, List.set_cons_zero, List.set_cons_succ]
        refine upto_take (i := 8) (d := some 47) (v := ?_) rfl rfl (by kernel_rfl) (by kernel_rfl) (by kernel_rfl) (by kernel_rfl) (fun _ _ _ h => h) (Or.inl ⟨by rfl, ?_⟩) hS0 ?_
        rotate_left
        · (intro wS hSw; obtain ⟨_, _⟩ := hSw; go_simp; try with_reducible rfl)
        try simp only [Act.put, List.setIfInBounds_toArray, List.set_cons_zero, List.set_cons_succ]
        refine upto_take (i := 9) (d := some 48) (v := ?_) rfl rfl (by kernel_rfl) (by kernel_rfl) (by kernel_rfl) (by kernel_rfl) (fun _ _ _ h => h) (Or.inl ⟨by rfl, ?_⟩) hS0 ?_
        rotate_left
        · (intro wS hSw; obtain ⟨_, _⟩ := hSw; go_simp; try with_reducible rfl)
        try simp only [Act.put, List.setIfInBounds_toArray, List.set_cons_zero, List.set_cons_succ]
        have HBD := Lib.hid (HBL.out.drew)
        clear hS0
        refine upto_done (by kernel_rfl) ?_ _
        go_wp2_with fail
        go_roundw
        case rel => exact ⟨i + 1 + 1, by go_num, by omega, by omega, HBD.out⟩
        case measure => simp [intOf]; omega
      · have hnb : ¬ ((j : Int) < (L.length : Int)) := by omega
        have hkl : f.kids.length ≤ 1048576 := Nat.le_trans (sz_scopes f).2 hszf
        go_wp2_with fail
        go_loopw [6] (fun i wn => ∃ k : Nat, i = .int .i64 k ∧ k ≤ f.kids.length ∧ Below wr.heap.size wr wn) (fun i _ => f.kids.length - (intOf i).toNat)
        case atStart => exact ⟨0, rfl, Nat.zero_le _, Below.refl _ _⟩
        case round =>
          obtain ⟨k, rfl, hk, hbl⟩ := hrel
          have hsr2 := hbl.size
          have HBM := Lib.hid hbl
          clear HBL
          have HL_6 := Lib.hid (HL_5.out.trans (hbl.mono (by omega)))
          have If_6 := Lib.hid (inv_up If_5.out hbl)
          have Bf_6 := Lib.hid (FormBox.later Bf_5.out hbl)
          have RL_5 := Lib.hid (irow_up RL_4.out hbl)
          have RS1_4 := Lib.hid (irow_up RS1_3.out hbl)
          clear HL_5 If_5 Bf_5 RL_4 RS1_3
          clear hbl
          by_cases hlk : k < f.kids.length
          · have hltI : (k : Int) < (f.kids.length : Int) := by omega
            have hk0 : (0 : Int) ≤ (k : Int) := by omega
            obtain ⟨fb, fo, ka, kb, kc, kd, hf2, hfc, hkb, hki⟩ := kid_cells If_6.out k hlk
            have Bfr : Hid (FormBox wr w1.heap.size f f0 f1 (some ⟨fb, fo, none⟩) f3) := by have h := Bf_6.out; rw [hf2] at h; exact h
            have hwk := scopes_kid HVF.out (List.getElem_mem hlk)
            have hvk := kid_valid HVF.out (List.getElem_mem hlk)
            obtain ⟨G, hG⟩ : ∃ G, f.kids[k] = G := ⟨_, rfl⟩
            rw [hG] at hkb hki hwk hvk
            obtain ⟨K, hK⟩ : ∃ K, scopesOf G = K := ⟨_, rfl⟩
            rw [hK, HL0.out] at hwk
            have hszG : G.sz ≤ 1048576 := valid_sz hvk
            have hKL : K.length ≤ 1000 := by have h4 := scopesOf_len G; rw [hK] at h4; omega
            have HKI := Lib.hid hki
            have HWK := Lib.hid hwk
            have HK0 := Lib.hid hK
            clear hf2 hG hki hwk hvk hK
            obtain ⟨kc0, kc1, kc2, kc3, kc4⟩ := hkb
            obtain ⟨ld0, ld1, ld2, ld3, ld4⟩ := Bfr.out
            have hx0 : w1.heap.size < wr.heap.size := Bfr.out.lt
            go_wp2_with fail
            refine (implScopesOf_gen G _ _ _ _ wr HKI.out hszG K HK0.out).mono ?_
            rintro e w6 ⟨ma, mc, rfl, hrow, hb⟩
            have hs6 : wr.heap.size ≤ w6.heap.size := hb.size
            clear ld0 ld1 ld2 ld3 ld4 hx0
            have HL_7 := Lib.hid (HL_6.out.trans (hb.mono (by omega)))
            have If_7 := Lib.hid (inv_up If_6.out hb)
            have Bf_7 := Lib.hid (FormBox.later Bf_6.out hb)
            have RL_6 := Lib.hid (irow_up RL_5.out hb)
            have RS1_5 := Lib.hid (irow_up RS1_4.out hb)
            have HBM_1 := Lib.hid (HBM.out.trans (hb.mono (by omega)))
            have Bfr_1 := Lib.hid (FormBox.later Bfr.out hb)
            have HKI_1 := Lib.hid (inv_up HKI.out hb)
            clear HL_6 If_6 Bf_6 RL_5 RS1_4 HBM Bfr HKI
            clear hb
            clear kc0 kc1 kc2 kc3 kc4
            have RK := Lib.hid hrow
            clear hrow
            go_wp2_with fail
            refine (implWithin_law K L _ _ _ _ w6 RK.out RL_6.out hKL hLL true HWK.out).mono ?_
            rintro e w7 ⟨rfl, hb⟩
            have hs7 : w6.heap.size ≤ w7.heap.size := hb.size
            have HL_8 := Lib.hid (HL_7.out.trans (hb.mono (by omega)))
            have If_8 := Lib.hid (inv_up If_7.out hb)
            have Bf_8 := Lib.hid (FormBox.later Bf_7.out hb)
            have RL_7 := Lib.hid (irow_up RL_6.out hb)
            have RS1_6 := Lib.hid (irow_up RS1_5.out hb)
            have HBM_2 := Lib.hid (HBM_1.out.trans (hb.mono (by omega)))
            have Bfr_2 := Lib.hid (FormBox.later Bfr_1.out hb)
            have HKI_2 := Lib.hid (inv_up HKI_1.out hb)
            have RK_1 := Lib.hid (irow_up RK.out hb)
            clear HL_7 If_7 Bf_7 RL_6 RS1_5 HBM_1 Bfr_1 HKI_1 RK
            clear hb
            go_wp2_with fail
            go_roundw
            case rel => exact ⟨k + 1, by go_num, by omega, HBM_2.out⟩
            case measure => simp [intOf]; omega
          · have hnk : ¬ ((k : Int) < (f.kids.length : Int)) := by omega
            by_cases hk1 : f.kind = 1
            · have hkb : (f.kind != 1) = false := by simp [hk1]
              obtain rfl : L = f.scopes := HL0.out.symm.trans (scopes_name HVF.out hk1)
              clear hk1
              have RF := Lib.hid (InV.row3 If_6.out)
              obtain ⟨ld0, ld1, ld2, ld3, ld4⟩ := Bf_6.out
              have hx0 : w1.heap.size < wr.heap.size := Bf_6.out.lt
              go_wp2_with fail
              refine (mxSame_same f.scopes _ _ _ _ wr RL_5.out RF.out hLL).mono ?_
              rintro e w6 ⟨rfl, hb⟩
              have hs6 : wr.heap.size ≤ w6.heap.size := hb.size
              clear ld0 ld1 ld2 ld3 ld4 hx0
              have HL_7 := Lib.hid (HL_6.out.trans (hb.mono (by omega)))
              have If_7 := Lib.hid (inv_up If_6.out hb)
              have Bf_7 := Lib.hid (FormBox.later Bf_6.out hb)
              have RL_6 := Lib.hid (irow_up RL_5.out hb)
              have RS1_5 := Lib.hid (irow_up RS1_4.out hb)
              have HBM_1 := Lib.hid (HBM.out.trans (hb.mono (by omega)))
              have RF_1 := Lib.hid (irow_up RF.out hb)
              clear HL_6 If_6 Bf_6 RL_5 RS1_4 HBM RF
              clear hb
              go_wp2_with fail
              go_ret
              exact ⟨rfl, HL_7.out⟩
            · have hkb : (f.kind != 1) = true := by simp [hk1]
              clear hk1
              obtain ⟨ld0, ld1, ld2, ld3, ld4⟩ := Bf_6.out
              have hx0 : w1.heap.size < wr.heap.size := Bf_6.out.lt
              go_wp2_with fail
              go_ret
              exact ⟨rfl, HL_6.out⟩
theorem own : ownKnob Try.prog.godebug = none := by kernel_rfl
theorem laidOut : laidOutB Try.prog = true := by kernel_rfl
set_option maxRecDepth 100000 in
theorem lifted (os : Os) (started : os.Started) (H : Type) (enc : TypeId × Value → H) :
    ReturnsInHanded {} Try.checked os 10 .any (Rows.fnScopesOfSpec.pre6 enc Try.prog Try.f10 Rows.fnScopesOfRow.domain false) (Rows.fnScopesOfSpec.post enc Try.prog Try.f10 false true false false) := by
  refine returnsInHanded_of_change (C := Try.checked) own started (by kernel_rfl) Try.func10
    (ChangeSpec.witness6 (enc := enc) (C := Try.checked) false ⟨#[], #[.slice none 0 0], []⟩ 12 (by kernel_rfl) (by kernel_rfl) (by kernel_rfl) (by kernel_rfl)) ?_
  intro W base args ds gs before hval0 hW hcnd _
  have hval : ∀ (j : Nat) t v, Try.f10.params[j]? = some t → args[j]? = some v → Value.okWide Try.prog W .any base t v := hval0
  have hW' := hW
  obtain ⟨p, q, hA0, hV, rfl, hfz, hnd⟩ := hW
  have hA : DataW.TrodAll enc Try.prog W 0 (fun _ => true) true Try.f10.params.toList args.toList ds p := hA0
  rw [Try.params10] at hA hval
  obtain ⟨v0, vs0, d0, ds0, p0, q0, hargs, rfl, rfl, h0, r0⟩ := trodAll_cons hA
  obtain ⟨rfl, rfl, rfl⟩ := trodAll_nil r0
  obtain rfl : args = #[v0] := by cases args; simp_all
  obtain ⟨rfl, rfl⟩ := trodVars_none hV
  have k0 := h0
  have lt0 : ∀ x ∈ p0, x.block < W.heap.size := by obtain ⟨m, hm⟩ := k0; exact DataW.trod_lt m _ _ _ hm
  obtain ⟨f0, i0⟩ := open_bytes_arg (hval 0 22 v0 rfl rfl) h0
  clear hA0 hval0
  try simp only [List.append_nil] at hW'
  refine (walk W f0 v0 i0).mono fun e W' ⟨he, bel⟩ => ?_
  subst he
  exact ⟨_, rfl, _, _, _, [], _, [], hW', trodAll_mk1 (shut_bool Try.underlying4 _), (trodAll_cons_mk (Below.trod laidOut (by kernel_rfl) (of_decide_eq_true (by kernel_rfl)) k0 bel lt0) trodAll_mk0), rfl, bel.frame _, fun h => by cases h⟩
theorem over_named : Try.pinned.checked.prog.funcNamed Rows.fnScopesOfRow.func = some 10 := by kernel_rfl
theorem over_closed : joinedFacts Try.pinned.checked.prog 10 Try.f10 Rows.fnScopesOfSpec Rows.fnScopesOfRow = true := by kernel_rfl
theorem over_inst : Func.isInstance Try.pinned.checked.prog Try.f10 Rows.fnScopesOfRow.origin Rows.fnScopesOfRow.targs := of_decide_eq_true (by kernel_rfl)
theorem over_wrap : Func.isWrapper Try.pinned.checked.prog Try.f10 Rows.fnScopesOfRow.wrapper Rows.fnScopesOfRow.mainSum := (by unfold Func.isWrapper; first | (rw [if_pos (by decide +kernel)]; kernel_rfl) | (rw [if_neg (by decide +kernel)]; exact ⟨rfl, rfl⟩))
theorem over : Rows.fnScopesOfRow.holds Try.pinned (OpenSpec.ofChange Rows.fnScopesOfSpec) :=
  OpenClaim.holds_of_wide 10 Try.f10 rfl rfl rfl rfl rfl rfl rfl ⟨rfl, rfl, rfl, rfl, rfl⟩ rfl rfl rfl rfl rfl over_named Try.func10 over_closed over_inst over_wrap
    (fun os started H enc _ => lifted os started H enc)
theorem proved : Rows.FnScopesOfSaid := over
end Go.Proofs.Ytmakaoomdnlebaa.lwScopesOf
