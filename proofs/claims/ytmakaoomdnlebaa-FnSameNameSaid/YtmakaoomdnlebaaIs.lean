/- The contracts of FormValid, of both sides. -/
import Derived.Test.YtmakaoomdnlebaaHolds
import Derived.Test.YtmakaoomdnlebaaCount
namespace Go.Proofs.Ytmakaoomdnlebaa
open Go.RowKit
set_option linter.unusedVariables false
set_option maxRecDepth 100000 in
set_option maxHeartbeats 400000 in
theorem implFormValid_any (B : Nat) (f : Fm) (v : Value) (w : World) (hB : B ≤ w.heap.size) (hv : InV (· < B) w f v) :
    Calls Try.prog 41 #[v] w fun e w' => e = .returned (.bool (formB f)) ∧ Below w.heap.size w w' := by
  have HV := Lib.hid hv
  obtain ⟨sa, scap, a, cap, rfl⟩ := hv.form
  clear hv
  go_enter Try.func41, Try.ntmps41
  go_wp2_with fail
  refine (holds_any B f _ _ (w.heap.size + 1) 0 0 0 (by omega) (by simp; omega) (InV.later (same_below (((Below.refl B w).alloc hB _).alloc (by simp; omega) _)) _ _ HV.out)
    ⟨by simp, by simp, by simp, by simp⟩ (by omega) (by omega)).mono ?_
  rintro e w1 ⟨rfl, _, hk⟩
  have HB1 : Hid (Below w.heap.size w w1) := (((Below.refl _ w).alloc (Nat.le_refl _) _).alloc (by simp) _).trans (hk.below (by omega) (by simp; omega))
  have HE : Hid ((isB 40 f && decide (f.count ≤ 400)) = formB f) := rfl
  clear hk
  go_wp2_with fail
  go_ret
  exact ⟨ret_bool HE.out, HB1.out⟩
set_option maxRecDepth 100000 in
set_option maxHeartbeats 400000 in
theorem l1Is_name (B d : Nat) (w : World) (x : Int) (nm : ByteArray) (sc : List Int) (sa a : Option Addr) (len scap cap : Nat) (hB : B ≤ w.heap.size) (hd : d + 1 ≤ 40) (hnm : nm.size ≤ maxLen)
    (hvs : IntRow (· < B) w (.slice sa sc.length scap) sc) :
    Calls Try.prog 75 #[.agg #[.int .i64 1, .string nm, .int .i64 x, .slice sa sc.length scap, .slice a len cap], .int .i64 (d + 1 : Nat)] w
      fun e w' => e = .returned (.bool (nameB nm.data.toList && x == 0 && scopesB sc && decide (len = 0))) ∧ Below w.heap.size w w' := by
  have HVS := Lib.hid hvs
  have hdz : (((d + 1 : Nat) : Int) == 0) = false := by rw [beq_eq_false_iff_ne]; omega
  clear hvs
  go_enter Try.func75, Try.ntmps75
  go_wp2_with fail
  refine (specNameValid_any _ _ hnm).mono ?_
  rintro e w' ⟨rfl, rfl⟩
  cases hn : nameB nm.data.toList with
  | false =>
    go_wp2_with fail
    go_ret
    exact ⟨ret_bool (by simp [hn]), (Below.refl _ _).alloc (Nat.le_refl _) _⟩
  | true =>
    cases hx : x == 0 with
    | false =>
      go_wp2_with fail
      go_ret
      exact ⟨ret_bool (by rw [hn, hx]; rfl), (Below.refl _ _).alloc (Nat.le_refl _) _⟩
    | true =>
      go_wp2_with fail
      refine (specScopes_any (· < B) sc _ _ (HVS.out.later (same_below ((Below.refl B w).alloc hB _)))).mono ?_
      rintro e w4 ⟨rfl, hb4⟩
      have hx4 := hb4.cell (p := ⟨w.heap.size, 4, none⟩) (by simp)
      simp at hx4
      have HB4 : Hid (Below w.heap.size w w4) := ((Below.refl _ w).alloc (Nat.le_refl _) _).trans (hb4.mono (by simp))
      clear hb4
      cases hsc : scopesB sc with
      | false =>
        go_wp2_with fail
        go_ret
        exact ⟨ret_bool (by rw [hn, hx, hsc]; rfl), HB4.out⟩
      | true =>
        go_wp2_with fail
        go_ret
        exact ⟨ret_bool (by rw [hn, hx, hsc, Bool.eq_iff_iff]; simp), HB4.out⟩
set_option maxRecDepth 100000 in
set_option maxHeartbeats 400000 in
theorem l1Is_num (d : Nat) (w : World) (x : Int) (nm : ByteArray) (sa a : Option Addr) (slen len scap cap : Nat) (hd : d + 1 ≤ 40) :
    Calls Try.prog 75 #[.agg #[.int .i64 2, .string nm, .int .i64 x, .slice sa slen scap, .slice a len cap], .int .i64 (d + 1 : Nat)] w
      fun e w' => e = .returned (.bool (nm.data.toList.isEmpty && decide (0 ≤ x) && decide (x ≤ 999) && decide (slen = 0) && decide (len = 0))) ∧ Below w.heap.size w w' := by
  have hdz : (((d + 1 : Nat) : Int) == 0) = false := by rw [beq_eq_false_iff_ne]; omega
  rw [← Lib.toList_data]
  cases h0 : nm.toList.isEmpty with
  | false =>
    go_enter Try.func75, Try.ntmps75
    go_wp2_with fail
    go_ret
    exact ⟨ret_bool (by simp), (Below.refl _ _).alloc (Nat.le_refl _) _⟩
  | true =>
    by_cases h1 : 0 ≤ x
    · by_cases h2 : x ≤ 999
      · by_cases h3 : slen = 0
        · subst h3
          go_enter Try.func75, Try.ntmps75
          go_wp2_with fail
          go_ret
          exact ⟨ret_bool (by rw [Bool.eq_iff_iff]; simp; omega), (Below.refl _ _).alloc (Nat.le_refl _) _⟩
        · have h3' : ((slen : Int) == 0) = false := by rw [beq_eq_false_iff_ne]; omega
          have H3 := Lib.hid h3
          clear h3
          go_enter Try.func75, Try.ntmps75
          go_wp2_with fail
          go_ret
          exact ⟨ret_bool (by rw [decide_eq_false H3.out]; simp), (Below.refl _ _).alloc (Nat.le_refl _) _⟩
      · have H2 := Lib.hid h2
        go_enter Try.func75, Try.ntmps75
        go_wp2_with fail
        go_ret
        exact ⟨ret_bool (by rw [decide_eq_false (show ¬ x ≤ 999 from by have := H2.out; omega)]; simp), (Below.refl _ _).alloc (Nat.le_refl _) _⟩
    · have H1 := Lib.hid h1
      go_enter Try.func75, Try.ntmps75
      go_wp2_with fail
      go_ret
      exact ⟨ret_bool (by rw [decide_eq_false (show ¬ 0 ≤ x from by have := H1.out; omega)]; simp), (Below.refl _ _).alloc (Nat.le_refl _) _⟩
set_option maxRecDepth 100000 in
set_option maxHeartbeats 400000 in
theorem l1Is_zero (w : World) (f : Fm) (v0 v1 v2 v3 v4 : Value) :
    Calls Try.prog 75 #[.agg #[v0, v1, v2, v3, v4], .int .i64 0] w fun e w' => e = .returned (.bool (isB 0 f)) ∧ Below w.heap.size w w' := by
  go_enter Try.func75, Try.ntmps75
  go_wp2_with fail
  go_ret
  exact ⟨ret_bool (by simp [isB]), (Below.refl _ _).alloc (Nat.le_refl _) _⟩
set_option maxRecDepth 100000 in
set_option maxHeartbeats 400000 in
theorem l1Is_none (d : Nat) (w : World) (k x : Int) (nm : ByteArray) (sa a : Option Addr) (slen len scap cap : Nat) (hd : d + 1 ≤ 40) (h1 : k ≠ 1) (h2 : k ≠ 2)
    (h3 : ¬ (k = 3 ∧ nm.toList.isEmpty = true ∧ x = 0 ∧ slen = 0)) :
    Calls Try.prog 75 #[.agg #[.int .i64 k, .string nm, .int .i64 x, .slice sa slen scap, .slice a len cap], .int .i64 (d + 1 : Nat)] w
      fun e w' => e = .returned (.bool false) ∧ Below w.heap.size w w' := by
  have hdz : (((d + 1 : Nat) : Int) == 0) = false := by rw [beq_eq_false_iff_ne]; omega
  have k1 : (k == 1) = false := by rw [beq_eq_false_iff_ne]; exact h1
  have k2 : (k == 2) = false := by rw [beq_eq_false_iff_ne]; exact h2
  by_cases k3 : k = 3
  · subst k3
    cases h0 : nm.toList.isEmpty with
    | false =>
      go_enter Try.func75, Try.ntmps75
      go_wp2_with fail
      go_ret
      exact ⟨ret_bool (rfl), (Below.refl _ _).alloc (Nat.le_refl _) _⟩
    | true =>
      by_cases hx : x = 0
      · subst hx
        have hs : ((slen : Int) == 0) = false := by rw [beq_eq_false_iff_ne]; intro e; exact h3 ⟨rfl, h0, rfl, by omega⟩
        have hs' : ((slen : Int) != 0) = true := by rw [bne_iff_ne]; intro e; exact h3 ⟨rfl, h0, rfl, by omega⟩
        clear h3
        go_enter Try.func75, Try.ntmps75
        go_wp2_with fail
        go_ret
        exact ⟨ret_bool (rfl), (Below.refl _ _).alloc (Nat.le_refl _) _⟩
      · have hx' : (x == 0) = false := by rw [beq_eq_false_iff_ne]; exact hx
        have hx2 : (x != 0) = true := by rw [bne_iff_ne]; exact hx
        clear h3 hx
        go_enter Try.func75, Try.ntmps75
        go_wp2_with fail
        go_ret
        exact ⟨ret_bool (rfl), (Below.refl _ _).alloc (Nat.le_refl _) _⟩
  · have k3' : (k == 3) = false := by rw [beq_eq_false_iff_ne]; exact k3
    have k4 : (k != 3) = true := by rw [bne_iff_ne]; exact k3
    clear h1 h2 h3 k3
    go_enter Try.func75, Try.ntmps75
    go_wp2_with fail
    go_ret
    exact ⟨ret_bool (rfl), (Below.refl _ _).alloc (Nat.le_refl _) _⟩
set_option maxRecDepth 100000 in
set_option maxHeartbeats 400000 in
theorem l1Is_list (B d D : Nat) (w : World) (ks : List Fm) (sa a : Option Addr) (scap cap : Nat) (hB : B ≤ w.heap.size) (hd : d + 1 ≤ 40) (hD : D = d + 1) (hcap : ks.length ≤ cap) (hmax : cap ≤ maxLen)
    (hks : ks = [] ∨ ∃ kb off, a = some ⟨kb, off, none⟩ ∧ kb < B ∧ RowIn (· < B) w kb off ks)
    (ih : ∀ g ∈ ks, ∀ (v : Value) (w : World) (d : Nat), B ≤ w.heap.size → InV (· < B) w g v → d ≤ 40 →
      Calls Try.prog 75 #[v, .int .i64 d] w fun e w' => e = .returned (.bool (isB d g)) ∧ Below w.heap.size w w') :
    Calls Try.prog 75 #[.agg #[.int .i64 3, .string ByteArray.empty, .int .i64 0, .slice sa 0 scap, .slice a ks.length cap], .int .i64 D] w
      fun e w' => e = .returned (.bool (isB (d + 1) (.mk 3 ByteArray.empty 0 [] ks))) ∧ Below w.heap.size w w' := by
  unfold maxLen at hmax
  have hdz : ((D : Int) == 0) = false := by rw [beq_eq_false_iff_ne]; omega
  have hD1 : 1 ≤ D := by omega
  have hD2 : D ≤ 40 := by omega
  have HD := Lib.hid hD
  clear hD
  have HIH := Lib.hid ih
  have HKS := Lib.hid hks
  clear ih hks
  go_enter Try.func75, Try.ntmps75
  go_wp2_with fail
  go_loopw [5] (fun i wr => ∃ j : Nat, j ≤ ks.length ∧ i = .int .i64 j ∧ wr.cell? ⟨w.heap.size, 4, none⟩ = some (.slice a ks.length cap) ∧ Below w.heap.size w wr ∧ w.heap.size < wr.heap.size ∧
      (ks.take j).all (isB d) = true) (fun i _ => ks.length - (intOf i).toNat)
  case atStart => exact ⟨0, Nat.zero_le _, rfl, by simp, (Below.refl _ _).alloc (Nat.le_refl _) _, by simp, rfl⟩
  case round =>
    obtain ⟨j, hj, rfl, hcell, hbj, hsz, haj⟩ := hrel
    have HBJ := Lib.hid hbj
    have HAJ := Lib.hid haj
    clear hbj haj
    by_cases hlt : j < ks.length
    · rcases HKS.out with h0 | ⟨kb, off, rfl, hkb, hrow⟩
      · exfalso; rw [h0] at hlt; simp at hlt
      · obtain ⟨ga, gcap, ka, kcap, h0, h1, h2, h3, h4, hin⟩ := (hrow.later (same_below (HBJ.out.mono hB)) kb hkb).at' j hlt
        have HIN := Lib.hid hin
        have HIHJ := Lib.hid (HIH.out ks[j] (List.getElem_mem hlt))
        clear hin hrow
        go_wp2_with fail
        rw [show ((D : Int) - 1) = (d : Int) from by have := HD.out; omega]
        refine (HIHJ.out _ _ d (by omega) HIN.out (by omega)).mono ?_
        rintro e w3 ⟨rfl, hb3⟩
        have hcell3 := cell_later' hb3 hcell
        have hs3 := hb3.size
        have HB3 : Hid (Below w.heap.size w w3) := HBJ.out.trans (hb3.mono (by omega))
        clear hb3 hcell
        cases hg : isB d ks[j] with
        | true =>
          have HG := Lib.hid hg
          clear hg
          go_wp2_with fail
          go_roundw
          case rel => exact ⟨j + 1, by omega, by go_num, hcell3, HB3.out, by omega, all_take_succ _ ks j hlt HAJ.out HG.out⟩
          case measure => simp [intOf]; omega
        | false =>
          have HE : Hid (isB (d + 1) (.mk 3 ByteArray.empty 0 [] ks) = false) := by
            unfold Hid
            rw [isB_list]
            cases ha : ks.all (isB d) with
            | false => rfl
            | true => rw [List.all_eq_true.1 ha ks[j] (List.getElem_mem hlt)] at hg; cases hg
          clear hg
          go_wp2_with fail
          go_ret
          exact ⟨ret_bool HE.out.symm, HB3.out⟩
    · obtain rfl : j = ks.length := by omega
      have HE : Hid (isB (d + 1) (.mk 3 ByteArray.empty 0 [] ks) = true) := by
        have := HAJ.out
        rw [List.take_length] at this
        unfold Hid
        rw [isB_list, this]
      go_wp2_with fail
      go_ret
      exact ⟨ret_bool HE.out.symm, HBJ.out⟩
set_option maxHeartbeats 400000 in
theorem l1Is_any (B : Nat) (f : Fm) : ∀ (v : Value) (w : World) (d : Nat), B ≤ w.heap.size → InV (· < B) w f v → d ≤ 40 →
    Calls Try.prog 75 #[v, .int .i64 d] w fun e w' => e = .returned (.bool (isB d f)) ∧ Below w.heap.size w w' := by
  induction f using Fm.ind with
  | h k nm x sc ks ih =>
    intro v w d hB hv hd
    unfold InV at hv
    obtain ⟨vs, a, cap, rfl, hkb, hnb, hnm, hvs, hcap, hmax, hks⟩ := hv
    have hvs' := hvs
    obtain ⟨sa, scap, rfl, _⟩ := hvs'
    cases d with
    | zero => exact l1Is_zero w _ _ _ _ _ _
    | succ d =>
      by_cases h1 : k = 1
      · subst h1
        refine (l1Is_name B d w x nm sc sa a ks.length scap cap hB hd hnm hvs).mono ?_
        rintro e w' ⟨rfl, hb⟩
        refine ⟨ret_bool ?_, hb⟩
        unfold isB
        rw [if_pos rfl]
        cases ks <;> simp
      · by_cases h2 : k = 2
        · subst h2
          refine (l1Is_num d w x nm sa a sc.length ks.length scap cap hd).mono ?_
          rintro e w' ⟨rfl, hb⟩
          refine ⟨ret_bool ?_, hb⟩
          unfold isB
          rw [if_neg (by omega), if_pos rfl]
          cases ks <;> cases sc <;> simp
        · by_cases h3 : k = 3 ∧ nm.data.toList = [] ∧ x = 0 ∧ sc = []
          · obtain ⟨rfl, h3, rfl, rfl⟩ := h3
            obtain rfl := empty_of h3
            exact l1Is_list B d (d + 1) w ks sa a scap cap hB hd rfl hcap hmax hks ih
          · refine (l1Is_none d w k x nm sa a sc.length ks.length scap cap hd h1 h2 ?_).mono ?_
            · rintro ⟨a1, a2, a3, a4⟩
              exact h3 ⟨a1, by rw [← Lib.toList_data]; simpa using a2, a3, List.length_eq_zero_iff.1 a4⟩
            · rintro e w' ⟨rfl, hb⟩
              refine ⟨ret_bool ?_, hb⟩
              unfold isB
              rw [if_neg h1, if_neg h2]
              cases hr : (k == 3 && nm.data.toList.isEmpty && x == 0 && sc.isEmpty && ks.all (isB d)) with
              | false => rfl
              | true =>
                exfalso
                simp at hr
                exact h3 ⟨hr.1.1.1.1, by rw [hr.1.1.1.2], hr.1.1.2, hr.1.2⟩
set_option maxRecDepth 100000 in
set_option maxHeartbeats 400000 in
theorem specFormValid_any (B : Nat) (f : Fm) (v : Value) (w : World) (hB : B ≤ w.heap.size) (hv : InV (· < B) w f v) (hc : f.count ≤ 4611686018427387904) :
    Calls Try.prog 49 #[v] w fun e w' => e = .returned (.bool (formB f)) ∧ Below w.heap.size w w' := by
  have HV := Lib.hid hv
  obtain ⟨sa, scap, a, cap, rfl⟩ := hv.form
  clear hv
  go_enter Try.func49, Try.ntmps49
  go_wp2_with fail
  refine (l1Is_any B f _ _ 40 (by simp; omega) (InV.later (same_below ((Below.refl B w).alloc hB _)) _ _ HV.out) (by omega)).mono ?_
  rintro e w1 ⟨rfl, hb1⟩
  have hs1 : w.heap.size + 1 ≤ w1.heap.size := by have := hb1.size; simpa using this
  have hx0 := hb1.cell (p := ⟨w.heap.size, 0, none⟩) (by simp)
  have hx1 := hb1.cell (p := ⟨w.heap.size, 1, none⟩) (by simp)
  have hx2 := hb1.cell (p := ⟨w.heap.size, 2, none⟩) (by simp)
  have hx3 := hb1.cell (p := ⟨w.heap.size, 3, none⟩) (by simp)
  have hx4 := hb1.cell (p := ⟨w.heap.size, 4, none⟩) (by simp)
  simp at hx0 hx1 hx2 hx3 hx4
  have HB1 : Hid (Below w.heap.size w w1) := ((Below.refl _ w).alloc (Nat.le_refl _) _).trans (hb1.mono (by simp))
  clear hb1
  cases hi : isB 40 f with
  | false =>
    have HI := Lib.hid hi
    go_wp2_with fail
    go_ret
    exact ⟨ret_bool (by unfold formB; rw [HI.out]; rfl), HB1.out⟩
  | true =>
    have HI := Lib.hid hi
    go_wp2_with fail
    refine (l1Count_any B f _ _ (by omega) (InV.later (same_below (HB1.out.mono hB)) _ _ HV.out) hc).mono ?_
    rintro e w2 ⟨rfl, hb2⟩
    have HB2 : Hid (Below w.heap.size w w2) := HB1.out.trans (hb2.mono (by omega))
    clear hb2
    go_wp2_with fail
    go_ret
    exact ⟨ret_bool (by unfold formB; rw [HI.out, Bool.eq_iff_iff]; simp; omega), HB2.out⟩
end Go.Proofs.Ytmakaoomdnlebaa
