/- The contracts of the measures of core programs. -/
import Derived.Test.YtbclgmabidjegaaCoreData
import Derived.Test.YtbclgmabidjegaaSz
import Derived.Test.YtbclgmabidjegaaData
namespace Go.Proofs.Ytbclgmabidjegaa
open Go.RowKit
set_option linter.unusedVariables false
/-- the contract of the measure of a core program -/
def SzSaidC (B : Nat) (f : Ck) : Prop := ∀ (v : Value) (w : World) (l : Int), B ≤ w.heap.size → InC (· < B) w f v → 0 ≤ l ∧ l ≤ 1048576 →
    Calls Try.prog 13 #[v, .int .i64 l] w fun e w' => e = .returned (.int .i64 (leftOf l f.sz)) ∧ Below w.heap.size w w'
set_option maxRecDepth 100000 in
set_option maxHeartbeats 400000 in
theorem szCoreS_of (B : Nat) (ks : List Ck) (ih : ∀ g ∈ ks, SzSaidC B g) (a : Option Addr) (cap : Nat) (w : World) (l : Int) (hB : B ≤ w.heap.size) (hcap : ks.length ≤ cap) (hmax : cap ≤ maxLen)
    (hks : ks = [] ∨ ∃ kb off, a = some ⟨kb, off, none⟩ ∧ kb < B ∧ RowC (· < B) w kb off ks) (hl : 0 ≤ l ∧ l ≤ 1048576) :
    Calls Try.prog 65 #[.slice a ks.length cap, .int .i64 l] w fun e w' => e = .returned (.int .i64 (leftOf l (szCs ks))) ∧ Below w.heap.size w w' := by
  unfold maxLen at hmax
  obtain ⟨hl0, hl1⟩ := hl
  have HIH := Lib.hid ih
  have HKS := Lib.hid hks
  have hal := szCs_length ks
  clear ih hks
  by_cases hlen : (ks.length : Int) ≤ l
  · have hd : decide (l - (ks.length : Int) < 0) = false := decide_eq_false (by omega)
    have hsi : szCs ks = ks.length + szCin ks := by unfold szCin; omega
    go_enter Try.func65, Try.ntmps65
    have HSI := Lib.hid hsi
    clear hsi
    go_wp2_with fail
    go_loopw [1, 5] (fun x i wr => ∃ j : Nat, j ≤ ks.length ∧ i = .int .i64 j ∧ x = .int .i64 (l - ks.length - szCin (ks.take j)) ∧ (szCin (ks.take j) : Int) ≤ l - ks.length ∧ Below w.heap.size w wr) (fun _ i _ => ks.length - (intOf i).toNat)
    case atStart => exact ⟨0, Nat.zero_le _, rfl, by simp [szCin, szCs], by simp [szCin, szCs]; omega, Below.refl _ _⟩
    case round =>
      obtain ⟨j, hj, rfl, rfl, hle, hbj⟩ := hrel
      have HBJ := Lib.hid hbj
      clear hbj
      by_cases hlt : j < ks.length
      · rcases HKS.out with h0 | ⟨kb, off, rfl, hkb, hrow⟩
        · exfalso; rw [h0] at hlt; simp at hlt
        · obtain ⟨i1, j1, s1, t1, k1, l1, ga, gcap, h0, h1, h2, h3, h4, h5, h6, h7, h8, h9, h10, hin⟩ := (hrow.later (same_below (HBJ.out.mono hB)) kb hkb).at' j hlt
          have HIN := Lib.hid hin
          have HIHJ := Lib.hid (HIH.out ks[j] (List.getElem_mem hlt))
          have HTS := Lib.hid (szCin_take_succ ks j hlt)
          have hsz1 := HBJ.out.size
          clear hin hrow
          go_wp2_with fail
          refine (HIHJ.out _ _ (l - ks.length - szCin (ks.take j)) (by omega) HIN.out (by omega)).mono ?_
          rintro e w3 ⟨rfl, hb3⟩
          clear h0 h1 h2 h3 h4 h5 h6 h7 h8 h9 h10
          have HB3 : Hid (Below w.heap.size w w3) := HBJ.out.trans (hb3.mono (by omega))
          clear hb3
          by_cases hg : (ks[j].sz : Int) ≤ l - ks.length - szCin (ks.take j)
          · have HG : Hid (leftOf (l - ks.length - szCin (ks.take j)) ks[j].sz = l - ks.length - szCin (ks.take (j + 1))) := by
              unfold Hid leftOf; rw [if_pos hg, HTS.out]; omega
            rw [HG.out]
            have hge : (szCin (ks.take (j + 1)) : Int) ≤ l - ks.length := by have := HTS.out; omega
            clear hg
            go_wp2_with fail
            go_roundw
            case rel => exact ⟨j + 1, by omega, by go_num, rfl, hge, HB3.out⟩
            case measure => simp [intOf]; omega
          · have HG : Hid (leftOf (l - ks.length - szCin (ks.take j)) ks[j].sz = -1) := by
              unfold Hid leftOf; rw [if_neg hg]
            rw [HG.out]
            have HE : Hid (leftOf l (szCs ks) = -1) := by
              unfold Hid leftOf
              have := HTS.out; have := szCin_take_le ks (j + 1); have := HSI.out
              rw [if_neg (by omega)]
            clear hg
            go_wp2_with fail
            go_ret
            exact ⟨ret_int HE.out.symm, HB3.out⟩
      · obtain rfl : j = ks.length := by omega
        have HE : Hid (leftOf l (szCs ks) = l - ks.length - szCin (ks.take ks.length)) := by
          unfold Hid leftOf
          rw [List.take_length] at hle ⊢
          have := HSI.out
          rw [if_pos (by omega)]; omega
        go_wp2_with fail
        go_ret
        exact ⟨ret_int HE.out.symm, HBJ.out⟩
  · have H := Lib.hid hlen
    have hlen' : l < ks.length := by omega
    go_enter Try.func65, Try.ntmps65
    go_wp2_with fail
    go_ret
    exact ⟨ret_int (by unfold leftOf; rw [if_neg (by have := H.out; omega)]), Below.refl _ _⟩
set_option maxRecDepth 100000 in
set_option maxHeartbeats 1000000 in
theorem szCore_any (B : Nat) (f : Ck) : SzSaidC B f := by
  induction f using Ck.ind with
  | h k id nm n ids d ks ih =>
    intro v w l hB hv hl
    unfold InC at hv
    obtain ⟨i1, j1, s1, t1, k1, l1, a, cap, rfl, hk, hi, hn, hnm, hr, hd, hcap, hmax, hks⟩ := hv
    have hnm' := hnm
    unfold maxLen at hnm'
    have hil : ids.length ≤ maxLen := by obtain ⟨_, _, e, h1, h2, _⟩ := hr; injection e with e1 e2 e3; omega
    have hil' := hil
    unfold maxLen at hil'
    have HD := Lib.hid hd
    have HKS := Lib.hid (szCoreS_of B ks ih a cap)
    have HKK := Lib.hid hks
    have HSZ : Hid ((Ck.mk k id nm n ids d ks).sz = nm.size + ids.length + d.sz + szCs ks) := by unfold Hid Ck.sz; rfl
    obtain ⟨hl0, hl1⟩ := hl
    clear hks ih hd hr
    by_cases h1 : (nm.size : Int) ≤ l
    rotate_left
    · have H := Lib.hid h1
      have h1' : l < nm.size := by omega
      have hd1 : decide (l - (nm.size : Int) < 0) = true := decide_eq_true (by omega)
      go_enter Try.func13, Try.ntmps13
      go_wp2_with fail
      go_ret
      exact ⟨ret_int (by rw [HSZ.out]; unfold leftOf; rw [if_neg (by omega)]), below_alloc w _⟩
    have hd1 : decide (l - (nm.size : Int) < 0) = false := decide_eq_false (by omega)
    go_enter Try.func13, Try.ntmps13
    go_wp2_with fail
    refine (szIntS_any _ _ _ (l - nm.size) _ (by omega) hil).mono ?_
    rintro e w1 ⟨rfl, rfl⟩
    by_cases h2 : (ids.length : Int) ≤ l - nm.size
    rotate_left
    · have hg : leftOf (l - nm.size) ids.length = -1 := by unfold leftOf; rw [if_neg h2]
      rw [hg]
      clear hg
      go_wp2_with fail
      go_ret
      exact ⟨ret_int (by rw [HSZ.out]; unfold leftOf; rw [if_neg (by omega)]), below_alloc w _⟩
    have hg : leftOf (l - nm.size) ids.length = l - nm.size - ids.length := by unfold leftOf; rw [if_pos h2]
    rw [hg]
    clear hg
    go_wp2_with fail
    refine (szForm_any B d _ _ (l - nm.size - ids.length) (by simp; omega) (InV.later (same_below ((below_alloc w _).mono hB)) _ _ HD.out) (by omega)).mono ?_
    rintro e w1 ⟨rfl, hb1⟩
    have hs1 := hb1.size
    rw [size_alloc'] at hs1
    have y10 : w1.cell? ⟨w.heap.size, 10, none⟩ = some (.slice a ks.length cap) := cell_later' hb1 (by rw [cell_of_row _ _ 10 _ _ _ (heap_alloc_new w _)]; rfl)
    have HB1 : Hid (Below w.heap.size w w1) := (below_alloc w _).trans (hb1.mono (by simp))
    clear hb1
    by_cases h3 : (d.sz : Int) ≤ l - nm.size - ids.length
    rotate_left
    · have hg : leftOf (l - nm.size - ids.length) d.sz = -1 := by unfold leftOf; rw [if_neg h3]
      rw [hg]
      clear hg
      go_wp2_with fail
      go_ret
      exact ⟨ret_int (by rw [HSZ.out]; unfold leftOf; rw [if_neg (by omega)]), HB1.out⟩
    have hg : leftOf (l - nm.size - ids.length) d.sz = l - nm.size - ids.length - d.sz := by unfold leftOf; rw [if_pos h3]
    rw [hg]
    clear hg
    go_wp2_with fail
    refine (HKS.out _ (l - nm.size - ids.length - d.sz) (by omega) hcap hmax ?_ (by omega)).mono ?_
    · rcases HKK.out with h0 | ⟨kb, off, h0, hkb, hrow⟩
      · exact .inl h0
      · exact .inr ⟨kb, off, h0, hkb, hrow.later (same_below (HB1.out.mono hB)) kb hkb⟩
    rintro e w3 ⟨rfl, hb3⟩
    have HB3 : Hid (Below w.heap.size w w3) := HB1.out.trans (hb3.mono (by omega))
    clear hb3
    by_cases h4 : (szCs ks : Int) ≤ l - nm.size - ids.length - d.sz
    · have hg : leftOf (l - nm.size - ids.length - d.sz) (szCs ks) = l - nm.size - ids.length - d.sz - szCs ks := by unfold leftOf; rw [if_pos h4]
      rw [hg]
      clear hg
      go_wp2_with fail
      go_ret
      exact ⟨ret_int (by rw [HSZ.out]; unfold leftOf; rw [if_pos (by omega)]; omega), HB3.out⟩
    · have hg : leftOf (l - nm.size - ids.length - d.sz) (szCs ks) = -1 := by unfold leftOf; rw [if_neg h4]
      rw [hg]
      clear hg
      go_wp2_with fail
      go_ret
      exact ⟨ret_int (by rw [HSZ.out]; unfold leftOf; rw [if_neg (by omega)]), HB3.out⟩
end Go.Proofs.Ytbclgmabidjegaa
