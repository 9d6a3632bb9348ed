/- The contracts of the measures of arguments. -/
import Derived.Test.YtbclgmabidjegaaChecked
import Derived.Test.YtbclgmabidjegaaFirst
namespace Go.Proofs.Ytbclgmabidjegaa
open Go.RowKit
set_option linter.unusedVariables false
/-- what is left of 'l' behind 'n' places -/
def leftOf (l : Int) (n : Nat) : Int := if (n : Int) ≤ l then l - n else -1
set_option maxRecDepth 100000 in
set_option maxHeartbeats 400000 in
theorem szIntS_any (a : Option Addr) (len cap : Nat) (l : Int) (w : World) (hl : 0 ≤ l ∧ l ≤ 1048576) (hm : len ≤ maxLen) :
    Calls Try.prog 64 #[.slice a len cap, .int .i64 l] w fun e w' => e = .returned (.int .i64 (leftOf l len)) ∧ w = w' := by
  unfold maxLen at hm
  obtain ⟨h0, h1⟩ := hl
  by_cases hlt : (len : Int) ≤ l
  · go_enter Try.func64, Try.ntmps64
    go_wp2
    go_ret
    exact ⟨ret_int (by unfold leftOf; rw [if_pos hlt]), rfl⟩
  · have hlt' : l < len := by omega
    have H := Lib.hid hlt
    go_enter Try.func64, Try.ntmps64
    go_wp2
    go_ret
    exact ⟨ret_int (by unfold leftOf; rw [if_neg (by omega)]), rfl⟩
/-- the contract of the measure of a form -/
def SzSaid (B : Nat) (f : Fm) : Prop := ∀ (v : Value) (w : World) (l : Int), B ≤ w.heap.size → InV (· < B) w f v → 0 ≤ l ∧ l ≤ 1048576 →
    Calls Try.prog 28 #[v, .int .i64 l] w fun e w' => e = .returned (.int .i64 (leftOf l f.sz)) ∧ Below w.heap.size w w'
set_option maxRecDepth 100000 in
set_option maxHeartbeats 400000 in
theorem szFormS_of (B : Nat) (ks : List Fm) (ih : ∀ g ∈ ks, SzSaid B g) (a : Option Addr) (cap : Nat) (w : World) (l : Int) (hB : B ≤ w.heap.size) (hcap : ks.length ≤ cap) (hmax : cap ≤ maxLen)
    (hks : ks = [] ∨ ∃ kb off, a = some ⟨kb, off, none⟩ ∧ kb < B ∧ RowIn (· < B) w kb off ks) (hl : 0 ≤ l ∧ l ≤ 1048576) :
    Calls Try.prog 29 #[.slice a ks.length cap, .int .i64 l] w fun e w' => e = .returned (.int .i64 (leftOf l (szAll ks))) ∧ Below w.heap.size w w' := by
  unfold maxLen at hmax
  obtain ⟨hl0, hl1⟩ := hl
  have HIH := Lib.hid ih
  have HKS := Lib.hid hks
  have hal := szAll_length ks
  clear ih hks
  by_cases hlen : (ks.length : Int) ≤ l
  · have hd : decide (l - (ks.length : Int) < 0) = false := decide_eq_false (by omega)
    have hsi : szAll ks = ks.length + szIn ks := by unfold szIn; omega
    go_enter Try.func29, Try.ntmps29
    have HSI := Lib.hid hsi
    clear hsi
    go_wp2_with fail
    go_loopw [1, 5] (fun x i wr => ∃ j : Nat, j ≤ ks.length ∧ i = .int .i64 j ∧ x = .int .i64 (l - ks.length - szIn (ks.take j)) ∧ (szIn (ks.take j) : Int) ≤ l - ks.length ∧ Below w.heap.size w wr) (fun _ i _ => ks.length - (intOf i).toNat)
    case atStart => exact ⟨0, Nat.zero_le _, rfl, by simp [szIn, szAll], by simp [szIn, szAll]; omega, Below.refl _ _⟩
    case round =>
      obtain ⟨j, hj, rfl, rfl, hle, hbj⟩ := hrel
      have HBJ := Lib.hid hbj
      clear hbj
      by_cases hlt : j < ks.length
      · rcases HKS.out with h0 | ⟨kb, off, rfl, hkb, hrow⟩
        · exfalso; rw [h0] at hlt; simp at hlt
        · obtain ⟨ga, gcap, ka, kcap, h0, h1, h2, h3, h4, hin⟩ := (hrow.later (same_below (HBJ.out.mono hB)) kb hkb).at' j hlt
          have HIN := Lib.hid hin
          have HIHJ := Lib.hid (HIH.out ks[j] (List.getElem_mem hlt))
          have HTS := Lib.hid (szIn_take_succ ks j hlt)
          have hsz1 := HBJ.out.size
          clear hin hrow
          go_wp2_with fail
          refine (HIHJ.out _ _ (l - ks.length - szIn (ks.take j)) (by omega) HIN.out (by omega)).mono ?_
          rintro e w3 ⟨rfl, hb3⟩
          have HB3 : Hid (Below w.heap.size w w3) := HBJ.out.trans (hb3.mono (by omega))
          clear hb3
          by_cases hg : (ks[j].sz : Int) ≤ l - ks.length - szIn (ks.take j)
          · have HG : Hid (leftOf (l - ks.length - szIn (ks.take j)) ks[j].sz = l - ks.length - szIn (ks.take (j + 1))) := by
              unfold Hid leftOf; rw [if_pos hg, HTS.out]; omega
            rw [HG.out]
            have hge : (szIn (ks.take (j + 1)) : Int) ≤ l - ks.length := by have := HTS.out; omega
            clear hg
            go_wp2_with fail
            go_roundw
            case rel => exact ⟨j + 1, by omega, by go_num, rfl, hge, HB3.out⟩
            case measure => simp [intOf]; omega
          · have HG : Hid (leftOf (l - ks.length - szIn (ks.take j)) ks[j].sz = -1) := by
              unfold Hid leftOf; rw [if_neg hg]
            rw [HG.out]
            have HE : Hid (leftOf l (szAll ks) = -1) := by
              unfold Hid leftOf
              have := HTS.out; have := szIn_take_le ks (j + 1); have := HSI.out
              rw [if_neg (by omega)]
            clear hg
            go_wp2_with fail
            go_ret
            exact ⟨ret_int HE.out.symm, HB3.out⟩
      · obtain rfl : j = ks.length := by omega
        have HE : Hid (leftOf l (szAll ks) = l - ks.length - szIn (ks.take ks.length)) := by
          unfold Hid leftOf
          rw [List.take_length] at hle ⊢
          have := HSI.out
          rw [if_pos (by omega)]; omega
        go_wp2_with fail
        go_ret
        exact ⟨ret_int HE.out.symm, HBJ.out⟩
  · have H := Lib.hid hlen
    have hlen' : l < ks.length := by omega
    go_enter Try.func29, Try.ntmps29
    go_wp2_with fail
    go_ret
    exact ⟨ret_int (by unfold leftOf; rw [if_neg (by have := H.out; omega)]), Below.refl _ _⟩
set_option maxRecDepth 100000 in
set_option maxHeartbeats 400000 in
theorem szForm_any (B : Nat) (f : Fm) : SzSaid B f := by
  induction f using Fm.ind with
  | h k nm x sc ks ih =>
    intro v w l hB hv hl
    unfold InV at hv
    obtain ⟨vs, a, cap, rfl, hkb, hnb, hnm, hvs, hcap, hmax, hks⟩ := hv
    obtain ⟨sa, scap, rfl, hs1, hs2, _⟩ := hvs
    have hnm' := hnm
    have hs2' := hs2
    unfold maxLen at hnm' hs2'
    have HKS := Lib.hid (szFormS_of B ks ih a cap)
    have HKK := Lib.hid hks
    have HSZ : Hid ((Fm.mk k nm x sc ks).sz = nm.size + sc.length + szAll ks) := by unfold Hid Fm.sz; rfl
    obtain ⟨hl0, hl1⟩ := hl
    clear hks ih
    by_cases h1 : (nm.size : Int) ≤ l
    · have hd1 : decide (l - (nm.size : Int) < 0) = false := decide_eq_false (by omega)
      go_enter Try.func28, Try.ntmps28
      go_wp2_with fail
      refine (szIntS_any _ _ _ (l - nm.size) _ (by omega) (by omega)).mono ?_
      rintro e w1 ⟨rfl, rfl⟩
      by_cases h2 : (sc.length : Int) ≤ l - nm.size
      · have hg : leftOf (l - nm.size) sc.length = l - nm.size - sc.length := by unfold leftOf; rw [if_pos h2]
        rw [hg]
        clear hg
        go_wp2_with fail
        refine (HKS.out _ (l - nm.size - sc.length) (by simp; omega) hcap hmax ?_ (by omega)).mono ?_
        · rcases HKK.out with h0 | ⟨kb, off, h0, hkb, hrow⟩
          · exact .inl h0
          · exact .inr ⟨kb, off, h0, hkb, hrow.later (same_below ((Below.refl B w).alloc hB _)) kb hkb⟩
        rintro e w2 ⟨rfl, hb2⟩
        have HB2 : Hid (Below w.heap.size w w2) := ((Below.refl _ w).alloc (Nat.le_refl _) _).trans (hb2.mono (by simp))
        clear hb2
        by_cases h3 : (szAll ks : Int) ≤ l - nm.size - sc.length
        · have hg : leftOf (l - nm.size - sc.length) (szAll ks) = l - nm.size - sc.length - szAll ks := by unfold leftOf; rw [if_pos h3]
          rw [hg]
          clear hg
          go_wp2_with fail
          go_ret
          exact ⟨ret_int (by rw [HSZ.out]; unfold leftOf; rw [if_pos (by omega)]; omega), HB2.out⟩
        · have hg : leftOf (l - nm.size - sc.length) (szAll ks) = -1 := by unfold leftOf; rw [if_neg h3]
          rw [hg]
          clear hg
          go_wp2_with fail
          go_ret
          exact ⟨ret_int (by rw [HSZ.out]; unfold leftOf; rw [if_neg (by omega)]), HB2.out⟩
      · have hg : leftOf (l - nm.size) sc.length = -1 := by unfold leftOf; rw [if_neg h2]
        rw [hg]
        clear hg
        go_wp2_with fail
        go_ret
        exact ⟨ret_int (by rw [HSZ.out]; unfold leftOf; rw [if_neg (by omega)]), (Below.refl _ _).alloc (Nat.le_refl _) _⟩
    · have hd1 : decide (l - (nm.size : Int) < 0) = true := decide_eq_true (by omega)
      go_enter Try.func28, Try.ntmps28
      go_wp2_with fail
      go_ret
      exact ⟨ret_int (by rw [HSZ.out]; unfold leftOf; rw [if_neg (by omega)]), (Below.refl _ _).alloc (Nat.le_refl _) _⟩
end Go.Proofs.Ytbclgmabidjegaa
