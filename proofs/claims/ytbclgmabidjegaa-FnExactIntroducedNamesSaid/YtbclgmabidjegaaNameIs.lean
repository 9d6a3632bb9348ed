/- The contract of isName; valid forms do not hold themselves. -/
import Derived.Test.YtbclgmabidjegaaEndAt
import Derived.Test.YtbclgmabidjegaaValid
import Derived.Test.YtbclgmabidjegaaData
namespace Go.Proofs.Ytbclgmabidjegaa
open Go.RowKit
set_option linter.unusedVariables false
set_option maxRecDepth 100000 in
set_option maxHeartbeats 400000 in
theorem endless_valid (f : Fm) (hf : formB f = true) (B : Nat) (v : Value) (w : World) (hB : B ≤ w.heap.size) (hv : InV (· < B) w f v) :
    Calls Try.prog 177 #[v] w fun e w' => e = .returned (.bool false) ∧ Below w.heap.size w w' := by
  have HV := Lib.hid hv
  have HF := Lib.hid hf
  obtain ⟨sa, scap, a, cap, rfl⟩ := hv.form
  clear hv hf
  go_enter Try.func177, Try.ntmps177
  go_wp2_with fail
  refine (implFormValid_any B f _ _ (by simp; omega) (InV.later (same_below ((Below.refl B w).alloc hB _)) _ _ HV.out)).mono ?_
  rintro e w1 ⟨rfl, hb1⟩
  rw [HF.out]
  have HB1 : Hid (Below w.heap.size w w1) := ((Below.refl _ w).alloc (Nat.le_refl _) _).trans (hb1.mono (by simp))
  clear hb1
  go_wp2_with fail
  go_ret
  exact ⟨rfl, HB1.out⟩
theorem endlessAt_valid (f : Fm) (hf : formB f = true) (B : Nat) (v : Value) (w : World) (hB : B ≤ w.heap.size) (hv : InV (· < B) w f v) : EndlessAt v w :=
  fun w' hb => endless_valid f hf B v w' (Nat.le_trans hB hb.size) (InV.later (same_below (hb.mono hB)) _ _ hv)
/-- a valid name -/
def isNameB (f : Fm) : Bool := f.kind == 1 && formB f
set_option maxRecDepth 100000 in
set_option maxHeartbeats 400000 in
theorem isName_any (B : Nat) (f : Fm) (v : Value) (w : World) (hB : B ≤ w.heap.size) (hv : InV (· < B) w f v) :
    Calls Try.prog 194 #[v] w fun e w' => e = .returned (.bool (isNameB f)) ∧ Below w.heap.size w w' := by
  have HV := Lib.hid hv
  obtain ⟨sa, scap, a, cap, rfl⟩ := hv.form
  clear hv
  cases hk : (f.kind == 1) with
  | false =>
    have HE : Hid (isNameB f = false) := by unfold Hid isNameB; rw [hk]; rfl
    go_enter Try.func194, Try.ntmps194
    go_wp2_with fail
    go_ret
    exact ⟨ret_bool HE.out.symm, (Below.refl _ _).alloc (Nat.le_refl _) _⟩
  | true =>
    have HE : Hid (isNameB f = formB f) := by unfold Hid isNameB; rw [hk]; rfl
    go_enter Try.func194, Try.ntmps194
    go_wp2_with fail
    refine (implFormValid_any B f _ _ (by simp; omega) (InV.later (same_below ((Below.refl B w).alloc hB _)) _ _ HV.out)).mono ?_
    rintro e w1 ⟨rfl, hb1⟩
    have HB1 : Hid (Below w.heap.size w w1) := ((Below.refl _ w).alloc (Nat.le_refl _) _).trans (hb1.mono (by simp))
    clear hb1
    cases hf : formB f with
    | false =>
      have HE : Hid (isNameB f = false) := HE.out.trans hf
      go_wp2_with fail
      go_ret
      exact ⟨ret_bool HE.out.symm, HB1.out⟩
    | true =>
      have HE : Hid (isNameB f = true) := HE.out.trans hf
      go_wp2_with fail
      go_ret
      exact ⟨ret_bool HE.out.symm, HB1.out⟩
theorem formB_count {f : Fm} (h : formB f = true) : f.count ≤ 400 := by
  unfold formB at h
  simp only [Bool.and_eq_true, decide_eq_true_eq] at h
  exact h.2
end Go.Proofs.Ytbclgmabidjegaa
