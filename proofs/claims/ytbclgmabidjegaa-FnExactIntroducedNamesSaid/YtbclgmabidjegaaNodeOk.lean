/- Nodes of valid forms. -/
import Derived.Test.YtbclgmabidjegaaValid
import Derived.Test.YtbclgmabidjegaaData
namespace Go.Proofs.Ytbclgmabidjegaa
open Go.RowKit
set_option linter.unusedVariables false
set_option linter.unusedSimpArgs false
/-- a node of a valid form -/
def NodeOk (x : Fm) : Prop := x.sz ≤ 1048576 ∧ ∃ d, isB d x = true
theorem NodeOk.kid {x : Fm} (h : NodeOk x) : ∀ y ∈ x.kids, NodeOk y := by
  intro y hy
  obtain ⟨hs, d, hd⟩ := h
  refine ⟨Nat.le_trans (sz_kid hy) hs, ?_⟩
  cases x with
  | mk k nm n sc ks =>
    cases d with
    | zero => simp [isB] at hd
    | succ d =>
      simp only [Fm.kids] at hy
      unfold isB at hd
      split at hd
      · simp only [Bool.and_eq_true, List.isEmpty_iff] at hd
        rw [hd.2] at hy
        cases hy
      · split at hd
        · simp only [Bool.and_eq_true, List.isEmpty_iff] at hd
          rw [hd.2] at hy
          cases hy
        · simp only [Bool.and_eq_true, List.all_eq_true] at hd
          exact ⟨d, hd.2 y hy⟩
theorem NodeOk.scopes {x : Fm} (h : NodeOk x) : scopesB x.scopes = true := by
  obtain ⟨hs, d, hd⟩ := h
  cases x with
  | mk k nm n sc ks =>
    cases d with
    | zero => simp [isB] at hd
    | succ d =>
      simp only [Fm.scopes]
      unfold isB at hd
      split at hd
      · simp only [Bool.and_eq_true] at hd
        exact hd.1.2
      · split at hd
        · simp only [Bool.and_eq_true, List.isEmpty_iff] at hd
          rw [hd.1.2]
          rfl
        · simp only [Bool.and_eq_true, List.isEmpty_iff] at hd
          rw [hd.1.2]
          rfl
end Go.Proofs.Ytbclgmabidjegaa
