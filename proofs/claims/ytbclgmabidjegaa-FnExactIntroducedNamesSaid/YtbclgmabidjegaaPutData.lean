/- A set with a number more, as data. -/
import Derived.Test.YtbclgmabidjegaaSpecHas
namespace Go.Proofs.Ytbclgmabidjegaa
open Go.RowKit
set_option linter.unusedVariables false
set_option linter.unusedSimpArgs false
/-- what one round does -/
def putStep (n : Int) (s : List Int × Bool) (x : Int) : List Int × Bool := if s.2 = false ∧ n < x then (s.1 ++ [n, x], true) else (s.1 ++ [x], s.2)
/-- a set with a number more -/
def putL (l : List Int) (n : Int) : List Int := let s := l.foldl (putStep n) ([], hasB l n); if s.2 = true then s.1 else s.1 ++ [n]
theorem putStep_length (n : Int) (l : List Int) : ∀ s : List Int × Bool, (l.foldl (putStep n) s).1.length + (if (l.foldl (putStep n) s).2 = true then 0 else 1) ≤ s.1.length + (if s.2 = true then 0 else 1) + l.length := by
  induction l with
  | nil => intro s; exact Nat.le_refl _
  | cons x r ih =>
    intro s
    have := ih (putStep n s x)
    rw [List.foldl_cons, List.length_cons]
    refine Nat.le_trans this ?_
    unfold putStep
    split
    · rename_i h
      simp [h.1]
      omega
    · simp
      omega
theorem putStep_mem (n : Int) (l : List Int) : ∀ s : List Int × Bool, ∀ x ∈ (l.foldl (putStep n) s).1, x ∈ s.1 ∨ x = n ∨ x ∈ l := by
  induction l with
  | nil => intro s x hx; exact .inl hx
  | cons y r ih =>
    intro s x hx
    rw [List.foldl_cons] at hx
    rcases ih _ x hx with h | h | h
    · unfold putStep at h
      split at h
      · simp at h
        rcases h with h | h | h
        · exact .inl h
        · exact .inr (.inl h)
        · exact .inr (.inr (by simp [h]))
      · simp at h
        rcases h with h | h
        · exact .inl h
        · exact .inr (.inr (by simp [h]))
    · exact .inr (.inl h)
    · exact .inr (.inr (by simp [h]))
end Go.Proofs.Ytbclgmabidjegaa
