/- Lists of strings, read below a bound. -/
import Derived.Test.YtlmplfpdmelcjaaStrs
namespace Go.Proofs.Ytlmplfpdmelcjaa
open Go.RowKit
set_option linter.unusedVariables false
set_option linter.unusedSimpArgs false
/-- a list of strings, read below B -/
def StrRowB (B : Nat) (w : World) (v : Value) (l : List ByteArray) : Prop :=
  ∃ a cap, v = .slice a l.length cap ∧ l.length ≤ cap ∧ cap ≤ maxLen ∧ (l = [] ∨ ∃ b off, a = some ⟨b, off, none⟩ ∧ b < B ∧ ∀ i, (h : i < l.length) → w.cell? ⟨b, off + i, none⟩ = some (.string l[i]))
theorem StrRow.bound {w : World} {v : Value} {l : List ByteArray} (h : StrRow w v l) : StrRowB w.heap.size w v l := by
  obtain ⟨a, cap, rfl, h1, h2, h3⟩ := h
  refine ⟨a, cap, rfl, h1, h2, ?_⟩
  rcases h3 with h3 | ⟨b, off, rfl, h4⟩
  · exact .inl h3
  · by_cases h0 : l = []
    · exact .inl h0
    · exact .inr ⟨b, off, rfl, cell_lt (h4 0 (by cases l <;> simp_all)), h4⟩
theorem StrRowB.row {B : Nat} {w : World} {v : Value} {l : List ByteArray} (h : StrRowB B w v l) : StrRow w v l := by
  obtain ⟨a, cap, rfl, h1, h2, h3⟩ := h
  refine ⟨a, cap, rfl, h1, h2, ?_⟩
  rcases h3 with h3 | ⟨b, off, rfl, _, h4⟩
  · exact .inl h3
  · exact .inr ⟨b, off, rfl, h4⟩
theorem StrRowB.later {B : Nat} {w w' : World} {v : Value} {l : List ByteArray} (h : StrRowB B w v l) (hs : Same (· < B) w w') : StrRowB B w' v l := by
  obtain ⟨a, cap, rfl, h1, h2, h3⟩ := h
  refine ⟨a, cap, rfl, h1, h2, ?_⟩
  rcases h3 with h3 | ⟨b, off, rfl, hb, h4⟩
  · exact .inl h3
  · exact .inr ⟨b, off, rfl, hb, fun i hi => (World.cell?_of_block (a := ⟨b, off + i, none⟩) (hs b hb)).trans (h4 i hi)⟩
end Go.Proofs.Ytlmplfpdmelcjaa
