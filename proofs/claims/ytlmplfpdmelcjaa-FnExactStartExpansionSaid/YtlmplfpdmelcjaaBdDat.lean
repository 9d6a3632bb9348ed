/- Bindings as data. -/
import Derived.Test.YtlmplfpdmelcjaaFirst
namespace Go.Proofs.Ytlmplfpdmelcjaa
open Go.RowKit
set_option linter.unusedVariables false
set_option linter.unusedSimpArgs false
/-- a binding, as data -/
structure Bd where
  name : ByteArray
  scopes : List Int
  id : Int
/-- the cells of a binding -/
def BdAt (φ : Nat → Prop) (w : World) (b o : Nat) (x : Bd) : Prop :=
  ∃ sa scap, w.cell? ⟨b, o, none⟩ = some (.string x.name) ∧ w.cell? ⟨b, o + 1, none⟩ = some (.slice sa x.scopes.length scap) ∧ w.cell? ⟨b, o + 2, none⟩ = some (.int .i64 x.id) ∧ IntRow φ w (.slice sa x.scopes.length scap) x.scopes
theorem BdAt.later {φ : Nat → Prop} {w w' : World} {b o : Nat} {x : Bd} (h : BdAt φ w b o x) (hb : φ b) (hs : Same φ w w') : BdAt φ w' b o x := by
  obtain ⟨sa, scap, c0, c1, c2, hr⟩ := h
  exact ⟨sa, scap, (World.cell?_of_block (a := ⟨b, o, none⟩) (hs b hb)).trans c0, (World.cell?_of_block (a := ⟨b, o + 1, none⟩) (hs b hb)).trans c1, (World.cell?_of_block (a := ⟨b, o + 2, none⟩) (hs b hb)).trans c2, hr.later hs⟩
/-- a value of type []Bind that reads as bindings -/
def BdRow (φ : Nat → Prop) (w : World) (v : Value) (l : List Bd) : Prop :=
  ∃ a cap, v = .slice a l.length cap ∧ l.length ≤ cap ∧ cap ≤ maxLen ∧ (∀ x ∈ l, x.name.size ≤ maxLen ∧ -9223372036854775808 ≤ x.id ∧ x.id ≤ 9223372036854775807) ∧
    (l = [] ∨ ∃ b off, a = some ⟨b, off, none⟩ ∧ φ b ∧ ∀ i, (h : i < l.length) → BdAt φ w b (off + i * 3) l[i])
theorem BdRow.later {φ : Nat → Prop} {w w' : World} {v : Value} {l : List Bd} (h : BdRow φ w v l) (hs : Same φ w w') : BdRow φ w' v l := by
  obtain ⟨a, cap, rfl, h1, h2, h3, h4⟩ := h
  refine ⟨a, cap, rfl, h1, h2, h3, ?_⟩
  rcases h4 with h4 | ⟨b, off, rfl, hb, h5⟩
  · exact .inl h4
  · exact .inr ⟨b, off, rfl, hb, fun i hi => (h5 i hi).later hb hs⟩
end Go.Proofs.Ytlmplfpdmelcjaa
