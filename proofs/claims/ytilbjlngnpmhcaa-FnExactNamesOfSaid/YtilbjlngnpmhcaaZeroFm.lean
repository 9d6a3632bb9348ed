/- The form of zero values; lists of forms that read. -/
import Derived.Test.YtilbjlngnpmhcaaOwn
namespace Go.Proofs.Ytilbjlngnpmhcaa
open Go.RowKit
set_option linter.unusedVariables false
set_option linter.unusedSimpArgs false
/-- a list of forms, as a form -/
def listFm (ks : List Fm) : Fm := .mk 3 { data := #[] } 0 [] ks
def zeroForm : Fm := .mk 0 { data := #[] } 0 [] []
/-- a value of type []Form that reads as forms -/
def FormsIn (φ : Nat → Prop) (w : World) (a : Option Addr) (cap : Nat) (ks : List Fm) : Prop :=
  ks.length ≤ cap ∧ cap ≤ maxLen ∧ (ks = [] ∨ ∃ b off, a = some ⟨b, off, none⟩ ∧ φ b ∧ RowIn φ w b off ks)
theorem FormsIn.form {φ : Nat → Prop} {w : World} {a : Option Addr} {cap : Nat} {ks : List Fm} (h : FormsIn φ w a cap ks) :
    InV φ w (listFm ks) (.agg #[.int .i64 3, .string { data := #[] }, .int .i64 0, .slice none 0 0, .slice a ks.length cap]) := by
  unfold listFm InV
  exact ⟨_, a, cap, rfl, by omega, by omega, by decide, ⟨none, 0, rfl, Nat.le_refl _, Nat.zero_le _, by simp, .inl rfl⟩, h.1, h.2.1, h.2.2⟩
theorem zeroFacts {w : World} {b : Nat} {T : TypeId} (h : w.heap[b]? = some (.cells #[.int .i64 0, .string { data := #[] }, .int .i64 0, .slice none 0 0, .slice none 0 0] T (0, 0))) :
    w.cell? ⟨b, 0, none⟩ = some (.int .i64 0) ∧ w.cell? ⟨b, 1, none⟩ = some (.string { data := #[] }) ∧ w.cell? ⟨b, 2, none⟩ = some (.int .i64 0) ∧ w.cell? ⟨b, 3, none⟩ = some (.slice none 0 0) ∧ w.cell? ⟨b, 4, none⟩ = some (.slice none 0 0) ∧
      w.frozen? ⟨b, 0, none⟩ = false ∧ w.frozen? ⟨b, 1, none⟩ = false ∧ w.frozen? ⟨b, 2, none⟩ = false ∧ w.frozen? ⟨b, 3, none⟩ = false ∧ w.frozen? ⟨b, 4, none⟩ = false := by
  have hp : Plain w b := ⟨_, _, h⟩
  refine ⟨?_, ?_, ?_, ?_, ?_, hp.frozen 0, hp.frozen 1, hp.frozen 2, hp.frozen 3, hp.frozen 4⟩
  · rw [cell_of_row w _ 0 _ _ _ h]; rfl
  · rw [cell_of_row w _ 1 _ _ _ h]; rfl
  · rw [cell_of_row w _ 2 _ _ _ h]; rfl
  · rw [cell_of_row w _ 3 _ _ _ h]; rfl
  · rw [cell_of_row w _ 4 _ _ _ h]; rfl
theorem zeroThere {w : World} {b : Nat} {T : TypeId} (h : w.heap[b]? = some (.cells #[.int .i64 0, .string { data := #[] }, .int .i64 0, .slice none 0 0, .slice none 0 0] T (0, 0))) : ∀ j, j < 5 → ∃ v, w.cell? ⟨b, 0 + j, none⟩ = some v := by
  intro j hj
  obtain ⟨r0, r1, r2, r3, r4, _⟩ := zeroFacts h
  rw [Nat.zero_add]
  match j, hj with
  | 0, _ => exact ⟨_, r0⟩
  | 1, _ => exact ⟨_, r1⟩
  | 2, _ => exact ⟨_, r2⟩
  | 3, _ => exact ⟨_, r3⟩
  | 4, _ => exact ⟨_, r4⟩
theorem zeroIn (φ : Nat → Prop) (w : World) : InV φ w zeroForm (.agg #[.int .i64 0, .string { data := #[] }, .int .i64 0, .slice none 0 0, .slice none 0 0]) := by
  unfold zeroForm InV
  exact ⟨_, none, 0, rfl, by omega, by omega, by decide, ⟨none, 0, rfl, Nat.le_refl _, Nat.zero_le _, by simp, .inl rfl⟩, Nat.le_refl _, Nat.zero_le _, .inl rfl⟩
theorem zeroOwn (w : World) : OwnV w zeroForm (.agg #[.int .i64 0, .string { data := #[] }, .int .i64 0, .slice none 0 0, .slice none 0 0]) [] := by
  unfold zeroForm OwnV
  exact ⟨_, none, 0, [], [], rfl, by omega, by omega, by decide, ⟨none, 0, rfl, Nat.le_refl _, Nat.zero_le _, by simp, .inl ⟨rfl, rfl⟩⟩, Nat.le_refl _, Nat.zero_le _, rfl, .inl ⟨rfl, rfl⟩⟩
end Go.Proofs.Ytilbjlngnpmhcaa
