/- Forms that are equal, as data. -/
import Derived.Test.YtaihblfabaijoaaChecked
import Derived.Test.YtaihblfabaijoaaFirst
import Derived.Deep.QuietTactic
import Derived.BigQuiet
import Derived.StillTailTactics
namespace Go.Proofs.Ytaihblfabaijoaa
open Go.RowKit
set_option linter.unusedVariables false
mutual
/-- equal at every level -/
def sameB : Fm → Fm → Bool
  | .mk k nm n sc ks, .mk k' nm' n' sc' ks' => k == k' && (nm.data.toList == nm'.data.toList) && n == n' && sc == sc' && sameAll ks ks'
def sameAll : List Fm → List Fm → Bool
  | [], [] => true
  | f :: r, g :: s => sameB f g && sameAll r s
  | _, _ => false
end
theorem sameAll_length : ∀ {ks ls : List Fm}, sameAll ks ls = true → ks.length = ls.length
  | [], [], _ => rfl
  | f :: r, g :: s, h => by
    simp only [sameAll, Bool.and_eq_true] at h
    simp [sameAll_length h.2]
  | [], _ :: _, h => by simp [sameAll] at h
  | _ :: _, [], h => by simp [sameAll] at h
theorem sameAll_take_succ : ∀ (ks ls : List Fm) (j : Nat) (h1 : j < ks.length) (h2 : j < ls.length),
    sameAll (ks.take (j + 1)) (ls.take (j + 1)) = (sameAll (ks.take j) (ls.take j) && sameB ks[j] ls[j])
  | f :: r, g :: s, 0, _, _ => by simp [sameAll]
  | f :: r, g :: s, j + 1, h1, h2 => by
    have := sameAll_take_succ r s j (by simpa using h1) (by simpa using h2)
    simp only [List.take_succ_cons, sameAll, List.getElem_cons_succ, this, Bool.and_assoc]
theorem sameAll_take : ∀ (ks ls : List Fm) (j : Nat), sameAll ks ls = true → sameAll (ks.take j) (ls.take j) = true
  | [], [], _, _ => by simp [sameAll]
  | f :: r, g :: s, 0, _ => by simp [sameAll]
  | f :: r, g :: s, j + 1, h => by
    simp only [sameAll, Bool.and_eq_true, List.take_succ_cons] at h ⊢
    exact ⟨h.1, sameAll_take r s j h.2⟩
  | [], _ :: _, _, h => by simp [sameAll] at h
  | _ :: _, [], _, h => by simp [sameAll] at h
theorem sameAll_no {ks ls : List Fm} (j : Nat) (h : sameAll (ks.take j) (ls.take j) = false) : sameAll ks ls = false := by
  cases hs : sameAll ks ls with
  | false => rfl
  | true => rw [sameAll_take ks ls j hs] at h; cases h
mutual
theorem sameB_refl : ∀ f : Fm, sameB f f = true
  | .mk k nm n sc ks => by simp [sameB, sameAll_refl ks]
theorem sameAll_refl : ∀ ks : List Fm, sameAll ks ks = true
  | [] => rfl
  | f :: r => by simp [sameAll, sameB_refl f, sameAll_refl r]
end
mutual
theorem sameB_symm : ∀ f g : Fm, sameB f g = sameB g f
  | .mk k nm n sc ks, .mk k' nm' n' sc' ks' => by
    simp only [sameB, sameAll_symm ks ks']
    rw [Bool.eq_iff_iff]
    simp only [Bool.and_eq_true, beq_iff_eq]
    constructor
    · rintro ⟨⟨⟨⟨rfl, h⟩, rfl⟩, rfl⟩, h2⟩; exact ⟨⟨⟨⟨rfl, h.symm⟩, rfl⟩, rfl⟩, h2⟩
    · rintro ⟨⟨⟨⟨rfl, h⟩, rfl⟩, rfl⟩, h2⟩; exact ⟨⟨⟨⟨rfl, h.symm⟩, rfl⟩, rfl⟩, h2⟩
theorem sameAll_symm : ∀ ks ls : List Fm, sameAll ks ls = sameAll ls ks
  | [], [] => rfl
  | f :: r, g :: s => by simp [sameAll, sameB_symm f g, sameAll_symm r s]
  | [], _ :: _ => by simp [sameAll]
  | _ :: _, [] => by simp [sameAll]
end
theorem take_beq_succ (l m : List Int) (j : Nat) (h1 : j < l.length) (h2 : j < m.length) : (l.take (j + 1) == m.take (j + 1)) = (l.take j == m.take j && l[j] == m[j]) := by
  induction l generalizing m j with
  | nil => simp at h1
  | cons x r ih =>
    cases m with
    | nil => simp at h2
    | cons y s =>
      cases j with
      | zero => simp
      | succ j =>
        have := ih s j (by simpa using h1) (by simpa using h2)
        have g1 : j < r.length := by simpa using h1
        have g2 : j < s.length := by simpa using h2
        simp only [List.take_succ_cons, List.getElem_cons_succ]
        show (x == y && (r.take (j + 1) == s.take (j + 1))) = ((x == y && (r.take j == s.take j)) && r[j] == s[j])
        rw [this, Bool.and_assoc]
theorem beq_no (l m : List Int) (j : Nat) (h : (l.take j == m.take j) = false) : (l == m) = false := by
  rw [beq_eq_false_iff_ne] at h ⊢
  intro e; exact h (by rw [e])
end Go.Proofs.Ytaihblfabaijoaa
