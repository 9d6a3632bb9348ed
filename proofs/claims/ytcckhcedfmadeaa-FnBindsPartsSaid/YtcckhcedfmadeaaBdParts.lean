/- Parts of valid bindings are valid. -/
import Derived.Test.YtcckhcedfmadeaaBd
namespace Go.Proofs.Ytcckhcedfmadeaa
theorem bindsB_all {l : List Bd} : bindsB l = true ↔ l.length ≤ 60 ∧ ∀ i, (h : i < l.length) → l[i].ok = true ∧ ∀ y ∈ l.take i, y.same l[i] = false := by
  unfold bindsB bindsUp
  rw [Bool.and_eq_true, decide_eq_true_eq, List.all_eq_true]
  refine and_congr_right fun _ => ⟨fun h i hi => ?_, fun h i hi => ?_⟩
  · have := h i (List.mem_range.2 hi)
    rw [List.getElem?_eq_getElem hi] at this
    simp only [Bool.and_eq_true, List.all_eq_true, Bool.not_eq_true'] at this
    exact this
  · have hi' := List.mem_range.1 hi
    rw [List.getElem?_eq_getElem hi']
    simp only [Bool.and_eq_true, List.all_eq_true, Bool.not_eq_true']
    exact h i hi'
theorem bindsB_tail {x : Bd} {r : List Bd} (h : bindsB (x :: r) = true) : bindsB r = true := by
  rw [bindsB_all] at h ⊢
  refine ⟨by have := h.1; simp at this; omega, fun i hi => ?_⟩
  have h2 := h.2 (i + 1) (by simpa using hi)
  simp only [List.getElem_cons_succ, List.take_succ_cons] at h2
  exact ⟨h2.1, fun y hy => h2.2 y (List.mem_cons_of_mem _ hy)⟩
theorem bindsB_front {l : List Bd} (h : bindsB l = true) : bindsB l.dropLast = true := by
  rw [bindsB_all] at h ⊢
  have hl : l.dropLast.length = l.length - 1 := List.length_dropLast
  refine ⟨by omega, fun i hi => ?_⟩
  have h2 := h.2 i (by omega)
  rw [List.getElem_dropLast]
  refine ⟨h2.1, fun y hy => h2.2 y ?_⟩
  rw [List.dropLast_eq_take, List.take_take, Nat.min_eq_left (by omega)] at hy
  exact hy
/-- a row of bindings without its first -/
theorem BdRow.tail {φ : Nat → Prop} {w : World} {x : Bd} {r : List Bd} {b o cap : Nat} (h : BdRow φ w (.slice (some ⟨b, o, none⟩) (r.length + 1) cap) (x :: r)) : BdRow φ w (.slice (some ⟨b, o + 3, none⟩) r.length (cap - 1)) r := by
  obtain ⟨a, c, e, h1, h2, h3, h4⟩ := h
  injection e with e1 _ e3
  subst e1 e3
  refine ⟨_, _, rfl, by simp at h1; omega, by omega, fun y hy => h3 y (List.mem_cons_of_mem _ hy), ?_⟩
  rcases h4 with h4 | ⟨b2, o2, e, h5, h6⟩
  · cases h4
  · injection e with e
    injection e with e1 e2 _
    subst e1 e2
    refine .inr ⟨_, _, rfl, h5, fun i hi => ?_⟩
    have := h6 (i + 1) (by simpa using hi)
    rw [show o + 3 + i * 3 = o + (i + 1) * 3 by omega]
    exact this
/-- a row of bindings without its last -/
theorem BdRow.front {φ : Nat → Prop} {w : World} {l : List Bd} {b o cap : Nat} (h : BdRow φ w (.slice (some ⟨b, o, none⟩) l.length cap) l) : BdRow φ w (.slice (some ⟨b, o, none⟩) (l.length - 1) cap) l.dropLast := by
  have hl : l.dropLast.length = l.length - 1 := List.length_dropLast
  obtain ⟨a, c, e, h1, h2, h3, h4⟩ := h
  injection e with e1 _ e3
  subst e1 e3
  refine ⟨_, _, by rw [hl], by omega, h2, fun y hy => h3 y (List.dropLast_subset _ hy), ?_⟩
  rcases h4 with h4 | ⟨b2, o2, e, h5, h6⟩
  · exact .inl (by rw [h4]; rfl)
  · refine .inr ⟨b2, o2, e, h5, fun i hi => ?_⟩
    rw [List.getElem_dropLast]
    exact h6 i (by omega)
/-- a row of bindings, one of them another -/
theorem bdRow_set {φ : Nat → Prop} {w : World} {l : List Bd} {g cap k : Nat} {x : Bd} (hcp : l.length ≤ cap) (hm : cap ≤ maxLen) (hwf : ∀ y ∈ l, y.name.size ≤ maxLen ∧ -9223372036854775808 ≤ y.id ∧ y.id ≤ 9223372036854775807)
    (hx : x.name.size ≤ maxLen ∧ -9223372036854775808 ≤ x.id ∧ x.id ≤ 9223372036854775807) (hg : φ g) (hi : ∀ i, (h : i < l.length) → i ≠ k → BdAt φ w g (i * 3) l[i]) (hkx : BdAt φ w g (k * 3) x) :
    BdRow φ w (.slice (some ⟨g, 0, none⟩) l.length cap) (l.set k x) := by
  refine ⟨some ⟨g, 0, none⟩, cap, by rw [List.length_set], by rw [List.length_set]; exact hcp, hm, fun y hy => ?_, .inr ⟨g, 0, rfl, hg, fun i h => ?_⟩⟩
  · rcases List.mem_or_eq_of_mem_set hy with h | rfl
    · exact hwf y h
    · exact hx
  · rw [Nat.zero_add]
    by_cases e : i = k
    · subst e
      rw [List.getElem_set_self]
      exact hkx
    · rw [List.getElem_set_ne (Ne.symm e)]
      exact hi i (by rw [List.length_set] at h; exact h) e
end Go.Proofs.Ytcckhcedfmadeaa
