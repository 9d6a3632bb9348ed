/- Five cells set in a row, and another cell beside them. -/
import Derived.Test.YtbbihbapmbjbgaaData
import Derived.Sort.Row
namespace Go.Proofs.Ytbbihbapmbjbgaa
section
open Go.RowKit
set_option linter.unusedVariables false
set_option linter.unusedSimpArgs false
theorem setCell_comm (w : World) (a b : Nat) (i j : Nat) (u v : Value) (h : a ≠ b) : (w.setCell ⟨a, i, none⟩ u).setCell ⟨b, j, none⟩ v = (w.setCell ⟨b, j, none⟩ v).setCell ⟨a, i, none⟩ u := by
  rw [Sort.setCell_eq, Sort.setCell_eq, Sort.setCell_eq, Sort.setCell_eq]
  unfold Sort.mapBlock
  congr 1
  apply Array.ext_getElem?
  intro k
  simp only [Array.getElem?_modify]
  by_cases hb : b = k
  · subst hb
    simp [h]
  · by_cases ha : a = k
    · simp [ha, hb]
    · simp [ha, hb]
theorem set5_setCell (w : World) (g o pb : Nat) (c0 c1 c2 c3 c4 v : Value) (h : g ≠ pb) : set5 (w.setCell ⟨pb, 0, none⟩ v) g o c0 c1 c2 c3 c4 = (set5 w g o c0 c1 c2 c3 c4).setCell ⟨pb, 0, none⟩ v := by
  unfold set5
  rw [setCell_comm w pb g _ _ _ _ (Ne.symm h), setCell_comm _ pb g _ _ _ _ (Ne.symm h), setCell_comm _ pb g _ _ _ _ (Ne.symm h), setCell_comm _ pb g _ _ _ _ (Ne.symm h), setCell_comm _ pb g _ _ _ _ (Ne.symm h)]
theorem set5_world (w : World) (g o pb : Nat) (c0 c1 c2 c3 c4 v : Value) : ((set5 w g o c0 c1 c2 c3 c4).setCell ⟨pb, 0, none⟩ v).os = w.os ∧ ((set5 w g o c0 c1 c2 c3 c4).setCell ⟨pb, 0, none⟩ v).tape = w.tape ∧ ((set5 w g o c0 c1 c2 c3 c4).setCell ⟨pb, 0, none⟩ v).output = w.output ∧
    ((set5 w g o c0 c1 c2 c3 c4).setCell ⟨pb, 0, none⟩ v).heap.size = w.heap.size := by
  refine ⟨?_, ?_, ?_, ?_⟩
  · simp only [set5, World.setCell]
  · simp only [set5, World.setCell]
  · simp only [set5, World.setCell]
  · simp [set5, World.setCell]
theorem set5_list (xs : List Value) (n : Nat) (hx : xs.length = n) (z0 z1 z2 z3 z4 u0 u1 u2 u3 u4 : Value) :
    (((((xs ++ [z0, z1, z2, z3, z4]).set n u0).set (n + 1) u1).set (n + 2) u2).set (n + 3) u3).set (n + 4) u4 = xs ++ [u0, u1, u2, u3, u4] := by
  subst hx
  simp
theorem ownsRow_set5v {w : World} {base g cap n : Nat} {e : TypeId} {xs : List Value} {z0 z1 z2 z3 z4 : Value} (u0 u1 u2 u3 u4 : Value) (hx : xs.length = n * 5)
    (h : w.ownsRow base e 5 (.slice (some ⟨g, 0, none⟩) (n + 1) cap) (n + 1) (xs ++ [z0, z1, z2, z3, z4])) :
    (set5 w g (n * 5) u0 u1 u2 u3 u4).ownsRow base e 5 (.slice (some ⟨g, 0, none⟩) (n + 1) cap) (n + 1) (xs ++ [u0, u1, u2, u3, u4]) := by
  have h1 := ((((h.stored (n * 5) u0).1.stored (n * 5 + 1) u1).1.stored (n * 5 + 2) u2).1.stored (n * 5 + 3) u3).1.stored (n * 5 + 4) u4
  rw [set5_list _ _ hx] at h1
  exact h1.1
end
end Go.Proofs.Ytbbihbapmbjbgaa
