/- Cells stored one behind the other. -/
import Derived.Test.YtbclgmabidjegaaMids
namespace Go.Proofs.Ytbclgmabidjegaa
open Go.RowKit
set_option linter.unusedVariables false
/-- cells stored one behind the other -/
def sets (w : World) (b o : Nat) : List Value → World
  | [] => w
  | c :: r => sets (w.setCell ⟨b, o, none⟩ c) b (o + 1) r
theorem sets_size (b : Nat) : ∀ (l : List Value) (w : World) (o : Nat), (sets w b o l).heap.size = w.heap.size
  | [], _, _ => rfl
  | c :: r, w, o => by unfold sets; rw [sets_size b r]; simp [World.setCell]
theorem sets_block (b : Nat) : ∀ (l : List Value) (w : World) (o : Nat) {k : Nat}, k ≠ b → (sets w b o l).heap[k]? = w.heap[k]?
  | [], _, _, _, _ => rfl
  | c :: r, w, o, k, hk => by unfold sets; rw [sets_block b r _ _ hk, Below.heap_setCell _ _ _ _ hk]
theorem sets_frozen (b : Nat) : ∀ (l : List Value) (w : World) (o : Nat) (a : Addr), (sets w b o l).frozen? a = w.frozen? a
  | [], _, _, _ => rfl
  | c :: r, w, o, a => by unfold sets; rw [sets_frozen b r, World.frozen?_setCell]
theorem sets_out (b : Nat) : ∀ (l : List Value) (w : World) (o i : Nat), (i < o ∨ o + l.length ≤ i) → (sets w b o l).cell? ⟨b, i, none⟩ = w.cell? ⟨b, i, none⟩
  | [], _, _, _, _ => rfl
  | c :: r, w, o, i, h => by
    simp only [List.length_cons] at h
    unfold sets
    rw [sets_out b r _ _ _ (by omega), World.cell?_setCell_other _ _ _ _ (addr_ne (by omega))]
theorem sets_in (b : Nat) : ∀ (l : List Value) (w : World) (o : Nat), (∀ j, j < l.length → ∃ v, w.cell? ⟨b, o + j, none⟩ = some v) →
    ∀ j (h : j < l.length), (sets w b o l).cell? ⟨b, o + j, none⟩ = some l[j]
  | [], _, _, _, j, h => by simp at h
  | c :: r, w, o, ht, 0, _ => by
    unfold sets
    obtain ⟨v, hv⟩ := ht 0 (by simp)
    rw [sets_out b r _ _ _ (by omega)]
    exact World.cell?_setCell_same _ _ _ hv
  | c :: r, w, o, ht, j + 1, h => by
    unfold sets
    have := sets_in b r (w.setCell ⟨b, o, none⟩ c) (o + 1) (fun k hk => by
      obtain ⟨v, hv⟩ := ht (k + 1) (by simp only [List.length_cons]; omega)
      rw [show o + (k + 1) = o + 1 + k from by omega] at hv
      exact ⟨v, by rw [World.cell?_setCell_other _ _ _ _ (addr_ne (by omega))]; exact hv⟩) j (by simpa using h)
    rw [show o + 1 + j = o + (j + 1) from by omega] at this
    simpa using this
theorem sets_below {B : Nat} {b : Nat} (hb : B ≤ b) : ∀ (l : List Value) {w w' : World} (o : Nat), Below B w w' → Below B w (sets w' b o l)
  | [], _, _, _, h => h
  | c :: r, w, w', o, h => by unfold sets; exact sets_below hb r (o + 1) (h.setCell (p := ⟨b, o, none⟩) hb c)
theorem Plain.sets {b : Nat} (c : Nat) : ∀ (l : List Value) {w : World} (o : Nat), Plain w b → Plain (sets w c o l) b
  | [], _, _, h => h
  | x :: r, w, o, h => by unfold Go.Proofs.Ytbclgmabidjegaa.sets; exact Plain.sets c r (o + 1) (h.setCell _ _ _)
section
variable {w1 w2 : World} {b o : Nat} {l : List Value}
theorem sets_later (hb : Below (sets w1 b o l).heap.size (sets w1 b o l) w2) {c i : Nat} (hc : c < w1.heap.size) (h : c ≠ b) : w2.cell? ⟨c, i, none⟩ = w1.cell? ⟨c, i, none⟩ := by
  rw [hb.cell (p := ⟨c, i, none⟩) (by rw [sets_size]; exact hc)]
  exact World.cell?_of_block (a := ⟨c, i, none⟩) (sets_block b l w1 o h)
theorem sets_later_frozen (hb : Below (sets w1 b o l).heap.size (sets w1 b o l) w2) {c i : Nat} (hc : c < w1.heap.size) : w2.frozen? ⟨c, i, none⟩ = w1.frozen? ⟨c, i, none⟩ := by
  rw [hb.frozen (p := ⟨c, i, none⟩) (by rw [sets_size]; exact hc), sets_frozen]
theorem sets_later_out (hb : Below (sets w1 b o l).heap.size (sets w1 b o l) w2) {i : Nat} (hc : b < w1.heap.size) (h : i < o ∨ o + l.length ≤ i) : w2.cell? ⟨b, i, none⟩ = w1.cell? ⟨b, i, none⟩ := by
  rw [hb.cell (p := ⟨b, i, none⟩) (by rw [sets_size]; exact hc), sets_out b l w1 o i h]
theorem sets_later_in (hb : Below (sets w1 b o l).heap.size (sets w1 b o l) w2) (hc : b < w1.heap.size) (ht : ∀ j, j < l.length → ∃ v, w1.cell? ⟨b, o + j, none⟩ = some v) (j : Nat) (h : j < l.length) :
    w2.cell? ⟨b, o + j, none⟩ = some l[j] := by
  rw [hb.cell (p := ⟨b, o + j, none⟩) (by rw [sets_size]; exact hc)]
  exact sets_in b l w1 o ht j h
theorem sets_later_same {bs : List Nat} (hb : Below (sets w1 b o l).heap.size (sets w1 b o l) w2) (h : ∀ c ∈ bs, c < w1.heap.size ∧ c ≠ b) : SameOn bs w1 w2 := fun c hc => by
  rw [hb.block c (by rw [sets_size]; exact (h c hc).1), sets_block b l w1 o (h c hc).2]
end
end Go.Proofs.Ytbclgmabidjegaa
