/- The contract of the model's draw of bindings that may be wrong. -/
import Derived.Test.YtcckhcedfmadeaaCopyOwnB
import Derived.Test.YtcckhcedfmadeaaDrawBinds
import Derived.Test.YtcckhcedfmadeaaBdParts
namespace Go.Proofs.Ytcckhcedfmadeaa
open Go.RowKit
set_option linter.unusedVariables false
set_option linter.unusedSimpArgs false
theorem BdMidO.kept {T U : TypeId} {base : Nat} {wr w' : World} {l : List Bd} {v : Value} {xs : List Value} (h : BdMidO T U base wr l v xs) (hs : ∀ q, base ≤ q → q < wr.heap.size → w'.heap[q]? = wr.heap[q]?) (hz : wr.heap.size ≤ w'.heap.size) : BdMidO T U base w' l v xs := by
  obtain ⟨hi, hv, hhi⟩ := h.vals
  exact ⟨ownsRow_same h.own fun q e => hs q (h.own.lt q e).1 (h.own.lt q e).2, hi, hv.keep fun q h1 h2 h3 => ⟨hs q h1 (by omega), h3⟩, by omega⟩
theorem bdAt_set {φ ψ : Nat → Prop} {w : World} {g i o : Nat} {y : Bd} {u : Value} (h : BdAt φ w g (i * 3) y) (ho : o < i * 3 ∨ i * 3 + 3 ≤ o) (hφ : ∀ q, φ q → q ≠ g ∧ ψ q) : BdAt ψ (w.setCell ⟨g, o, none⟩ u) g (i * 3) y := by
  obtain ⟨sa, scap, c0, c1, c2, hr⟩ := h
  exact ⟨sa, scap, (World.cell?_setCell_other _ _ _ _ (addr_ne (by omega))).trans c0, (World.cell?_setCell_other _ _ _ _ (addr_ne (by omega))).trans c1, (World.cell?_setCell_other _ _ _ _ (addr_ne (by omega))).trans c2,
    (hr.later fun q hq => Below.heap_setCell _ _ _ _ (hφ q hq).1).mono fun q hq => (hφ q hq).2⟩
theorem BdMid.at' {T : TypeId} {base g n cap : Nat} {wr : World} {l : List Bd} {xs : List Value} (h : BdMid T base wr l (.slice (some ⟨g, 0, none⟩) n cap) xs) (i : Nat) (hi : i < l.length) :
    BdAt (fun q => base ≤ q ∧ q < wr.heap.size ∧ q ≠ g) wr g (i * 3) l[i] := by
  have := BdVals.row (b := g) (off := 0) (h.vals.keep (fun _ _ => rfl) fun q hq => (⟨hq.1, hq.2.1, fun e => hq.2.2 (by rw [e]; rfl)⟩ : base ≤ q ∧ q < wr.heap.size ∧ q ≠ g)) (fun j u hj => by
    have := h.own.cells (g := g) rfl j u hj
    unfold Addr.add at this
    split at this <;> simp_all) i hi
  rw [Nat.zero_add] at this
  exact this
/-- the bounds of the numbers in bindings that came in -/
theorem BdRow.bounds {φ : Nat → Prop} {w : World} {v : Value} {l : List Bd} (h : BdRow φ w v l) : ∀ x ∈ l, ∀ n ∈ x.scopes, -9223372036854775808 ≤ n ∧ n ≤ 9223372036854775807 := by
  intro x hx
  obtain ⟨i, hi, rfl⟩ := List.mem_iff_getElem.1 hx
  obtain ⟨a, cap, _, _, _, _, h4⟩ := h
  rcases h4 with rfl | ⟨b, o, _, _, h5⟩
  · simp at hi
  · obtain ⟨_, _, _, _, _, _, _, _, _, _, hb, _⟩ := h5 i hi
    exact hb
/-- the rows of the others, away from the k-th one's own row -/
theorem BdMidO.others {T U : TypeId} {base g n cap : Nat} {wr : World} {l : List Bd} {xs : List Value} (h : BdMidO T U base wr l (.slice (some ⟨g, 0, none⟩) n cap) xs) (hb : ∀ x ∈ l, ∀ n ∈ x.scopes, -9223372036854775808 ≤ n ∧ n ≤ 9223372036854775807) (k : Nat) (hk : k < l.length) :
    ∃ sa scap lo, (base ≤ lo ∧ lo ≤ wr.heap.size) ∧ xs[k * 3 + 1]? = some (.slice sa l[k].scopes.length scap) ∧ wr.ownsRow lo U 1 (.slice sa l[k].scopes.length scap) l[k].scopes.length (l[k].scopes.map (Value.int .i64)) ∧
      (∀ q, (Value.slice sa l[k].scopes.length scap).ownBlock = some q → q ≠ g) ∧
      ∀ i, (hi : i < l.length) → i ≠ k → BdAt (fun q => base ≤ q ∧ q < wr.heap.size ∧ q ≠ g ∧ (Value.slice sa l[k].scopes.length scap).ownBlock ≠ some q) wr g (i * 3) l[i] := by
  obtain ⟨hi, hv, hhi⟩ := h.vals
  obtain ⟨sa, scap, a, b, h1, h2, h3, c0, c1, c2, hr, hq, hpre, hpost⟩ := hv.at' k hk
  have cells : ∀ j u, xs[j]? = some u → wr.cell? ⟨g, j, none⟩ = some u := fun j u hj => by
    have := h.own.cells (g := g) rfl j u hj
    unfold Addr.add at this
    split at this <;> simp_all
  have hob : ∀ q, (Value.slice (some ⟨g, 0, none⟩) n cap).ownBlock ≠ some q → q ≠ g := fun q hq e => hq (by rw [e]; rfl)
  refine ⟨sa, scap, a, ⟨h1, by omega⟩, c1, hr, fun q e => hob q (hq q e).2, fun i hil hne => ?_⟩
  by_cases hik : i < k
  · have hp := hpre.vals (φ := fun q => base ≤ q ∧ q < wr.heap.size ∧ q ≠ g ∧ (Value.slice sa l[k].scopes.length scap).ownBlock ≠ some q) (fun q g1 g2 g3 => ⟨g1, by omega, hob q g3, fun e => by have := hr.lt q e; omega⟩) (fun x hx => hb x (List.mem_of_mem_take hx))
    have := BdVals.row (b := g) (off := 0) hp (fun j u hj => by
      rw [Nat.zero_add]
      refine cells j u ?_
      rw [List.getElem?_take] at hj
      split at hj
      · exact hj
      · cases hj) i (by rw [List.length_take]; omega)
    rw [Nat.zero_add, List.getElem_take] at this
    exact this
  · have hp := hpost.vals (φ := fun q => base ≤ q ∧ q < wr.heap.size ∧ q ≠ g ∧ (Value.slice sa l[k].scopes.length scap).ownBlock ≠ some q) (fun q g1 g2 g3 => ⟨by omega, by omega, hob q g3, fun e => by have := (hq q e).1; omega⟩) (fun x hx => hb x (List.mem_of_mem_drop hx))
    have := BdVals.row (b := g) (off := k * 3 + 3) hp (fun j u hj => cells _ u (by rw [List.getElem?_drop] at hj; exact hj)) (i - (k + 1)) (by rw [List.length_drop]; omega)
    rw [List.getElem_drop] at this
    have e1 : k * 3 + 3 + (i - (k + 1)) * 3 = i * 3 := by omega
    have e2 : k + 1 + (i - (k + 1)) = i := by omega
    rw [e1] at this
    simpa only [e2] using this
end Go.Proofs.Ytcckhcedfmadeaa
