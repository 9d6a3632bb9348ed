/- The contracts of pop: the last element of a list of the call's own is taken off. -/
import Derived.Test.YtbclgmabidjegaaChecked
import Derived.Test.YtbclgmabidjegaaData
import Derived.Deep.AppendLies
import Derived.Laws.OwnMore
import Derived.OwnWalk
namespace Go.Proofs.Ytbclgmabidjegaa
open Go.RowKit
set_option linter.unusedVariables false
theorem ownsRow_cut {w : World} {base g : Nat} {e : TypeId} {size n cap : Nat} {xs ys : List Value} (h : w.ownsRow base e size (.slice (some ⟨g, 0, none⟩) (n + 1) cap) (n + 1) (xs ++ ys)) (hx : xs.length = n * size) :
    w.ownsRow base e size (.slice (some ⟨g, 0, none⟩) n cap) n xs := by
  rcases h.2 with ⟨h', _⟩ | ⟨g', cap', cur, h', hb, hg, hnc, hcm, hcs, htake⟩
  · simp at h'
  · simp only [Value.slice.injEq, Option.some.injEq, Addr.mk.injEq, and_true, true_and] at h'
    obtain ⟨rfl, rfl⟩ := h'
    refine ⟨hx, .inr ⟨g, cap, cur, rfl, hb, hg, by omega, hcm, hcs, ?_⟩⟩
    have : cur.toList.take (n * size) = (cur.toList.take ((n + 1) * size)).take (n * size) := by
      rw [List.take_take, Nat.min_eq_left (by rw [Nat.succ_mul]; omega)]
    rw [this, htake, List.take_append_of_le_length (by omega), List.take_of_length_le (by omega)]
theorem ownsRow_setFar {w : World} {base g b o : Nat} {e : TypeId} {size n cap : Nat} {xs : List Value} {u : Value} (h : w.ownsRow base e size (.slice (some ⟨g, 0, none⟩) n cap) n xs) (hne : g ≠ b) :
    (w.setCell ⟨b, o, none⟩ u).ownsRow base e size (.slice (some ⟨g, 0, none⟩) n cap) n xs :=
  h.kept (row := some b) ⟨rfl, rfl, rfl, by simp [World.setCell], fun k _ hk => Below.heap_setCell _ _ _ _ (fun e => hk (by rw [e]))⟩ (.inr (by simp [Value.ownBlock, hne]))
theorem grownBy_set (w : World) (b o : Nat) (u : Value) : w.grownBy (w.setCell ⟨b, o, none⟩ u) (some b) :=
  ⟨rfl, rfl, rfl, by simp [World.setCell], fun k _ hk => Below.heap_setCell _ _ _ _ (fun e => hk (by rw [e]))⟩
/-- what taking off the last element leaves -/
def Popped (base : Nat) (e : TypeId) (size pb g cap n : Nat) (xs : List Value) (w w' : World) : Prop :=
  w'.cell? ⟨pb, 0, none⟩ = some (.slice (some ⟨g, 0, none⟩) n cap) ∧ w'.frozen? ⟨pb, 0, none⟩ = false ∧ w'.ownsRow base e size (.slice (some ⟨g, 0, none⟩) n cap) n xs ∧ w.heap.size ≤ w'.heap.size ∧
    (∀ k, k < w.heap.size → k ≠ pb → w'.heap[k]? = w.heap[k]?) ∧ Below base w w'
theorem popped_set {base : Nat} {e : TypeId} {size pb g cap n : Nat} {xs : List Value} {w : World} {u : Value} (hp : w.cell? ⟨pb, 0, none⟩ = some u) (hf : w.frozen? ⟨pb, 0, none⟩ = false)
    (h : w.ownsRow base e size (.slice (some ⟨g, 0, none⟩) n cap) n xs) (hne : g ≠ pb) (hb : base ≤ pb) : Popped base e size pb g cap n xs w (w.setCell ⟨pb, 0, none⟩ (.slice (some ⟨g, 0, none⟩) n cap)) :=
  ⟨World.cell?_setCell_same _ _ _ hp, by rw [World.frozen?_setCell]; exact hf, ownsRow_setFar h hne, by simp [World.setCell], fun k _ hk => Below.heap_setCell _ _ _ _ hk, (Below.refl _ _).setCell (by simpa using hb) _⟩
theorem ownsRow_later {w w' : World} {base : Nat} {e : TypeId} {size n : Nat} {v : Value} {xs : List Value} (h : w.ownsRow base e size v n xs) (hb : Below w.heap.size w w') : w'.ownsRow base e size v n xs := by
  refine ⟨h.1, ?_⟩
  rcases h.2 with h' | ⟨g, cap, cur, h1, h2, h3, h4⟩
  · exact .inl h'
  · refine .inr ⟨g, cap, cur, h1, h2, ?_, h4⟩
    rw [hb.block g (Array.getElem?_eq_some_iff.1 h3).1]; exact h3
theorem Popped.later {base : Nat} {e : TypeId} {size pb g cap n : Nat} {xs : List Value} {w w1 w2 : World} (h : Popped base e size pb g cap n xs w w1) (hb : Below w1.heap.size w1 w2) (hw : base ≤ w.heap.size) :
    Popped base e size pb g cap n xs w w2 := by
  obtain ⟨h1, h2, h3, h4, h5, h6⟩ := h
  have hl := cell_lt h1
  exact ⟨cell_later' hb h1, by rw [hb.frozen (p := ⟨pb, 0, none⟩) hl]; exact h2, ownsRow_later h3 hb, Nat.le_trans h4 hb.size, fun k hk hn => (hb.block k (by omega)).trans (h5 k hk hn), h6.trans (hb.mono (by omega))⟩
theorem ownsRow_same' {w w' : World} {base n m : Nat} {e : TypeId} {v : Value} {xs : List Value} (h : w.ownsRow base e m v n xs) (hs : ∀ g, v.ownBlock = some g → w'.heap[g]? = w.heap[g]?) : w'.ownsRow base e m v n xs := by
  refine ⟨h.1, ?_⟩
  rcases h.2 with h0 | ⟨g, cap, cur, rfl, h1, h2, h3⟩
  · exact .inl h0
  · exact .inr ⟨g, cap, cur, rfl, h1, (hs g rfl).trans h2, h3⟩
set_option maxRecDepth 100000 in
set_option maxHeartbeats 400000 in
theorem popPtr_any (base pb g cap n : Nat) (xs : List Value) (x : Value) (w : World) (hp : w.cell? ⟨pb, 0, none⟩ = some (.slice (some ⟨g, 0, none⟩) (n + 1) cap)) (hf : w.frozen? ⟨pb, 0, none⟩ = false)
    (hown : w.ownsRow base 218 1 (.slice (some ⟨g, 0, none⟩) (n + 1) cap) (n + 1) (xs ++ [x])) (hx : xs.length = n) (hne : g ≠ pb) (hb : base ≤ pb) (hbw : base ≤ w.heap.size) :
    Calls Try.prog 208 #[.pointer (some ⟨pb, 0, none⟩)] w
      fun e w' => e = .returned x ∧ Popped base 218 1 pb g cap n xs w w' := by
  have hc : w.cell? ⟨g, n, none⟩ = some x := by
    rw [hown.cellAt n (by omega), List.getElem?_append_right (by omega), hx]; simp
  have hcm : n + 1 ≤ cap ∧ cap ≤ maxLen := by
    rcases hown.2 with ⟨h', _⟩ | ⟨g', cap', cur, h', _, _, h1, h2, _⟩
    · simp at h'
    · simp only [Value.slice.injEq, Option.some.injEq, Addr.mk.injEq, and_true, true_and] at h'
      obtain ⟨rfl, rfl⟩ := h'
      exact ⟨h1, h2⟩
  obtain ⟨hcap, hmax⟩ := hcm
  unfold maxLen at hmax
  have HO := Lib.hid (ownsRow_cut hown (by omega))
  have HF := Lib.hid hf
  clear hown hx
  go_enter Try.func208, Try.ntmps208
  go_wp2_with fail
  go_ret
  exact ⟨rfl, popped_set hp HF.out HO.out hne hb⟩
end Go.Proofs.Ytbclgmabidjegaa
