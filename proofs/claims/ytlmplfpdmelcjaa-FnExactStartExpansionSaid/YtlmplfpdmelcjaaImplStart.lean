/- The state at the start, and how its bindings lie. -/
import Derived.Test.YtlmplfpdmelcjaaChecked
import Derived.Test.YtlmplfpdmelcjaaOwnB
import Derived.Test.YtlmplfpdmelcjaaBdLaw
import Derived.StillTailTactics
namespace Go.Proofs.Ytlmplfpdmelcjaa
open Go.RowKit
set_option linter.unusedVariables false
set_option linter.unusedSimpArgs false
/-- the bindings of the core forms -/
def startB : List Bd := [⟨{ data := #[108, 97, 109, 98, 100, 97] }, [], 1⟩, ⟨{ data := #[105, 102] }, [], 2⟩, ⟨{ data := #[113, 117, 111, 116, 101] }, [], 3⟩, ⟨{ data := #[108, 101, 116] }, [], 4⟩, ⟨{ data := #[108, 101, 116, 45, 115, 121, 110, 116, 97, 120] }, [], 5⟩]
/-- the cells of bindings without scopes -/
def cellsOfB (l : List Bd) : List Value := l.flatMap fun x => [.string x.name, .slice none 0 0, .int .i64 x.id]
theorem nilInts (φ : Nat → Prop) (w : World) : IntRow φ w (.slice none ([] : List Int).length 0) [] := ⟨none, 0, rfl, Nat.le_refl _, Nat.zero_le _, by simp, .inl rfl⟩
theorem startB_wf : ∀ x ∈ startB, x.wf := by
  intro x hx
  simp only [startB, List.mem_cons, List.not_mem_nil, or_false] at hx
  rcases hx with rfl | rfl | rfl | rfl | rfl <;> exact ⟨by decide, by decide, by decide⟩
theorem startRow {φ : Nat → Prop} {w : World} {g cap : Nat} (h1 : 5 ≤ cap) (h2 : cap ≤ maxLen) (hg : φ g) (hc : ∀ j u, (cellsOfB startB)[j]? = some u → w.cell? ⟨g, j, none⟩ = some u) : BdRow φ w (.slice (some ⟨g, 0, none⟩) 5 cap) startB := by
  refine ⟨some ⟨g, 0, none⟩, cap, rfl, h1, h2, startB_wf, .inr ⟨g, 0, rfl, hg, fun i hi => ?_⟩⟩
  match i, hi with
  | 0, _ => exact ⟨none, 0, hc 0 _ rfl, hc 1 _ rfl, hc 2 _ rfl, nilInts φ w⟩
  | 1, _ => exact ⟨none, 0, hc 3 _ rfl, hc 4 _ rfl, hc 5 _ rfl, nilInts φ w⟩
  | 2, _ => exact ⟨none, 0, hc 6 _ rfl, hc 7 _ rfl, hc 8 _ rfl, nilInts φ w⟩
  | 3, _ => exact ⟨none, 0, hc 9 _ rfl, hc 10 _ rfl, hc 11 _ rfl, nilInts φ w⟩
  | 4, _ => exact ⟨none, 0, hc 12 _ rfl, hc 13 _ rfl, hc 14 _ rfl, nilInts φ w⟩
  | n + 5, h => exact absurd h (by simp [startB])
theorem own1 {w : World} {g o : Nat} {x : Bd} (hp : Plain w g) (h0 : w.cell? ⟨g, o, none⟩ = some (.string x.name)) (h1 : w.cell? ⟨g, o + 1, none⟩ = some (.slice none ([] : List Int).length 0)) (h2 : w.cell? ⟨g, o + 2, none⟩ = some (.int .i64 x.id)) (hs : x.scopes = [] := by rfl) : BdOwn w g o x [] := by
  refine ⟨none, 0, h0, by rw [hs]; exact h1, h2, fun j _ => hp.frozen _, ?_⟩
  rw [hs]
  exact ⟨none, 0, rfl, Nat.le_refl _, Nat.zero_le _, by simp, .inl ⟨rfl, rfl⟩⟩
theorem startOwn {w : World} {g cap : Nat} (h1 : 5 ≤ cap) (h2 : cap ≤ maxLen) (hp : Plain w g) (hc : ∀ j u, (cellsOfB startB)[j]? = some u → w.cell? ⟨g, j, none⟩ = some u) : BdsOwn w startB (.slice (some ⟨g, 0, none⟩) 5 cap) [g] := by
  refine ⟨some ⟨g, 0, none⟩, cap, rfl, h1, h2, startB_wf, .inr ⟨g, 0, [], rfl, rfl, ?_⟩⟩
  exact ⟨[], [], rfl, own1 hp (hc 0 _ rfl) (hc 1 _ rfl) (hc 2 _ rfl), ⟨[], [], rfl, own1 hp (hc 3 _ rfl) (hc 4 _ rfl) (hc 5 _ rfl), ⟨[], [], rfl, own1 hp (hc 6 _ rfl) (hc 7 _ rfl) (hc 8 _ rfl), ⟨[], [], rfl, own1 hp (hc 9 _ rfl) (hc 10 _ rfl) (hc 11 _ rfl), ⟨[], [], rfl, own1 hp (hc 12 _ rfl) (hc 13 _ rfl) (hc 14 _ rfl), rfl⟩⟩⟩⟩⟩
/-- the value of a state with these bindings, without macros -/
def stateV (a : Option Addr) (n cap : Nat) : Value := .agg #[.slice a n cap, .slice none 0 0, .int .i64 0, .int .i64 10, .int .i64 0]
set_option maxRecDepth 100000 in
set_option maxHeartbeats 1000000 in
theorem implStart_any (w : World) :
    Calls Try.prog 66 #[] w fun e w' => ∃ g, e = .returned (stateV (some ⟨g, 0, none⟩) 5 5) ∧ BdsOwn w' startB (.slice (some ⟨g, 0, none⟩) 5 5) [g] ∧ NewBs [g] w.heap.size w'.heap.size ∧ Below w.heap.size w w' := by
  have HB : Hid (∀ O O' : Obj, Below w.heap.size w ((w.alloc O).alloc O')) := fun O O' => ((Below.refl _ w).alloc (Nat.le_refl _) _).alloc (by simp) _
  go_enter Try.func66, Try.ntmps66
  go_wp2_with fail
  refine bodyPost_ret (v := stateV (some ⟨w.heap.size + 1, 0, none⟩) 5 5) (by simp [results, Try.results66, go_sem, stateV]) rfl ⟨w.heap.size + 1, rfl, ?_, ⟨by simp, fun b hb => ?_⟩, ?_⟩
  · have hblk := heap_alloc_new (w.alloc (.cells #[.slice (some ⟨w.heap.size + 1, 0, none⟩) 5 5, .slice none 0 0, .int .i64 0, .int .i64 10, .int .i64 0] 93)) (.cells #[.string { data := #[108, 97, 109, 98, 100, 97] }, .slice none 0 0, .int .i64 1, .string { data := #[105, 102] }, .slice none 0 0, .int .i64 2, .string { data := #[113, 117, 111, 116, 101] }, .slice none 0 0, .int .i64 3, .string { data := #[108, 101, 116] }, .slice none 0 0, .int .i64 4, .string { data := #[108, 101, 116, 45, 115, 121, 110, 116, 97, 120] }, .slice none 0 0, .int .i64 5] 148)
    rw [size_alloc'] at hblk
    have hp : Plain ((w.alloc (.cells #[.slice (some ⟨w.heap.size + 1, 0, none⟩) 5 5, .slice none 0 0, .int .i64 0, .int .i64 10, .int .i64 0] 93)).alloc (.cells #[.string { data := #[108, 97, 109, 98, 100, 97] }, .slice none 0 0, .int .i64 1, .string { data := #[105, 102] }, .slice none 0 0, .int .i64 2, .string { data := #[113, 117, 111, 116, 101] }, .slice none 0 0, .int .i64 3, .string { data := #[108, 101, 116] }, .slice none 0 0, .int .i64 4, .string { data := #[108, 101, 116, 45, 115, 121, 110, 116, 97, 120] }, .slice none 0 0, .int .i64 5] 148)) (w.heap.size + 1) := ⟨_, _, hblk⟩
    refine startOwn (by omega) (by decide) hp (fun j u hj => ?_)
    rw [cell_of_row _ _ j _ _ _ hblk, ← Array.getElem?_toList]
    exact hj
  · rw [List.mem_singleton] at hb
    subst hb
    simp
  · exact HB.out _ _
end Go.Proofs.Ytlmplfpdmelcjaa
