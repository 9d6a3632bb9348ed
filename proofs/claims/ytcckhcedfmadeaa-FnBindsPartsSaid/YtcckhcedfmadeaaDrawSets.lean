/- Sets of scopes that draws pick from, and the draw of two sets. -/
import Derived.Test.YtcckhcedfmadeaaDrawPick
import Derived.Test.YtcckhcedfmadeaaData
namespace Go.Proofs.Ytcckhcedfmadeaa
open Go.RowKit
set_option linter.unusedVariables false
set_option linter.unusedSimpArgs false
theorem row_later {φ : Nat → Prop} {w w' : World} {v : Value} {l : List Int} (h : IntRow φ w v l) (hb : Below w.heap.size w w') (hφ : ∀ k, φ k → k < w.heap.size) : IntRow φ w' v l := h.later (Same.of_below hb hφ)
/-- a list of numbers, written out -/
theorem row_new (w : World) (T : TypeId) (l : List Int) (hl : l.length ≤ 1000) (hb : ∀ n ∈ l, 0 ≤ n ∧ n ≤ 999) :
    IntRow (fun k => k = w.heap.size) (w.alloc (.cells (l.map (Value.int .i64)).toArray T)) (.slice (some ⟨w.heap.size, 0, none⟩) l.length l.length) l := by
  refine ⟨_, l.length, rfl, Nat.le_refl _, by unfold maxLen; omega, fun n hn => by have := hb n hn; omega, .inr ⟨w.heap.size, 0, rfl, rfl, fun i hi => ?_⟩⟩
  rw [Nat.zero_add]
  exact (World.cell?_alloc_at _ _ _ _ rfl).trans (by simp [hi])
theorem sets7 (w : World) (T T' : TypeId) (s0 s1 s2 s3 s4 s5 s6 : List Int) (hs : ∀ s ∈ [s0, s1, s2, s3, s4, s5, s6], s.length ≤ 1000 ∧ ∀ n ∈ s, 0 ≤ n ∧ n ≤ 999) (W : World)
    (hW : W = (((((((w.alloc (.cells (s0.map (Value.int .i64)).toArray T)).alloc (.cells (s1.map (Value.int .i64)).toArray T)).alloc (.cells (s2.map (Value.int .i64)).toArray T)).alloc (.cells (s3.map (Value.int .i64)).toArray T)).alloc
      (.cells (s4.map (Value.int .i64)).toArray T)).alloc (.cells (s5.map (Value.int .i64)).toArray T)).alloc (.cells (s6.map (Value.int .i64)).toArray T)).alloc
      (.cells #[.slice (some ⟨w.heap.size, 0, none⟩) s0.length s0.length, .slice (some ⟨w.heap.size + 1, 0, none⟩) s1.length s1.length, .slice (some ⟨w.heap.size + 1 + 1, 0, none⟩) s2.length s2.length,
        .slice (some ⟨w.heap.size + 1 + 1 + 1, 0, none⟩) s3.length s3.length, .slice (some ⟨w.heap.size + 1 + 1 + 1 + 1, 0, none⟩) s4.length s4.length, .slice (some ⟨w.heap.size + 1 + 1 + 1 + 1 + 1, 0, none⟩) s5.length s5.length,
        .slice (some ⟨w.heap.size + 1 + 1 + 1 + 1 + 1 + 1, 0, none⟩) s6.length s6.length] T')) :
    (∀ i : Nat, ∃ v : Value × List Int, i < 7 → W.cell? ⟨w.heap.size + 1 + 1 + 1 + 1 + 1 + 1 + 1, i, none⟩ = some v.1 ∧ v.2 ∈ [s0, s1, s2, s3, s4, s5, s6] ∧ IntRow (fun k => w.heap.size ≤ k ∧ k < W.heap.size) W v.1 v.2 ∧ ∃ a, v.1 = .slice a v.2.length v.2.length) ∧
      Below w.heap.size w W ∧ W.heap.size = w.heap.size + 8 := by
  obtain ⟨w1, h1⟩ : ∃ w1, w1 = w.alloc (.cells (s0.map (Value.int .i64)).toArray T) := ⟨_, rfl⟩
  obtain ⟨w2, h2⟩ : ∃ w2, w2 = w1.alloc (.cells (s1.map (Value.int .i64)).toArray T) := ⟨_, rfl⟩
  obtain ⟨w3, h3⟩ : ∃ w3, w3 = w2.alloc (.cells (s2.map (Value.int .i64)).toArray T) := ⟨_, rfl⟩
  obtain ⟨w4, h4⟩ : ∃ w4, w4 = w3.alloc (.cells (s3.map (Value.int .i64)).toArray T) := ⟨_, rfl⟩
  obtain ⟨w5, h5⟩ : ∃ w5, w5 = w4.alloc (.cells (s4.map (Value.int .i64)).toArray T) := ⟨_, rfl⟩
  obtain ⟨w6, h6⟩ : ∃ w6, w6 = w5.alloc (.cells (s5.map (Value.int .i64)).toArray T) := ⟨_, rfl⟩
  obtain ⟨w7, h7⟩ : ∃ w7, w7 = w6.alloc (.cells (s6.map (Value.int .i64)).toArray T) := ⟨_, rfl⟩
  rw [← h1, ← h2, ← h3, ← h4, ← h5, ← h6, ← h7] at hW
  have z1 : w1.heap.size = w.heap.size + 1 := by rw [h1]; exact size_alloc' _ _
  have z2 : w2.heap.size = w.heap.size + 1 + 1 := by rw [h2, size_alloc', z1]
  have z3 : w3.heap.size = w.heap.size + 1 + 1 + 1 := by rw [h3, size_alloc', z2]
  have z4 : w4.heap.size = w.heap.size + 1 + 1 + 1 + 1 := by rw [h4, size_alloc', z3]
  have z5 : w5.heap.size = w.heap.size + 1 + 1 + 1 + 1 + 1 := by rw [h5, size_alloc', z4]
  have z6 : w6.heap.size = w.heap.size + 1 + 1 + 1 + 1 + 1 + 1 := by rw [h6, size_alloc', z5]
  have z7 : w7.heap.size = w.heap.size + 1 + 1 + 1 + 1 + 1 + 1 + 1 := by rw [h7, size_alloc', z6]
  have z8 : W.heap.size = w.heap.size + 8 := by rw [hW, size_alloc', z7]
  have b1 : Below w.heap.size w w1 := by rw [h1]; exact below_alloc _ _
  have b2 : Below w1.heap.size w1 w2 := by rw [h2]; exact below_alloc _ _
  have b3 : Below w2.heap.size w2 w3 := by rw [h3]; exact below_alloc _ _
  have b4 : Below w3.heap.size w3 w4 := by rw [h4]; exact below_alloc _ _
  have b5 : Below w4.heap.size w4 w5 := by rw [h5]; exact below_alloc _ _
  have b6 : Below w5.heap.size w5 w6 := by rw [h6]; exact below_alloc _ _
  have b7 : Below w6.heap.size w6 w7 := by rw [h7]; exact below_alloc _ _
  have b8 : Below w7.heap.size w7 W := by rw [hW]; exact below_alloc _ _
  have c7 : Below w6.heap.size w6 W := b7.trans (b8.mono (by omega))
  have c6 : Below w5.heap.size w5 W := b6.trans (c7.mono (by omega))
  have c5 : Below w4.heap.size w4 W := b5.trans (c6.mono (by omega))
  have c4 : Below w3.heap.size w3 W := b4.trans (c5.mono (by omega))
  have c3 : Below w2.heap.size w2 W := b3.trans (c4.mono (by omega))
  have c2 : Below w1.heap.size w1 W := b2.trans (c3.mono (by omega))
  have c1 : Below w.heap.size w W := b1.trans (c2.mono (by omega))
  have key : ∀ (u u' : World) (s : List Int) (B : Nat), s ∈ [s0, s1, s2, s3, s4, s5, s6] → u' = u.alloc (.cells (s.map (Value.int .i64)).toArray T) → u.heap.size = B → w.heap.size ≤ B → B < W.heap.size → Below u'.heap.size u' W →
      IntRow (fun k => w.heap.size ≤ k ∧ k < W.heap.size) W (.slice (some ⟨B, 0, none⟩) s.length s.length) s := by
    intro u u' s B hm he hB h1 h2 hb
    have := row_new u T s (hs s hm).1 (hs s hm).2
    rw [← he, hB] at this
    exact (this.later (Same.of_below hb fun k hk => by rw [he, size_alloc', hk]; omega)).mono fun k hk => by subst hk; exact ⟨h1, h2⟩
  have r0 := key w w1 s0 _ (by simp) h1 rfl (by omega) (by omega) c2
  have r1 := key w1 w2 s1 _ (by simp) h2 z1 (by omega) (by omega) c3
  have r2 := key w2 w3 s2 _ (by simp) h3 z2 (by omega) (by omega) c4
  have r3 := key w3 w4 s3 _ (by simp) h4 z3 (by omega) (by omega) c5
  have r4 := key w4 w5 s4 _ (by simp) h5 z4 (by omega) (by omega) c6
  have r5 := key w5 w6 s5 _ (by simp) h6 z5 (by omega) (by omega) c7
  have r6 := key w6 w7 s6 _ (by simp) h7 z6 (by omega) (by omega) b8
  refine ⟨fun i => ?_, c1, z8⟩
  by_cases hi : i < 7
  · have hat : ∀ x, (#[Value.slice (some ⟨w.heap.size, 0, none⟩) s0.length s0.length, .slice (some ⟨w.heap.size + 1, 0, none⟩) s1.length s1.length, .slice (some ⟨w.heap.size + 1 + 1, 0, none⟩) s2.length s2.length,
        .slice (some ⟨w.heap.size + 1 + 1 + 1, 0, none⟩) s3.length s3.length, .slice (some ⟨w.heap.size + 1 + 1 + 1 + 1, 0, none⟩) s4.length s4.length, .slice (some ⟨w.heap.size + 1 + 1 + 1 + 1 + 1, 0, none⟩) s5.length s5.length,
        .slice (some ⟨w.heap.size + 1 + 1 + 1 + 1 + 1 + 1, 0, none⟩) s6.length s6.length] : Array Value)[i]? = some x → W.cell? ⟨w.heap.size + 1 + 1 + 1 + 1 + 1 + 1 + 1, i, none⟩ = some x := fun x hx => by
      rw [hW, ← z7]; exact (World.cell?_alloc_at _ _ _ _ rfl).trans hx
    match i, hi with
    | 0, _ => exact ⟨⟨_, s0⟩, fun _ => ⟨hat _ rfl, by simp, r0, _, rfl⟩⟩
    | 1, _ => exact ⟨⟨_, s1⟩, fun _ => ⟨hat _ rfl, by simp, r1, _, rfl⟩⟩
    | 2, _ => exact ⟨⟨_, s2⟩, fun _ => ⟨hat _ rfl, by simp, r2, _, rfl⟩⟩
    | 3, _ => exact ⟨⟨_, s3⟩, fun _ => ⟨hat _ rfl, by simp, r3, _, rfl⟩⟩
    | 4, _ => exact ⟨⟨_, s4⟩, fun _ => ⟨hat _ rfl, by simp, r4, _, rfl⟩⟩
    | 5, _ => exact ⟨⟨_, s5⟩, fun _ => ⟨hat _ rfl, by simp, r5, _, rfl⟩⟩
    | 6, _ => exact ⟨⟨_, s6⟩, fun _ => ⟨hat _ rfl, by simp, r6, _, rfl⟩⟩
  · exact ⟨⟨.bool true, []⟩, fun h => absurd h hi⟩
end Go.Proofs.Ytcckhcedfmadeaa
