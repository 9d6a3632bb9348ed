/- Plain facts on rows of numbers that a call has made and sorted. Nothing of the program is used. -/
import Derived.Test.YtaihblfabaijoaaMaSet
import Derived.Test.YtaihblfabaijoaaOwn
import Derived.Lib.OwnBridge
import Derived.Sort.Grow
import Derived.Laws.CopyOwn
import Derived.Laws.MakeOwn
namespace Go.Proofs.Ytaihblfabaijoaa
open Go.RowKit Go.Lib Go.Sort
/-- a row that a block holds whole -/
theorem ownsRow_heap {w : World} {base g : Nat} {e : TypeId} {L : List Value} {l : List Int} (hg : w.heap[g]? = some (.cells L.toArray e (0, 0))) (hL : L = l.map (Value.int .i64)) (hb : base ≤ g) (hm : l.length ≤ maxLen) :
    w.ownsRow base e 1 (.slice (some ⟨g, 0, none⟩) l.length l.length) l.length (l.map (Value.int .i64)) :=
  ⟨by simp, .inr ⟨g, l.length, L.toArray, rfl, hb, hg, Nat.le_refl _, hm, by simp [hL], by rw [hL, Nat.mul_one, List.take_of_length_le (by simp)]⟩⟩
theorem ownsRow_grow {w : World} {os : Array Obj} {base n : Nat} {e : TypeId} {v : Value} {xs : List Value} (h : w.ownsRow base e 1 v n xs) : (grow w os).ownsRow base e 1 v n xs := by
  refine ⟨h.1, h.2.imp id ?_⟩
  rintro ⟨g, cap, cur, e1, hb, hg, h1, h2, h3, h4⟩
  exact ⟨g, cap, cur, e1, hb, by rw [heap_grow_old _ _ (Array.getElem?_eq_some_iff.1 hg).1]; exact hg, h1, h2, h3, h4⟩
theorem ownsRow_base {w : World} {base base' n : Nat} {e : TypeId} {size : Nat} {v : Value} {xs : List Value} (h : w.ownsRow base e size v n xs) (hb : base' ≤ base) : w.ownsRow base' e size v n xs := by
  refine ⟨h.1, h.2.imp id ?_⟩
  rintro ⟨g, cap, cur, e1, hb', h'⟩
  exact ⟨g, cap, cur, e1, Nat.le_trans hb hb', h'⟩
theorem ownsRow_drewN {w : World} {q base n : Nat} {e : TypeId} {v : Value} {xs : List Value} (h : w.ownsRow base e 1 v n xs) : (w.drewN q).ownsRow base e 1 v n xs := h
theorem below_grow' {B : Nat} {w0 w : World} (h : Below B w0 w) (os : Array Obj) (hB : B ≤ w.heap.size) : Below B w0 (grow w os) :=
  ⟨h.os, h.tape, h.output, by rw [size_grow]; have := h.size; omega, fun k hk => by rw [heap_grow_old _ _ (by omega)]; exact h.block k hk⟩
/-- the row made, sorted -/
theorem row_sorted {w w0 : World} {base g n cap q : Nat} {e : TypeId} {l s : List Int} {os : Array Obj} (h : w.ownsRow base e 1 (.slice (some ⟨g, 0, none⟩) n cap) n (l.map (Value.int .i64))) (hb : Below base w0 w) (hs : s.length = n) :
    (grow (putRow (Value.int .i64) (Sort.ahead w q) g 0 s.toArray) os).ownsRow base e 1 (.slice (some ⟨g, 0, none⟩) n cap) n (s.map (Value.int .i64)) ∧ Below base w0 (grow (putRow (Value.int .i64) (Sort.ahead w q) g 0 s.toArray) os) := by
  have h1 := ownsRow_putRow (q := q) (ys := s) h hs (Nat.le_refl n)
  rw [List.take_of_length_le (by omega)] at h1
  have hg : base ≤ g ∧ g < w.heap.size := by
    rcases h.2 with ⟨e0, _⟩ | ⟨g', cap', cur, e0, hb, hg, _⟩
    · cases e0
    · injection e0 with e1 _ _
      injection e1 with e1
      injection e1 with e1
      subst e1
      exact ⟨hb, (Array.getElem?_eq_some_iff.1 hg).1⟩
  refine ⟨ownsRow_grow h1, below_grow' (below_putRow hb hg.1) os ?_⟩
  simp only [putRow, mapBlock, Sort.ahead, Array.size_modify]
  omega
/-- a row cut to the first of its numbers -/
theorem row_cut {w w0 : World} {base g n cap q : Nat} {e : TypeId} {l s z : List Int} (h : w.ownsRow base e 1 (.slice (some ⟨g, 0, none⟩) n cap) n (l.map (Value.int .i64))) (hb : Below base w0 w) (hs : (s ++ z).length = n) :
    (putRow (Value.int .i64) (Sort.ahead w q) g 0 (s ++ z).toArray).ownsRow base e 1 (.slice (some ⟨g, 0, none⟩) s.length cap) s.length (s.map (Value.int .i64)) ∧ Below base w0 (putRow (Value.int .i64) (Sort.ahead w q) g 0 (s ++ z).toArray) := by
  have hle : s.length ≤ n := by rw [← hs, List.length_append]; omega
  have h1 := ownsRow_putRow (q := q) (ys := s ++ z) h hs hle
  rw [List.take_left] at h1
  have hg : base ≤ g := by
    rcases h.2 with ⟨e0, _⟩ | ⟨g', cap', cur, e0, hb, hg, _⟩
    · cases e0
    · injection e0 with e1 _ _
      injection e1 with e1
      injection e1 with e1
      subst e1
      exact hb
  exact ⟨h1, below_putRow hb hg⟩
theorem row_holds {w : World} {base g n cap : Nat} {e : TypeId} {l : List Int} (h : w.ownsRow base e 1 (.slice (some ⟨g, 0, none⟩) n cap) n (l.map (Value.int .i64))) :
    Holds (Value.int .i64) w g 0 l.toArray ∧ l.length = n ∧ n ≤ cap ∧ cap ≤ maxLen ∧ base ≤ g ∧ g < w.heap.size := by
  obtain ⟨g', cap', e0, h1, h2, h3, h4, h5, h6⟩ := holds_of_ownsRow (enc := Value.int .i64) h (by simp)
  injection e0 with e1 _ e3
  injection e1 with e1
  injection e1 with e1
  subst e1 e3
  exact ⟨h6, h5, h3, h4, h1, h2⟩
theorem madeCells_ints (n : Nat) : madeCells #[.int .i64 0] n = ((List.replicate n 0).map (Value.int .i64)).toArray := by
  unfold madeCells
  apply Array.ext_getElem?
  intro i
  by_cases h : i < n
  · simp [h, Nat.mod_one]
  · simp [h]
theorem splice2 (n m : Nat) (a b : List Value) (ha : a.length = n) (hb : b.length = m) (z : List Value) (hz : z.length = n + m) : splice (splice z 0 a) n b = a ++ b := by
  subst ha hb
  unfold splice
  simp only [List.take_zero, List.nil_append, Nat.zero_add]
  rw [List.take_left' rfl, List.drop_append]
  have : (List.drop a.length z).drop b.length = [] := by apply List.drop_eq_nil_of_le; simp; omega
  simp [this]
end Go.Proofs.Ytaihblfabaijoaa
