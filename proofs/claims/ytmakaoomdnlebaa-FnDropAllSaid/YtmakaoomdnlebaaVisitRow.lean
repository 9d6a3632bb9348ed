/- Plain facts on a stack of forms in a box, and on what a round of a loop leaves. Nothing of the program is used. -/
import Derived.Test.YtmakaoomdnlebaaData
import Derived.Sort.Row
import Derived.Test.YtmakaoomdnlebaaPop
import Derived.RangeFuncNested
namespace Go.Proofs.Ytmakaoomdnlebaa
open Go.RowKit
theorem setCell_comm (w : World) (a b : Nat) (i j : Nat) (u v : Value) (h : a ≠ b) : (w.setCell ⟨a, i, none⟩ u).setCell ⟨b, j, none⟩ v = (w.setCell ⟨b, j, none⟩ v).setCell ⟨a, i, none⟩ u := by
  rw [Sort.setCell_eq, Sort.setCell_eq, Sort.setCell_eq, Sort.setCell_eq]
  unfold Sort.mapBlock
  congr 1
  apply Array.ext_getElem?
  intro k
  simp only [Array.getElem?_modify]
  by_cases hb : b = k
  · subst hb
    simp [h]
  · by_cases ha : a = k
    · simp [ha, hb]
    · simp [ha, hb]
theorem set5_setCell (w : World) (g o pb : Nat) (c0 c1 c2 c3 c4 v : Value) (h : g ≠ pb) : set5 (w.setCell ⟨pb, 0, none⟩ v) g o c0 c1 c2 c3 c4 = (set5 w g o c0 c1 c2 c3 c4).setCell ⟨pb, 0, none⟩ v := by
  unfold set5
  rw [setCell_comm w pb g _ _ _ _ (Ne.symm h), setCell_comm _ pb g _ _ _ _ (Ne.symm h), setCell_comm _ pb g _ _ _ _ (Ne.symm h), setCell_comm _ pb g _ _ _ _ (Ne.symm h), setCell_comm _ pb g _ _ _ _ (Ne.symm h)]
theorem set5_world (w : World) (g o pb : Nat) (c0 c1 c2 c3 c4 v : Value) : ((set5 w g o c0 c1 c2 c3 c4).setCell ⟨pb, 0, none⟩ v).os = w.os ∧ ((set5 w g o c0 c1 c2 c3 c4).setCell ⟨pb, 0, none⟩ v).tape = w.tape ∧ ((set5 w g o c0 c1 c2 c3 c4).setCell ⟨pb, 0, none⟩ v).output = w.output ∧
    ((set5 w g o c0 c1 c2 c3 c4).setCell ⟨pb, 0, none⟩ v).heap.size = w.heap.size := by
  refine ⟨?_, ?_, ?_, ?_⟩
  · simp only [set5, World.setCell]
  · simp only [set5, World.setCell]
  · simp only [set5, World.setCell]
  · simp [set5, World.setCell]
theorem keeps_set5 (w : World) (g o pb : Nat) (c0 c1 c2 c3 c4 v : Value) : KeepsOthers w ((set5 w g o c0 c1 c2 c3 c4).setCell ⟨pb, 0, none⟩ v) := by
  unfold set5
  exact (((((KeepsOthers.setCell _ _ _).trans (KeepsOthers.setCell _ _ _)).trans (KeepsOthers.setCell _ _ _)).trans (KeepsOthers.setCell _ _ _)).trans (KeepsOthers.setCell _ _ _)).trans (KeepsOthers.setCell _ _ _)
theorem set5_list (xs : List Value) (n : Nat) (hx : xs.length = n) (z0 z1 z2 z3 z4 u0 u1 u2 u3 u4 : Value) :
    (((((xs ++ [z0, z1, z2, z3, z4]).set n u0).set (n + 1) u1).set (n + 2) u2).set (n + 3) u3).set (n + 4) u4 = xs ++ [u0, u1, u2, u3, u4] := by
  subst hx
  simp
theorem ownsRow_set5v {w : World} {base g cap n : Nat} {e : TypeId} {xs : List Value} {z0 z1 z2 z3 z4 : Value} (u0 u1 u2 u3 u4 : Value) (hx : xs.length = n * 5)
    (h : w.ownsRow base e 5 (.slice (some ⟨g, 0, none⟩) (n + 1) cap) (n + 1) (xs ++ [z0, z1, z2, z3, z4])) :
    (set5 w g (n * 5) u0 u1 u2 u3 u4).ownsRow base e 5 (.slice (some ⟨g, 0, none⟩) (n + 1) cap) (n + 1) (xs ++ [u0, u1, u2, u3, u4]) := by
  have h1 := ((((h.stored (n * 5) u0).1.stored (n * 5 + 1) u1).1.stored (n * 5 + 2) u2).1.stored (n * 5 + 3) u3).1.stored (n * 5 + 4) u4
  rw [set5_list _ _ hx] at h1
  exact h1.1
/-- the stack, in its box -/
structure Stack (T : TypeId) (base : Nat) (pb g cap : Nat) (st : List Item) (W : World) : Prop where
  box : W.cell? ⟨pb, 0, none⟩ = some (.slice (some ⟨g, 0, none⟩) st.length cap)
  free : W.frozen? ⟨pb, 0, none⟩ = false
  row : W.ownsRow base T 5 (.slice (some ⟨g, 0, none⟩) st.length cap) st.length (rowOf st)
  apart : g ≠ pb
  low : base ≤ pb
theorem Stack.same {T : TypeId} {base pb g cap : Nat} {st : List Item} {W W' : World} (h : Stack T base pb g cap st W) (hp : W'.heap[pb]? = W.heap[pb]?) (hg : W'.heap[g]? = W.heap[g]?) : Stack T base pb g cap st W' := by
  refine ⟨(World.cell?_of_block (a := ⟨pb, 0, none⟩) hp).trans h.box, (World.frozen?_of_block (a := ⟨pb, 0, none⟩) hp).trans h.free, ⟨h.row.1, ?_⟩, h.apart, h.low⟩
  rcases h.row.2 with ⟨e, h'⟩ | ⟨g', cap', cur, e, h1, h2, h3⟩
  · cases e
  · have e' := e
    injection e' with e1 _ _
    injection e1 with e1
    injection e1 with e1
    exact .inr ⟨g', cap', cur, e, h1, by rw [← e1, hg, e1]; exact h2, h3⟩
/-- one more on the stack -/
theorem Stack.pushed {T : TypeId} {base pb g cap : Nat} {st : List Item} {W : World} {z0 z1 z2 z3 z4 u : Value} (y : Item) (hbox : W.cell? ⟨pb, 0, none⟩ = some u) (hfree : W.frozen? ⟨pb, 0, none⟩ = false)
    (hrow : W.ownsRow base T 5 (.slice (some ⟨g, 0, none⟩) (st.length + 1) cap) (st.length + 1) (rowOf st ++ [z0, z1, z2, z3, z4])) (hne : g ≠ pb) (hlow : base ≤ pb) :
    Stack T base pb g cap (st ++ [y]) ((set5 W g (st.length * 5) (.int .i64 y.f.kind) (.string y.f.name) (.int .i64 y.f.n) (.slice y.sa y.f.scopes.length y.scap) (.slice y.a y.f.kids.length y.cap)).setCell ⟨pb, 0, none⟩ (.slice (some ⟨g, 0, none⟩) (st.length + 1) cap)) := by
  have h1 := ownsRow_set5v (.int .i64 y.f.kind) (.string y.f.name) (.int .i64 y.f.n) (.slice y.sa y.f.scopes.length y.scap) (.slice y.a y.f.kids.length y.cap) (rowOf_length st) hrow
  have hp : (set5 W g (st.length * 5) (.int .i64 y.f.kind) (.string y.f.name) (.int .i64 y.f.n) (.slice y.sa y.f.scopes.length y.scap) (.slice y.a y.f.kids.length y.cap)).heap[pb]? = W.heap[pb]? := set5_block _ _ _ _ _ _ _ _ (Ne.symm hne)
  have hc := (World.cell?_of_block (a := ⟨pb, 0, none⟩) hp).trans hbox
  have hf := (World.frozen?_of_block (a := ⟨pb, 0, none⟩) hp).trans hfree
  refine ⟨?_, by rw [World.frozen?_setCell]; exact hf, ?_, hne, hlow⟩
  · rw [List.length_append]; exact World.cell?_setCell_same _ _ _ hc
  · have h2 := ownsRow_setFar (o := 0) (u := .slice (some ⟨g, 0, none⟩) (st.length + 1) cap) h1 hne
    rw [rowOf_snoc, List.length_append]
    exact h2
/-- what is no cells may turn, beyond B: cells lie as they lay -/
theorem cells_kept {W W' : World} {row : Option Nat} {B k : Nat} {c : Array Value} {t : TypeId} {fr : Nat × Nat} (hg : W.grownBy W' row) (hr : ∀ r, row = some r → B ≤ r ∧ ∃ o : Obj, W.heap[r]? = some o ∧ o.isCells = false)
    (h : W.heap[k]? = some (.cells c t fr)) : W'.heap[k]? = W.heap[k]? :=
  hg.block k (Array.getElem?_eq_some_iff.1 h).1 fun e => by
    obtain ⟨_, o, ho, hc⟩ := hr k e.symm
    rw [h] at ho
    injection ho with ho
    rw [← ho] at hc
    cases hc
theorem cell_cells {W : World} {k o : Nat} {u : Value} (h : W.cell? ⟨k, o, none⟩ = some u) : ∃ c t fr, W.heap[k]? = some (.cells c t fr) := by
  obtain ⟨c, t, fr, h1, _⟩ := Sort.cells_of_cell? h
  exact ⟨c, t, fr, h1⟩
theorem Stack.kept {T : TypeId} {base pb g cap : Nat} {st : List Item} {W W' : World} {row : Option Nat} {B : Nat} (h : Stack T base pb g cap st W) (hg : W.grownBy W' row) (hr : ∀ r, row = some r → B ≤ r ∧ ∃ o : Obj, W.heap[r]? = some o ∧ o.isCells = false) :
    Stack T base pb g cap st W' := by
  obtain ⟨c, t, fr, h1⟩ := cell_cells h.box
  refine h.same (cells_kept hg hr h1) ?_
  rcases h.row.2 with ⟨e, h'⟩ | ⟨g', cap', cur, e, _, h2, _⟩
  · cases e
  · injection e with e1 _ _
    injection e1 with e1
    injection e1 with e1
    rw [e1]
    exact cells_kept hg hr h2
/-- between two rounds of the inner loop -/
def RoundI (T : TypeId) (base pb g : Nat) (st0 : List Item) {α : Type} (its : α → Item) (w5 : World) (pre : List α) (W : World) : Prop :=
  ∃ g' cap', Stack T base pb g' cap' (st0 ++ pre.map its) W ∧ (g' = g ∨ w5.heap.size ≤ g') ∧ W.os = w5.os ∧ W.tape = w5.tape ∧ W.output = w5.output ∧ w5.heap.size ≤ W.heap.size ∧ ∀ k, k < w5.heap.size → k ≠ pb → k ≠ g → W.heap[k]? = w5.heap[k]?
theorem RoundI.own {T : TypeId} {base pb g : Nat} {st0 : List Item} {α : Type} {its : α → Item} {w5 : World} : OwnFrom w5.heap.size (RoundI T base pb g st0 its w5) := by
  rintro pre W W' row ⟨g', cap', h1, h2, h3, h4, h5, h6, h7⟩ hg hr
  refine ⟨g', cap', h1.kept hg hr, h2, hg.os.trans h3, hg.tape.trans h4, hg.output.trans h5, Nat.le_trans h6 hg.size, fun k hk n1 n2 => ?_⟩
  rw [hg.block k (by omega) (fun e => by have := (hr k e.symm).1; omega)]
  exact h7 k hk n1 n2
/-- the loop's variable, in its box -/
def KidAx (pb B : Nat) {α : Type} (its : α → Item) (fr : α → Nat → Act) (x : α) (a : Act) (W : World) : Prop :=
  ∃ Bx, B ≤ Bx ∧ Bx ≠ pb ∧ FormBox W Bx (its x).f (its x).sa (its x).scap (its x).a (its x).cap ∧ (∃ v, W.cell? ⟨pb, 0, none⟩ = some v ∧ v.ownBlock ≠ some Bx) ∧ a = fr x Bx
theorem KidAx.own {pb B B' : Nat} {α : Type} {its : α → Item} {fr : α → Nat → Act} (x : α) (a : Act) : OwnFrom B' (fun (_ : Unit) W => KidAx pb B its fr x a W) := by
  rintro _ W W' row ⟨Bx, h1, h2, h3, ⟨v, h4, h5⟩, h6⟩ hg hr
  obtain ⟨c, t, f, hb⟩ := cell_cells h3.1
  obtain ⟨c', t', f', hp⟩ := cell_cells h4
  have e := cells_kept hg hr hb
  have e' := cells_kept hg hr hp
  obtain ⟨a0, a1, a2, a3, a4⟩ := h3
  exact ⟨Bx, h1, h2, ⟨(World.cell?_of_block (a := ⟨Bx, 0, none⟩) e).trans a0, (World.cell?_of_block (a := ⟨Bx, 1, none⟩) e).trans a1, (World.cell?_of_block (a := ⟨Bx, 2, none⟩) e).trans a2, (World.cell?_of_block (a := ⟨Bx, 3, none⟩) e).trans a3, (World.cell?_of_block (a := ⟨Bx, 4, none⟩) e).trans a4⟩,
    ⟨v, (World.cell?_of_block (a := ⟨pb, 0, none⟩) e').trans h4, h5⟩, h6⟩
end Go.Proofs.Ytmakaoomdnlebaa
