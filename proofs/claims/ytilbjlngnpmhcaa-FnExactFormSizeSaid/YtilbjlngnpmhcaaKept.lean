/- A world in which nothing has turned but some cells of one block. -/
import Derived.Test.YtilbjlngnpmhcaaFm
namespace Go.Proofs.Ytilbjlngnpmhcaa
open Go.RowKit
/-- of what was there only the cells 'lo' to 'hi - 1' of block 'b' may have turned -/
structure Kept (b lo hi : Nat) (w w' : World) : Prop where
  os : w'.os = w.os
  tape : w'.tape = w.tape
  output : w'.output = w.output
  size : w.heap.size ≤ w'.heap.size
  block : ∀ k, k < w.heap.size → k ≠ b → w'.heap[k]? = w.heap[k]?
  cell : ∀ o, (o < lo ∨ hi ≤ o) → w'.cell? ⟨b, o, none⟩ = w.cell? ⟨b, o, none⟩
  frozen : ∀ o, w'.frozen? ⟨b, o, none⟩ = w.frozen? ⟨b, o, none⟩
theorem Kept.refl (b lo hi : Nat) (w : World) : Kept b lo hi w w := ⟨rfl, rfl, rfl, Nat.le_refl _, fun _ _ _ => rfl, fun _ _ => rfl, fun _ => rfl⟩
theorem Kept.trans {b lo hi : Nat} {u v w : World} (h : Kept b lo hi u v) (g : Kept b lo hi v w) : Kept b lo hi u w :=
  ⟨g.os.trans h.os, g.tape.trans h.tape, g.output.trans h.output, Nat.le_trans h.size g.size,
    fun k hk hn => (g.block k (Nat.lt_of_lt_of_le hk h.size) hn).trans (h.block k hk hn), fun o ho => (g.cell o ho).trans (h.cell o ho), fun o => (g.frozen o).trans (h.frozen o)⟩
theorem Kept.of_below {b lo hi : Nat} {w w' : World} (h : Below w.heap.size w w') (hb : b < w.heap.size) : Kept b lo hi w w' :=
  ⟨h.os, h.tape, h.output, h.size, fun k hk _ => h.block k hk, fun o _ => h.cell (p := ⟨b, o, none⟩) hb, fun o => h.frozen (p := ⟨b, o, none⟩) hb⟩
theorem Kept.drewN {b lo hi : Nat} {u w : World} (h : Kept b lo hi u w) (n : Nat) : Kept b lo hi u (w.drewN n) :=
  ⟨h.os, h.tape, h.output, h.size, h.block, h.cell, h.frozen⟩
theorem Kept.drew {b lo hi : Nat} {u w : World} (h : Kept b lo hi u w) : Kept b lo hi u w.drew :=
  ⟨h.os, h.tape, h.output, h.size, h.block, h.cell, h.frozen⟩
theorem Kept.alloc {b lo hi : Nat} {u w : World} (h : Kept b lo hi u w) (o : Obj) (hb : b < w.heap.size) : Kept b lo hi u (w.alloc o) :=
  h.trans (Kept.of_below ((Below.refl _ _).alloc (Nat.le_refl _) _) hb)
theorem Kept.setCell {b lo hi : Nat} {u w : World} (h : Kept b lo hi u w) (o : Nat) (v : Value) (hlo : lo ≤ o) (hhi : o < hi) : Kept b lo hi u (w.setCell ⟨b, o, none⟩ v) :=
  h.trans ⟨rfl, rfl, rfl, by simp [World.setCell], fun k _ hn => Below.heap_setCell _ _ _ _ hn,
    fun o' ho => World.cell?_setCell_other _ _ _ _ (by intro e; injection e with _ e2; omega), fun _ => World.frozen?_setCell _ _ _ _⟩
theorem Kept.other {b lo hi : Nat} {w w' : World} (h : Kept b lo hi w w') {k o : Nat} (hk : k < w.heap.size) (hn : k ≠ b) : w'.cell? ⟨k, o, none⟩ = w.cell? ⟨k, o, none⟩ :=
  World.cell?_of_block (w := w) (a := ⟨k, o, none⟩) (h.block k hk hn)
theorem Kept.below {b lo hi B : Nat} {w w' : World} (h : Kept b lo hi w w') (hB : B ≤ b) (hs : B ≤ w.heap.size) : Below B w w' :=
  ⟨h.os, h.tape, h.output, h.size, fun k hk => h.block k (by omega) (by omega)⟩
theorem Kept.chain {b lo hi : Nat} {w w1 w4 w5 : World} {O : Obj} (hb : b < w.heap.size) (h1 : Kept b lo hi (w.alloc O) w1) (h2 : Below w1.heap.size w1 w4) (h3 : Kept b lo hi w4 w5) :
    Kept b lo hi w w5 :=
  ((((Kept.refl b lo hi w).alloc O hb).trans h1).trans (Kept.of_below h2 (Nat.lt_of_lt_of_le hb (Nat.le_trans (by simp) h1.size)))).trans h3
/-- a counter of nodes and depth at a place of a block -/
structure RoomAt (w : World) (b o : Nat) (n d : Nat) : Prop where
  nodes : w.cell? ⟨b, o, none⟩ = some (.int .i64 n)
  depth : w.cell? ⟨b, o + 1, none⟩ = some (.int .i64 d)
  fr0 : w.frozen? ⟨b, o, none⟩ = false
  fr1 : w.frozen? ⟨b, o + 1, none⟩ = false
theorem RoomAt.later {w w' : World} {b o n d : Nat} (h : RoomAt w b o n d) (hb : Below w.heap.size w w') : RoomAt w' b o n d := by
  have hlt := cell_lt h.nodes
  exact ⟨cell_later' hb h.nodes, cell_later' hb h.depth, by rw [hb.frozen (p := ⟨b, o, none⟩) hlt]; exact h.fr0, by rw [hb.frozen (p := ⟨b, o + 1, none⟩) hlt]; exact h.fr1⟩
theorem RoomAt.set {w : World} {b o n d : Nat} (h : RoomAt w b o n d) {n' d' : Nat} {x y : Int} (hx : x = n') (hy : y = d') :
    RoomAt ((w.setCell ⟨b, o, none⟩ (.int .i64 x)).setCell ⟨b, o + 1, none⟩ (.int .i64 y)) b o n' d' := by
  subst hx hy
  refine ⟨?_, ?_, ?_, ?_⟩
  · rw [World.cell?_setCell_other _ _ _ _ (by intro e; injection e with _ e2; omega), World.cell?_setCell_same _ _ _ h.nodes]
  · exact World.cell?_setCell_same _ _ _ (u := .int .i64 d) (by rw [World.cell?_setCell_other _ _ _ _ (by intro e; injection e with _ e2; omega)]; exact h.depth)
  · rw [World.frozen?_setCell, World.frozen?_setCell]; exact h.fr0
  · rw [World.frozen?_setCell, World.frozen?_setCell]; exact h.fr1
theorem RoomAt.setDepth {w : World} {b o n d : Nat} (h : RoomAt w b o n d) {d' : Nat} {y : Int} (hy : y = d') :
    RoomAt (w.setCell ⟨b, o + 1, none⟩ (.int .i64 y)) b o n d' := by
  subst hy
  refine ⟨?_, ?_, ?_, ?_⟩
  · rw [World.cell?_setCell_other _ _ _ _ (by intro e; injection e with _ e2; omega)]; exact h.nodes
  · exact World.cell?_setCell_same _ _ _ h.depth
  · rw [World.frozen?_setCell]; exact h.fr0
  · rw [World.frozen?_setCell]; exact h.fr1
theorem RoomAt.lt {w : World} {b o n d : Nat} (h : RoomAt w b o n d) : b < w.heap.size := cell_lt h.nodes
end Go.Proofs.Ytilbjlngnpmhcaa
