/- A hit that is built part by part, in blocks of its own. -/
import Derived.Test.YtkfolefeehggcaaHitKit
import Derived.Test.YtkfolefeehggcaaMids
namespace Go.Proofs.Ytkfolefeehggcaa.HO
open Go.RowKit
set_option linter.unusedVariables false
set_option linter.unusedSimpArgs false
def QV (w : World) (f : Fm) (v : Value) (bs : List Nat) : Prop := OwnV w f v bs ∧ AllPlain w bs
def QH (w : World) (x : Ht) (v : Value) (bs : List Nat) : Prop := OwnH w x v bs ∧ AllPlain w bs
theorem QV.later {w w' : World} {f : Fm} {v : Value} {bs : List Nat} (hs : SameOn bs w w') (h : QV w f v bs) : QV w' f v bs := ⟨OwnV.later _ _ _ hs h.1, h.2.same hs⟩
theorem QH.later {w w' : World} {x : Ht} {v : Value} {bs : List Nat} (hs : SameOn bs w w') (h : QH w x v bs) : QH w' x v bs := ⟨OwnH.later _ _ _ hs h.1, h.2.same hs⟩
/-- a row's cells that read as hits -/
def RowQ (w : World) : List Ht → List Value → List Nat → Prop
  | [], xs, bs => xs = [] ∧ bs = []
  | x :: r, xs, bs => ∃ c0 c1 c2 c3 c4 c5 c6 c7 c8 c9 c10 c11 t b1 b2, xs = c0 :: c1 :: c2 :: c3 :: c4 :: c5 :: c6 :: c7 :: c8 :: c9 :: c10 :: c11 :: t ∧ bs = b1 ++ b2 ∧ QH w x (.agg #[c0, c1, c2, c3, c4, c5, c6, c7, c8, c9, c10, c11]) b1 ∧ RowQ w r t b2
theorem RowQ.keep {w w' : World} : ∀ {gs : List Ht} {xs : List Value} {bs : List Nat}, SameOn bs w w' → RowQ w gs xs bs → RowQ w' gs xs bs
  | [], _, _, _, h => h
  | x :: r, xs, bs, hs, h => by
    obtain ⟨c0, c1, c2, c3, c4, c5, c6, c7, c8, c9, c10, c11, t, b1, b2, e, rfl, h1, h2⟩ := h
    exact ⟨c0, c1, c2, c3, c4, c5, c6, c7, c8, c9, c10, c11, t, b1, b2, e, rfl, h1.later hs.left, RowQ.keep hs.right h2⟩
theorem RowQ.snoc {w : World} {x : Ht} {bx : List Nat} {d0 d1 d2 d3 d4 d5 d6 d7 d8 d9 d10 d11 : Value} (hx : QH w x (.agg #[d0, d1, d2, d3, d4, d5, d6, d7, d8, d9, d10, d11]) bx) : ∀ {gs : List Ht} {xs : List Value} {bs : List Nat}, RowQ w gs xs bs → RowQ w (gs ++ [x]) (xs ++ [d0, d1, d2, d3, d4, d5, d6, d7, d8, d9, d10, d11]) (bs ++ bx)
  | [], xs, bs, h => by
    obtain ⟨rfl, rfl⟩ := h
    exact ⟨d0, d1, d2, d3, d4, d5, d6, d7, d8, d9, d10, d11, [], bx, [], rfl, by simp, hx, rfl, rfl⟩
  | g :: r, xs, bs, h => by
    obtain ⟨c0, c1, c2, c3, c4, c5, c6, c7, c8, c9, c10, c11, t, b1, b2, rfl, rfl, h1, h2⟩ := h
    exact ⟨c0, c1, c2, c3, c4, c5, c6, c7, c8, c9, c10, c11, t ++ [d0, d1, d2, d3, d4, d5, d6, d7, d8, d9, d10, d11], b1, b2 ++ bx, rfl, by simp, h1, RowQ.snoc hx h2⟩
theorem RowQ.row {w : World} {b : Nat} (hf : ∀ i, w.frozen? ⟨b, i, none⟩ = false) : ∀ {gs : List Ht} {xs : List Value} {bs : List Nat} {off : Nat}, RowQ w gs xs bs → (∀ j u, xs[j]? = some u → w.cell? ⟨b, off + j, none⟩ = some u) → RowOwnH w b off gs bs
  | [], xs, bs, off, h, _ => by unfold RowOwnH; exact h.2
  | g :: r, xs, bs, off, h, hc => by
    obtain ⟨c0, c1, c2, c3, c4, c5, c6, c7, c8, c9, c10, c11, t, b1, b2, rfl, rfl, h1, h2⟩ := h
    unfold RowOwnH
    exact ⟨b1, b2, rfl, ⟨c0, c1, c2, c3, c4, c5, c6, c7, c8, c9, c10, c11, hc 0 _ rfl, hc 1 _ rfl, hc 2 _ rfl, hc 3 _ rfl, hc 4 _ rfl, hc 5 _ rfl, hc 6 _ rfl, hc 7 _ rfl, hc 8 _ rfl, hc 9 _ rfl, hc 10 _ rfl, hc 11 _ rfl, fun i _ => hf _, h1.1⟩, RowQ.row hf h2 fun j u hj => by
      have := hc (j + 12) u (by simpa using hj)
      rw [show off + (j + 12) = off + 12 + j by omega] at this
      exact this⟩
theorem RowQ.plain {w : World} : ∀ {gs : List Ht} {xs : List Value} {bs : List Nat}, RowQ w gs xs bs → AllPlain w bs
  | [], _, _, h => by rw [h.2]; exact AllPlain.nil w
  | g :: r, xs, bs, h => by
    obtain ⟨c0, c1, c2, c3, c4, c5, c6, c7, c8, c9, c10, c11, t, b1, b2, rfl, rfl, h1, h2⟩ := h
    exact h1.2.append (RowQ.plain h2)
/-- the first eleven cells of a box -/
def Head (w : World) (b : Nat) (h0 h1 h2 h3 h4 h5 h6 h7 h8 h9 h10 : Value) : Prop := w.cell? ⟨b, 0, none⟩ = some h0 ∧ w.cell? ⟨b, 1, none⟩ = some h1 ∧ w.cell? ⟨b, 2, none⟩ = some h2 ∧ w.cell? ⟨b, 3, none⟩ = some h3 ∧ w.cell? ⟨b, 4, none⟩ = some h4 ∧ w.cell? ⟨b, 5, none⟩ = some h5 ∧ w.cell? ⟨b, 6, none⟩ = some h6 ∧ w.cell? ⟨b, 7, none⟩ = some h7 ∧ w.cell? ⟨b, 8, none⟩ = some h8 ∧ w.cell? ⟨b, 9, none⟩ = some h9 ∧ w.cell? ⟨b, 10, none⟩ = some h10
theorem Head.keep {w w' : World} {b : Nat} {h0 h1 h2 h3 h4 h5 h6 h7 h8 h9 h10 : Value} (h : Head w b h0 h1 h2 h3 h4 h5 h6 h7 h8 h9 h10) (hs : ∀ i, i < 11 → w'.cell? ⟨b, i, none⟩ = w.cell? ⟨b, i, none⟩) : Head w' b h0 h1 h2 h3 h4 h5 h6 h7 h8 h9 h10 := by
  obtain ⟨x0, x1, x2, x3, x4, x5, x6, x7, x8, x9, x10⟩ := h
  exact ⟨(hs 0 (by omega)).trans x0, (hs 1 (by omega)).trans x1, (hs 2 (by omega)).trans x2, (hs 3 (by omega)).trans x3, (hs 4 (by omega)).trans x4, (hs 5 (by omega)).trans x5, (hs 6 (by omega)).trans x6, (hs 7 (by omega)).trans x7, (hs 8 (by omega)).trans x8, (hs 9 (by omega)).trans x9, (hs 10 (by omega)).trans x10⟩
/-- all twelve cells of a box -/
def PBox (w : World) (b : Nat) (c0 c1 c2 c3 c4 c5 c6 c7 c8 c9 c10 c11 : Value) : Prop := w.cell? ⟨b, 0, none⟩ = some c0 ∧ w.cell? ⟨b, 1, none⟩ = some c1 ∧ w.cell? ⟨b, 2, none⟩ = some c2 ∧ w.cell? ⟨b, 3, none⟩ = some c3 ∧ w.cell? ⟨b, 4, none⟩ = some c4 ∧ w.cell? ⟨b, 5, none⟩ = some c5 ∧ w.cell? ⟨b, 6, none⟩ = some c6 ∧ w.cell? ⟨b, 7, none⟩ = some c7 ∧ w.cell? ⟨b, 8, none⟩ = some c8 ∧ w.cell? ⟨b, 9, none⟩ = some c9 ∧ w.cell? ⟨b, 10, none⟩ = some c10 ∧ w.cell? ⟨b, 11, none⟩ = some c11
theorem PBox.keep {w w' : World} {b : Nat} {c0 c1 c2 c3 c4 c5 c6 c7 c8 c9 c10 c11 : Value} (h : PBox w b c0 c1 c2 c3 c4 c5 c6 c7 c8 c9 c10 c11) (hs : w'.heap[b]? = w.heap[b]?) : PBox w' b c0 c1 c2 c3 c4 c5 c6 c7 c8 c9 c10 c11 := by
  obtain ⟨x0, x1, x2, x3, x4, x5, x6, x7, x8, x9, x10, x11⟩ := h
  exact ⟨(World.cell?_of_block (a := ⟨b, 0, none⟩) hs).trans x0, (World.cell?_of_block (a := ⟨b, 1, none⟩) hs).trans x1, (World.cell?_of_block (a := ⟨b, 2, none⟩) hs).trans x2, (World.cell?_of_block (a := ⟨b, 3, none⟩) hs).trans x3, (World.cell?_of_block (a := ⟨b, 4, none⟩) hs).trans x4, (World.cell?_of_block (a := ⟨b, 5, none⟩) hs).trans x5, (World.cell?_of_block (a := ⟨b, 6, none⟩) hs).trans x6, (World.cell?_of_block (a := ⟨b, 7, none⟩) hs).trans x7, (World.cell?_of_block (a := ⟨b, 8, none⟩) hs).trans x8, (World.cell?_of_block (a := ⟨b, 9, none⟩) hs).trans x9, (World.cell?_of_block (a := ⟨b, 10, none⟩) hs).trans x10, (World.cell?_of_block (a := ⟨b, 11, none⟩) hs).trans x11⟩
theorem PBox.later {w w' : World} {b : Nat} {c0 c1 c2 c3 c4 c5 c6 c7 c8 c9 c10 c11 : Value} (h : PBox w b c0 c1 c2 c3 c4 c5 c6 c7 c8 c9 c10 c11) (hb : Below w.heap.size w w') : PBox w' b c0 c1 c2 c3 c4 c5 c6 c7 c8 c9 c10 c11 := h.keep (hb.block b (cell_lt h.1))
/-- twelve cells of a row -/
def PRow (w : World) (b o : Nat) (c0 c1 c2 c3 c4 c5 c6 c7 c8 c9 c10 c11 : Value) : Prop := w.cell? ⟨b, o, none⟩ = some c0 ∧ w.cell? ⟨b, o + 1, none⟩ = some c1 ∧ w.cell? ⟨b, o + 2, none⟩ = some c2 ∧ w.cell? ⟨b, o + 3, none⟩ = some c3 ∧ w.cell? ⟨b, o + 4, none⟩ = some c4 ∧ w.cell? ⟨b, o + 5, none⟩ = some c5 ∧ w.cell? ⟨b, o + 6, none⟩ = some c6 ∧ w.cell? ⟨b, o + 7, none⟩ = some c7 ∧ w.cell? ⟨b, o + 8, none⟩ = some c8 ∧ w.cell? ⟨b, o + 9, none⟩ = some c9 ∧ w.cell? ⟨b, o + 10, none⟩ = some c10 ∧ w.cell? ⟨b, o + 11, none⟩ = some c11
theorem PRow.keep {w w' : World} {b o : Nat} {c0 c1 c2 c3 c4 c5 c6 c7 c8 c9 c10 c11 : Value} (h : PRow w b o c0 c1 c2 c3 c4 c5 c6 c7 c8 c9 c10 c11) (hs : w'.heap[b]? = w.heap[b]?) : PRow w' b o c0 c1 c2 c3 c4 c5 c6 c7 c8 c9 c10 c11 := by
  obtain ⟨x0, x1, x2, x3, x4, x5, x6, x7, x8, x9, x10, x11⟩ := h
  exact ⟨(World.cell?_of_block (a := ⟨b, o, none⟩) hs).trans x0, (World.cell?_of_block (a := ⟨b, o + 1, none⟩) hs).trans x1, (World.cell?_of_block (a := ⟨b, o + 2, none⟩) hs).trans x2, (World.cell?_of_block (a := ⟨b, o + 3, none⟩) hs).trans x3, (World.cell?_of_block (a := ⟨b, o + 4, none⟩) hs).trans x4, (World.cell?_of_block (a := ⟨b, o + 5, none⟩) hs).trans x5, (World.cell?_of_block (a := ⟨b, o + 6, none⟩) hs).trans x6, (World.cell?_of_block (a := ⟨b, o + 7, none⟩) hs).trans x7, (World.cell?_of_block (a := ⟨b, o + 8, none⟩) hs).trans x8, (World.cell?_of_block (a := ⟨b, o + 9, none⟩) hs).trans x9, (World.cell?_of_block (a := ⟨b, o + 10, none⟩) hs).trans x10, (World.cell?_of_block (a := ⟨b, o + 11, none⟩) hs).trans x11⟩
theorem PRow.lt {w : World} {b o : Nat} {c0 c1 c2 c3 c4 c5 c6 c7 c8 c9 c10 c11 : Value} (h : PRow w b o c0 c1 c2 c3 c4 c5 c6 c7 c8 c9 c10 c11) : b < w.heap.size := cell_lt h.1
/-- between two rounds -/
structure MadeH (w wr : World) (pb rb ob base : Nat) (a : Option Addr) (cap m : Nat) (nm : Fm) (d : Int) (one : Fm) (p0 : Option Addr) (p1 : Nat) (p2 : Option Addr) (p3 : Nat) (p4 : Option Addr) (p5 : Nat) (p6 : Option Addr) (p7 : Nat) (bA bC : List Nat) (gs : List Ht) (v : Value) (xs : List Value) (bs : List Nat) : Prop where
  par : wr.cell? ⟨pb, 11, none⟩ = some (.slice a m cap)
  zero : wr.heap[rb]? = some (.cells #[.int .i64 0, .string { data := #[] }, .int .i64 0, .slice none 0 0, .slice none 0 0, .int .i64 0, .int .i64 0, .string { data := #[] }, .int .i64 0, .slice none 0 0, .slice none 0 0, .slice none 0 0] 38 (0, 0))
  head : Head wr ob (.int .i64 nm.kind) (.string nm.name) (.int .i64 nm.n) (.slice p0 nm.scopes.length p1) (.slice p2 nm.kids.length p3) (.int .i64 d) (.int .i64 one.kind) (.string one.name) (.int .i64 one.n) (.slice p4 one.scopes.length p5) (.slice p6 one.kids.length p7)
  last : wr.cell? ⟨ob, 11, none⟩ = some v
  free : ∀ i, wr.frozen? ⟨ob, i, none⟩ = false
  own : wr.ownsRow base 38 12 v gs.length xs
  vals : RowQ wr gs xs bs
  new : NewBs bs base wr.heap.size
  off : ∀ b ∈ bs, v.ownBlock ≠ some b
  nmq : QV wr nm (.agg #[.int .i64 nm.kind, .string nm.name, .int .i64 nm.n, .slice p0 nm.scopes.length p1, .slice p2 nm.kids.length p3]) bA
  oneq : QV wr one (.agg #[.int .i64 one.kind, .string one.name, .int .i64 one.n, .slice p4 one.scopes.length p5, .slice p6 one.kids.length p7]) bC
  nb : (bA ++ bC).Nodup
  lo : ∀ c ∈ bA ++ bC, w.heap.size ≤ c ∧ c < base ∧ c ≠ ob ∧ c ≠ rb
  below : Below w.heap.size w wr
  size : base ≤ wr.heap.size
  fix : w.heap.size ≤ pb ∧ w.heap.size ≤ rb ∧ w.heap.size ≤ ob ∧ pb < base ∧ rb < base ∧ ob < base ∧ pb ≠ ob ∧ rb ≠ ob
theorem MadeH.begin {w V : World} {ob : Nat} {a : Option Addr} {cap m : Nat} {nm : Fm} {d : Int} {one : Fm} {p0 : Option Addr} {p1 : Nat} {p2 : Option Addr} {p3 : Nat} {p4 : Option Addr} {p5 : Nat} {p6 : Option Addr} {p7 : Nat} {bA bC : List Nat} {lA hA lC hC : Nat} (hb : Below w.heap.size w V) (hs : w.heap.size + 2 ≤ V.heap.size)
    (hpar : V.cell? ⟨w.heap.size, 11, none⟩ = some (.slice a m cap)) (hzero : V.heap[w.heap.size + 1]? = some (.cells #[.int .i64 0, .string { data := #[] }, .int .i64 0, .slice none 0 0, .slice none 0 0, .int .i64 0, .int .i64 0, .string { data := #[] }, .int .i64 0, .slice none 0 0, .slice none 0 0, .slice none 0 0] 38 (0, 0))) (hob : V.heap[ob]? = some (.cells #[.int .i64 0, .string { data := #[] }, .int .i64 0, .slice none 0 0, .slice none 0 0, .int .i64 0, .int .i64 0, .string { data := #[] }, .int .i64 0, .slice none 0 0, .slice none 0 0, .slice none 0 0] 38 (0, 0))) (hobr : w.heap.size + 2 ≤ ob)
    (hn : QV V nm (.agg #[.int .i64 nm.kind, .string nm.name, .int .i64 nm.n, .slice p0 nm.scopes.length p1, .slice p2 nm.kids.length p3]) bA) (ho : QV V one (.agg #[.int .i64 one.kind, .string one.name, .int .i64 one.n, .slice p4 one.scopes.length p5, .slice p6 one.kids.length p7]) bC) (hA1 : NewBs bA lA hA) (hC1 : NewBs bC lC hC) (hA2 : w.heap.size + 2 ≤ lA ∧ hA ≤ V.heap.size) (hC2 : w.heap.size + 2 ≤ lC ∧ hC ≤ V.heap.size) (hAC : hA ≤ lC ∨ hC ≤ lA) (hAo : ob < lA ∨ hA ≤ ob) (hCo : ob < lC ∨ hC ≤ ob) :
    MadeH w (sets V ob 0 [Value.int .i64 nm.kind, Value.string nm.name, Value.int .i64 nm.n, Value.slice p0 nm.scopes.length p1, Value.slice p2 nm.kids.length p3, Value.int .i64 d, Value.int .i64 one.kind, Value.string one.name, Value.int .i64 one.n, Value.slice p4 one.scopes.length p5, Value.slice p6 one.kids.length p7, .slice none 0 0]) w.heap.size (w.heap.size + 1) ob V.heap.size a cap m nm d one p0 p1 p2 p3 p4 p5 p6 p7 bA bC [] (.slice none 0 0) [] [] := by
  have hobl : ob < V.heap.size := (Array.getElem?_eq_some_iff.1 hob).1
  have hth : ∀ j, j < [Value.int .i64 nm.kind, Value.string nm.name, Value.int .i64 nm.n, Value.slice p0 nm.scopes.length p1, Value.slice p2 nm.kids.length p3, Value.int .i64 d, Value.int .i64 one.kind, Value.string one.name, Value.int .i64 one.n, Value.slice p4 one.scopes.length p5, Value.slice p6 one.kids.length p7, Value.slice none 0 0].length → ∃ v, V.cell? ⟨ob, 0 + j, none⟩ = some v := fun j hj => by
    rw [Nat.zero_add, cell_of_row V ob j _ _ _ hob]
    have hj' : j < 12 := hj
    match j, hj' with
    | 0, _ => exact ⟨_, rfl⟩
    | 1, _ => exact ⟨_, rfl⟩
    | 2, _ => exact ⟨_, rfl⟩
    | 3, _ => exact ⟨_, rfl⟩
    | 4, _ => exact ⟨_, rfl⟩
    | 5, _ => exact ⟨_, rfl⟩
    | 6, _ => exact ⟨_, rfl⟩
    | 7, _ => exact ⟨_, rfl⟩
    | 8, _ => exact ⟨_, rfl⟩
    | 9, _ => exact ⟨_, rfl⟩
    | 10, _ => exact ⟨_, rfl⟩
    | 11, _ => exact ⟨_, rfl⟩
  have hin := sets_in ob [Value.int .i64 nm.kind, Value.string nm.name, Value.int .i64 nm.n, Value.slice p0 nm.scopes.length p1, Value.slice p2 nm.kids.length p3, Value.int .i64 d, Value.int .i64 one.kind, Value.string one.name, Value.int .i64 one.n, Value.slice p4 one.scopes.length p5, Value.slice p6 one.kids.length p7, Value.slice none 0 0] V 0 hth
  have hne : ∀ k, k ≠ ob → (sets V ob 0 [Value.int .i64 nm.kind, Value.string nm.name, Value.int .i64 nm.n, Value.slice p0 nm.scopes.length p1, Value.slice p2 nm.kids.length p3, Value.int .i64 d, Value.int .i64 one.kind, Value.string one.name, Value.int .i64 one.n, Value.slice p4 one.scopes.length p5, Value.slice p6 one.kids.length p7, .slice none 0 0]).heap[k]? = V.heap[k]? := fun k hk => sets_block ob _ V 0 hk
  have hpl : Plain V ob := ⟨_, _, hob⟩
  have hsz := sets_size ob [Value.int .i64 nm.kind, Value.string nm.name, Value.int .i64 nm.n, Value.slice p0 nm.scopes.length p1, Value.slice p2 nm.kids.length p3, Value.int .i64 d, Value.int .i64 one.kind, Value.string one.name, Value.int .i64 one.n, Value.slice p4 one.scopes.length p5, Value.slice p6 one.kids.length p7, Value.slice none 0 0] V 0
  have hse : ∀ bs : List Nat, (∀ c ∈ bs, c ≠ ob) → SameOn bs V (sets V ob 0 [Value.int .i64 nm.kind, Value.string nm.name, Value.int .i64 nm.n, Value.slice p0 nm.scopes.length p1, Value.slice p2 nm.kids.length p3, Value.int .i64 d, Value.int .i64 one.kind, Value.string one.name, Value.int .i64 one.n, Value.slice p4 one.scopes.length p5, Value.slice p6 one.kids.length p7, .slice none 0 0]) := fun bs h c hc => hne c (h c hc)
  refine ⟨?_, ?_, ⟨by have := hin 0 (by simp); simpa using this, by have := hin 1 (by simp); simpa using this, by have := hin 2 (by simp); simpa using this, by have := hin 3 (by simp); simpa using this, by have := hin 4 (by simp); simpa using this, by have := hin 5 (by simp); simpa using this, by have := hin 6 (by simp); simpa using this, by have := hin 7 (by simp); simpa using this, by have := hin 8 (by simp); simpa using this, by have := hin 9 (by simp); simpa using this, by have := hin 10 (by simp); simpa using this⟩, by have := hin 11 (by simp); simpa using this, ?_, World.ownsRow_nil _ _ _ _, ⟨rfl, rfl⟩, NewBs.nil _ _, by simp, ?_, ?_, ?_, ?_, sets_below (by omega) _ _ hb, by rw [hsz]; exact Nat.le_refl _, by omega⟩
  · rw [World.cell?_of_block (a := ⟨w.heap.size, 11, none⟩) (hne w.heap.size (by omega))]; exact hpar
  · rw [hne _ (by omega)]; exact hzero
  · intro i; rw [sets_frozen]; exact hpl.frozen i
  · exact hn.later (hse _ (fun c hc => by have := hA1.2 c hc; omega))
  · exact ho.later (hse _ (fun c hc => by have := hC1.2 c hc; omega))
  · exact List.nodup_append.2 ⟨hA1.1, hC1.1, fun x hx y hy e => by have h1 := hA1.2 x hx; have h2 := hC1.2 y hy; omega⟩
  · intro c hc
    rcases List.mem_append.1 hc with h | h
    · have := hA1.2 c h; omega
    · have := hC1.2 c h; omega
theorem MadeH.step {w wr w2 w3 : World} {pb rb ob base : Nat} {a : Option Addr} {cap m : Nat} {nm : Fm} {d : Int} {one : Fm} {p0 : Option Addr} {p1 : Nat} {p2 : Option Addr} {p3 : Nat} {p4 : Option Addr} {p5 : Nat} {p6 : Option Addr} {p7 : Nat} {bA bC : List Nat} {gs : List Ht} {v : Value} {xs : List Value} {bs bx : List Nat} {g : Ht} {d0 d1 d2 d3 d4 d5 d6 d7 d8 d9 d10 d11 : Value} {gq qd : Nat}
    (h : MadeH w wr pb rb ob base a cap m nm d one p0 p1 p2 p3 p4 p5 p6 p7 bA bC gs v xs bs) (hbA : Below wr.heap.size wr w2) (hin : QH w2 g (.agg #[d0, d1, d2, d3, d4, d5, d6, d7, d8, d9, d10, d11]) bx) (hnx : NewBs bx wr.heap.size w2.heap.size)
    (hown : w3.ownsRow base 38 12 (.slice (some ⟨gq, 0, none⟩) (gs.length + 1) qd) (gs.length + 1) (xs ++ [d0, d1, d2, d3, d4, d5, d6, d7, d8, d9, d10, d11])) (hgrow : w2.grownBy w3 v.ownBlock) (hat : v.ownBlock = some gq ∨ gq = w2.heap.size) :
    MadeH w (w3.setCell ⟨ob, 11, none⟩ (.slice (some ⟨gq, 0, none⟩) (gs.length + 1) qd)) pb rb ob base a cap m nm d one p0 p1 p2 p3 p4 p5 p6 p7 bA bC (gs ++ [g]) (.slice (some ⟨gq, 0, none⟩) (gs.length + 1) qd) (xs ++ [d0, d1, d2, d3, d4, d5, d6, d7, d8, d9, d10, d11]) (bs ++ bx) := by
  obtain ⟨f1, f2, f3, f4, f5, f6, f7, f8⟩ := h.fix
  have hsz := h.size
  have hs12 := hbA.size
  have hs23 := hgrow.size
  have hvb : ∀ k, v.ownBlock = some k → base ≤ k ∧ k < wr.heap.size := fun k e => h.own.lt k e
  have hset : (w3.setCell ⟨ob, 11, none⟩ (.slice (some ⟨gq, 0, none⟩) (gs.length + 1) qd)).heap.size = w3.heap.size := by simp [World.setCell]
  have hold : ∀ k, k < wr.heap.size → v.ownBlock ≠ some k → k ≠ ob → (w3.setCell ⟨ob, 11, none⟩ (.slice (some ⟨gq, 0, none⟩) (gs.length + 1) qd)).heap[k]? = wr.heap[k]? := fun k h1 h2 h3 => by
    rw [Below.heap_setCell _ _ _ _ h3, hgrow.block k (by omega) (Ne.symm h2)]
    exact hbA.block k h1
  have hob : ∀ i, w3.cell? ⟨ob, i, none⟩ = wr.cell? ⟨ob, i, none⟩ := fun i =>
    (World.cell?_of_block (a := ⟨ob, i, none⟩) (hgrow.block ob (by omega) (fun e => by have := hvb ob e.symm; omega))).trans (World.cell?_of_block (a := ⟨ob, i, none⟩) (hbA.block ob (by omega)))
  have hgq : gq ≠ ob := by
    rcases hat with e | e
    · have := hvb gq e; omega
    · omega
  have hlow : ∀ k, k < base → v.ownBlock ≠ some k := fun k hk e => by have := hvb k e; omega
  have hgqv : ∀ k, k < w2.heap.size → v.ownBlock ≠ some k → (Value.slice (some ⟨gq, 0, none⟩) (gs.length + 1) qd).ownBlock ≠ some k := fun k hk hv e => by
    simp only [Value.ownBlock, Option.some.injEq] at e
    subst e
    rcases hat with e | e
    · exact hv e
    · omega
  have hnew := h.new
  refine ⟨?_, ?_, h.head.keep (fun i hi => by rw [World.cell?_setCell_other _ _ _ _ (addr_ne (by omega)), hob]), ?_, ?_, ?_, ?_, ?_, ?_, ?_, ?_, h.nb, h.lo, ?_, by rw [hset]; omega, h.fix⟩
  · rw [World.cell?_of_block (a := ⟨pb, 11, none⟩) (hold pb (by omega) (hlow pb f4) f7)]; exact h.par
  · rw [hold rb (by omega) (hlow rb f5) f8]; exact h.zero
  · exact World.cell?_setCell_same _ _ _ ((hob 11).trans h.last)
  · intro i
    rw [World.frozen?_setCell]
    exact ((World.frozen?_of_block (a := ⟨ob, i, none⟩) (hgrow.block ob (by omega) (fun e => by have := hvb ob e.symm; omega))).trans (World.frozen?_of_block (a := ⟨ob, i, none⟩) (hbA.block ob (by omega)))).trans (h.free i)
  · rw [List.length_append, List.length_singleton]
    exact ownsRow_setFar hown hgq
  · refine RowQ.snoc (hin.later (fun c hc => ?_)) (h.vals.keep (fun c hc => hold c (hnew.2 c hc).2 (h.off c hc) (by have := hnew.2 c hc; omega)))
    have := hnx.2 c hc
    rw [Below.heap_setCell _ _ _ _ (show c ≠ ob by omega), hgrow.block c (by omega) (fun e => by have := hvb c e.symm; omega)]
  · refine ⟨List.nodup_append.2 ⟨hnew.1, hnx.1, fun x hx y hy e => by have h1 := hnew.2 x hx; have h2 := hnx.2 y hy; omega⟩, fun b hb => ?_⟩
    rw [hset]
    rcases List.mem_append.1 hb with hb | hb
    · have := hnew.2 b hb; omega
    · have := hnx.2 b hb; omega
  · intro b hb
    rcases List.mem_append.1 hb with hb | hb
    · exact hgqv b (by have := hnew.2 b hb; omega) (h.off b hb)
    · exact hgqv b (hnx.2 b hb).2 (fun e => by have := hvb b e; have := hnx.2 b hb; omega)
  · exact h.nmq.later (fun c hc => hold c (by have := h.lo c (by simp [hc]); omega) (hlow c (by have := h.lo c (by simp [hc]); omega)) (h.lo c (by simp [hc])).2.2.1)
  · exact h.oneq.later (fun c hc => hold c (by have := h.lo c (by simp [hc]); omega) (hlow c (by have := h.lo c (by simp [hc]); omega)) (h.lo c (by simp [hc])).2.2.1)
  · exact (h.below.trans ((hbA.mono (by omega)).grown hgrow (by omega) (fun k hk => by have := hvb k hk; omega))).setCell (p := ⟨ob, 11, none⟩) f3 _
/-- at the end: what the hit reads as -/
theorem MadeH.ends {w wr : World} {pb rb ob base : Nat} {a : Option Addr} {cap m : Nat} {nm : Fm} {d : Int} {one : Fm} {p0 : Option Addr} {p1 : Nat} {p2 : Option Addr} {p3 : Nat} {p4 : Option Addr} {p5 : Nat} {p6 : Option Addr} {p7 : Nat} {bA bC : List Nat} {gs : List Ht} {v : Value} {xs : List Value} {bs : List Nat}
    (h : MadeH w wr pb rb ob base a cap m nm d one p0 p1 p2 p3 p4 p5 p6 p7 bA bC gs v xs bs) (hd : -9223372036854775808 ≤ d ∧ d ≤ 9223372036854775807) :
    ∃ ba, QH wr (.mk nm d one gs) (.agg #[.int .i64 nm.kind, .string nm.name, .int .i64 nm.n, .slice p0 nm.scopes.length p1, .slice p2 nm.kids.length p3, .int .i64 d, .int .i64 one.kind, .string one.name, .int .i64 one.n, .slice p4 one.scopes.length p5, .slice p6 one.kids.length p7, v]) ba ∧ NewBs ba w.heap.size wr.heap.size ∧ rb ∉ ba := by
  obtain ⟨f1, f2, f3, f4, f5, f6, f7, f8⟩ := h.fix
  have hsz := h.size
  have hnew := h.new
  rcases h.own.2 with ⟨e, h0⟩ | ⟨g, cp, cur, e, hb, hg, hnc, hcm, _⟩
  · have hgs : gs = [] := List.length_eq_zero_iff.1 h0
    subst hgs
    subst e
    refine ⟨bA ++ bC ++ [], ?_, ⟨by rw [List.append_nil]; exact h.nb, fun c hc => by have := h.lo c (by simpa using hc); omega⟩, fun hm => (h.lo rb (by simpa using hm)).2.2.2 rfl⟩
    refine ⟨?_, ?_⟩
    · unfold OwnH
      exact ⟨p0, p1, p2, p3, p4, p5, p6, p7, none, 0, bA, bC, [], by rfl, hd, h.nmq.1, h.oneq.1, Nat.le_refl _, Nat.zero_le _, rfl, .inl ⟨rfl, rfl⟩⟩
    · rw [List.append_nil]; exact h.nmq.2.append h.oneq.2
  · have hgl : g < wr.heap.size := (Array.getElem?_eq_some_iff.1 hg).1
    have hpl : Plain wr g := ⟨_, _, hg⟩
    have hrow := RowQ.row (b := g) (off := 0) (fun i => hpl.frozen i) h.vals (fun j u hj => by
      have := h.own.cells (g := g) (by rw [e]; rfl) j u hj
      unfold Addr.add at this
      split at this <;> simp_all)
    have hgo : v.ownBlock = some g := by rw [e]; rfl
    refine ⟨bA ++ bC ++ (g :: bs), ?_, ⟨?_, ?_⟩, ?_⟩
    · refine ⟨?_, (h.nmq.2.append h.oneq.2).append (AllPlain.cons hpl h.vals.plain)⟩
      unfold OwnH
      exact ⟨p0, p1, p2, p3, p4, p5, p6, p7, some ⟨g, 0, none⟩, cp, bA, bC, g :: bs, by rw [e], hd, h.nmq.1, h.oneq.1, hnc, hcm, rfl, .inr ⟨g, 0, bs, rfl, rfl, hrow⟩⟩
    · refine List.nodup_append.2 ⟨h.nb, List.nodup_cons.2 ⟨fun hm => h.off g hm hgo, hnew.1⟩, fun x hx y hy e => ?_⟩
      have h1 := h.lo x hx
      rcases List.mem_cons.1 hy with rfl | hy
      · omega
      · have := hnew.2 y hy; omega
    · intro c hc
      rcases List.mem_append.1 hc with hc | hc
      · have := h.lo c hc; omega
      · rcases List.mem_cons.1 hc with rfl | hc
        · omega
        · have := hnew.2 c hc; omega
    · intro hm
      rcases List.mem_append.1 hm with hc | hc
      · exact (h.lo rb hc).2.2.2 rfl
      · rcases List.mem_cons.1 hc with rfl | hc
        · omega
        · have := hnew.2 rb hc; omega
end Go.Proofs.Ytkfolefeehggcaa.HO
