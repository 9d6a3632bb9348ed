/- A core program that lies in a box. -/
import Derived.Test.YtbclgmabidjegaaVisitsC
namespace Go.Proofs.Ytbclgmabidjegaa.CoreT
open Go.RowKit
set_option linter.unusedVariables false
theorem CItem.val_eq (x : CItem) : x.val = .agg #[.int .i64 x.f.kind, .int .i64 x.f.id, .string x.f.name, .int .i64 x.f.n, .slice x.i1 x.f.ids.length x.j1, .int .i64 x.f.data.kind, .string x.f.data.name, .int .i64 x.f.data.n, .slice x.s1 x.f.data.scopes.length x.t1, .slice x.k1 x.f.data.kids.length x.l1, .slice x.a x.f.kids.length x.cap] := rfl
theorem CItem.of {φ : Nat → Prop} {w : World} {f : Ck} {v : Value} (h : InC φ w f v) : ∃ x : CItem, x.f = f ∧ v = x.val ∧ InC φ w x.f x.val := by
  have h' := h
  obtain ⟨i1, j1, s1, t1, k1, l1, a, cap, rfl, _⟩ := h'.form
  exact ⟨⟨f, i1, j1, s1, t1, k1, l1, a, cap⟩, rfl, rfl, h⟩
/-- the eleven cells of a core program at the head of a block -/
def CoreBox (w : World) (b : Nat) (x : CItem) : Prop := w.cell? ⟨b, 0, none⟩ = some (.int .i64 x.f.kind) ∧ w.cell? ⟨b, 1, none⟩ = some (.int .i64 x.f.id) ∧ w.cell? ⟨b, 2, none⟩ = some (.string x.f.name) ∧ w.cell? ⟨b, 3, none⟩ = some (.int .i64 x.f.n) ∧ w.cell? ⟨b, 4, none⟩ = some (.slice x.i1 x.f.ids.length x.j1) ∧ w.cell? ⟨b, 5, none⟩ = some (.int .i64 x.f.data.kind) ∧ w.cell? ⟨b, 6, none⟩ = some (.string x.f.data.name) ∧ w.cell? ⟨b, 7, none⟩ = some (.int .i64 x.f.data.n) ∧ w.cell? ⟨b, 8, none⟩ = some (.slice x.s1 x.f.data.scopes.length x.t1) ∧ w.cell? ⟨b, 9, none⟩ = some (.slice x.k1 x.f.data.kids.length x.l1) ∧ w.cell? ⟨b, 10, none⟩ = some (.slice x.a x.f.kids.length x.cap)
theorem CoreBox.later {w w' : World} {b : Nat} {x : CItem} (h : CoreBox w b x) (hb : Below w.heap.size w w') : CoreBox w' b x := by
  obtain ⟨x0, x1, x2, x3, x4, x5, x6, x7, x8, x9, x10⟩ := h
  exact ⟨cell_later' hb x0, cell_later' hb x1, cell_later' hb x2, cell_later' hb x3, cell_later' hb x4, cell_later' hb x5, cell_later' hb x6, cell_later' hb x7, cell_later' hb x8, cell_later' hb x9, cell_later' hb x10⟩
theorem CoreBox.lt {w : World} {b : Nat} {x : CItem} (h : CoreBox w b x) : b < w.heap.size := cell_lt h.1
theorem CoreBox.fresh (w : World) (x : CItem) (t : TypeId) : CoreBox (w.alloc (.cells #[.int .i64 x.f.kind, .int .i64 x.f.id, .string x.f.name, .int .i64 x.f.n, .slice x.i1 x.f.ids.length x.j1, .int .i64 x.f.data.kind, .string x.f.data.name, .int .i64 x.f.data.n, .slice x.s1 x.f.data.scopes.length x.t1, .slice x.k1 x.f.data.kids.length x.l1, .slice x.a x.f.kids.length x.cap] t)) w.heap.size x := ⟨World.cell?_alloc_at _ _ _ _ rfl, World.cell?_alloc_at _ _ _ _ rfl, World.cell?_alloc_at _ _ _ _ rfl, World.cell?_alloc_at _ _ _ _ rfl, World.cell?_alloc_at _ _ _ _ rfl, World.cell?_alloc_at _ _ _ _ rfl, World.cell?_alloc_at _ _ _ _ rfl, World.cell?_alloc_at _ _ _ _ rfl, World.cell?_alloc_at _ _ _ _ rfl, World.cell?_alloc_at _ _ _ _ rfl, World.cell?_alloc_at _ _ _ _ rfl⟩
theorem CoreBox.only {bs : List Nat} {w w' : World} {b : Nat} {x : CItem} (h : CoreBox w b x) (ho : Only bs w w') (hn : b ∉ bs) : CoreBox w' b x := by
  have hb := ho.block b h.lt hn
  obtain ⟨x0, x1, x2, x3, x4, x5, x6, x7, x8, x9, x10⟩ := h
  exact ⟨(World.cell?_of_block (a := ⟨b, 0, none⟩) hb).trans x0, (World.cell?_of_block (a := ⟨b, 1, none⟩) hb).trans x1, (World.cell?_of_block (a := ⟨b, 2, none⟩) hb).trans x2, (World.cell?_of_block (a := ⟨b, 3, none⟩) hb).trans x3, (World.cell?_of_block (a := ⟨b, 4, none⟩) hb).trans x4, (World.cell?_of_block (a := ⟨b, 5, none⟩) hb).trans x5, (World.cell?_of_block (a := ⟨b, 6, none⟩) hb).trans x6, (World.cell?_of_block (a := ⟨b, 7, none⟩) hb).trans x7, (World.cell?_of_block (a := ⟨b, 8, none⟩) hb).trans x8, (World.cell?_of_block (a := ⟨b, 9, none⟩) hb).trans x9, (World.cell?_of_block (a := ⟨b, 10, none⟩) hb).trans x10⟩
end Go.Proofs.Ytbclgmabidjegaa.CoreT
