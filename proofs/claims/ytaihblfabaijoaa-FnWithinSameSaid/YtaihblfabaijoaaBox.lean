/- A form's cells in a block. -/
import Derived.Test.YtaihblfabaijoaaMaMark
namespace Go.Proofs.Ytaihblfabaijoaa
open Go.RowKit
/-- the five cells of a form at the head of a block -/
def FormBox (w : World) (b : Nat) (f : Fm) (sa : Option Addr) (scap : Nat) (a : Option Addr) (cap : Nat) : Prop :=
  w.cell? ⟨b, 0, none⟩ = some (.int .i64 f.kind) ∧ w.cell? ⟨b, 1, none⟩ = some (.string f.name) ∧ w.cell? ⟨b, 2, none⟩ = some (.int .i64 f.n) ∧
    w.cell? ⟨b, 3, none⟩ = some (.slice sa f.scopes.length scap) ∧ w.cell? ⟨b, 4, none⟩ = some (.slice a f.kids.length cap)
theorem FormBox.later {w w' : World} {b : Nat} {f : Fm} {sa a : Option Addr} {scap cap : Nat} (h : FormBox w b f sa scap a cap) (hb : Below w.heap.size w w') : FormBox w' b f sa scap a cap :=
  ⟨cell_later' hb h.1, cell_later' hb h.2.1, cell_later' hb h.2.2.1, cell_later' hb h.2.2.2.1, cell_later' hb h.2.2.2.2⟩
theorem FormBox.lt {w : World} {b : Nat} {f : Fm} {sa a : Option Addr} {scap cap : Nat} (h : FormBox w b f sa scap a cap) : b < w.heap.size := cell_lt h.1
theorem FormBox.fresh (w : World) (f : Fm) (sa a : Option Addr) (scap cap : Nat) (t : TypeId) :
    FormBox (w.alloc (.cells #[.int .i64 f.kind, .string f.name, .int .i64 f.n, .slice sa f.scopes.length scap, .slice a f.kids.length cap] t)) w.heap.size f sa scap a cap :=
  ⟨World.cell?_alloc_at _ _ _ _ rfl, World.cell?_alloc_at _ _ _ _ rfl, World.cell?_alloc_at _ _ _ _ rfl, World.cell?_alloc_at _ _ _ _ rfl, World.cell?_alloc_at _ _ _ _ rfl⟩
theorem below_alloc (w : World) (o : Obj) : Below w.heap.size w (w.alloc o) := (Below.refl _ w).alloc (Nat.le_refl _) _
theorem FormBox.only {bs : List Nat} {w w' : World} {b : Nat} {f : Fm} {sa a : Option Addr} {scap cap : Nat} (h : FormBox w b f sa scap a cap) (ho : Only bs w w') (hn : b ∉ bs) : FormBox w' b f sa scap a cap := by
  have hb := ho.block b h.lt hn
  exact ⟨(World.cell?_of_block (a := ⟨b, 0, none⟩) hb).trans h.1, (World.cell?_of_block (a := ⟨b, 1, none⟩) hb).trans h.2.1, (World.cell?_of_block (a := ⟨b, 2, none⟩) hb).trans h.2.2.1,
    (World.cell?_of_block (a := ⟨b, 3, none⟩) hb).trans h.2.2.2.1, (World.cell?_of_block (a := ⟨b, 4, none⟩) hb).trans h.2.2.2.2⟩
/-- two forms' cells -/
def TwoBox (b c : Nat) (f g : Fm) (sa a sa' a' : Option Addr) (scap cap scap' cap' : Nat) (w : World) : Prop := FormBox w b f sa scap a cap ∧ FormBox w c g sa' scap' a' cap'
theorem TwoBox.later {b c : Nat} {f g : Fm} {sa a sa' a' : Option Addr} {scap cap scap' cap' : Nat} {w w' : World} (h : TwoBox b c f g sa a sa' a' scap cap scap' cap' w) (hb : Below w.heap.size w w') :
    TwoBox b c f g sa a sa' a' scap cap scap' cap' w' := ⟨h.1.later hb, h.2.later hb⟩
theorem below_drew {w w' : World} (h : Below w.drew.heap.size w.drew w') : Below w.heap.size w w' := ((Below.refl w.heap.size w).drew).trans h
end Go.Proofs.Ytaihblfabaijoaa
