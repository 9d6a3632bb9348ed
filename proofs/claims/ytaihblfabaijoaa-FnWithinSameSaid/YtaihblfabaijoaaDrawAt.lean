/- The source of draws: where it lies, and what a step of it leaves. -/
import Derived.Test.YtaihblfabaijoaaFirst
namespace Go.Proofs.Ytaihblfabaijoaa
open Go.RowKit
set_option linter.unusedVariables false
set_option linter.unusedSimpArgs false
/-- bytes that came in -/
def ByteRow (φ : Nat → Prop) (w : World) (a : Option Addr) (n : Nat) : Prop :=
  n = 0 ∨ ∃ c off, a = some ⟨c, off, none⟩ ∧ φ c ∧ ∀ i, i < n → ∃ x : Int, 0 ≤ x ∧ x < 256 ∧ w.cell? ⟨c, off + i, none⟩ = some (.int .u8 x)
theorem ByteRow.later {φ ψ : Nat → Prop} {w w' : World} {a : Option Addr} {n : Nat} (hs : Same φ w w') (hm : ∀ k, φ k → ψ k) (h : ByteRow φ w a n) : ByteRow ψ w' a n := by
  rcases h with h | ⟨c, off, e, hc, hr⟩
  · exact .inl h
  · exact .inr ⟨c, off, e, hm c hc, fun i hi => by rw [hs.cell hc]; exact hr i hi⟩
theorem ByteRow.less {φ : Nat → Prop} {w : World} {a : Option Addr} {n m : Nat} (h : ByteRow φ w a n) (hm : m ≤ n) : ByteRow φ w a m := by
  rcases h with h | ⟨c, off, e, hc, hr⟩
  · exact .inl (by omega)
  · exact .inr ⟨c, off, e, hc, fun i hi => hr i (by omega)⟩
/-- the source: its bytes, and how many have been drawn -/
def Rd (w : World) (b : Nat) (p : Nat) : Prop :=
  ∃ a n cap, w.cell? ⟨b, 0, none⟩ = some (.slice a n cap) ∧ w.cell? ⟨b, 1, none⟩ = some (.int .i64 p) ∧ w.frozen? ⟨b, 1, none⟩ = false ∧ n ≤ 2000 ∧ ByteRow (fun c => c < w.heap.size ∧ c ≠ b) w a n
theorem Rd.lt {w : World} {b p : Nat} (h : Rd w b p) : b < w.heap.size := by
  obtain ⟨a, n, cap, h0, _⟩ := h
  exact cell_lt h0
theorem Rd.later {w w' : World} {b p : Nat} (h : Rd w b p) (hb : Below w.heap.size w w') : Rd w' b p := by
  have hl := h.lt
  have hsz := hb.size
  obtain ⟨a, n, cap, h0, h1, h2, h3, h4⟩ := h
  exact ⟨a, n, cap, cell_later' hb h0, cell_later' hb h1, by rw [hb.frozen (p := ⟨b, 1, none⟩) hl]; exact h2, h3, h4.later (fun k hk => hb.block k hk.1) fun k hk => ⟨by omega, hk.2⟩⟩
theorem Rd.drew {w : World} {b p : Nat} (h : Rd w b p) : Rd w.drew b p := h
theorem Rd.set {w : World} {b p : Nat} (h : Rd w b p) (q : Nat) : Rd (w.setCell ⟨b, 1, none⟩ (.int .i64 q)) b q := by
  obtain ⟨a, n, cap, h0, h1, h2, h3, h4⟩ := h
  refine ⟨a, n, cap, ?_, ?_, ?_, h3, h4.later (fun k hk => ?_) fun k hk => ⟨?_, hk.2⟩⟩
  · rw [World.cell?_setCell_other _ _ _ _ (by intro e; injection e with _ e2; omega)]; exact h0
  · exact World.cell?_setCell_same _ _ _ h1
  · rw [World.frozen?_setCell]; exact h2
  · exact Below.heap_setCell _ _ _ _ hk.2
  · have := hk.1; simpa [World.setCell] using this
/-- whatever turned no other block than the source's -/
theorem Rd.kept {w w' w'' : World} {b p q : Nat} (h : Rd w b p) (hk : Kept b 1 2 w w') (hq : Rd w' b q) : Rd w' b q := hq
theorem Kept.size_le {b lo hi : Nat} {w w' : World} (h : Kept b lo hi w w') : w.heap.size ≤ w'.heap.size := h.size
/-- what a draw leaves -/
def Drew (b p : Nat) (K : Nat) (w w' : World) : Prop := (∃ p', p ≤ p' ∧ p' ≤ p + K ∧ Rd w' b p') ∧ Kept b 1 2 w w'
theorem Kept.same {b : Nat} {w w' : World} (h : Kept b 1 2 w w') : Same (fun k => k < w.heap.size ∧ k ≠ b) w w' := fun k hk => h.block k hk.1 hk.2
end Go.Proofs.Ytaihblfabaijoaa
