/- Bytes that came in, read. -/
import Derived.Test.YtcckhcedfmadeaaChecked
import Derived.Test.YtcckhcedfmadeaaData
import Derived.ProofKit
import Derived.OpenShut
import Derived.ShutString
import Derived.ChangeOld
import Derived.Deep.Slices
import Derived.Deep.Fields
import Derived.Lib.SmallJoins
namespace Go.Proofs.Ytcckhcedfmadeaa
open Go.ChangeShapes Go.WideShapes Go.ChangeAt Go.RowKit Go.Deep Go.Joins
theorem Try.cellsByte : Try.prog.cellsOf 5 = 1 := by kernel_rfl
/-- bytes that came in: a slice -/
def Bytes (w : World) (v : Value) (n : Nat) : Prop := ∃ a cap, v = .slice a n cap ∧ n ≤ cap ∧ cap ≤ maxLen ∧ ByteRow (· < w.heap.size) w a n
section
variable {H : Type} {enc : TypeId × Value → H} {w : World} {base : Nat} {spare : Nat → Bool} {held : Bool}
set_option maxRecDepth 100000 in
theorem open_bytes_arg {r : Reach} {b0 : Nat} {v : Value} {d : DataW H} {p : List MemPlace} (hv : Value.okWide Try.prog w r b0 22 v)
    (h : DataW.Trod enc Try.prog w base spare held 22 v d p) : ∃ n, Bytes w v n := by
  obtain ⟨a, len, cap, rfl⟩ := okWide_slice Try.underlying22 hv
  obtain ⟨fuel, hf⟩ := h
  rcases open_ints Try.underlying22 Try.underlying5 Try.cellsByte hf with ⟨hcs, _⟩ | ⟨x, l, c, zs, hcs, _, hl, hm, hz, _, hcell, hwf⟩
  · simp [Value.cells] at hcs
    obtain ⟨rfl, rfl, rfl⟩ := hcs
    exact ⟨0, _, _, rfl, Nat.le_refl _, Nat.zero_le _, .inl rfl⟩
  · simp [Value.cells] at hcs
    obtain ⟨rfl, rfl, rfl⟩ := hcs
    have hz' : len ≤ zs.length := by rw [hz]; split <;> omega
    refine ⟨len, some x, cap, rfl, hl, hm, ?_⟩
    by_cases h0 : len = 0
    · exact .inl h0
    · obtain ⟨xb, xo, xs⟩ := x
      have h00 := hcell 0 (by omega)
      have hsp : xs = none := by simpa [Addr.add] using World.cell?_spot h00
      subst hsp
      have hadd : ∀ i, (⟨xb, xo, none⟩ : Addr).add i = ⟨xb, xo + i, none⟩ := fun i => by
        unfold Addr.add
        split
        · rename_i h; rw [h]; rfl
        · rfl
      rw [hadd] at h00
      refine .inr ⟨xb, xo, rfl, cell_lt h00, fun i hi => ?_⟩
      have h1 := hcell i (by omega)
      rw [hadd] at h1
      have h2 : (Lit.int .u8 (zs.getD i 0)).wf = true := hwf _ (by
        have hi' : i < zs.length := by omega
        simp [hi'])
      rw [List.getD_eq_getElem?_getD] at h1 h2
      refine ⟨zs[i]?.getD 0, ?_, ?_, h1⟩ <;> (simp [Lit.wf, IntKind.min, IntKind.max, IntKind.signed, IntKind.bits] at h2; omega)
end
end Go.Proofs.Ytcckhcedfmadeaa
