/- The contract of pop at pairs of pointers. -/
import Derived.Test.YtbclgmabidjegaaPop
import Derived.Deep.AppendLies
import Derived.Laws.OwnMore
import Derived.OwnWalk
namespace Go.Proofs.Ytbclgmabidjegaa
open Go.RowKit
set_option linter.unusedVariables false
set_option maxRecDepth 100000 in
set_option maxHeartbeats 1000000 in
theorem popPair_any (base pb g cap n : Nat) (xs : List Value) (p q : Addr) (w : World) (hp : w.cell? ⟨pb, 0, none⟩ = some (.slice (some ⟨g, 0, none⟩) (n + 1) cap)) (hf : w.frozen? ⟨pb, 0, none⟩ = false)
    (hown : w.ownsRow base 255 2 (.slice (some ⟨g, 0, none⟩) (n + 1) cap) (n + 1) (xs ++ [.pointer (some p), .pointer (some q)])) (hx : xs.length = n * 2) (hne : g ≠ pb) (hb : base ≤ pb) (hbw : base ≤ w.heap.size) :
    Calls Try.prog 212 #[.pointer (some ⟨pb, 0, none⟩)] w
      fun e w' => e = .returned (.agg #[.pointer (some p), .pointer (some q)]) ∧ Popped base 255 2 pb g cap n xs w w' := by
  have hc0 : w.cell? ⟨g, n * 2, none⟩ = some (.pointer (some p)) := by
    rw [hown.cellAt (n * 2) (by omega), List.getElem?_append_right (by omega), hx, show n * 2 - n * 2 = 0 from by omega]; simp
  have hc1 : w.cell? ⟨g, n * 2 + 1, none⟩ = some (.pointer (some q)) := by
    rw [hown.cellAt (n * 2 + 1) (by omega), List.getElem?_append_right (by omega), hx, show n * 2 + 1 - n * 2 = 1 from by omega]; simp
  have hcm : n + 1 ≤ cap ∧ cap ≤ maxLen := by
    rcases hown.2 with ⟨h', _⟩ | ⟨g', cap', cur, h', _, _, h1, h2, _⟩
    · simp at h'
    · simp only [Value.slice.injEq, Option.some.injEq, Addr.mk.injEq, and_true, true_and] at h'
      obtain ⟨rfl, rfl⟩ := h'
      exact ⟨h1, h2⟩
  obtain ⟨hcap, hmax⟩ := hcm
  unfold maxLen at hmax
  have hgl : g < w.heap.size := cell_lt hc0
  have hpl : pb < w.heap.size := cell_lt hp
  have hpn : w.heap.size ≠ pb := by omega
  have hpn1 : w.heap.size + 1 ≠ pb := by omega
  have HO := Lib.hid (ownsRow_cut hown (by omega))
  have HF := Lib.hid hf
  clear hown hx
  go_enter Try.func212, Try.ntmps212
  go_wp2_with fail
  refine bodyPost_ret (v := .agg #[.pointer (some p), .pointer (some q)]) (by simp [results, Try.results212, go_sem]) rfl ⟨rfl, ?_⟩
  exact (popped_set hp HF.out HO.out hne hb).later (((Below.refl _ _).alloc (Nat.le_refl _) _).alloc (by simp) _) hbw
end Go.Proofs.Ytbclgmabidjegaa
