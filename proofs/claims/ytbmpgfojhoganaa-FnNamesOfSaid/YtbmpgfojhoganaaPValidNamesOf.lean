/- The contract of the model's draw DrawNamesOf. -/
import Derived.Test.YtbmpgfojhoganaaPValid
import Derived.Test.YtbmpgfojhoganaaLwBase
namespace Go.Proofs.Ytbmpgfojhoganaa.P
open Go.RowKit
set_option linter.unusedVariables false
set_option linter.unusedSimpArgs false
set_option maxRecDepth 100000 in
theorem drawNamesOf_any (v : Value) (n : Nat) (w : World) (h : Bytes w v n) : Calls Try.prog 19 #[v] w (ValidPost w) := by
  have HB := Lib.hid (bytes_up h (below_alloc w (.cells #[.int .i64 0, .string { data := #[] }, .int .i64 0, .slice none 0 0, .slice none 0 0] 26)))
  obtain ⟨a0, c0, rfl, _⟩ := h
  have hz0 := heap_alloc_new w (.cells #[.int .i64 0, .string { data := #[] }, .int .i64 0, .slice none 0 0, .slice none 0 0] 26)
  have HB0 := Lib.hid (below_alloc w (.cells #[.int .i64 0, .string { data := #[] }, .int .i64 0, .slice none 0 0, .slice none 0 0] 26))
  have HZ0 := Lib.hid hz0
  clear hz0
  go_enter Try.func19, Try.ntmps19
  go_wp2_with fail
  refine (drawFormValid_any _ n _ HB.out).mono ?_
  rintro e w8 ⟨f3, sb, sbcap, b1, bcap1, rfl, hi8, hm8, hb8⟩
  rw [size_alloc'] at hi8
  have hs8 : w.heap.size + 1 ≤ w8.heap.size := by have := hb8.size; simpa using this
  have HI8 := Lib.hid hi8
  have HM8 := Lib.hid hm8
  have HB8 : Hid (Below w.heap.size w w8) := HB0.out.trans (hb8.mono (by simp))
  have hz8 : w8.heap[w.heap.size]? = some (.cells #[.int .i64 0, .string { data := #[] }, .int .i64 0, .slice none 0 0, .slice none 0 0] 26 (0, 0)) := (hb8.block _ (by simp)).trans HZ0.out
  obtain ⟨r0, r1, r2, r3, r4, t0, t1, t2, t3, t4⟩ := zeroFacts hz8
  have HTH := Lib.hid (zeroThere hz8)
  clear hz8 hi8 hm8 hb8
  go_wp2_with fail
  obtain ⟨z0, z1, z2, z3, z4⟩ := set5_in w8 w.heap.size 0 (.int .i64 f3.kind) (.string f3.name) (.int .i64 f3.n) (.slice sb f3.scopes.length sbcap) (.slice b1 f3.kids.length bcap1) HTH.out
  have hz5 := set5_size w8 w.heap.size 0 (.int .i64 f3.kind) (.string f3.name) (.int .i64 f3.n) (.slice sb f3.scopes.length sbcap) (.slice b1 f3.kids.length bcap1)
  have hi5 : InVP (fun k => w.heap.size ≤ k ∧ k < (set5 w8 w.heap.size 0 (.int .i64 f3.kind) (.string f3.name) (.int .i64 f3.n) (.slice sb f3.scopes.length sbcap) (.slice b1 f3.kids.length bcap1)).heap.size) (set5 w8 w.heap.size 0 (.int .i64 f3.kind) (.string f3.name) (.int .i64 f3.n) (.slice sb f3.scopes.length sbcap) (.slice b1 f3.kids.length bcap1)) f3 (.agg #[.int .i64 f3.kind, .string f3.name, .int .i64 f3.n, .slice sb f3.scopes.length sbcap, .slice b1 f3.kids.length bcap1]) := InVP.mono (fun k hk => ⟨by omega, by rw [hz5]; exact hk.2⟩) _ _ (InVP.later (fun k hk => set5_block _ _ _ _ _ _ _ _ (by omega)) _ _ HI8.out)
  have hbe5 := set5_below HB8.out (b := w.heap.size) (Nat.le_refl _) 0 (.int .i64 f3.kind) (.string f3.name) (.int .i64 f3.n) (.slice sb f3.scopes.length sbcap) (.slice b1 f3.kids.length bcap1)
  unfold set5 at z0 z1 z2 z3 z4 hi5 hbe5
  simp only [Nat.zero_add] at z0 z1 z2 z3 z4 hi5 hbe5
  refine bodyPost_ret (v := .agg #[.int .i64 f3.kind, .string f3.name, .int .i64 f3.n, .slice sb f3.scopes.length sbcap, .slice b1 f3.kids.length bcap1]) (by simp [results, Try.results19, go_sem, z0, z1, z2, z3, z4]) rfl ?_
  exact ⟨f3, sb, sbcap, b1, bcap1, rfl, hi5, HM8.out, hbe5⟩
end Go.Proofs.Ytbmpgfojhoganaa.P
