/- The contract of the model's NamesOf. -/
import Derived.Test.YtbbihbapmbjbgaaSpecNames
import Derived.Test.YtbbihbapmbjbgaaStrs
namespace Go.Proofs.Ytbbihbapmbjbgaa
open Go.RowKit
set_option linter.unusedVariables false
set_option linter.unusedSimpArgs false
set_option maxRecDepth 100000 in
set_option maxHeartbeats 400000 in
theorem specNamesOf_any (B : Nat) (f : Fm) (v : Value) (w : World) (hB : B ≤ w.heap.size) (hv : InV (· < B) w f v) (hsz : f.sz ≤ 1048576) :
    Calls Try.prog 54 #[v] w fun e w' => ∃ a cap, e = .returned (.slice a (namesF [] f.pre).length cap) ∧ StrRow w' (.slice a (namesF [] f.pre).length cap) (namesF [] f.pre) ∧ Below w.heap.size w w' := by
  have HV := Lib.hid hv
  have hLc := f.count_le
  obtain ⟨sa, scap, a, cap, rfl⟩ := hv.form
  clear hv
  go_enter Try.func54, Try.ntmps54
  go_wp2_with fail
  have hbx : Below w.heap.size w ((w.alloc (.cells #[.int .i64 f.kind, .string f.name, .int .i64 f.n, .slice sa f.scopes.length scap, .slice a f.kids.length cap] 31)).alloc (.cells #[] 9)) := (below_alloc w _).alloc (by simp) _
  have hown : ((w.alloc (.cells #[.int .i64 f.kind, .string f.name, .int .i64 f.n, .slice sa f.scopes.length scap, .slice a f.kids.length cap] 31)).alloc (.cells #[] 9)).ownsRow w.heap.size 9 1 (.slice (some ⟨w.heap.size + 1, 0, none⟩) 0 0) ([] : List ByteArray).length (([] : List ByteArray).map Value.string) := by
    have := World.ownsRow_lit (base := w.heap.size) (e := 9) (size := 1) (w.alloc (.cells #[.int .i64 f.kind, .string f.name, .int .i64 f.n, .slice sa f.scopes.length scap, .slice a f.kids.length cap] 31)) #[] 0 (by simp) (by unfold maxLen; omega) (by simp)
    rw [size_alloc'] at this
    exact this
  have hlt := hown.lt
  refine (l1Names_any B f [] _ _ w.heap.size _ hB (by simp; omega) hown (InV.later (same_below (hbx.mono hB)) _ _ HV.out) hsz (by simp; omega)).mono ?_
  rintro e w3 ⟨v3, rfl, hr, hg, _⟩
  obtain ⟨a3, cap3, rfl, q1, q2, q3⟩ := strRow_of hr
  have HB3 : Hid (Below w.heap.size w w3) := hbx.trans (below_of_grown hg (by simp; omega) (fun q h => (hlt q h).1))
  have HR3 : Hid (StrRow w3 (.slice a3 (namesF [] f.pre).length cap3) (namesF [] f.pre)) := ⟨a3, cap3, rfl, q1, q2, q3⟩
  clear hr hg hlt hown hbx q1 q2 q3
  go_wp2_with fail
  go_ret
  exact ⟨a3, cap3, rfl, HR3.out, HB3.out⟩
/-- a list of strings, read below B -/
def StrRowB (B : Nat) (w : World) (v : Value) (l : List ByteArray) : Prop :=
  ∃ a cap, v = .slice a l.length cap ∧ l.length ≤ cap ∧ cap ≤ maxLen ∧ (l = [] ∨ ∃ b off, a = some ⟨b, off, none⟩ ∧ b < B ∧ ∀ i, (h : i < l.length) → w.cell? ⟨b, off + i, none⟩ = some (.string l[i]))
theorem StrRow.bound {w : World} {v : Value} {l : List ByteArray} (h : StrRow w v l) : StrRowB w.heap.size w v l := by
  obtain ⟨a, cap, rfl, h1, h2, h3⟩ := h
  refine ⟨a, cap, rfl, h1, h2, ?_⟩
  rcases h3 with h3 | ⟨b, off, rfl, h4⟩
  · exact .inl h3
  · by_cases h0 : l = []
    · exact .inl h0
    · exact .inr ⟨b, off, rfl, cell_lt (h4 0 (by cases l <;> simp_all)), h4⟩
theorem StrRowB.row {B : Nat} {w : World} {v : Value} {l : List ByteArray} (h : StrRowB B w v l) : StrRow w v l := by
  obtain ⟨a, cap, rfl, h1, h2, h3⟩ := h
  refine ⟨a, cap, rfl, h1, h2, ?_⟩
  rcases h3 with h3 | ⟨b, off, rfl, _, h4⟩
  · exact .inl h3
  · exact .inr ⟨b, off, rfl, h4⟩
theorem StrRowB.later {B : Nat} {w w' : World} {v : Value} {l : List ByteArray} (h : StrRowB B w v l) (hs : Same (· < B) w w') : StrRowB B w' v l := by
  obtain ⟨a, cap, rfl, h1, h2, h3⟩ := h
  refine ⟨a, cap, rfl, h1, h2, ?_⟩
  rcases h3 with h3 | ⟨b, off, rfl, hb, h4⟩
  · exact .inl h3
  · exact .inr ⟨b, off, rfl, hb, fun i hi => (World.cell?_of_block (a := ⟨b, off + i, none⟩) (hs b hb)).trans (h4 i hi)⟩
end Go.Proofs.Ytbbihbapmbjbgaa
