/- Lists of forms and lists of numbers that came in, read. -/
import Derived.Test.YtbclgmabidjegaaOpenI
import Derived.Test.YtbclgmabidjegaaOpen
import Derived.Test.YtbclgmabidjegaaData
namespace Go.Proofs.Ytbclgmabidjegaa
open Go.ChangeShapes Go.WideShapes Go.ChangeAt Go.RowKit Go.Deep Go.Joins
/-- a value of type []Form that reads as forms -/
def FormsV (w : World) (ks : List Fm) (v : Value) : Prop := ∃ a cap, v = .slice a ks.length cap ∧ FormsIn (· < w.heap.size) w a cap ks
section
variable {H : Type} {enc : TypeId × Value → H} {w : World} {base : Nat} {spare : Nat → Bool} {held : Bool}
set_option maxRecDepth 100000 in
theorem open_forms {n : Nat} {cs : List Value} {x : DataW H × List MemPlace} (h : DataW.trod enc Try.prog w base spare held n 23 cs = some x) :
    ∃ v ks, cs = [v] ∧ FormsV w ks v := by
  rcases DataW.trod_slice Try.underlying23 h with ⟨e4, _⟩ | ⟨a, len, cap, elems, rest, m', _, e4, _, hb, hle, hcm, hel, hcells, _, _⟩
  · exact ⟨_, [], e4, none, 0, rfl, Nat.le_refl _, Nat.zero_le _, .inl rfl⟩
  · rw [Try.cellsLF] at hcells
    by_cases h0 : len = 0
    · subst h0
      exact ⟨_, [], e4, some a, cap, rfl, Nat.zero_le _, hcm, .inl rfl⟩
    · have each : ∀ i, i < len → ∃ f c0 c1 c2 c3 c4, (∀ j, j < 5 → w.cell? ((a.add (i * 5)).add j) = [c0, c1, c2, c3, c4][j]?) ∧ InV (· < w.heap.size) w f (.agg #[c0, c1, c2, c3, c4]) := by
        intro i hi
        have hc := hcells i hi
        have hs : elems[i]? = some (elems[i]'(by omega)) := List.getElem?_eq_getElem (by omega)
        rw [hs] at hc
        obtain ⟨cs', hc1, hc2⟩ := Option.bind_eq_some_iff.1 hc
        obtain ⟨f, d0, d1, d2, d3, d4, rfl, hin⟩ := open_form m' cs' _ hc2
        obtain ⟨_, _, hat⟩ := World.cells?_some hc1
        exact ⟨f, d0, d1, d2, d3, d4, hat, hin⟩
      obtain ⟨f0, d0, d1, d2, d3, d4, hat0, _⟩ := each 0 (by omega)
      have hd0 := hat0 0 (by omega)
      have ha : a = ⟨a.block, a.off, none⟩ := spot_none (w := w) (v := d0) (by simpa [Addr.add] using hd0)
      have hblk : a.block < w.heap.size := by
        rw [ha] at hd0
        exact cell_lt (o := a.off) (v := d0) (by simpa [Addr.add] using hd0)
      obtain ⟨ks, hkl, hrow⟩ := rowIn_of (φ := (· < w.heap.size)) (w := w) a.block len a.off (fun i hi => by
        obtain ⟨f, d0, d1, d2, d3, d4, hat, hin⟩ := each i hi
        rw [ha] at hat
        simp only [add_none] at hat
        exact ⟨f, d0, d1, d2, d3, d4, by simpa using hat 0 (by omega), by simpa using hat 1 (by omega), by simpa using hat 2 (by omega), by simpa using hat 3 (by omega), by simpa using hat 4 (by omega), hin⟩)
      subst hkl
      exact ⟨_, ks, e4, some a, cap, rfl, hle, hcm, .inr ⟨a.block, a.off, by rw [← ha], hblk, hrow⟩⟩
set_option maxRecDepth 100000 in
theorem open_forms_arg {r : Reach} {b0 : Nat} {v : Value} {d : DataW H} {p : List MemPlace} (hv : Value.okWide Try.prog w r b0 23 v)
    (h : DataW.Trod enc Try.prog w base spare held 23 v d p) : ∃ ks, FormsV w ks v := by
  obtain ⟨a, len, cap, rfl⟩ := okWide_slice Try.underlying23 hv
  obtain ⟨fuel, hf⟩ := h
  obtain ⟨u, ks, e, hin⟩ := open_forms hf
  have e' : Value.slice a len cap = u := by simpa [Value.cells] using e
  rw [e']
  exact ⟨ks, hin⟩
end
end Go.Proofs.Ytbclgmabidjegaa
