/- Lists of bindings that came in, read. -/
import Derived.Test.YtbmpgfojhoganaaOpenI
import Derived.Test.YtbmpgfojhoganaaOpen
import Derived.Test.YtbmpgfojhoganaaBd
namespace Go.Proofs.Ytbmpgfojhoganaa
open Go.ChangeShapes Go.WideShapes Go.ChangeAt Go.RowKit Go.Deep Go.Joins
theorem Try.cellsLB : Try.prog.cellsOf 78 = 3 := by kernel_rfl
section
variable {H : Type} {enc : TypeId × Value → H} {w : World} {base : Nat} {spare : Nat → Bool} {held : Bool}
set_option maxRecDepth 100000 in
theorem open_bind (n : Nat) (cs : List Value) (x : DataW H × List MemPlace) (h : DataW.trod enc Try.prog w base spare held n 78 cs = some x) :
    ∃ (y : Bd) (sa : Option Addr) (scap : Nat), cs = [.string y.name, .slice sa y.scopes.length scap, .int .i64 y.id] ∧ (y.name.size ≤ maxLen ∧ -9223372036854775808 ≤ y.id ∧ y.id ≤ 9223372036854775807) ∧
      IntRow (· < w.heap.size) w (.slice sa y.scopes.length scap) y.scopes := by
  obtain ⟨xs, m, rfl, hx, hl, hlen, hf⟩ := DataW.trod_struct Try.underlying78 h
  rw [Try.cellsLB] at hl
  match cs, hl with
  | [c0, c1, c2], _ =>
    match xs, hlen with
    | [y0, y1, y2], _ =>
      have g0 : DataW.trod enc Try.prog w base spare held m 9 (List.take (Try.prog.cellsOf 9) (List.drop 0 [c0, c1, c2])) = some y0 := hf 0 _ rfl
      have g1 : DataW.trod enc Try.prog w base spare held m 23 (List.take (Try.prog.cellsOf 23) (List.drop 1 [c0, c1, c2])) = some y1 := hf 1 _ rfl
      have g2 : DataW.trod enc Try.prog w base spare held m 3 (List.take (Try.prog.cellsOf 3) (List.drop 2 [c0, c1, c2])) = some y2 := hf 2 _ rfl
      simp only [Try.cellsInt, Try.cellsStr, Try.cellsInts, List.drop, List.take] at g0 g1 g2
      obtain ⟨nm, e0, _, wn⟩ := DataW.trod_string Try.underlying9 g0
      obtain ⟨vs, sc, e1, hvs⟩ := open_introw g1
      obtain ⟨z, e2, _, wz⟩ := DataW.trod_int Try.underlying3 g2
      simp only [List.cons.injEq, and_true] at e0 e1 e2
      subst e0 e1 e2
      obtain ⟨a, cap, rfl, hr⟩ := id hvs
      exact ⟨⟨nm, sc, z⟩, a, cap, rfl, ⟨wn, bounds_i64 wz⟩, hvs⟩
theorem bds_of : ∀ (len b off : Nat), (∀ i, i < len → ∃ (y : Bd) (sa : Option Addr) (scap : Nat), w.cell? ⟨b, off + i * 3, none⟩ = some (.string y.name) ∧ w.cell? ⟨b, off + i * 3 + 1, none⟩ = some (.slice sa y.scopes.length scap) ∧
      w.cell? ⟨b, off + i * 3 + 2, none⟩ = some (.int .i64 y.id) ∧ (y.name.size ≤ maxLen ∧ -9223372036854775808 ≤ y.id ∧ y.id ≤ 9223372036854775807) ∧ IntRow (· < w.heap.size) w (.slice sa y.scopes.length scap) y.scopes) →
    ∃ l : List Bd, l.length = len ∧ (∀ x ∈ l, x.name.size ≤ maxLen ∧ -9223372036854775808 ≤ x.id ∧ x.id ≤ 9223372036854775807) ∧ ∀ i, (h : i < l.length) → BdAt (· < w.heap.size) w b (off + i * 3) l[i]
  | 0, _, _, _ => ⟨[], rfl, fun x hx => (by cases hx), fun i hi => (by simp at hi)⟩
  | len + 1, b, off, h => by
    obtain ⟨y, sa, scap, h0, h1, h2, h3, h4⟩ := h 0 (by omega)
    obtain ⟨l, hl, hw, hr⟩ := bds_of len b (off + 3) (fun i hi => by
      have := h (i + 1) (by omega)
      rw [show off + (i + 1) * 3 = off + 3 + i * 3 from by omega] at this
      exact this)
    refine ⟨y :: l, by simp [hl], fun x hx => ?_, fun i hi => ?_⟩
    · rcases List.mem_cons.1 hx with rfl | hx
      · exact h3
      · exact hw x hx
    · cases i with
      | zero => exact ⟨sa, scap, by simpa using h0, by simpa using h1, by simpa using h2, h4⟩
      | succ i =>
        have := hr i (by simpa using hi)
        rw [show off + (i + 1) * 3 = off + 3 + i * 3 from by omega]
        exact this
set_option maxRecDepth 100000 in
theorem open_binds {n : Nat} {cs : List Value} {x : DataW H × List MemPlace} (h : DataW.trod enc Try.prog w base spare held n 41 cs = some x) :
    ∃ v l, cs = [v] ∧ BdRow (· < w.heap.size) w v l := by
  rcases DataW.trod_slice Try.underlying41 h with ⟨e4, _⟩ | ⟨a, len, cap, elems, rest, m', _, e4, _, hb, hle, hcm, hel, hcells, _, _⟩
  · exact ⟨_, [], e4, none, 0, rfl, Nat.le_refl _, Nat.zero_le _, fun x hx => (by cases hx), .inl rfl⟩
  · rw [Try.cellsLB] at hcells
    by_cases h0 : len = 0
    · subst h0
      exact ⟨_, [], e4, some a, cap, rfl, Nat.zero_le _, hcm, fun x hx => (by cases hx), .inl rfl⟩
    · have each : ∀ i, i < len → ∃ (y : Bd) (sa : Option Addr) (scap : Nat), (∀ j, j < 3 → w.cell? ((a.add (i * 3)).add j) = [Value.string y.name, .slice sa y.scopes.length scap, .int .i64 y.id][j]?) ∧ (y.name.size ≤ maxLen ∧ -9223372036854775808 ≤ y.id ∧ y.id ≤ 9223372036854775807) ∧
          IntRow (· < w.heap.size) w (.slice sa y.scopes.length scap) y.scopes := by
        intro i hi
        have hc := hcells i hi
        have hs : elems[i]? = some (elems[i]'(by omega)) := List.getElem?_eq_getElem (by omega)
        rw [hs] at hc
        obtain ⟨cs', hc1, hc2⟩ := Option.bind_eq_some_iff.1 hc
        obtain ⟨y, sa, scap, rfl, hwf, hin⟩ := open_bind m' cs' _ hc2
        obtain ⟨_, _, hat⟩ := World.cells?_some hc1
        exact ⟨y, sa, scap, hat, hwf, hin⟩
      obtain ⟨f0, sa0, scap0, hat0, _⟩ := each 0 (by omega)
      have hd0 := hat0 0 (by omega)
      have ha : a = ⟨a.block, a.off, none⟩ := spot_none (w := w) (v := .string f0.name) (by simpa [Addr.add] using hd0)
      have hblk : a.block < w.heap.size := by
        rw [ha] at hd0
        exact cell_lt (o := a.off) (v := .string f0.name) (by simpa [Addr.add] using hd0)
      obtain ⟨l, hkl, hwf, hrow⟩ := bds_of (w := w) len a.block a.off (fun i hi => by
        obtain ⟨y, sa, scap, hat, hwf, hin⟩ := each i hi
        rw [ha] at hat
        simp only [add_none] at hat
        exact ⟨y, sa, scap, by simpa using hat 0 (by omega), by simpa using hat 1 (by omega), by simpa using hat 2 (by omega), hwf, hin⟩)
      subst hkl
      exact ⟨_, l, e4, some a, cap, rfl, hle, hcm, hwf, .inr ⟨a.block, a.off, by rw [← ha], hblk, hrow⟩⟩
set_option maxRecDepth 100000 in
theorem open_binds_arg {r : Reach} {b0 : Nat} {v : Value} {d : DataW H} {p : List MemPlace} (hv : Value.okWide Try.prog w r b0 41 v)
    (h : DataW.Trod enc Try.prog w base spare held 41 v d p) : ∃ l, BdRow (· < w.heap.size) w v l := by
  obtain ⟨a, len, cap, rfl⟩ := okWide_slice Try.underlying41 hv
  obtain ⟨fuel, hf⟩ := h
  obtain ⟨u, l, e, hin⟩ := open_binds hf
  have e' : Value.slice a len cap = u := by simpa [Value.cells] using e
  rw [e']
  exact ⟨l, hin⟩
end
end Go.Proofs.Ytbmpgfojhoganaa
