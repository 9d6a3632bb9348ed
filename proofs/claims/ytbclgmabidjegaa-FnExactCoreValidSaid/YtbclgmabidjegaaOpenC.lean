/- Core programs that came in, read. -/
import Derived.Test.YtbclgmabidjegaaOpen
import Derived.Test.YtbclgmabidjegaaCoreData
namespace Go.Proofs.Ytbclgmabidjegaa
open Go.ChangeShapes Go.WideShapes Go.ChangeAt Go.RowKit Go.Deep Go.Joins
theorem Try.cellsLC : Try.prog.cellsOf 28 = 11 := by kernel_rfl
theorem Try.cellsLCs : Try.prog.cellsOf 26 = 1 := by kernel_rfl
/-- a value of type []Core that reads as core programs -/
def CoresV (w : World) (l : List Ck) (v : Value) : Prop := ∃ a cap, v = .slice a l.length cap ∧ CoresIn (· < w.heap.size) w a cap l
section
variable {H : Type} {enc : TypeId × Value → H} {w : World} {base : Nat} {spare : Nat → Bool} {held : Bool}
theorem rowC_of {φ : Nat → Prop} (b : Nat) : ∀ (len off : Nat), (∀ i, i < len → ∃ f c0 c1 c2 c3 c4 c5 c6 c7 c8 c9 c10, w.cell? ⟨b, off + i * 11, none⟩ = some c0 ∧ w.cell? ⟨b, off + i * 11 + 1, none⟩ = some c1 ∧ w.cell? ⟨b, off + i * 11 + 2, none⟩ = some c2 ∧ w.cell? ⟨b, off + i * 11 + 3, none⟩ = some c3 ∧ w.cell? ⟨b, off + i * 11 + 4, none⟩ = some c4 ∧ w.cell? ⟨b, off + i * 11 + 5, none⟩ = some c5 ∧ w.cell? ⟨b, off + i * 11 + 6, none⟩ = some c6 ∧ w.cell? ⟨b, off + i * 11 + 7, none⟩ = some c7 ∧ w.cell? ⟨b, off + i * 11 + 8, none⟩ = some c8 ∧ w.cell? ⟨b, off + i * 11 + 9, none⟩ = some c9 ∧ w.cell? ⟨b, off + i * 11 + 10, none⟩ = some c10 ∧ InC φ w f (.agg #[c0, c1, c2, c3, c4, c5, c6, c7, c8, c9, c10])) →
    ∃ ks : List Ck, ks.length = len ∧ RowC φ w b off ks
  | 0, off, _ => ⟨[], rfl, by unfold RowC; trivial⟩
  | len + 1, off, h => by
    obtain ⟨f, c0, c1, c2, c3, c4, c5, c6, c7, c8, c9, c10, h0, h1, h2, h3, h4, h5, h6, h7, h8, h9, h10, h12⟩ := h 0 (by omega)
    obtain ⟨ks, hl, hr⟩ := rowC_of b len (off + 11) (fun i hi => by
      have := h (i + 1) (by omega)
      rw [show off + (i + 1) * 11 = off + 11 + i * 11 from by omega] at this
      exact this)
    refine ⟨f :: ks, by simp [hl], ?_⟩
    unfold RowC
    exact ⟨⟨c0, c1, c2, c3, c4, c5, c6, c7, c8, c9, c10, by simpa using h0, by simpa using h1, by simpa using h2, by simpa using h3, by simpa using h4, by simpa using h5, by simpa using h6, by simpa using h7, by simpa using h8, by simpa using h9, by simpa using h10, h12⟩, hr⟩
/-- the elements of a row, one by one -/
theorem cores_of {a : Addr} {len cap : Nat} (h0 : len ≠ 0) (hle : len ≤ cap) (hcm : cap ≤ maxLen)
    (each : ∀ i, i < len → ∃ f c0 c1 c2 c3 c4 c5 c6 c7 c8 c9 c10, (∀ j, j < 11 → w.cell? ((a.add (i * 11)).add j) = [c0, c1, c2, c3, c4, c5, c6, c7, c8, c9, c10][j]?) ∧ InC (· < w.heap.size) w f (.agg #[c0, c1, c2, c3, c4, c5, c6, c7, c8, c9, c10])) :
    ∃ ks : List Ck, ks.length = len ∧ CoresIn (· < w.heap.size) w (some a) cap ks := by
  obtain ⟨f0, d0, d1, d2, d3, d4, d5, d6, d7, d8, d9, d10, hat0, _⟩ := each 0 (by omega)
  have hd0 := hat0 0 (by omega)
  have ha : a = ⟨a.block, a.off, none⟩ := spot_none (w := w) (v := d0) (by simpa [Addr.add] using hd0)
  have hblk : a.block < w.heap.size := by
    rw [ha] at hd0
    exact cell_lt (o := a.off) (v := d0) (by simpa [Addr.add] using hd0)
  obtain ⟨ks, hkl, hrow⟩ := rowC_of (φ := (· < w.heap.size)) (w := w) a.block len a.off (fun i hi => by
    obtain ⟨f, d0, d1, d2, d3, d4, d5, d6, d7, d8, d9, d10, hat, hin⟩ := each i hi
    rw [ha] at hat
    simp only [add_none] at hat
    exact ⟨f, d0, d1, d2, d3, d4, d5, d6, d7, d8, d9, d10, by simpa using hat 0 (by omega), by simpa using hat 1 (by omega), by simpa using hat 2 (by omega), by simpa using hat 3 (by omega), by simpa using hat 4 (by omega), by simpa using hat 5 (by omega), by simpa using hat 6 (by omega), by simpa using hat 7 (by omega), by simpa using hat 8 (by omega), by simpa using hat 9 (by omega), by simpa using hat 10 (by omega), hin⟩)
  subst hkl
  exact ⟨ks, rfl, hle, hcm, .inr ⟨a.block, a.off, by rw [← ha], hblk, hrow⟩⟩
set_option maxRecDepth 100000 in
set_option maxHeartbeats 1000000 in
theorem open_core : ∀ (n : Nat) (cs : List Value) (x : DataW H × List MemPlace), DataW.trod enc Try.prog w base spare held n 28 cs = some x →
    ∃ f c0 c1 c2 c3 c4 c5 c6 c7 c8 c9 c10, cs = [c0, c1, c2, c3, c4, c5, c6, c7, c8, c9, c10] ∧ InC (· < w.heap.size) w f (.agg #[c0, c1, c2, c3, c4, c5, c6, c7, c8, c9, c10]) := by
  intro n
  induction n using Nat.strongRecOn with
  | ind n ih =>
    intro cs x h
    obtain ⟨xs, m, rfl, hx, hl, hlen, hf⟩ := DataW.trod_struct Try.underlying28 h
    rw [Try.cellsLC] at hl
    match cs, hl with
    | [c0, c1, c2, c3, c4, c5, c6, c7, c8, c9, c10], _ =>
      match xs, hlen with
      | [y0, y1, y2, y3, y4, y5, y6], _ =>
        have g0 : DataW.trod enc Try.prog w base spare held m 3 (List.take (Try.prog.cellsOf 3) (List.drop 0 [c0, c1, c2, c3, c4, c5, c6, c7, c8, c9, c10])) = some y0 := hf 0 _ rfl
        have g1 : DataW.trod enc Try.prog w base spare held m 3 (List.take (Try.prog.cellsOf 3) (List.drop 1 [c0, c1, c2, c3, c4, c5, c6, c7, c8, c9, c10])) = some y1 := hf 1 _ rfl
        have g2 : DataW.trod enc Try.prog w base spare held m 9 (List.take (Try.prog.cellsOf 9) (List.drop 2 [c0, c1, c2, c3, c4, c5, c6, c7, c8, c9, c10])) = some y2 := hf 2 _ rfl
        have g3 : DataW.trod enc Try.prog w base spare held m 3 (List.take (Try.prog.cellsOf 3) (List.drop 3 [c0, c1, c2, c3, c4, c5, c6, c7, c8, c9, c10])) = some y3 := hf 3 _ rfl
        have g4 : DataW.trod enc Try.prog w base spare held m 22 (List.take (Try.prog.cellsOf 22) (List.drop 4 [c0, c1, c2, c3, c4, c5, c6, c7, c8, c9, c10])) = some y4 := hf 4 _ rfl
        have g5 : DataW.trod enc Try.prog w base spare held m 25 (List.take (Try.prog.cellsOf 25) (List.drop 5 [c0, c1, c2, c3, c4, c5, c6, c7, c8, c9, c10])) = some y5 := hf 5 _ rfl
        have g6 : DataW.trod enc Try.prog w base spare held m 26 (List.take (Try.prog.cellsOf 26) (List.drop 10 [c0, c1, c2, c3, c4, c5, c6, c7, c8, c9, c10])) = some y6 := hf 6 _ rfl
        simp only [Try.cellsInt, Try.cellsStr, Try.cellsInts, Try.cellsLF, Try.cellsLCs, List.drop, List.take] at g0 g1 g2 g3 g4 g5 g6
        obtain ⟨k, e0, _, wk⟩ := DataW.trod_int Try.underlying3 g0
        obtain ⟨id, e1, _, wi⟩ := DataW.trod_int Try.underlying3 g1
        obtain ⟨nm, e2, _, wn⟩ := DataW.trod_string Try.underlying9 g2
        obtain ⟨z, e3, _, wz⟩ := DataW.trod_int Try.underlying3 g3
        obtain ⟨vs, sc, e4, hvs⟩ := open_introw g4
        obtain ⟨dd, q0, q1, q2, q3, q4, e5, ho⟩ := open_form m _ _ g5
        simp only [List.cons.injEq, and_true] at e0 e1 e2 e3 e4 e5
        obtain ⟨rfl, rfl, rfl, rfl, rfl⟩ := e5
        subst e0 e1 e2 e3 e4
        have hvs' := hvs
        obtain ⟨i1, j1, rfl, _⟩ := hvs'
        have ho' := ho
        obtain ⟨s1, t1, k1, l1, eo⟩ := ho'.form
        injection eo with eo
        injection eo with eo
        simp only [List.cons.injEq, and_true] at eo
        obtain ⟨rfl, rfl, rfl, rfl, rfl⟩ := eo
        rcases DataW.trod_slice Try.underlying26 g6 with ⟨e4, _⟩ | ⟨a, len, cap, elems, rest, m', rfl, e4, _, hb, hle, hcm, hel, hcells, _, _⟩
        · simp only [List.cons.injEq, and_true] at e4
          subst e4
          refine ⟨.mk k id nm z sc dd [], _, _, _, _, _, _, _, _, _, _, _, rfl, ?_⟩
          unfold InC
          exact ⟨i1, j1, s1, t1, k1, l1, none, 0, rfl, bounds_i64 wk, bounds_i64 wi, bounds_i64 wz, wn, hvs, ho, Nat.le_refl _, Nat.zero_le _, .inl rfl⟩
        · simp only [List.cons.injEq, and_true] at e4
          subst e4
          rw [Try.cellsLC] at hcells
          by_cases h0 : len = 0
          · subst h0
            refine ⟨.mk k id nm z sc dd [], _, _, _, _, _, _, _, _, _, _, _, rfl, ?_⟩
            unfold InC
            exact ⟨i1, j1, s1, t1, k1, l1, some a, cap, rfl, bounds_i64 wk, bounds_i64 wi, bounds_i64 wz, wn, hvs, ho, Nat.zero_le _, hcm, .inl rfl⟩
          · obtain ⟨ks, hkl, hrow⟩ := cores_of (w := w) (a := a) h0 hle hcm (fun i hi => by
              have hc := hcells i hi
              have hs : elems[i]? = some (elems[i]'(by omega)) := List.getElem?_eq_getElem (by omega)
              rw [hs] at hc
              obtain ⟨cs', hc1, hc2⟩ := Option.bind_eq_some_iff.1 hc
              obtain ⟨f, d0, d1, d2, d3, d4, d5, d6, d7, d8, d9, d10, rfl, hin⟩ := ih m' (by omega) cs' _ hc2
              obtain ⟨_, _, hat⟩ := World.cells?_some hc1
              exact ⟨f, d0, d1, d2, d3, d4, d5, d6, d7, d8, d9, d10, hat, hin⟩)
            subst hkl
            refine ⟨.mk k id nm z sc dd ks, _, _, _, _, _, _, _, _, _, _, _, rfl, ?_⟩
            unfold InC
            exact ⟨i1, j1, s1, t1, k1, l1, some a, cap, rfl, bounds_i64 wk, bounds_i64 wi, bounds_i64 wz, wn, hvs, ho, hrow.1, hrow.2.1, hrow.2.2⟩
set_option maxRecDepth 100000 in
theorem open_cores {n : Nat} {cs : List Value} {x : DataW H × List MemPlace} (h : DataW.trod enc Try.prog w base spare held n 26 cs = some x) :
    ∃ v ks, cs = [v] ∧ CoresV w ks v := by
  rcases DataW.trod_slice Try.underlying26 h with ⟨e4, _⟩ | ⟨a, len, cap, elems, rest, m', _, e4, _, hb, hle, hcm, hel, hcells, _, _⟩
  · exact ⟨_, [], e4, none, 0, rfl, Nat.le_refl _, Nat.zero_le _, .inl rfl⟩
  · rw [Try.cellsLC] at hcells
    by_cases h0 : len = 0
    · subst h0
      exact ⟨_, [], e4, some a, cap, rfl, Nat.zero_le _, hcm, .inl rfl⟩
    · obtain ⟨ks, hkl, hrow⟩ := cores_of (w := w) (a := a) h0 hle hcm (fun i hi => by
        have hc := hcells i hi
        have hs : elems[i]? = some (elems[i]'(by omega)) := List.getElem?_eq_getElem (by omega)
        rw [hs] at hc
        obtain ⟨cs', hc1, hc2⟩ := Option.bind_eq_some_iff.1 hc
        obtain ⟨f, d0, d1, d2, d3, d4, d5, d6, d7, d8, d9, d10, rfl, hin⟩ := open_core m' cs' _ hc2
        obtain ⟨_, _, hat⟩ := World.cells?_some hc1
        exact ⟨f, d0, d1, d2, d3, d4, d5, d6, d7, d8, d9, d10, hat, hin⟩)
      subst hkl
      exact ⟨_, ks, e4, some a, cap, rfl, hrow⟩
set_option maxRecDepth 100000 in
theorem open_cores_arg {r : Reach} {b0 : Nat} {v : Value} {d : DataW H} {p : List MemPlace} (hv : Value.okWide Try.prog w r b0 26 v)
    (h : DataW.Trod enc Try.prog w base spare held 26 v d p) : ∃ ks, CoresV w ks v := by
  obtain ⟨a, len, cap, rfl⟩ := okWide_slice Try.underlying26 hv
  obtain ⟨fuel, hf⟩ := h
  obtain ⟨u, ks, e, hin⟩ := open_cores hf
  have e' : Value.slice a len cap = u := by simpa [Value.cells] using e
  rw [e']
  exact ⟨ks, hin⟩
set_option maxRecDepth 100000 in
theorem open_core_arg {r : Reach} {b0 : Nat} {v : Value} {d : DataW H} {p : List MemPlace} (hv : Value.okWide Try.prog w r b0 28 v)
    (h : DataW.Trod enc Try.prog w base spare held 28 v d p) : ∃ f, InC (· < w.heap.size) w f v := by
  obtain ⟨cs, rfl, _⟩ := okWide_struct Try.underlying28 hv
  obtain ⟨fuel, hf⟩ := h
  obtain ⟨f, c0, c1, c2, c3, c4, c5, c6, c7, c8, c9, c10, e, hin⟩ := open_core fuel _ _ hf
  refine ⟨f, ?_⟩
  have e' : cs = #[c0, c1, c2, c3, c4, c5, c6, c7, c8, c9, c10] := by
    have : cs.toList = [c0, c1, c2, c3, c4, c5, c6, c7, c8, c9, c10] := by simpa [Value.cells] using e
    exact Array.ext' this
  rw [e']
  exact hin
end
end Go.Proofs.Ytbclgmabidjegaa
