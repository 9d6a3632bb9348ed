/- Hits that came in, read. -/
import Derived.Test.YtlmplfpdmelcjaaOpen
import Derived.Test.YtlmplfpdmelcjaaHitData
namespace Go.Proofs.Ytlmplfpdmelcjaa
open Go.ChangeShapes Go.WideShapes Go.ChangeAt Go.RowKit Go.Deep Go.Joins
theorem Try.cellsLH : Try.prog.cellsOf 49 = 12 := by kernel_rfl
theorem Try.cellsLHs : Try.prog.cellsOf 22 = 1 := by kernel_rfl
/-- a value of type []Hit that reads as hits -/
def HitsV (w : World) (l : List Ht) (v : Value) : Prop := ∃ a cap, v = .slice a l.length cap ∧ HitsIn (· < w.heap.size) w a cap l
section
variable {H : Type} {enc : TypeId × Value → H} {w : World} {base : Nat} {spare : Nat → Bool} {held : Bool}
theorem rowH_of {φ : Nat → Prop} (b : Nat) : ∀ (len off : Nat), (∀ i, i < len → ∃ f c0 c1 c2 c3 c4 c5 c6 c7 c8 c9 c10 c11, w.cell? ⟨b, off + i * 12, none⟩ = some c0 ∧ w.cell? ⟨b, off + i * 12 + 1, none⟩ = some c1 ∧ w.cell? ⟨b, off + i * 12 + 2, none⟩ = some c2 ∧ w.cell? ⟨b, off + i * 12 + 3, none⟩ = some c3 ∧ w.cell? ⟨b, off + i * 12 + 4, none⟩ = some c4 ∧ w.cell? ⟨b, off + i * 12 + 5, none⟩ = some c5 ∧ w.cell? ⟨b, off + i * 12 + 6, none⟩ = some c6 ∧ w.cell? ⟨b, off + i * 12 + 7, none⟩ = some c7 ∧ w.cell? ⟨b, off + i * 12 + 8, none⟩ = some c8 ∧ w.cell? ⟨b, off + i * 12 + 9, none⟩ = some c9 ∧ w.cell? ⟨b, off + i * 12 + 10, none⟩ = some c10 ∧ w.cell? ⟨b, off + i * 12 + 11, none⟩ = some c11 ∧ InH φ w f (.agg #[c0, c1, c2, c3, c4, c5, c6, c7, c8, c9, c10, c11])) →
    ∃ ks : List Ht, ks.length = len ∧ RowH φ w b off ks
  | 0, off, _ => ⟨[], rfl, by unfold RowH; trivial⟩
  | len + 1, off, h => by
    obtain ⟨f, c0, c1, c2, c3, c4, c5, c6, c7, c8, c9, c10, c11, h0, h1, h2, h3, h4, h5, h6, h7, h8, h9, h10, h11, h12⟩ := h 0 (by omega)
    obtain ⟨ks, hl, hr⟩ := rowH_of b len (off + 12) (fun i hi => by
      have := h (i + 1) (by omega)
      rw [show off + (i + 1) * 12 = off + 12 + i * 12 from by omega] at this
      exact this)
    refine ⟨f :: ks, by simp [hl], ?_⟩
    unfold RowH
    exact ⟨⟨c0, c1, c2, c3, c4, c5, c6, c7, c8, c9, c10, c11, by simpa using h0, by simpa using h1, by simpa using h2, by simpa using h3, by simpa using h4, by simpa using h5, by simpa using h6, by simpa using h7, by simpa using h8, by simpa using h9, by simpa using h10, by simpa using h11, h12⟩, hr⟩
/-- the elements of a row, one by one -/
theorem hits_of {a : Addr} {len cap : Nat} (h0 : len ≠ 0) (hle : len ≤ cap) (hcm : cap ≤ maxLen)
    (each : ∀ i, i < len → ∃ f c0 c1 c2 c3 c4 c5 c6 c7 c8 c9 c10 c11, (∀ j, j < 12 → w.cell? ((a.add (i * 12)).add j) = [c0, c1, c2, c3, c4, c5, c6, c7, c8, c9, c10, c11][j]?) ∧ InH (· < w.heap.size) w f (.agg #[c0, c1, c2, c3, c4, c5, c6, c7, c8, c9, c10, c11])) :
    ∃ ks : List Ht, ks.length = len ∧ HitsIn (· < w.heap.size) w (some a) cap ks := by
  obtain ⟨f0, d0, d1, d2, d3, d4, d5, d6, d7, d8, d9, d10, d11, hat0, _⟩ := each 0 (by omega)
  have hd0 := hat0 0 (by omega)
  have ha : a = ⟨a.block, a.off, none⟩ := spot_none (w := w) (v := d0) (by simpa [Addr.add] using hd0)
  have hblk : a.block < w.heap.size := by
    rw [ha] at hd0
    exact cell_lt (o := a.off) (v := d0) (by simpa [Addr.add] using hd0)
  obtain ⟨ks, hkl, hrow⟩ := rowH_of (φ := (· < w.heap.size)) (w := w) a.block len a.off (fun i hi => by
    obtain ⟨f, d0, d1, d2, d3, d4, d5, d6, d7, d8, d9, d10, d11, hat, hin⟩ := each i hi
    rw [ha] at hat
    simp only [add_none] at hat
    exact ⟨f, d0, d1, d2, d3, d4, d5, d6, d7, d8, d9, d10, d11, by simpa using hat 0 (by omega), by simpa using hat 1 (by omega), by simpa using hat 2 (by omega), by simpa using hat 3 (by omega), by simpa using hat 4 (by omega), by simpa using hat 5 (by omega), by simpa using hat 6 (by omega), by simpa using hat 7 (by omega), by simpa using hat 8 (by omega), by simpa using hat 9 (by omega), by simpa using hat 10 (by omega), by simpa using hat 11 (by omega), hin⟩)
  subst hkl
  exact ⟨ks, rfl, hle, hcm, .inr ⟨a.block, a.off, by rw [← ha], hblk, hrow⟩⟩
set_option maxRecDepth 100000 in
set_option maxHeartbeats 1000000 in
theorem open_hit : ∀ (n : Nat) (cs : List Value) (x : DataW H × List MemPlace), DataW.trod enc Try.prog w base spare held n 49 cs = some x →
    ∃ f c0 c1 c2 c3 c4 c5 c6 c7 c8 c9 c10 c11, cs = [c0, c1, c2, c3, c4, c5, c6, c7, c8, c9, c10, c11] ∧ InH (· < w.heap.size) w f (.agg #[c0, c1, c2, c3, c4, c5, c6, c7, c8, c9, c10, c11]) := by
  intro n
  induction n using Nat.strongRecOn with
  | ind n ih =>
    intro cs x h
    obtain ⟨xs, m, rfl, hx, hl, hlen, hf⟩ := DataW.trod_struct Try.underlying49 h
    rw [Try.cellsLH] at hl
    match cs, hl with
    | [c0, c1, c2, c3, c4, c5, c6, c7, c8, c9, c10, c11], _ =>
      match xs, hlen with
      | [y0, y1, y2, y3], _ =>
        have g0 : DataW.trod enc Try.prog w base spare held m 32 (List.take (Try.prog.cellsOf 32) (List.drop 0 [c0, c1, c2, c3, c4, c5, c6, c7, c8, c9, c10, c11])) = some y0 := hf 0 _ rfl
        have g1 : DataW.trod enc Try.prog w base spare held m 3 (List.take (Try.prog.cellsOf 3) (List.drop 5 [c0, c1, c2, c3, c4, c5, c6, c7, c8, c9, c10, c11])) = some y1 := hf 1 _ rfl
        have g2 : DataW.trod enc Try.prog w base spare held m 32 (List.take (Try.prog.cellsOf 32) (List.drop 6 [c0, c1, c2, c3, c4, c5, c6, c7, c8, c9, c10, c11])) = some y2 := hf 2 _ rfl
        have g3 : DataW.trod enc Try.prog w base spare held m 22 (List.take (Try.prog.cellsOf 22) (List.drop 11 [c0, c1, c2, c3, c4, c5, c6, c7, c8, c9, c10, c11])) = some y3 := hf 3 _ rfl
        simp only [Try.cellsInt, Try.cellsLF, Try.cellsLHs, List.drop, List.take] at g0 g1 g2 g3
        obtain ⟨nm, p0, p1, p2, p3, p4, e0, hn⟩ := open_form m _ _ g0
        obtain ⟨d, e1, _, wd⟩ := DataW.trod_int Try.underlying3 g1
        obtain ⟨one, q0, q1, q2, q3, q4, e2, ho⟩ := open_form m _ _ g2
        simp only [List.cons.injEq, and_true] at e0 e1 e2
        obtain ⟨rfl, rfl, rfl, rfl, rfl⟩ := e0
        obtain ⟨rfl, rfl, rfl, rfl, rfl⟩ := e2
        subst e1
        have hn' := hn
        have ho' := ho
        obtain ⟨s1, t1, k1, l1, en⟩ := hn'.form
        obtain ⟨s2, t2, k2, l2, eo⟩ := ho'.form
        injection en with en
        injection en with en
        injection eo with eo
        injection eo with eo
        simp only [List.cons.injEq, and_true] at en eo
        obtain ⟨rfl, rfl, rfl, rfl, rfl⟩ := en
        obtain ⟨rfl, rfl, rfl, rfl, rfl⟩ := eo
        rcases DataW.trod_slice Try.underlying22 g3 with ⟨e4, _⟩ | ⟨a, len, cap, elems, rest, m', rfl, e4, _, hb, hle, hcm, hel, hcells, _, _⟩
        · simp only [List.cons.injEq, and_true] at e4
          subst e4
          refine ⟨.mk nm d one [], _, _, _, _, _, _, _, _, _, _, _, _, rfl, ?_⟩
          unfold InH
          exact ⟨s1, t1, k1, l1, s2, t2, k2, l2, none, 0, rfl, bounds_i64 wd, hn, ho, Nat.le_refl _, Nat.zero_le _, .inl rfl⟩
        · simp only [List.cons.injEq, and_true] at e4
          subst e4
          rw [Try.cellsLH] at hcells
          by_cases h0 : len = 0
          · subst h0
            refine ⟨.mk nm d one [], _, _, _, _, _, _, _, _, _, _, _, _, rfl, ?_⟩
            unfold InH
            exact ⟨s1, t1, k1, l1, s2, t2, k2, l2, some a, cap, rfl, bounds_i64 wd, hn, ho, Nat.zero_le _, hcm, .inl rfl⟩
          · obtain ⟨ks, hkl, hrow⟩ := hits_of (w := w) (a := a) h0 hle hcm (fun i hi => by
              have hc := hcells i hi
              have hs : elems[i]? = some (elems[i]'(by omega)) := List.getElem?_eq_getElem (by omega)
              rw [hs] at hc
              obtain ⟨cs', hc1, hc2⟩ := Option.bind_eq_some_iff.1 hc
              obtain ⟨f, d0, d1, d2, d3, d4, d5, d6, d7, d8, d9, d10, d11, rfl, hin⟩ := ih m' (by omega) cs' _ hc2
              obtain ⟨_, _, hat⟩ := World.cells?_some hc1
              exact ⟨f, d0, d1, d2, d3, d4, d5, d6, d7, d8, d9, d10, d11, hat, hin⟩)
            subst hkl
            refine ⟨.mk nm d one ks, _, _, _, _, _, _, _, _, _, _, _, _, rfl, ?_⟩
            unfold InH
            exact ⟨s1, t1, k1, l1, s2, t2, k2, l2, some a, cap, rfl, bounds_i64 wd, hn, ho, hrow.1, hrow.2.1, hrow.2.2⟩
set_option maxRecDepth 100000 in
theorem open_hits {n : Nat} {cs : List Value} {x : DataW H × List MemPlace} (h : DataW.trod enc Try.prog w base spare held n 22 cs = some x) :
    ∃ v ks, cs = [v] ∧ HitsV w ks v := by
  rcases DataW.trod_slice Try.underlying22 h with ⟨e4, _⟩ | ⟨a, len, cap, elems, rest, m', _, e4, _, hb, hle, hcm, hel, hcells, _, _⟩
  · exact ⟨_, [], e4, none, 0, rfl, Nat.le_refl _, Nat.zero_le _, .inl rfl⟩
  · rw [Try.cellsLH] at hcells
    by_cases h0 : len = 0
    · subst h0
      exact ⟨_, [], e4, some a, cap, rfl, Nat.zero_le _, hcm, .inl rfl⟩
    · obtain ⟨ks, hkl, hrow⟩ := hits_of (w := w) (a := a) h0 hle hcm (fun i hi => by
        have hc := hcells i hi
        have hs : elems[i]? = some (elems[i]'(by omega)) := List.getElem?_eq_getElem (by omega)
        rw [hs] at hc
        obtain ⟨cs', hc1, hc2⟩ := Option.bind_eq_some_iff.1 hc
        obtain ⟨f, d0, d1, d2, d3, d4, d5, d6, d7, d8, d9, d10, d11, rfl, hin⟩ := open_hit m' cs' _ hc2
        obtain ⟨_, _, hat⟩ := World.cells?_some hc1
        exact ⟨f, d0, d1, d2, d3, d4, d5, d6, d7, d8, d9, d10, d11, hat, hin⟩)
      subst hkl
      exact ⟨_, ks, e4, some a, cap, rfl, hrow⟩
set_option maxRecDepth 100000 in
theorem open_hits_arg {r : Reach} {b0 : Nat} {v : Value} {d : DataW H} {p : List MemPlace} (hv : Value.okWide Try.prog w r b0 22 v)
    (h : DataW.Trod enc Try.prog w base spare held 22 v d p) : ∃ ks, HitsV w ks v := by
  obtain ⟨a, len, cap, rfl⟩ := okWide_slice Try.underlying22 hv
  obtain ⟨fuel, hf⟩ := h
  obtain ⟨u, ks, e, hin⟩ := open_hits hf
  have e' : Value.slice a len cap = u := by simpa [Value.cells] using e
  rw [e']
  exact ⟨ks, hin⟩
set_option maxRecDepth 100000 in
theorem open_hit_arg {r : Reach} {b0 : Nat} {v : Value} {d : DataW H} {p : List MemPlace} (hv : Value.okWide Try.prog w r b0 49 v)
    (h : DataW.Trod enc Try.prog w base spare held 49 v d p) : ∃ f, InH (· < w.heap.size) w f v := by
  obtain ⟨cs, rfl, _⟩ := okWide_struct Try.underlying49 hv
  obtain ⟨fuel, hf⟩ := h
  obtain ⟨f, c0, c1, c2, c3, c4, c5, c6, c7, c8, c9, c10, c11, e, hin⟩ := open_hit fuel _ _ hf
  refine ⟨f, ?_⟩
  have e' : cs = #[c0, c1, c2, c3, c4, c5, c6, c7, c8, c9, c10, c11] := by
    have : cs.toList = [c0, c1, c2, c3, c4, c5, c6, c7, c8, c9, c10, c11] := by simpa [Value.cells] using e
    exact Array.ext' this
  rw [e']
  exact hin
end
end Go.Proofs.Ytlmplfpdmelcjaa
