/- A form that came in reads as a form. -/
import Derived.Test.YtbclgmabidjegaaChecked
import Derived.Test.YtbclgmabidjegaaFirst
import Derived.ProofKit
import Derived.OpenShut
import Derived.ShutString
import Derived.ChangeOld
import Derived.Deep.Slices
import Derived.Deep.Fields
import Derived.Lib.SmallJoins
namespace Go.Proofs.Ytbclgmabidjegaa
open Go.ChangeShapes Go.WideShapes Go.ChangeAt Go.RowKit Go.Deep Go.Joins
theorem Try.cellsLF : Try.prog.cellsOf 25 = 5 := by kernel_rfl
theorem Try.cellsInt : Try.prog.cellsOf 3 = 1 := by kernel_rfl
theorem Try.cellsStr : Try.prog.cellsOf 9 = 1 := by kernel_rfl
theorem Try.cellsInts : Try.prog.cellsOf 22 = 1 := by kernel_rfl
theorem Try.cellsLFs : Try.prog.cellsOf 23 = 1 := by kernel_rfl
section
variable {H : Type} {enc : TypeId × Value → H} {w : World} {base : Nat} {spare : Nat → Bool} {held : Bool}
theorem add_none (b o i : Nat) : (⟨b, o, none⟩ : Addr).add i = ⟨b, o + i, none⟩ := by
  unfold Addr.add
  split
  · rename_i h; rw [h]; rfl
  · rfl
theorem spot_none {a : Addr} {v : Value} (h : w.cell? (a.add 0) = some v) : a = ⟨a.block, a.off, none⟩ := by
  have := World.cell?_spot h
  cases a with
  | mk b o s => simp [Addr.add] at this; subst this; rfl
theorem open_introw {n : Nat} {cs : List Value} {x : DataW H × List MemPlace} (h : DataW.trod enc Try.prog w base spare held n 22 cs = some x) :
    ∃ v l, cs = [v] ∧ IntRow (· < w.heap.size) w v l := by
  rcases open_ints Try.underlying22 Try.underlying3 Try.cellsInt h with ⟨rfl, _⟩ | ⟨a, len, cap, zs, rfl, _, hl, hm, hz, _, hcell, hwf⟩
  · exact ⟨_, [], rfl, none, 0, rfl, Nat.le_refl _, Nat.zero_le _, by simp, .inl rfl⟩
  · have hz' : len ≤ zs.length := by rw [hz]; split <;> omega
    refine ⟨_, zs.take len, rfl, some a, cap, by simp [List.length_take]; omega, by simp [List.length_take]; omega, hm, ?_, ?_⟩
    · intro n hn
      have := hwf n (List.mem_of_mem_take hn)
      exact bounds_i64 this
    · by_cases h0 : len = 0
      · left; subst h0; simp
      · right
        have h00 := hcell 0 (by omega)
        have hsp := spot_none h00
        refine ⟨a.block, a.off, by rw [← hsp], ?_, ?_⟩
        · rw [hsp, add_none] at h00
          exact cell_lt h00
        · intro i hi
          have hi' : i < len := by simp [List.length_take] at hi; omega
          have := hcell i (by omega)
          rw [hsp] at this
          rw [add_none] at this
          rw [this]
          simp [show i < zs.length from by omega]
theorem rowIn_of {φ : Nat → Prop} (b : Nat) : ∀ (len off : Nat), (∀ i, i < len → ∃ f c0 c1 c2 c3 c4, w.cell? ⟨b, off + i * 5, none⟩ = some c0 ∧ w.cell? ⟨b, off + i * 5 + 1, none⟩ = some c1 ∧
      w.cell? ⟨b, off + i * 5 + 2, none⟩ = some c2 ∧ w.cell? ⟨b, off + i * 5 + 3, none⟩ = some c3 ∧ w.cell? ⟨b, off + i * 5 + 4, none⟩ = some c4 ∧ InV φ w f (.agg #[c0, c1, c2, c3, c4])) →
    ∃ ks : List Fm, ks.length = len ∧ RowIn φ w b off ks
  | 0, off, _ => ⟨[], rfl, by unfold RowIn; trivial⟩
  | len + 1, off, h => by
    obtain ⟨f, c0, c1, c2, c3, c4, h0, h1, h2, h3, h4, h5⟩ := h 0 (by omega)
    obtain ⟨ks, hl, hr⟩ := rowIn_of b len (off + 5) (fun i hi => by
      have := h (i + 1) (by omega)
      rw [show off + (i + 1) * 5 = off + 5 + i * 5 from by omega] at this
      exact this)
    refine ⟨f :: ks, by simp [hl], ?_⟩
    unfold RowIn
    exact ⟨⟨c0, c1, c2, c3, c4, by simpa using h0, by simpa using h1, by simpa using h2, by simpa using h3, by simpa using h4, h5⟩, hr⟩
set_option maxRecDepth 100000 in
theorem open_form : ∀ (n : Nat) (cs : List Value) (x : DataW H × List MemPlace), DataW.trod enc Try.prog w base spare held n 25 cs = some x →
    ∃ f c0 c1 c2 c3 c4, cs = [c0, c1, c2, c3, c4] ∧ InV (· < w.heap.size) w f (.agg #[c0, c1, c2, c3, c4]) := by
  intro n
  induction n using Nat.strongRecOn with
  | ind n ih =>
    intro cs x h
    obtain ⟨xs, m, rfl, hx, hl, hlen, hf⟩ := DataW.trod_struct Try.underlying25 h
    rw [Try.cellsLF] at hl
    match cs, hl with
    | [c0, c1, c2, c3, c4], _ =>
      match xs, hlen with
      | [y0, y1, y2, y3, y4], _ =>
        have g0 : DataW.trod enc Try.prog w base spare held m 3 (List.take (Try.prog.cellsOf 3) (List.drop 0 [c0, c1, c2, c3, c4])) = some y0 := hf 0 _ rfl
        have g1 : DataW.trod enc Try.prog w base spare held m 9 (List.take (Try.prog.cellsOf 9) (List.drop 1 [c0, c1, c2, c3, c4])) = some y1 := hf 1 _ rfl
        have g2 : DataW.trod enc Try.prog w base spare held m 3 (List.take (Try.prog.cellsOf 3) (List.drop 2 [c0, c1, c2, c3, c4])) = some y2 := hf 2 _ rfl
        have g3 : DataW.trod enc Try.prog w base spare held m 22 (List.take (Try.prog.cellsOf 22) (List.drop 3 [c0, c1, c2, c3, c4])) = some y3 := hf 3 _ rfl
        have g4 : DataW.trod enc Try.prog w base spare held m 23 (List.take (Try.prog.cellsOf 23) (List.drop 4 [c0, c1, c2, c3, c4])) = some y4 := hf 4 _ rfl
        simp only [Try.cellsInt, Try.cellsStr, Try.cellsInts, Try.cellsLFs, List.drop, List.take] at g0 g1 g2 g3 g4
        obtain ⟨k, e0, _, wk⟩ := DataW.trod_int Try.underlying3 g0
        obtain ⟨nm, e1, _, wn⟩ := DataW.trod_string Try.underlying9 g1
        obtain ⟨z, e2, _, wz⟩ := DataW.trod_int Try.underlying3 g2
        obtain ⟨vs, sc, e3, hvs⟩ := open_introw g3
        simp only [List.cons.injEq, and_true] at e0 e1 e2 e3
        subst e0 e1 e2 e3
        rcases DataW.trod_slice Try.underlying23 g4 with ⟨e4, _⟩ | ⟨a, len, cap, elems, rest, m', rfl, e4, _, hb, hle, hcm, hel, hcells, _, _⟩
        · simp only [List.cons.injEq, and_true] at e4
          subst e4
          refine ⟨.mk k nm z sc [], _, _, _, _, _, rfl, ?_⟩
          unfold InV
          exact ⟨_, none, 0, rfl, bounds_i64 wk, bounds_i64 wz, wn, hvs, Nat.le_refl _, Nat.zero_le _, .inl rfl⟩
        · simp only [List.cons.injEq, and_true] at e4
          subst e4
          rw [Try.cellsLF] at hcells
          by_cases h0 : len = 0
          · subst h0
            refine ⟨.mk k nm z sc [], _, _, _, _, _, rfl, ?_⟩
            unfold InV
            exact ⟨_, some a, cap, rfl, bounds_i64 wk, bounds_i64 wz, wn, hvs, Nat.zero_le _, hcm, .inl rfl⟩
          · have each : ∀ i, i < len → ∃ f c0 c1 c2 c3 c4, (∀ j, j < 5 → w.cell? ((a.add (i * 5)).add j) = [c0, c1, c2, c3, c4][j]?) ∧ InV (· < w.heap.size) w f (.agg #[c0, c1, c2, c3, c4]) := by
              intro i hi
              have hc := hcells i hi
              have hs : elems[i]? = some (elems[i]'(by omega)) := List.getElem?_eq_getElem (by omega)
              rw [hs] at hc
              obtain ⟨cs', hc1, hc2⟩ := Option.bind_eq_some_iff.1 hc
              obtain ⟨f, d0, d1, d2, d3, d4, rfl, hin⟩ := ih m' (by omega) cs' _ hc2
              obtain ⟨_, _, hat⟩ := World.cells?_some hc1
              exact ⟨f, d0, d1, d2, d3, d4, hat, hin⟩
            obtain ⟨f0, d0, d1, d2, d3, d4, hat0, _⟩ := each 0 (by omega)
            have hd0 := hat0 0 (by omega)
            have ha : a = ⟨a.block, a.off, none⟩ := spot_none (w := w) (v := d0) (by simpa [Addr.add] using hd0)
            have hblk : a.block < w.heap.size := by
              rw [ha] at hd0
              exact cell_lt (o := a.off) (v := d0) (by simpa [Addr.add] using hd0)
            obtain ⟨ks, hkl, hrow⟩ := rowIn_of (φ := (· < w.heap.size)) (w := w) a.block len a.off (fun i hi => by
              obtain ⟨f, d0, d1, d2, d3, d4, hat, hin⟩ := each i hi
              rw [ha] at hat
              simp only [add_none] at hat
              exact ⟨f, d0, d1, d2, d3, d4, by simpa using hat 0 (by omega), by simpa using hat 1 (by omega), by simpa using hat 2 (by omega), by simpa using hat 3 (by omega), by simpa using hat 4 (by omega), hin⟩)
            subst hkl
            refine ⟨.mk k nm z sc ks, _, _, _, _, _, rfl, ?_⟩
            unfold InV
            exact ⟨_, some a, cap, rfl, bounds_i64 wk, bounds_i64 wz, wn, hvs, hle, hcm, .inr ⟨a.block, a.off, by rw [← ha], hblk, hrow⟩⟩
set_option maxRecDepth 100000 in
theorem open_form_arg {r : Reach} {b0 : Nat} {v : Value} {d : DataW H} {p : List MemPlace} (hv : Value.okWide Try.prog w r b0 25 v)
    (h : DataW.Trod enc Try.prog w base spare held 25 v d p) : ∃ f, InV (· < w.heap.size) w f v := by
  obtain ⟨cs, rfl, _⟩ := okWide_struct Try.underlying25 hv
  obtain ⟨fuel, hf⟩ := h
  obtain ⟨f, c0, c1, c2, c3, c4, e, hin⟩ := open_form fuel _ _ hf
  refine ⟨f, ?_⟩
  have e' : cs = #[c0, c1, c2, c3, c4] := by
    have : cs.toList = [c0, c1, c2, c3, c4] := by simpa [Value.cells] using e
    exact Array.ext' this
  rw [e']
  exact hin
end
end Go.Proofs.Ytbclgmabidjegaa
