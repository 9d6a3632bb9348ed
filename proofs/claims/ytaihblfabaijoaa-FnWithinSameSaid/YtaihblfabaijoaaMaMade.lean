/- A form that a function of the model builds anew, kid by kid: what holds between two rounds. -/
import Derived.Test.YtaihblfabaijoaaBox
import Derived.Test.YtaihblfabaijoaaChange
namespace Go.Proofs.Ytaihblfabaijoaa
open Go.RowKit
set_option linter.unusedVariables false
set_option linter.unusedSimpArgs false
/-- a row's cells that read as forms -/
def RowVals (φ : Nat → Prop) (w : World) : List Fm → List Value → Prop
  | [], xs => xs = []
  | f :: r, xs => ∃ c0 c1 c2 c3 c4 t, xs = c0 :: c1 :: c2 :: c3 :: c4 :: t ∧ InV φ w f (.agg #[c0, c1, c2, c3, c4]) ∧ RowVals φ w r t
theorem RowVals.keep {φ ψ : Nat → Prop} {w w' : World} (hs : Same φ w w') (hm : ∀ k, φ k → ψ k) : ∀ {gs : List Fm} {xs : List Value}, RowVals φ w gs xs → RowVals ψ w' gs xs
  | [], xs, h => h
  | f :: r, xs, h => by
    obtain ⟨c0, c1, c2, c3, c4, t, e, h1, h2⟩ := h
    exact ⟨c0, c1, c2, c3, c4, t, e, InV.mono hm _ _ (InV.later hs _ _ h1), RowVals.keep hs hm h2⟩
theorem RowVals.snoc {φ : Nat → Prop} {w : World} {f : Fm} {d0 d1 d2 d3 d4 : Value} (hf : InV φ w f (.agg #[d0, d1, d2, d3, d4])) : ∀ {gs : List Fm} {xs : List Value}, RowVals φ w gs xs → RowVals φ w (gs ++ [f]) (xs ++ [d0, d1, d2, d3, d4])
  | [], xs, h => by
    have h : xs = [] := h
    subst h
    exact ⟨d0, d1, d2, d3, d4, [], rfl, hf, rfl⟩
  | g :: r, xs, h => by
    obtain ⟨c0, c1, c2, c3, c4, t, rfl, h1, h2⟩ := h
    exact ⟨c0, c1, c2, c3, c4, t ++ [d0, d1, d2, d3, d4], rfl, h1, RowVals.snoc hf h2⟩
theorem RowVals.row {φ : Nat → Prop} {w : World} {b : Nat} : ∀ {gs : List Fm} {xs : List Value} {off : Nat}, RowVals φ w gs xs → (∀ j u, xs[j]? = some u → w.cell? ⟨b, off + j, none⟩ = some u) → RowIn φ w b off gs
  | [], _, _, _, _ => by unfold RowIn; trivial
  | g :: r, xs, off, h, hc => by
    obtain ⟨c0, c1, c2, c3, c4, t, rfl, h1, h2⟩ := h
    unfold RowIn
    exact ⟨⟨c0, c1, c2, c3, c4, hc 0 _ rfl, hc 1 _ rfl, hc 2 _ rfl, hc 3 _ rfl, hc 4 _ rfl, h1⟩, RowVals.row h2 fun j u hj => by
      have := hc (j + 5) u (by simpa using hj)
      rw [show off + (j + 5) = off + 5 + j by omega] at this
      exact this⟩
structure MadeMid (T : TypeId) (w wr : World) (pb rb ob base : Nat) (a : Option Addr) (cap m : Nat) (kd : Int) (nm : ByteArray) (n : Int) (c3 : Value) (sc : List Int) (gs : List Fm) (v : Value) (xs : List Value) : Prop where
  par : wr.cell? ⟨pb, 4, none⟩ = some (.slice a m cap)
  zero : wr.heap[rb]? = some (.cells #[.int .i64 0, .string { data := #[] }, .int .i64 0, .slice none 0 0, .slice none 0 0] T (0, 0))
  o0 : wr.cell? ⟨ob, 0, none⟩ = some (.int .i64 kd)
  o1 : wr.cell? ⟨ob, 1, none⟩ = some (.string nm)
  o2 : wr.cell? ⟨ob, 2, none⟩ = some (.int .i64 n)
  o3 : wr.cell? ⟨ob, 3, none⟩ = some c3
  o4 : wr.cell? ⟨ob, 4, none⟩ = some v
  free : ∀ i, wr.frozen? ⟨ob, i, none⟩ = false
  own : wr.ownsRow base T 5 v gs.length xs
  vals : RowVals (fun k => base ≤ k ∧ k < wr.heap.size ∧ v.ownBlock ≠ some k) wr gs xs
  ints : IntRow (fun k => w.heap.size ≤ k ∧ k < base ∧ k ≠ ob ∧ k ≠ rb) wr c3 sc
  below : Below w.heap.size w wr
  size : base ≤ wr.heap.size
  fix : w.heap.size ≤ pb ∧ w.heap.size ≤ rb ∧ w.heap.size ≤ ob ∧ pb < base ∧ rb < base ∧ ob < base ∧ pb ≠ ob ∧ rb ≠ ob
theorem MadeMid.step {T : TypeId} {w wr w2 w3 : World} {pb rb ob base : Nat} {a : Option Addr} {cap m : Nat} {kd : Int} {nm : ByteArray} {n : Int} {c3 : Value} {sc : List Int} {gs : List Fm} {v : Value} {xs : List Value} {g : Fm} {d0 d1 d2 d3 d4 : Value} {gq qd : Nat}
    (h : MadeMid T w wr pb rb ob base a cap m kd nm n c3 sc gs v xs) (hbA : Below wr.heap.size wr w2) (hin : InV (fun k => wr.heap.size ≤ k ∧ k < w2.heap.size) w2 g (.agg #[d0, d1, d2, d3, d4]))
    (hown : w3.ownsRow base T 5 (.slice (some ⟨gq, 0, none⟩) (gs.length + 1) qd) (gs.length + 1) (xs ++ [d0, d1, d2, d3, d4])) (hgrow : w2.grownBy w3 v.ownBlock) (hat : v.ownBlock = some gq ∨ gq = w2.heap.size) :
    MadeMid T w (w3.setCell ⟨ob, 4, none⟩ (.slice (some ⟨gq, 0, none⟩) (gs.length + 1) qd)) pb rb ob base a cap m kd nm n c3 sc (gs ++ [g]) (.slice (some ⟨gq, 0, none⟩) (gs.length + 1) qd) (xs ++ [d0, d1, d2, d3, d4]) := by
  obtain ⟨f1, f2, f3, f4, f5, f6, f7, f8⟩ := h.fix
  have hsz := h.size
  have hs12 := hbA.size
  have hs23 := hgrow.size
  have hvb : ∀ k, v.ownBlock = some k → base ≤ k ∧ k < wr.heap.size := fun k e => h.own.lt k e
  have hset : (w3.setCell ⟨ob, 4, none⟩ (.slice (some ⟨gq, 0, none⟩) (gs.length + 1) qd)).heap.size = w3.heap.size := by simp [World.setCell]
  have hold : ∀ k, k < wr.heap.size → v.ownBlock ≠ some k → k ≠ ob → (w3.setCell ⟨ob, 4, none⟩ (.slice (some ⟨gq, 0, none⟩) (gs.length + 1) qd)).heap[k]? = wr.heap[k]? := fun k h1 h2 h3 => by
    rw [Below.heap_setCell _ _ _ _ h3, hgrow.block k (by omega) (Ne.symm h2)]
    exact hbA.block k h1
  have hob : ∀ i, w3.cell? ⟨ob, i, none⟩ = wr.cell? ⟨ob, i, none⟩ := fun i =>
    (World.cell?_of_block (a := ⟨ob, i, none⟩) (hgrow.block ob (by omega) (fun e => by have := hvb ob e.symm; omega))).trans (World.cell?_of_block (a := ⟨ob, i, none⟩) (hbA.block ob (by omega)))
  have hgq : gq ≠ ob := by
    rcases hat with e | e
    · have := hvb gq e; omega
    · omega
  have hlow : ∀ k, k < base → v.ownBlock ≠ some k := fun k hk e => by have := hvb k e; omega
  have hgqv : ∀ k, k < w2.heap.size → v.ownBlock ≠ some k → (Value.slice (some ⟨gq, 0, none⟩) (gs.length + 1) qd).ownBlock ≠ some k := fun k hk hv e => by
    simp only [Value.ownBlock, Option.some.injEq] at e
    subst e
    rcases hat with e | e
    · exact hv e
    · omega
  refine ⟨?_, ?_, ?_, ?_, ?_, ?_, ?_, ?_, ?_, ?_, ?_, ?_, by rw [hset]; omega, h.fix⟩
  · rw [World.cell?_of_block (a := ⟨pb, 4, none⟩) (hold pb (by omega) (hlow pb f4) f7)]; exact h.par
  · rw [hold rb (by omega) (hlow rb f5) f8]; exact h.zero
  · rw [World.cell?_setCell_other _ _ _ _ (addr_ne (by omega)), hob]; exact h.o0
  · rw [World.cell?_setCell_other _ _ _ _ (addr_ne (by omega)), hob]; exact h.o1
  · rw [World.cell?_setCell_other _ _ _ _ (addr_ne (by omega)), hob]; exact h.o2
  · rw [World.cell?_setCell_other _ _ _ _ (addr_ne (by omega)), hob]; exact h.o3
  · exact World.cell?_setCell_same _ _ _ ((hob 4).trans h.o4)
  · intro i
    rw [World.frozen?_setCell]
    exact ((World.frozen?_of_block (a := ⟨ob, i, none⟩) (hgrow.block ob (by omega) (fun e => by have := hvb ob e.symm; omega))).trans (World.frozen?_of_block (a := ⟨ob, i, none⟩) (hbA.block ob (by omega)))).trans (h.free i)
  · rw [List.length_append, List.length_singleton]
    exact ownsRow_setFar hown hgq
  · refine RowVals.snoc (InV.mono ?_ _ _ (InV.later (w := w2) ?_ _ _ hin)) (h.vals.keep ?_ ?_)
    · rintro k ⟨k1, k2⟩
      exact ⟨by omega, by rw [hset]; omega, hgqv k k2 (fun e => by have := hvb k e; omega)⟩
    · rintro k ⟨k1, k2⟩
      rw [Below.heap_setCell _ _ _ _ (show k ≠ ob by omega), hgrow.block k k2 (fun e => by have := hvb k e.symm; omega)]
    · rintro k ⟨k1, k2, k3⟩
      exact hold k k2 k3 (by omega)
    · rintro k ⟨k1, k2, k3⟩
      exact ⟨k1, by rw [hset]; omega, hgqv k (by omega) k3⟩
  · exact h.ints.later fun k hk => hold k (by omega) (hlow k hk.2.1) hk.2.2.1
  · exact (h.below.trans ((hbA.mono (by omega)).grown hgrow (by omega) (fun k hk => by have := hvb k hk; omega))).setCell (p := ⟨ob, 4, none⟩) f3 _
/-- at the end: what the form reads as -/
theorem MadeMid.ends {T : TypeId} {w wr : World} {pb rb ob base : Nat} {a : Option Addr} {cap m : Nat} {kd : Int} {nm : ByteArray} {n : Int} {c3 : Value} {sc : List Int} {gs : List Fm} {v : Value} {xs : List Value}
    (h : MadeMid T w wr pb rb ob base a cap m kd nm n c3 sc gs v xs) (hk : -9223372036854775808 ≤ kd ∧ kd ≤ 9223372036854775807) (hn : -9223372036854775808 ≤ n ∧ n ≤ 9223372036854775807) (hm : nm.size ≤ maxLen) :
    InV (fun k => w.heap.size ≤ k ∧ k < wr.heap.size ∧ k ≠ rb) wr (.mk kd nm n sc gs) (.agg #[.int .i64 kd, .string nm, .int .i64 n, c3, v]) := by
  obtain ⟨f1, f2, f3, f4, f5, f6, f7, f8⟩ := h.fix
  have hsz := h.size
  have hints : IntRow (fun k => w.heap.size ≤ k ∧ k < wr.heap.size ∧ k ≠ rb) wr c3 sc := h.ints.mono fun k hk => ⟨hk.1, by omega, hk.2.2.2⟩
  unfold InV
  rcases h.own.2 with ⟨e, h0⟩ | ⟨g, cp, cur, e, hb, hg, hnc, hcm, _⟩
  · refine ⟨c3, none, 0, ?_, hk, hn, hm, hints, by omega, Nat.zero_le _, .inl (List.length_eq_zero_iff.1 h0)⟩
    rw [e, h0]
  · refine ⟨c3, some ⟨g, 0, none⟩, cp, by rw [e], hk, hn, hm, hints, hnc, hcm, .inr ⟨g, 0, rfl, ⟨by omega, (Array.getElem?_eq_some_iff.1 hg).1, by omega⟩, ?_⟩⟩
    refine RowVals.row (h.vals.keep (fun _ _ => rfl) fun k hk => ⟨by omega, hk.2.1, by omega⟩) fun j u hj => ?_
    have := h.own.cells (g := g) (by rw [e]; rfl) j u hj
    unfold Addr.add at this
    split at this <;> simp_all
end Go.Proofs.Ytaihblfabaijoaa
