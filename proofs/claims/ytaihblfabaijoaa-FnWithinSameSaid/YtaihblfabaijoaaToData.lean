/- Makings of slices, and what a copy of a form is said to be. -/
import Derived.Test.YtaihblfabaijoaaChecked
import Derived.Test.YtaihblfabaijoaaOwn
import Derived.Deep.OwnRows
namespace Go.Proofs.Ytaihblfabaijoaa
open Go.RowKit
set_option linter.unusedVariables false
theorem Try.infoInt : (Try.prog.info? 3).map (fun i => (i.zero, i.size, i.bytes)) = some (some (.int .i64 0), 1, 8) := by kernel_rfl
theorem Try.infoFm : (Try.prog.info? 31).map (fun i => (i.zero, i.size, i.bytes)) = some (some (.agg #[.int .i64 0, .string ByteArray.empty, .int .i64 0, .slice none 0 0, .slice none 0 0]), 5, 80) := by kernel_rfl
theorem make_ints (n : Nat) (hn : n ≤ 1048576) (w : World) : (Instr.makeSlice 23 (.int .i64 (n : Int)) (.int .i64 (n : Int))).run Try.prog w =
    .ok (.slice (some ⟨w.heap.size, 0, none⟩) n n) (w.alloc (.cells (madeCells #[.int .i64 0] n) 3)) :=
  run_make_row' 23 3 (.int .i64 0) 8 Try.underlying23 Try.infoInt rfl .i64 .i64 n (by omega) (by omega) w
def zeroFm : Array Value := #[.int .i64 0, .string ByteArray.empty, .int .i64 0, .slice none 0 0, .slice none 0 0]
theorem make_forms (n : Nat) (hn : n ≤ 1048576) (w : World) : (Instr.makeSlice 29 (.int .i64 (n : Int)) (.int .i64 (n : Int))).run Try.prog w =
    .ok (.slice (some ⟨w.heap.size, 0, none⟩) n n) (w.alloc (.cells (madeCells zeroFm (n * 5)) 31)) := by
  obtain ⟨i, hi, hzz⟩ := Option.map_eq_some_iff.1 Try.infoFm
  simp only [Prod.mk.injEq] at hzz
  obtain ⟨hz, hs, hb⟩ := hzz
  have := run_make (P := Try.prog) w 29 31 i _ Try.underlying29 hi hz .i64 .i64 n n (by omega) (Int.le_refl _) (by rw [hb]; omega) (by omega)
  rw [hs] at this
  exact this
/-- cells that a make has laid: each there, none frozen -/
theorem made_cell (w : World) (z : Array Value) (n T i : Nat) (hi : i < n) : ∃ v, (w.alloc (.cells (madeCells z n) T)).cell? ⟨w.heap.size, i, none⟩ = some v := by
  rw [World.cell?_alloc_new]
  exact ⟨_, Array.getElem?_eq_getElem (by rw [size_madeCells]; exact hi)⟩
theorem made_free (w : World) (z : Array Value) (n T i : Nat) : (w.alloc (.cells (madeCells z n) T)).frozen? ⟨w.heap.size, i, none⟩ = false := World.frozen?_alloc_new _ _ _ _
def ToPost (f : Fm) (w : World) (e : Ending) (w' : World) : Prop :=
  ∃ sa scap a cap bs, e = .returned (.agg #[.int .i64 f.kind, .string f.name, .int .i64 f.n, .slice sa f.scopes.length scap, .slice a f.kids.length cap]) ∧
    OwnV w' f (.agg #[.int .i64 f.kind, .string f.name, .int .i64 f.n, .slice sa f.scopes.length scap, .slice a f.kids.length cap]) bs ∧ NewBs bs w.heap.size w'.heap.size ∧ AllPlain w' bs ∧ Below w.heap.size w w'
/-- the block that a list is copied into: the first 'j' are done -/
structure FillAt (w wr : World) (ks : List Fm) (j : Nat) (bs : List Nat) : Prop where
  below : Below w.heap.size w wr
  size : w.heap.size < wr.heap.size
  row : RowOwn wr w.heap.size 0 (ks.take j) bs
  news : NewBs bs (w.heap.size + 1) wr.heap.size
  there : ∀ i, i < ks.length * 5 → ∃ v, wr.cell? ⟨w.heap.size, i, none⟩ = some v
  free : ∀ i, wr.frozen? ⟨w.heap.size, i, none⟩ = false
  plain : Plain wr w.heap.size
  plains : AllPlain wr bs
theorem FillAt.step {w wr w3 : World} {ks : List Fm} {j : Nat} {bs bs' : List Nat} {c0 c1 c2 c3 c4 : Value} (h : FillAt w wr ks j bs) (hj : j < ks.length) (hb : Below wr.heap.size wr w3)
    (ho : OwnV w3 ks[j] (.agg #[c0, c1, c2, c3, c4]) bs') (hn : NewBs bs' wr.heap.size w3.heap.size) (hp : AllPlain w3 bs') : FillAt w (set5 w3 w.heap.size (j * 5) c0 c1 c2 c3 c4) ks (j + 1) (bs ++ bs') := by
  have hsz := h.size
  have hsz3 := hb.size
  have hth : ∀ i, i < ks.length * 5 → ∃ v, w3.cell? ⟨w.heap.size, i, none⟩ = some v := fun i hi => by
    obtain ⟨v, hv⟩ := h.there i hi
    exact ⟨v, cell_later' hb hv⟩
  have hin := set5_in w3 w.heap.size (j * 5) c0 c1 c2 c3 c4 (fun i hi => hth (j * 5 + i) (by omega))
  have hfr : ∀ i, (set5 w3 w.heap.size (j * 5) c0 c1 c2 c3 c4).frozen? ⟨w.heap.size, i, none⟩ = false := fun i => by
    rw [set5_frozen, hb.frozen (p := ⟨w.heap.size, i, none⟩) hsz]; exact h.free i
  refine ⟨set5_below (h.below.trans (hb.mono (by omega))) (Nat.le_refl _) _ _ _ _ _ _, by rw [set5_size]; omega, ?_, ?_, fun i hi => ?_, hfr, (h.plain.later hb).set5 _ _ _ _ _ _ _, ((h.plains.later hb).append hp).same (fun x hx => ?_)⟩
  rotate_left 3
  · rcases List.mem_append.1 hx with hx | hx
    · have := h.news.2 x hx; exact set5_block _ _ _ _ _ _ _ _ (by omega)
    · have := hn.2 x hx; exact set5_block _ _ _ _ _ _ _ _ (by omega)
  · rw [List.take_succ_eq_append_getElem hj]
    have hl : (ks.take j).length = j := by simp; omega
    have hrow : RowOwn (set5 w3 w.heap.size (j * 5) c0 c1 c2 c3 c4) w.heap.size 0 (ks.take j) bs := by
      refine RowOwn.upto (w := wr) (fun x hx => ?_) (fun i _ hi => ?_) h.row
      · have := h.news.2 x hx
        rw [set5_block _ _ _ _ _ _ _ _ (by omega)]
        exact hb.block x (by omega)
      · rw [hl] at hi
        exact ⟨by rw [set5_out _ _ _ _ _ _ _ _ _ (by omega)]; exact hb.cell (p := ⟨w.heap.size, i, none⟩) hsz, by rw [set5_frozen]; exact hb.frozen (p := ⟨w.heap.size, i, none⟩) hsz⟩
    have e : 0 + (ks.take j).length * 5 = j * 5 := by rw [hl]; omega
    refine RowOwn.snoc hrow (by rw [e]; exact hin.1) (by rw [e]; exact hin.2.1) (by rw [e]; exact hin.2.2.1) (by rw [e]; exact hin.2.2.2.1) (by rw [e]; exact hin.2.2.2.2) (fun i _ => hfr _) ?_
    refine OwnV.later _ _ _ (fun x hx => ?_) ho
    have := hn.2 x hx
    exact set5_block _ _ _ _ _ _ _ _ (by omega)
  · rw [set5_size]
    exact h.news.append hn (by omega) (by omega)
  · by_cases hi2 : i < j * 5 ∨ j * 5 + 5 ≤ i
    · rw [set5_out _ _ _ _ _ _ _ _ _ hi2]; exact hth i hi
    · obtain ⟨k, rfl⟩ : ∃ k, i = j * 5 + k := ⟨i - j * 5, by omega⟩
      have hk : k < 5 := by omega
      match k, hk with
      | 0, _ => exact ⟨_, hin.1⟩
      | 1, _ => exact ⟨_, hin.2.1⟩
      | 2, _ => exact ⟨_, hin.2.2.1⟩
      | 3, _ => exact ⟨_, hin.2.2.2.1⟩
      | 4, _ => exact ⟨_, hin.2.2.2.2⟩
theorem ToPost.weak {f : Fm} {w w' : World} {e : Ending} (h : ToPost f w e w') :
    ∃ sa scap a cap, e = .returned (.agg #[.int .i64 f.kind, .string f.name, .int .i64 f.n, .slice sa f.scopes.length scap, .slice a f.kids.length cap]) ∧
      InV (· < w'.heap.size) w' f (.agg #[.int .i64 f.kind, .string f.name, .int .i64 f.n, .slice sa f.scopes.length scap, .slice a f.kids.length cap]) ∧ Below w.heap.size w w' := by
  obtain ⟨sa, scap, a, cap, bs, h1, h2, h3, _, h4⟩ := h
  exact ⟨sa, scap, a, cap, h1, OwnV.inV f _ bs (fun b hb => (h3.2 b hb).2) h2, h4⟩
end Go.Proofs.Ytaihblfabaijoaa
