/- The first texts of this seat: letters and names, forms as data, sets of scopes, validity, small walks. -/
import Derived.Test.YtbclgmabidjegaaChecked
import Derived.Test.YtbclgmabidjegaaData
import Derived.Deep.OwnRows
import Derived.Test.YtbclgmabidjegaaPop
import Derived.OwnWalk
namespace Go.Proofs.Ytbclgmabidjegaa
section
open Go.RowKit
set_option linter.unusedVariables false
theorem Try.infoInt : (Try.prog.info? 3).map (fun i => (i.zero, i.size, i.bytes)) = some (some (.int .i64 0), 1, 8) := by kernel_rfl
theorem Try.infoFm : (Try.prog.info? 33).map (fun i => (i.zero, i.size, i.bytes)) = some (some (.agg #[.int .i64 0, .string ByteArray.empty, .int .i64 0, .slice none 0 0, .slice none 0 0]), 5, 80) := by kernel_rfl
theorem make_ints (n : Nat) (hn : n ≤ 1048576) (w : World) : (Instr.makeSlice 22 (.int .i64 (n : Int)) (.int .i64 (n : Int))).run Try.prog w =
    .ok (.slice (some ⟨w.heap.size, 0, none⟩) n n) (w.alloc (.cells (madeCells #[.int .i64 0] n) 3)) :=
  run_make_row' 22 3 (.int .i64 0) 8 Try.underlying22 Try.infoInt rfl .i64 .i64 n (by omega) (by omega) w
def zeroFm : Array Value := #[.int .i64 0, .string ByteArray.empty, .int .i64 0, .slice none 0 0, .slice none 0 0]
theorem make_forms (n : Nat) (hn : n ≤ 1048576) (w : World) : (Instr.makeSlice 31 (.int .i64 (n : Int)) (.int .i64 (n : Int))).run Try.prog w =
    .ok (.slice (some ⟨w.heap.size, 0, none⟩) n n) (w.alloc (.cells (madeCells zeroFm (n * 5)) 33)) := by
  obtain ⟨i, hi, hzz⟩ := Option.map_eq_some_iff.1 Try.infoFm
  simp only [Prod.mk.injEq] at hzz
  obtain ⟨hz, hs, hb⟩ := hzz
  have := run_make (P := Try.prog) w 31 33 i _ Try.underlying31 hi hz .i64 .i64 n n (by omega) (Int.le_refl _) (by rw [hb]; omega) (by omega)
  rw [hs] at this
  exact this
/-- cells that a make has laid: each there, none frozen -/
theorem made_cell (w : World) (z : Array Value) (n T i : Nat) (hi : i < n) : ∃ v, (w.alloc (.cells (madeCells z n) T)).cell? ⟨w.heap.size, i, none⟩ = some v := by
  rw [World.cell?_alloc_new]
  exact ⟨_, Array.getElem?_eq_getElem (by rw [size_madeCells]; exact hi)⟩
theorem made_free (w : World) (z : Array Value) (n T i : Nat) : (w.alloc (.cells (madeCells z n) T)).frozen? ⟨w.heap.size, i, none⟩ = false := World.frozen?_alloc_new _ _ _ _
def ToPost (f : Fm) (w : World) (e : Ending) (w' : World) : Prop :=
  ∃ sa scap a cap bs, e = .returned (.agg #[.int .i64 f.kind, .string f.name, .int .i64 f.n, .slice sa f.scopes.length scap, .slice a f.kids.length cap]) ∧
    OwnV w' f (.agg #[.int .i64 f.kind, .string f.name, .int .i64 f.n, .slice sa f.scopes.length scap, .slice a f.kids.length cap]) bs ∧ NewBs bs w.heap.size w'.heap.size ∧ AllPlain w' bs ∧ Below w.heap.size w w'
/-- the block that a list is copied into: the first 'j' are done -/
structure FillAt (w wr : World) (ks : List Fm) (j : Nat) (bs : List Nat) : Prop where
  below : Below w.heap.size w wr
  size : w.heap.size < wr.heap.size
  row : RowOwn wr w.heap.size 0 (ks.take j) bs
  news : NewBs bs (w.heap.size + 1) wr.heap.size
  there : ∀ i, i < ks.length * 5 → ∃ v, wr.cell? ⟨w.heap.size, i, none⟩ = some v
  free : ∀ i, wr.frozen? ⟨w.heap.size, i, none⟩ = false
  plain : Plain wr w.heap.size
  plains : AllPlain wr bs
theorem FillAt.step {w wr w3 : World} {ks : List Fm} {j : Nat} {bs bs' : List Nat} {c0 c1 c2 c3 c4 : Value} (h : FillAt w wr ks j bs) (hj : j < ks.length) (hb : Below wr.heap.size wr w3)
    (ho : OwnV w3 ks[j] (.agg #[c0, c1, c2, c3, c4]) bs') (hn : NewBs bs' wr.heap.size w3.heap.size) (hp : AllPlain w3 bs') : FillAt w (set5 w3 w.heap.size (j * 5) c0 c1 c2 c3 c4) ks (j + 1) (bs ++ bs') := by
  have hsz := h.size
  have hsz3 := hb.size
  have hth : ∀ i, i < ks.length * 5 → ∃ v, w3.cell? ⟨w.heap.size, i, none⟩ = some v := fun i hi => by
    obtain ⟨v, hv⟩ := h.there i hi
    exact ⟨v, cell_later' hb hv⟩
  have hin := set5_in w3 w.heap.size (j * 5) c0 c1 c2 c3 c4 (fun i hi => hth (j * 5 + i) (by omega))
  have hfr : ∀ i, (set5 w3 w.heap.size (j * 5) c0 c1 c2 c3 c4).frozen? ⟨w.heap.size, i, none⟩ = false := fun i => by
    rw [set5_frozen, hb.frozen (p := ⟨w.heap.size, i, none⟩) hsz]; exact h.free i
  refine ⟨set5_below (h.below.trans (hb.mono (by omega))) (Nat.le_refl _) _ _ _ _ _ _, by rw [set5_size]; omega, ?_, ?_, fun i hi => ?_, hfr, (h.plain.later hb).set5 _ _ _ _ _ _ _, ((h.plains.later hb).append hp).same (fun x hx => ?_)⟩
  rotate_left 3
  · rcases List.mem_append.1 hx with hx | hx
    · have := h.news.2 x hx; exact set5_block _ _ _ _ _ _ _ _ (by omega)
    · have := hn.2 x hx; exact set5_block _ _ _ _ _ _ _ _ (by omega)
  · rw [List.take_succ_eq_append_getElem hj]
    have hl : (ks.take j).length = j := by simp; omega
    have hrow : RowOwn (set5 w3 w.heap.size (j * 5) c0 c1 c2 c3 c4) w.heap.size 0 (ks.take j) bs := by
      refine RowOwn.upto (w := wr) (fun x hx => ?_) (fun i _ hi => ?_) h.row
      · have := h.news.2 x hx
        rw [set5_block _ _ _ _ _ _ _ _ (by omega)]
        exact hb.block x (by omega)
      · rw [hl] at hi
        exact ⟨by rw [set5_out _ _ _ _ _ _ _ _ _ (by omega)]; exact hb.cell (p := ⟨w.heap.size, i, none⟩) hsz, by rw [set5_frozen]; exact hb.frozen (p := ⟨w.heap.size, i, none⟩) hsz⟩
    have e : 0 + (ks.take j).length * 5 = j * 5 := by rw [hl]; omega
    refine RowOwn.snoc hrow (by rw [e]; exact hin.1) (by rw [e]; exact hin.2.1) (by rw [e]; exact hin.2.2.1) (by rw [e]; exact hin.2.2.2.1) (by rw [e]; exact hin.2.2.2.2) (fun i _ => hfr _) ?_
    refine OwnV.later _ _ _ (fun x hx => ?_) ho
    have := hn.2 x hx
    exact set5_block _ _ _ _ _ _ _ _ (by omega)
  · rw [set5_size]
    exact h.news.append hn (by omega) (by omega)
  · by_cases hi2 : i < j * 5 ∨ j * 5 + 5 ≤ i
    · rw [set5_out _ _ _ _ _ _ _ _ _ hi2]; exact hth i hi
    · obtain ⟨k, rfl⟩ : ∃ k, i = j * 5 + k := ⟨i - j * 5, by omega⟩
      have hk : k < 5 := by omega
      match k, hk with
      | 0, _ => exact ⟨_, hin.1⟩
      | 1, _ => exact ⟨_, hin.2.1⟩
      | 2, _ => exact ⟨_, hin.2.2.1⟩
      | 3, _ => exact ⟨_, hin.2.2.2.1⟩
      | 4, _ => exact ⟨_, hin.2.2.2.2⟩
theorem ToPost.weak {f : Fm} {w w' : World} {e : Ending} (h : ToPost f w e w') :
    ∃ sa scap a cap, e = .returned (.agg #[.int .i64 f.kind, .string f.name, .int .i64 f.n, .slice sa f.scopes.length scap, .slice a f.kids.length cap]) ∧
      InV (· < w'.heap.size) w' f (.agg #[.int .i64 f.kind, .string f.name, .int .i64 f.n, .slice sa f.scopes.length scap, .slice a f.kids.length cap]) ∧ Below w.heap.size w w' := by
  obtain ⟨sa, scap, a, cap, bs, h1, h2, h3, _, h4⟩ := h
  exact ⟨sa, scap, a, cap, h1, OwnV.inV f _ bs (fun b hb => (h3.2 b hb).2) h2, h4⟩
end
end Go.Proofs.Ytbclgmabidjegaa
namespace Go.Proofs.Ytbclgmabidjegaa
section
open Go.RowKit
set_option linter.unusedVariables false
/-- what the change of one node leaves -/
structure Changed (new : List Int) (b o : Nat) (w w' : World) : Prop where
  only : Only [b] w w'
  sc : ∃ sa scap bs, w'.cell? ⟨b, o + 3, none⟩ = some (.slice sa new.length scap) ∧ IntOwn w' (.slice sa new.length scap) new bs ∧ NewBs bs w.heap.size w'.heap.size ∧ AllPlain w' bs
  cell : ∀ i, i ≠ o + 3 → w'.cell? ⟨b, i, none⟩ = w.cell? ⟨b, i, none⟩
  frozen : ∀ i, w'.frozen? ⟨b, i, none⟩ = w.frozen? ⟨b, i, none⟩
  plain : Plain w b → Plain w' b
theorem ownsRow_plain {w : World} {base g : Nat} {e : TypeId} {size n m cap : Nat} {xs : List Value} (h : w.ownsRow base e size (.slice (some ⟨g, 0, none⟩) n cap) m xs) : Plain w g := by
  rcases h.2 with ⟨h', _⟩ | ⟨g', cap', cur, h', hb, hg, _⟩
  · simp at h'
  · simp only [Value.slice.injEq, Option.some.injEq, Addr.mk.injEq, and_true] at h'
    obtain ⟨rfl, rfl, rfl⟩ := h'
    exact ⟨cur, e, hg⟩
theorem ownsRow_ints {w : World} {base g cap : Nat} {e : TypeId} {l : List Int} (h : w.ownsRow base e 1 (.slice (some ⟨g, 0, none⟩) l.length cap) l.length (l.map (Value.int .i64)))
    (hb : ∀ n ∈ l, -9223372036854775808 ≤ n ∧ n ≤ 9223372036854775807) : IntOwn w (.slice (some ⟨g, 0, none⟩) l.length cap) l [g] := by
  obtain ⟨_, _, _, h1, h2⟩ := ownsRow_at h
  refine ⟨_, cap, rfl, h1, h2, hb, .inr ⟨g, 0, rfl, rfl, fun i hi => ?_⟩⟩
  rw [Nat.zero_add]
  refine ⟨?_, h.frozenAt i⟩
  rw [h.cellAt i (by omega), List.getElem?_map, List.getElem?_eq_getElem hi]
  rfl
theorem run_append_empty {P : Program} (w : World) (t ty e : TypeId) (i : TypeInfo) (ht : P.underlying t = some (.slice e)) (hi : P.info? e = some i) (a : Option Addr) (c : Nat) :
    (Builtin.append_ #[t, t] ty #[.slice none 0 0, .slice a 0 c]).run P w = .ok (.slice none 0 0) w := by
  cases a <;> simp [Builtin.append_, run_underlying ht, sizeOf, typeInfo, hi, Builtin.lenOf, Builtin.firstCells, loadCells, loadCellsFrom, Result.andThen]
theorem wpList_append_empty {P : Program} {w : World} {ops : Array Oper} {rest : List Oper} {o : Oper} {a : Act} {Q : Exit → Act → World → Prop} (hgd : o.guard = none) (s x : Operand) (t : TypeId)
    (ho : o.op = .call { callee := .builtin .append, args := #[s, x], argTypes := #[t, t] }) (e : TypeId) (i : TypeInfo) (ht : P.underlying t = some (.slice e)) (hi : P.info? e = some i)
    (hs : a.eval s = .slice none 0 0) (ad : Option Addr) (c : Nat) (hx : a.eval x = .slice ad 0 c) (h : wpList P ops Q rest (a.put o.dst (.slice none 0 0)) w) : wpList P ops Q (o :: rest) a w := by
  refine wpList_plain hgd fun K hK => ?_
  have hrun := run_append_empty (P := P) w t o.type e i ht hi ad c
  unfold Oper.wp
  simp [execOp, ho, resolve, invoke, builtin, hs, hx, hrun, Result.andThen]
  exact hK _ _ h
theorem InV.bounds {φ : Nat → Prop} {w : World} {f : Fm} {v : Value} (h : InV φ w f v) :
    (-9223372036854775808 ≤ f.kind ∧ f.kind ≤ 9223372036854775807) ∧ (-9223372036854775808 ≤ f.n ∧ f.n ≤ 9223372036854775807) ∧ f.name.size ≤ maxLen := by
  cases f with
  | mk k nm n sc ks =>
    unfold InV at h
    obtain ⟨vs, a, cap, _, h1, h2, h3, _⟩ := h
    exact ⟨h1, h2, h3⟩
/-- the blocks that matter behind a round: those that did, and new ones -/
def RelGrows (l l' : List (Addr × Fm)) (D D' : Nat → Nat → Prop) (E E' : List Nat) (n : Nat) : Prop := ∀ k, RelB l' D' E' k → RelB l D E k ∨ n ≤ k
theorem chgStep_nil {chg : Int → List Int → List Int} {base : Nat} {w0 w2 w3 : World} {root : Addr × Fm} {l0 : List (Addr × Fm)} {b o : Nat} {f : Fm} {D : Nat → Nat → Prop} {E : List Nat}
    (h : ChgMid chg base w0 w2 root (l0 ++ [(⟨b, o, none⟩, f)]) D E) (hc : Changed (chg f.kind f.scopes) b o w2 w3) {u : Value} (h4 : w3.cell? ⟨b, o + 4, none⟩ = some u) (hk : f.kids = []) :
    ∃ D' E', ChgMid chg base w0 (w3.setCell ⟨b, o + 4, none⟩ (.slice none 0 0)) root l0 D' E' ∧ RelGrows (l0 ++ [(⟨b, o, none⟩, f)]) l0 D D' E E' w2.heap.size := by
  obtain ⟨⟨b', o', e, _, _, _, _, _, _, _, _, _, _, hin⟩, hbb, hbl⟩ := h.todo (⟨b, o, none⟩, f) (by simp)
  injection e with e1 e2
  subst e1 e2
  simp only at hbb hbl
  obtain ⟨hfk, hfn, hnm⟩ := hin.bounds
  obtain ⟨sa, scap, bs, s1, s2, s3, s4⟩ := hc.sc
  have hne : ∀ c ∈ bs, c ≠ b := fun c hm => by have := (s3.2 c hm).1; omega
  have hsz : w2.heap.size ≤ w3.heap.size := hc.only.size
  have hset : (w3.setCell ⟨b, o + 4, none⟩ (.slice none 0 0)).heap.size = w3.heap.size := by simp [World.setCell]
  have := h.step (w5 := w3.setCell ⟨b, o + 4, none⟩ (.slice none 0 0)) (sa := sa) (a := none) (scap := scap) (cap := 0) (bs1 := bs) (kbs := []) (kb := 0)
    (((hc.only.below (fun c hm => by rw [List.mem_singleton] at hm; subst hm; exact hbb) (h.size))).setCell (by simpa using hbb) _) (by rw [hset]; exact hsz)
    (fun k hr hn => by rw [Below.heap_setCell _ _ _ _ hn]; exact hc.only.block k (h.relLt hr.left) (by simpa using hn))
    (fun i => by rw [World.frozen?_setCell]; exact hc.frozen i) (fun i h1 h2 => by rw [World.cell?_setCell_other _ _ _ _ (addr_ne (by omega))]; exact hc.cell i h1)
    (fun hp => (hc.plain hp).setCell _ _ _) (by rw [World.cell?_setCell_other _ _ _ _ (addr_ne (by omega))]; exact s1)
    (s2.later fun c hm => Below.heap_setCell _ _ _ _ (hne c hm)) (by rw [List.append_nil, hset]; exact s3) (by rw [List.append_nil]; exact s4.same fun c hm => Below.heap_setCell _ _ _ _ (hne c hm))
    (by rw [hk]; exact World.cell?_setCell_same _ _ _ h4) (by rw [hk]; exact Nat.le_refl _) (Nat.zero_le _) (.inl ⟨hk, rfl⟩) (by rw [hk]; intro x hx; cases hx) hfk hfn hnm
  rw [hk, show itemsOf 0 0 [] = [] from rfl, List.append_nil] at this
  refine ⟨_, _, this, fun k hr => ?_⟩
  rcases hr with ⟨x, hx, e⟩ | ⟨i, hd | ⟨e, _⟩ | hd⟩ | hm
  · exact .inl (.inl ⟨x, List.mem_append_left _ hx, e⟩)
  · exact .inl (.inr (.inl ⟨i, hd⟩))
  · exact .inl (.inl ⟨_, List.mem_append_right _ (List.mem_singleton.2 rfl), e.symm⟩)
  · exact .inr (s3.2 k hd).1
  · rcases List.mem_append.1 hm with hm | hm
    · exact .inl (.inr (.inr hm))
    · rw [List.append_nil] at hm
      exact .inr (s3.2 k hm).1
theorem chgStep_kids {chg : Int → List Int → List Int} {base : Nat} {w0 w2 w3 w4 : World} {root : Addr × Fm} {l0 : List (Addr × Fm)} {b o : Nat} {f : Fm} {D : Nat → Nat → Prop} {E : List Nat}
    (h : ChgMid chg base w0 w2 root (l0 ++ [(⟨b, o, none⟩, f)]) D E) (hc : Changed (chg f.kind f.scopes) b o w2 w3) {u : Value} (h4 : w3.cell? ⟨b, o + 4, none⟩ = some u)
    {xb xo qcap : Nat} {T : TypeId} (hrow : RowIn (· < base) w0 xb xo f.kids) (hxb : xb < base) (hgrow : w3.grownBy w4 none)
    (hown : w4.ownsRow base T 5 (.slice (some ⟨w3.heap.size, 0, none⟩) f.kids.length qcap) f.kids.length (rowCells w3 xb xo (f.kids.length * 5))) :
    ∃ D' E', ChgMid chg base w0 (w4.setCell ⟨b, o + 4, none⟩ (.slice (some ⟨w3.heap.size, 0, none⟩) f.kids.length qcap)) root (l0 ++ itemsOf w3.heap.size 0 f.kids) D' E' ∧
      RelGrows (l0 ++ [(⟨b, o, none⟩, f)]) (l0 ++ itemsOf w3.heap.size 0 f.kids) D D' E E' w2.heap.size ∧ RelB (l0 ++ itemsOf w3.heap.size 0 f.kids) D' E' b := by
  obtain ⟨⟨b', o', e, _, _, _, _, _, _, _, _, _, _, hin⟩, hbb, hbl⟩ := h.todo (⟨b, o, none⟩, f) (by simp)
  injection e with e1 e2
  subst e1 e2
  simp only at hbb hbl
  obtain ⟨hfk, hfn, hnm⟩ := hin.bounds
  obtain ⟨sa, scap, bs, s1, s2, s3, s4⟩ := hc.sc
  have hsz : w2.heap.size ≤ w3.heap.size := hc.only.size
  have hsz4 : w3.heap.size < w4.heap.size := (hown.lt _ rfl).2
  have hs34 : ∀ k, k < w3.heap.size → w4.heap[k]? = w3.heap[k]? := fun k hk => hgrow.block k hk (by simp)
  have hne : ∀ c ∈ bs, c ≠ b ∧ c < w3.heap.size := fun c hm => ⟨by have := (s3.2 c hm).1; omega, (s3.2 c hm).2⟩
  have hset : (w4.setCell ⟨b, o + 4, none⟩ (.slice (some ⟨w3.heap.size, 0, none⟩) f.kids.length qcap)).heap.size = w4.heap.size := by simp [World.setCell]
  have hbl3 : b < w3.heap.size := by omega
  have hb4 := hs34 b hbl3
  have h44 : w4.cell? ⟨b, o + 4, none⟩ = some u := (World.cell?_of_block (a := ⟨b, o + 4, none⟩) hb4).trans h4
  obtain ⟨_, _, _, hcap, hmax⟩ := ownsRow_at hown
  have hb24 : Below base w2 w4 := (hc.only.below (fun c hm => by rw [List.mem_singleton] at hm; subst hm; exact hbb) h.size).trans
    ⟨hgrow.os, hgrow.tape, hgrow.output, hgrow.size, fun k hk => hs34 k (by have := h.size; omega)⟩
  have hown5 : (w4.setCell ⟨b, o + 4, none⟩ (.slice (some ⟨w3.heap.size, 0, none⟩) f.kids.length qcap)).ownsRow base T 5 (.slice (some ⟨w3.heap.size, 0, none⟩) f.kids.length qcap) f.kids.length (rowCells w3 xb xo (f.kids.length * 5)) :=
    ownsRow_setFar hown (by omega)
  have hb03 : Below base w0 w3 := h.below.trans (hc.only.below (fun c hm => by rw [List.mem_singleton] at hm; subst hm; exact hbb) h.size)
  have := h.step (w5 := w4.setCell ⟨b, o + 4, none⟩ (.slice (some ⟨w3.heap.size, 0, none⟩) f.kids.length qcap)) (sa := sa) (a := some ⟨w3.heap.size, 0, none⟩) (scap := scap) (cap := qcap) (bs1 := bs) (kbs := [w3.heap.size]) (kb := w3.heap.size)
    (hb24.setCell (by simpa using hbb) _) (by rw [hset]; omega)
    (fun k hr hn => by
      have hk2 := h.relLt hr.left
      rw [Below.heap_setCell _ _ _ _ hn, hs34 k (by omega)]
      exact hc.only.block k hk2 (by simpa using hn))
    (fun i => by rw [World.frozen?_setCell, World.frozen?_of_block (a := ⟨b, i, none⟩) hb4]; exact hc.frozen i)
    (fun i h1 h2 => by rw [World.cell?_setCell_other _ _ _ _ (addr_ne (by omega)), World.cell?_of_block (a := ⟨b, i, none⟩) hb4]; exact hc.cell i h1)
    (fun hp => ((hc.plain hp).same hb4).setCell _ _ _)
    (by rw [World.cell?_setCell_other _ _ _ _ (addr_ne (by omega)), World.cell?_of_block (a := ⟨b, o + 3, none⟩) hb4]; exact s1)
    (s2.later fun c hm => by rw [Below.heap_setCell _ _ _ _ (hne c hm).1]; exact hs34 c (hne c hm).2)
    (by rw [hset]; exact s3.append ((NewBs.nil (w3.heap.size + 1) w4.heap.size).cons (Nat.le_refl _) hsz4) hsz (Nat.le_of_lt hsz4))
    ((s4.same fun c hm => by rw [Below.heap_setCell _ _ _ _ (hne c hm).1]; exact hs34 c (hne c hm).2).append ((AllPlain.nil _).cons (ownsRow_plain hown5)))
    (World.cell?_setCell_same _ _ _ h44) hcap hmax (.inr ⟨rfl, rfl⟩)
    (RowIn.copied (w := w0) (k := 0) (by simpa using hrow) fun i hi => by
      rw [Nat.zero_add] at hi
      refine ⟨?_, hown5.frozenAt i⟩
      rw [hown5.cellAt i hi, rowCells_get _ _ _ _ _ hi]
      obtain ⟨v, hv, _⟩ := hrow.there i hi
      rw [hb03.cell (p := ⟨xb, xo + i, none⟩) hxb, hv]
      rfl) hfk hfn hnm
  refine ⟨_, _, this, fun k hr => ?_, .inr (.inl ⟨o, .inr (.inl ⟨rfl, Nat.le_refl _, by omega⟩)⟩)⟩
  rcases hr with ⟨x, hx, e⟩ | ⟨i, hd | ⟨e, _⟩ | hd⟩ | hm
  · rcases List.mem_append.1 hx with hx | hx
    · exact .inl (.inl ⟨x, List.mem_append_left _ hx, e⟩)
    · obtain ⟨i, _, e'⟩ := itemsOf_mem _ _ _ _ hx
      rw [e'] at e
      exact .inr (by rw [← e]; exact hsz)
  · exact .inl (.inr (.inl ⟨i, hd⟩))
  · exact .inl (.inl ⟨_, List.mem_append_right _ (List.mem_singleton.2 rfl), e.symm⟩)
  · exact .inr (s3.2 k hd).1
  · rcases List.mem_append.1 hm with hm | hm
    · exact .inl (.inr (.inr hm))
    · rcases List.mem_append.1 hm with hm | hm
      · exact .inr (s3.2 k hm).1
      · rw [List.mem_singleton] at hm
        exact .inr (by omega)
end
end Go.Proofs.Ytbclgmabidjegaa
namespace Go.Proofs.Ytbclgmabidjegaa
section
open Go.RowKit
set_option linter.unusedVariables false
set_option linter.unusedSimpArgs false
/-- a row's cells that read as forms -/
def RowVals (φ : Nat → Prop) (w : World) : List Fm → List Value → Prop
  | [], xs => xs = []
  | f :: r, xs => ∃ c0 c1 c2 c3 c4 t, xs = c0 :: c1 :: c2 :: c3 :: c4 :: t ∧ InV φ w f (.agg #[c0, c1, c2, c3, c4]) ∧ RowVals φ w r t
theorem RowVals.keep {φ ψ : Nat → Prop} {w w' : World} (hs : Same φ w w') (hm : ∀ k, φ k → ψ k) : ∀ {gs : List Fm} {xs : List Value}, RowVals φ w gs xs → RowVals ψ w' gs xs
  | [], xs, h => h
  | f :: r, xs, h => by
    obtain ⟨c0, c1, c2, c3, c4, t, e, h1, h2⟩ := h
    exact ⟨c0, c1, c2, c3, c4, t, e, InV.mono hm _ _ (InV.later hs _ _ h1), RowVals.keep hs hm h2⟩
theorem RowVals.snoc {φ : Nat → Prop} {w : World} {f : Fm} {d0 d1 d2 d3 d4 : Value} (hf : InV φ w f (.agg #[d0, d1, d2, d3, d4])) : ∀ {gs : List Fm} {xs : List Value}, RowVals φ w gs xs → RowVals φ w (gs ++ [f]) (xs ++ [d0, d1, d2, d3, d4])
  | [], xs, h => by
    have h : xs = [] := h
    subst h
    exact ⟨d0, d1, d2, d3, d4, [], rfl, hf, rfl⟩
  | g :: r, xs, h => by
    obtain ⟨c0, c1, c2, c3, c4, t, rfl, h1, h2⟩ := h
    exact ⟨c0, c1, c2, c3, c4, t ++ [d0, d1, d2, d3, d4], rfl, h1, RowVals.snoc hf h2⟩
theorem RowVals.row {φ : Nat → Prop} {w : World} {b : Nat} : ∀ {gs : List Fm} {xs : List Value} {off : Nat}, RowVals φ w gs xs → (∀ j u, xs[j]? = some u → w.cell? ⟨b, off + j, none⟩ = some u) → RowIn φ w b off gs
  | [], _, _, _, _ => by unfold RowIn; trivial
  | g :: r, xs, off, h, hc => by
    obtain ⟨c0, c1, c2, c3, c4, t, rfl, h1, h2⟩ := h
    unfold RowIn
    exact ⟨⟨c0, c1, c2, c3, c4, hc 0 _ rfl, hc 1 _ rfl, hc 2 _ rfl, hc 3 _ rfl, hc 4 _ rfl, h1⟩, RowVals.row h2 fun j u hj => by
      have := hc (j + 5) u (by simpa using hj)
      rw [show off + (j + 5) = off + 5 + j by omega] at this
      exact this⟩
structure MadeMid (T : TypeId) (w wr : World) (pb rb ob base : Nat) (a : Option Addr) (cap m : Nat) (kd : Int) (nm : ByteArray) (n : Int) (c3 : Value) (sc : List Int) (gs : List Fm) (v : Value) (xs : List Value) : Prop where
  par : wr.cell? ⟨pb, 4, none⟩ = some (.slice a m cap)
  zero : wr.heap[rb]? = some (.cells #[.int .i64 0, .string { data := #[] }, .int .i64 0, .slice none 0 0, .slice none 0 0] T (0, 0))
  o0 : wr.cell? ⟨ob, 0, none⟩ = some (.int .i64 kd)
  o1 : wr.cell? ⟨ob, 1, none⟩ = some (.string nm)
  o2 : wr.cell? ⟨ob, 2, none⟩ = some (.int .i64 n)
  o3 : wr.cell? ⟨ob, 3, none⟩ = some c3
  o4 : wr.cell? ⟨ob, 4, none⟩ = some v
  free : ∀ i, wr.frozen? ⟨ob, i, none⟩ = false
  own : wr.ownsRow base T 5 v gs.length xs
  vals : RowVals (fun k => base ≤ k ∧ k < wr.heap.size ∧ v.ownBlock ≠ some k) wr gs xs
  ints : IntRow (fun k => w.heap.size ≤ k ∧ k < base ∧ k ≠ ob ∧ k ≠ rb) wr c3 sc
  below : Below w.heap.size w wr
  size : base ≤ wr.heap.size
  fix : w.heap.size ≤ pb ∧ w.heap.size ≤ rb ∧ w.heap.size ≤ ob ∧ pb < base ∧ rb < base ∧ ob < base ∧ pb ≠ ob ∧ rb ≠ ob
theorem MadeMid.step {T : TypeId} {w wr w2 w3 : World} {pb rb ob base : Nat} {a : Option Addr} {cap m : Nat} {kd : Int} {nm : ByteArray} {n : Int} {c3 : Value} {sc : List Int} {gs : List Fm} {v : Value} {xs : List Value} {g : Fm} {d0 d1 d2 d3 d4 : Value} {gq qd : Nat}
    (h : MadeMid T w wr pb rb ob base a cap m kd nm n c3 sc gs v xs) (hbA : Below wr.heap.size wr w2) (hin : InV (fun k => wr.heap.size ≤ k ∧ k < w2.heap.size) w2 g (.agg #[d0, d1, d2, d3, d4]))
    (hown : w3.ownsRow base T 5 (.slice (some ⟨gq, 0, none⟩) (gs.length + 1) qd) (gs.length + 1) (xs ++ [d0, d1, d2, d3, d4])) (hgrow : w2.grownBy w3 v.ownBlock) (hat : v.ownBlock = some gq ∨ gq = w2.heap.size) :
    MadeMid T w (w3.setCell ⟨ob, 4, none⟩ (.slice (some ⟨gq, 0, none⟩) (gs.length + 1) qd)) pb rb ob base a cap m kd nm n c3 sc (gs ++ [g]) (.slice (some ⟨gq, 0, none⟩) (gs.length + 1) qd) (xs ++ [d0, d1, d2, d3, d4]) := by
  obtain ⟨f1, f2, f3, f4, f5, f6, f7, f8⟩ := h.fix
  have hsz := h.size
  have hs12 := hbA.size
  have hs23 := hgrow.size
  have hvb : ∀ k, v.ownBlock = some k → base ≤ k ∧ k < wr.heap.size := fun k e => h.own.lt k e
  have hset : (w3.setCell ⟨ob, 4, none⟩ (.slice (some ⟨gq, 0, none⟩) (gs.length + 1) qd)).heap.size = w3.heap.size := by simp [World.setCell]
  have hold : ∀ k, k < wr.heap.size → v.ownBlock ≠ some k → k ≠ ob → (w3.setCell ⟨ob, 4, none⟩ (.slice (some ⟨gq, 0, none⟩) (gs.length + 1) qd)).heap[k]? = wr.heap[k]? := fun k h1 h2 h3 => by
    rw [Below.heap_setCell _ _ _ _ h3, hgrow.block k (by omega) (Ne.symm h2)]
    exact hbA.block k h1
  have hob : ∀ i, w3.cell? ⟨ob, i, none⟩ = wr.cell? ⟨ob, i, none⟩ := fun i =>
    (World.cell?_of_block (a := ⟨ob, i, none⟩) (hgrow.block ob (by omega) (fun e => by have := hvb ob e.symm; omega))).trans (World.cell?_of_block (a := ⟨ob, i, none⟩) (hbA.block ob (by omega)))
  have hgq : gq ≠ ob := by
    rcases hat with e | e
    · have := hvb gq e; omega
    · omega
  have hlow : ∀ k, k < base → v.ownBlock ≠ some k := fun k hk e => by have := hvb k e; omega
  have hgqv : ∀ k, k < w2.heap.size → v.ownBlock ≠ some k → (Value.slice (some ⟨gq, 0, none⟩) (gs.length + 1) qd).ownBlock ≠ some k := fun k hk hv e => by
    simp only [Value.ownBlock, Option.some.injEq] at e
    subst e
    rcases hat with e | e
    · exact hv e
    · omega
  refine ⟨?_, ?_, ?_, ?_, ?_, ?_, ?_, ?_, ?_, ?_, ?_, ?_, by rw [hset]; omega, h.fix⟩
  · rw [World.cell?_of_block (a := ⟨pb, 4, none⟩) (hold pb (by omega) (hlow pb f4) f7)]; exact h.par
  · rw [hold rb (by omega) (hlow rb f5) f8]; exact h.zero
  · rw [World.cell?_setCell_other _ _ _ _ (addr_ne (by omega)), hob]; exact h.o0
  · rw [World.cell?_setCell_other _ _ _ _ (addr_ne (by omega)), hob]; exact h.o1
  · rw [World.cell?_setCell_other _ _ _ _ (addr_ne (by omega)), hob]; exact h.o2
  · rw [World.cell?_setCell_other _ _ _ _ (addr_ne (by omega)), hob]; exact h.o3
  · exact World.cell?_setCell_same _ _ _ ((hob 4).trans h.o4)
  · intro i
    rw [World.frozen?_setCell]
    exact ((World.frozen?_of_block (a := ⟨ob, i, none⟩) (hgrow.block ob (by omega) (fun e => by have := hvb ob e.symm; omega))).trans (World.frozen?_of_block (a := ⟨ob, i, none⟩) (hbA.block ob (by omega)))).trans (h.free i)
  · rw [List.length_append, List.length_singleton]
    exact ownsRow_setFar hown hgq
  · refine RowVals.snoc (InV.mono ?_ _ _ (InV.later (w := w2) ?_ _ _ hin)) (h.vals.keep ?_ ?_)
    · rintro k ⟨k1, k2⟩
      exact ⟨by omega, by rw [hset]; omega, hgqv k k2 (fun e => by have := hvb k e; omega)⟩
    · rintro k ⟨k1, k2⟩
      rw [Below.heap_setCell _ _ _ _ (show k ≠ ob by omega), hgrow.block k k2 (fun e => by have := hvb k e.symm; omega)]
    · rintro k ⟨k1, k2, k3⟩
      exact hold k k2 k3 (by omega)
    · rintro k ⟨k1, k2, k3⟩
      exact ⟨k1, by rw [hset]; omega, hgqv k (by omega) k3⟩
  · exact h.ints.later fun k hk => hold k (by omega) (hlow k hk.2.1) hk.2.2.1
  · exact (h.below.trans ((hbA.mono (by omega)).grown hgrow (by omega) (fun k hk => by have := hvb k hk; omega))).setCell (p := ⟨ob, 4, none⟩) f3 _
/-- at the end: what the form reads as -/
theorem MadeMid.ends {T : TypeId} {w wr : World} {pb rb ob base : Nat} {a : Option Addr} {cap m : Nat} {kd : Int} {nm : ByteArray} {n : Int} {c3 : Value} {sc : List Int} {gs : List Fm} {v : Value} {xs : List Value}
    (h : MadeMid T w wr pb rb ob base a cap m kd nm n c3 sc gs v xs) (hk : -9223372036854775808 ≤ kd ∧ kd ≤ 9223372036854775807) (hn : -9223372036854775808 ≤ n ∧ n ≤ 9223372036854775807) (hm : nm.size ≤ maxLen) :
    InV (fun k => w.heap.size ≤ k ∧ k < wr.heap.size ∧ k ≠ rb) wr (.mk kd nm n sc gs) (.agg #[.int .i64 kd, .string nm, .int .i64 n, c3, v]) := by
  obtain ⟨f1, f2, f3, f4, f5, f6, f7, f8⟩ := h.fix
  have hsz := h.size
  have hints : IntRow (fun k => w.heap.size ≤ k ∧ k < wr.heap.size ∧ k ≠ rb) wr c3 sc := h.ints.mono fun k hk => ⟨hk.1, by omega, hk.2.2.2⟩
  unfold InV
  rcases h.own.2 with ⟨e, h0⟩ | ⟨g, cp, cur, e, hb, hg, hnc, hcm, _⟩
  · refine ⟨c3, none, 0, ?_, hk, hn, hm, hints, by omega, Nat.zero_le _, .inl (List.length_eq_zero_iff.1 h0)⟩
    rw [e, h0]
  · refine ⟨c3, some ⟨g, 0, none⟩, cp, by rw [e], hk, hn, hm, hints, hnc, hcm, .inr ⟨g, 0, rfl, ⟨by omega, (Array.getElem?_eq_some_iff.1 hg).1, by omega⟩, ?_⟩⟩
    refine RowVals.row (h.vals.keep (fun _ _ => rfl) fun k hk => ⟨by omega, hk.2.1, by omega⟩) fun j u hj => ?_
    have := h.own.cells (g := g) (by rw [e]; rfl) j u hj
    unfold Addr.add at this
    split at this <;> simp_all
end
end Go.Proofs.Ytbclgmabidjegaa
namespace Go.Proofs.Ytbclgmabidjegaa
section
open Go.RowKit
set_option linter.unusedVariables false
set_option linter.unusedSimpArgs false
section
variable {P : Program} {ops : Array Oper} {Q : Exit → Act → World → Prop} {md : Region.Mode} {S : World → Prop} {L : Nat}
/-- one of two may come up -/
theorem upto_two {i j : Nat} {o p : Oper} {fuel : Nat} {listed : Array Bool} {a : Act} {w : World} (hr : Region.ready md ops listed = [i, j]) (ho : ops[i]? = some o) (hp : ops[j]? = some p)
    (h : ∀ K' : Act → World → Prop, Shut (∀ a w, (i = L ∨ S w) → anyUpto P md ops Q S L fuel (listed.setIfInBounds i true) a w → K' a w) → if Region.wanted o (yielded ops a.tmps) = true then Oper.wp P o a w K' Q else K' (a.put o.dst undef) w)
    (h' : ∀ K' : Act → World → Prop, Shut (∀ a w, (j = L ∨ S w) → anyUpto P md ops Q S L fuel (listed.setIfInBounds j true) a w → K' a w) → if Region.wanted p (yielded ops a.tmps) = true then Oper.wp P p a w K' Q else K' (a.put p.dst undef) w) :
    anyUpto P md ops Q S L (fuel + 1) listed a w :=
  ⟨fun h0 => (by rw [hr] at h0; cases h0), fun n hn => by
    rw [hr] at hn
    simp only [List.mem_cons, List.not_mem_nil, or_false] at hn
    rcases hn with rfl | rfl
    · exact wpOp_step ho (fun K' hK => h K' (fun a w h1 h2 => hK a w ⟨h1, h2⟩))
    · exact wpOp_step hp (fun K' hK => h' K' (fun a w h1 h2 => hK a w ⟨h1, h2⟩))⟩
end
theorem run_append_none {P : Program} (w : World) (t ty e : TypeId) (i : TypeInfo) (ht : P.underlying t = some (.slice e)) (hi : P.info? e = some i) (b : Addr) (a : Option Addr) (c : Nat) :
    (Builtin.append_ #[t, t] ty #[.slice (some b) 0 0, .slice a 0 c]).run P w = .ok (.slice (some b) 0 0) w := by
  cases a <;> simp [Builtin.append_, run_underlying ht, sizeOf, typeInfo, hi, Builtin.lenOf, Builtin.firstCells, loadCells, loadCellsFrom, storeCells, Result.andThen]
theorem wp_append_ints {P : Program} {w : World} {o : Oper} {a : Act} {K : Act → World → Prop} {Q : Exit → Act → World → Prop} (s x : Operand) (t e : TypeId)
    (ho : o.op = .call { callee := .builtin .append, args := #[s, x], argTypes := #[t, t] }) (i : TypeInfo) (ht : P.underlying t = some (.slice e)) (hi : P.info? e = some i) (hz : i.zero = some (.int .i64 0)) (hsize : i.size = 1) (hby : i.bytes = 8)
    (base eb : Nat) (sc : List Int) (sa : Option Addr) (scap : Nat) (φ : Nat → Prop) (hs : a.eval s = .slice (some ⟨eb, 0, none⟩) 0 0) (hx : a.eval x = .slice sa sc.length scap) (hv : IntRow φ w (.slice sa sc.length scap) sc)
    (hl : sc.length ≤ 1048576) (hown : w.ownsRow base e 1 (.slice (some ⟨eb, 0, none⟩) 0 0) 0 []) (hbase : base ≤ w.heap.size)
    (h : ∀ sa' scap' w', w.grownBy w' (some eb) → IntRow (fun k => (k = eb ∨ k = w.heap.size) ∧ k < w'.heap.size) w' (.slice sa' sc.length scap') sc → K (a.put o.dst (.slice sa' sc.length scap')) w') : o.wp P a w K Q := by
  obtain ⟨a0, cap0, e0, hcap, hmax, hwf, hrow⟩ := hv
  injection e0 with e1 _ e3
  subst e1 e3
  by_cases h0 : sc = []
  · subst h0
    have hrun := run_append_none (P := P) w t o.type e i ht hi ⟨eb, 0, none⟩ sa scap
    have hx' : a.eval x = .slice sa 0 scap := hx
    have hfin := h (some ⟨eb, 0, none⟩) 0 w ⟨rfl, rfl, rfl, Nat.le_refl _, fun _ _ _ => rfl⟩ ⟨_, 0, rfl, Nat.le_refl _, Nat.zero_le _, by simp, .inl rfl⟩
    unfold Oper.wp
    simp [execOp, ho, resolve, invoke, builtin, hs, hx', hrun, Result.andThen]
    exact hfin
  · rcases hrow with hr | ⟨sb, soff, rfl, _, hcells⟩
    · exact absurd hr h0
    have hpos : 0 < sc.length := by cases sc with | nil => exact absurd rfl h0 | cons _ _ => simp
    refine wp_append_lies _ s x t ho base e i _ 1 8 ht hi hz hsize hby rfl (by omega) _ 0 [] hs hown ⟨sb, soff, none⟩ sc.length scap (sc.map (Value.int .i64)) hx (by simp) ?_ ?_ hpos (by unfold maxLen; omega) (by omega) hbase w.heap.size rfl ?_
    · intro j u hj
      rw [List.getElem?_map] at hj
      obtain ⟨y, hy, rfl⟩ := Option.map_eq_some_iff.1 hj
      obtain ⟨hj', rfl⟩ := List.getElem?_eq_some_iff.1 hy
      have := hcells j hj'
      unfold Addr.add
      split
      · rename_i h; subst h; simpa using this
      · exact this
    · intro u hu
      obtain ⟨y, _, rfl⟩ := List.mem_map.1 hu
      rfl
    · intro g qcap w' hown' hgrow hat hlt
      rw [Nat.zero_add, List.nil_append] at hown'
      have hio := ownsRow_ints hown' hwf
      rw [Nat.zero_add]
      refine h _ qcap w' hgrow (IntOwn.inRow (bs := [g]) (fun b hb => ?_) hio)
      rw [List.mem_singleton] at hb
      subst hb
      refine ⟨?_, hlt⟩
      rcases hat with e | e
      · simp [Value.ownBlock] at e; exact .inl e.symm
      · exact .inr e
theorem MadeMid.begin {T : TypeId} {w V : World} {ob : Nat} {a : Option Addr} {cap m : Nat} {kd : Int} {nm : ByteArray} {n : Int} {c3 : Value} {sc : List Int} (hb : Below w.heap.size w V) (hs : w.heap.size + 2 ≤ V.heap.size)
    (hpar : V.cell? ⟨w.heap.size, 4, none⟩ = some (.slice a m cap)) (hzero : V.heap[w.heap.size + 1]? = some (.cells #[.int .i64 0, .string { data := #[] }, .int .i64 0, .slice none 0 0, .slice none 0 0] T (0, 0)))
    (hob : V.heap[ob]? = some (.cells #[.int .i64 0, .string { data := #[] }, .int .i64 0, .slice none 0 0, .slice none 0 0] T (0, 0))) (hobr : w.heap.size + 2 ≤ ob)
    (hints : IntRow (fun k => w.heap.size ≤ k ∧ k < V.heap.size ∧ k ≠ ob ∧ k ≠ w.heap.size + 1) V c3 sc) :
    MadeMid T w (set5 V ob 0 (.int .i64 kd) (.string nm) (.int .i64 n) c3 (.slice none 0 0)) w.heap.size (w.heap.size + 1) ob V.heap.size a cap m kd nm n c3 sc [] (.slice none 0 0) [] := by
  have hobl : ob < V.heap.size := (Array.getElem?_eq_some_iff.1 hob).1
  have hth : ∀ j, j < 5 → ∃ v, V.cell? ⟨ob, 0 + j, none⟩ = some v := fun j hj => by
    rw [Nat.zero_add, cell_of_row V ob j _ _ _ hob]
    match j, hj with
    | 0, _ => exact ⟨_, rfl⟩
    | 1, _ => exact ⟨_, rfl⟩
    | 2, _ => exact ⟨_, rfl⟩
    | 3, _ => exact ⟨_, rfl⟩
    | 4, _ => exact ⟨_, rfl⟩
  obtain ⟨z0, z1, z2, z3, z4⟩ := set5_in V ob 0 (.int .i64 kd) (.string nm) (.int .i64 n) c3 (.slice none 0 0) hth
  have hne : ∀ k, k ≠ ob → (set5 V ob 0 (.int .i64 kd) (.string nm) (.int .i64 n) c3 (.slice none 0 0)).heap[k]? = V.heap[k]? := fun k hk => set5_block _ _ _ _ _ _ _ _ hk
  have hpl : Plain V ob := ⟨_, _, hob⟩
  refine ⟨?_, ?_, z0, z1, z2, z3, z4, ?_, World.ownsRow_nil _ _ _ _, rfl, ?_, set5_below hb (by omega) _ _ _ _ _ _, ?_, by omega⟩
  · rw [World.cell?_of_block (a := ⟨w.heap.size, 4, none⟩) (hne w.heap.size (by omega))]; exact hpar
  · rw [hne _ (by omega)]; exact hzero
  · intro i; rw [set5_frozen]; exact hpl.frozen i
  · exact (hints.later (w' := set5 V ob 0 (.int .i64 kd) (.string nm) (.int .i64 n) c3 (.slice none 0 0)) (fun k hk => hne k hk.2.2.1)).mono fun k hk => ⟨hk.1, hk.2.1, hk.2.2.1, hk.2.2.2⟩
  · rw [set5_size]; exact Nat.le_refl _
theorem MadeMid.begin2 {T : TypeId} {w V : World} {a : Option Addr} {cap m : Nat} {kd : Int} {nm : ByteArray} {n : Int} {c3 : Value} {sc : List Int} (hb : Below w.heap.size w V) (hs : w.heap.size + 2 ≤ V.heap.size)
    (hpar : V.cell? ⟨w.heap.size, 4, none⟩ = some (.slice a m cap)) (hzero : V.heap[w.heap.size + 1]? = some (.cells #[.int .i64 0, .string { data := #[] }, .int .i64 0, .slice none 0 0, .slice none 0 0] T (0, 0)))
    (hints : IntRow (fun k => w.heap.size ≤ k ∧ k < V.heap.size ∧ k ≠ w.heap.size + 1) V c3 sc) :
    MadeMid T w (V.alloc (.cells #[.int .i64 kd, .string nm, .int .i64 n, c3, .slice none 0 0] T)) w.heap.size (w.heap.size + 1) V.heap.size (V.heap.size + 1) a cap m kd nm n c3 sc [] (.slice none 0 0) [] := by
  have hba := below_alloc V (.cells #[.int .i64 kd, .string nm, .int .i64 n, c3, .slice none 0 0] T)
  refine ⟨?_, ?_, World.cell?_alloc_at _ _ _ _ rfl, World.cell?_alloc_at _ _ _ _ rfl, World.cell?_alloc_at _ _ _ _ rfl, World.cell?_alloc_at _ _ _ _ rfl, World.cell?_alloc_at _ _ _ _ rfl, fun i => World.frozen?_alloc_at _ _ _ _ rfl, World.ownsRow_nil _ _ _ _, rfl, ?_, hb.alloc (by omega) _, by simp, by omega⟩
  · rw [World.cell?_of_block (a := ⟨w.heap.size, 4, none⟩) (hba.block w.heap.size (by omega))]; exact hpar
  · rw [hba.block _ (by omega)]; exact hzero
  · exact (hints.later (fun k hk => hba.block k hk.2.1)).mono fun k hk => ⟨hk.1, by omega, by omega, hk.2.2⟩
/-- what the loads of the opening region read -/
def ParHeld (pb : Nat) (k : Int) (nm : ByteArray) (n : Int) (c3 c4 : Value) (w' : World) : Prop :=
  w'.cell? ⟨pb, 0, none⟩ = some (.int .i64 k) ∧ w'.cell? ⟨pb, 1, none⟩ = some (.string nm) ∧ w'.cell? ⟨pb, 2, none⟩ = some (.int .i64 n) ∧ w'.cell? ⟨pb, 3, none⟩ = some c3 ∧ w'.cell? ⟨pb, 4, none⟩ = some c4
theorem ParHeld.keep {pb : Nat} {k : Int} {nm : ByteArray} {n : Int} {c3 c4 : Value} {w w' : World} (h : ParHeld pb k nm n c3 c4 w) (hs : w'.heap[pb]? = w.heap[pb]?) : ParHeld pb k nm n c3 c4 w' := by
  obtain ⟨h0, h1, h2, h3, h4⟩ := h
  exact ⟨(World.cell?_of_block (a := ⟨pb, 0, none⟩) hs).trans h0, (World.cell?_of_block (a := ⟨pb, 1, none⟩) hs).trans h1, (World.cell?_of_block (a := ⟨pb, 2, none⟩) hs).trans h2, (World.cell?_of_block (a := ⟨pb, 3, none⟩) hs).trans h3, (World.cell?_of_block (a := ⟨pb, 4, none⟩) hs).trans h4⟩
end
end Go.Proofs.Ytbclgmabidjegaa
namespace Go.Proofs.Ytbclgmabidjegaa
section
open Go.RowKit
set_option linter.unusedVariables false
set_option linter.unusedSimpArgs false
/-- a form made anew -/
def MadePost (g : Fm) (w : World) (e : Ending) (w' : World) : Prop :=
  ∃ v, e = .returned v ∧ InV (fun k => w.heap.size ≤ k ∧ k < w'.heap.size) w' g v ∧ Below w.heap.size w w'
/-- what the loads of the loop's region read -/
def KidHeld (ob pb b o : Nat) (v pv c0 c1 c2 c3 c4 : Value) (w' : World) : Prop :=
  w'.cell? ⟨ob, 4, none⟩ = some v ∧ w'.cell? ⟨pb, 4, none⟩ = some pv ∧ w'.cell? ⟨b, o, none⟩ = some c0 ∧ w'.cell? ⟨b, o + 1, none⟩ = some c1 ∧ w'.cell? ⟨b, o + 2, none⟩ = some c2 ∧ w'.cell? ⟨b, o + 3, none⟩ = some c3 ∧ w'.cell? ⟨b, o + 4, none⟩ = some c4
theorem KidHeld.keep {ob pb b o : Nat} {v pv c0 c1 c2 c3 c4 : Value} {w w' : World} (h : KidHeld ob pb b o v pv c0 c1 c2 c3 c4 w) (hs : ∀ k, k = ob ∨ k = pb ∨ k = b → w'.heap[k]? = w.heap[k]?) : KidHeld ob pb b o v pv c0 c1 c2 c3 c4 w' := by
  obtain ⟨h0, h1, h2, h3, h4, h5, h6⟩ := h
  have e0 := hs ob (.inl rfl)
  have e1 := hs pb (.inr (.inl rfl))
  have e2 := hs b (.inr (.inr rfl))
  exact ⟨(World.cell?_of_block (a := ⟨ob, 4, none⟩) e0).trans h0, (World.cell?_of_block (a := ⟨pb, 4, none⟩) e1).trans h1, (World.cell?_of_block (a := ⟨b, o, none⟩) e2).trans h2, (World.cell?_of_block (a := ⟨b, o + 1, none⟩) e2).trans h3,
    (World.cell?_of_block (a := ⟨b, o + 2, none⟩) e2).trans h4, (World.cell?_of_block (a := ⟨b, o + 3, none⟩) e2).trans h5, (World.cell?_of_block (a := ⟨b, o + 4, none⟩) e2).trans h6⟩
theorem KidHeld.later {ob pb b o : Nat} {v pv c0 c1 c2 c3 c4 : Value} {w w' : World} (h : KidHeld ob pb b o v pv c0 c1 c2 c3 c4 w) (hb : Below w.heap.size w w') : KidHeld ob pb b o v pv c0 c1 c2 c3 c4 w' :=
  h.keep fun k hk => hb.block k (by
    rcases hk with rfl | rfl | rfl
    · exact cell_lt h.1
    · exact cell_lt h.2.1
    · exact cell_lt h.2.2.1)
theorem chgAll_take_succ {chg : Int → List Int → List Int} (ks : List Fm) : ∀ (j : Nat) (h : j < ks.length), chgAll chg (ks.take (j + 1)) = chgAll chg (ks.take j) ++ [(ks[j]).chg chg] := by
  induction ks with
  | nil => intro j h; simp at h
  | cons x r ih =>
    intro j h
    cases j with
    | zero => simp [chgAll]
    | succ j =>
      have := ih j (by simpa using h)
      simp only [List.take_succ_cons, chgAll, List.cons_append, List.getElem_cons_succ]
      rw [this]
end
end Go.Proofs.Ytbclgmabidjegaa
namespace Go.Proofs.Ytbclgmabidjegaa
section
open Go.RowKit
set_option linter.unusedVariables false
set_option linter.unusedSimpArgs false
theorem ownsRow_set {w : World} {lo g n cap size o : Nat} {T : TypeId} {xs : List Value} (h : w.ownsRow lo T size (.slice (some ⟨g, 0, none⟩) n cap) n xs) (ho : o < n * size) (u : Value) :
    (w.setCell ⟨g, o, none⟩ u).ownsRow lo T size (.slice (some ⟨g, 0, none⟩) n cap) n (xs.set o u) := by
  obtain ⟨h1, h2⟩ := h
  refine ⟨by simpa using h1, ?_⟩
  rcases h2 with ⟨e, _⟩ | ⟨g', cap', cur, e, hb, hg, hn, hm, hs, hx⟩
  · simp at e
  · simp only [Value.slice.injEq, Option.some.injEq, Addr.mk.injEq, and_true] at e
    obtain ⟨rfl, _, rfl⟩ := e
    have hle : n * size ≤ cap * size := Nat.mul_le_mul_right _ hn
    refine .inr ⟨g, cap, cur.setIfInBounds o u, rfl, hb, heap_setCell_same w g o cur T u hg, hn, hm, by simpa using hs, ?_⟩
    rw [Array.toList_setIfInBounds, ← hx]
    apply List.ext_getElem?
    intro i
    rw [List.getElem?_take, List.getElem?_set, List.getElem?_set, List.getElem?_take]
    by_cases hi : o = i
    · subst hi
      have hlen : o < cur.toList.length := by rw [Array.length_toList, hs]; omega
      have hlen2 : o < (cur.toList.take (n * size)).length := by rw [List.length_take]; omega
      rw [if_pos ho, if_pos rfl, if_pos hlen, if_pos rfl, if_pos hlen2]
    · simp [hi]
theorem ownsRow_same {w w' : World} {lo n size : Nat} {T : TypeId} {v : Value} {xs : List Value} (h : w.ownsRow lo T size v n xs) (hs : ∀ q, v.ownBlock = some q → w'.heap[q]? = w.heap[q]?) : w'.ownsRow lo T size v n xs := by
  refine ⟨h.1, ?_⟩
  rcases h.2 with hn | ⟨g, cap, cur, rfl, hb, hg, rest⟩
  · exact .inl hn
  · exact .inr ⟨g, cap, cur, rfl, hb, (hs g rfl).trans hg, rest⟩
theorem ownsRow_lo {w : World} {lo b n size : Nat} {T : TypeId} {v : Value} {xs : List Value} (h : w.ownsRow b T size v n xs) (hle : lo ≤ b) : w.ownsRow lo T size v n xs := by
  refine ⟨h.1, ?_⟩
  rcases h.2 with hn | ⟨g, cap, cur, rfl, hb, rest⟩
  · exact .inl hn
  · exact .inr ⟨g, cap, cur, rfl, Nat.le_trans hle hb, rest⟩
/-- a kid's five cells replaced -/
def set5L (xs : List Value) (o : Nat) (d0 d1 d2 d3 d4 : Value) : List Value := ((((xs.set o d0).set (o + 1) d1).set (o + 2) d2).set (o + 3) d3).set (o + 4) d4
theorem ownsRow_set5 {w : World} {lo g n cap i : Nat} {T : TypeId} {xs : List Value} (h : w.ownsRow lo T 5 (.slice (some ⟨g, 0, none⟩) n cap) n xs) (hi : i < n) (d0 d1 d2 d3 d4 : Value) :
    (set5 w g (i * 5) d0 d1 d2 d3 d4).ownsRow lo T 5 (.slice (some ⟨g, 0, none⟩) n cap) n (set5L xs (i * 5) d0 d1 d2 d3 d4) := by
  unfold set5 set5L
  exact ownsRow_set (ownsRow_set (ownsRow_set (ownsRow_set (ownsRow_set h (by omega) d0) (by omega) d1) (by omega) d2) (by omega) d3) (by omega) d4
theorem RowVals.at {φ : Nat → Prop} {w : World} : ∀ {gs : List Fm} {xs : List Value} (i : Nat) (hi : i < gs.length), RowVals φ w gs xs →
    ∃ c0 c1 c2 c3 c4, xs[i * 5]? = some c0 ∧ xs[i * 5 + 1]? = some c1 ∧ xs[i * 5 + 2]? = some c2 ∧ xs[i * 5 + 3]? = some c3 ∧ xs[i * 5 + 4]? = some c4 ∧ InV φ w gs[i] (.agg #[c0, c1, c2, c3, c4])
  | f :: r, xs, 0, _, h => by
    obtain ⟨c0, c1, c2, c3, c4, t, rfl, h1, h2⟩ := h
    exact ⟨c0, c1, c2, c3, c4, rfl, rfl, rfl, rfl, rfl, h1⟩
  | f :: r, xs, i + 1, hi, h => by
    obtain ⟨c0, c1, c2, c3, c4, t, rfl, h1, h2⟩ := h
    obtain ⟨d0, d1, d2, d3, d4, e0, e1, e2, e3, e4, hin⟩ := RowVals.at i (by simpa using hi) h2
    have key : ∀ k, (c0 :: c1 :: c2 :: c3 :: c4 :: t)[(i + 1) * 5 + k]? = t[i * 5 + k]? := fun k => by
      rw [show (i + 1) * 5 + k = (i * 5 + k) + 1 + 1 + 1 + 1 + 1 by omega]
      simp
    exact ⟨d0, d1, d2, d3, d4, (key 0).trans e0, (key 1).trans e1, (key 2).trans e2, (key 3).trans e3, (key 4).trans e4, by simpa using hin⟩
theorem set5L_succ (c0 c1 c2 c3 c4 : Value) (t : List Value) (i : Nat) (d0 d1 d2 d3 d4 : Value) : set5L (c0 :: c1 :: c2 :: c3 :: c4 :: t) ((i + 1) * 5) d0 d1 d2 d3 d4 = c0 :: c1 :: c2 :: c3 :: c4 :: set5L t (i * 5) d0 d1 d2 d3 d4 := by
  unfold set5L
  rw [show (i + 1) * 5 = i * 5 + 1 + 1 + 1 + 1 + 1 by omega]
  have key : ∀ (l : List Value) (k : Nat) (d : Value), (c0 :: c1 :: c2 :: c3 :: c4 :: l).set (i * 5 + 1 + 1 + 1 + 1 + 1 + k) d = c0 :: c1 :: c2 :: c3 :: c4 :: l.set (i * 5 + k) d := fun l k d => by
    rw [show i * 5 + 1 + 1 + 1 + 1 + 1 + k = (i * 5 + k) + 1 + 1 + 1 + 1 + 1 by omega]
    simp
  have k0 : (c0 :: c1 :: c2 :: c3 :: c4 :: t).set (i * 5 + 1 + 1 + 1 + 1 + 1) d0 = c0 :: c1 :: c2 :: c3 :: c4 :: t.set (i * 5) d0 := key t 0 d0
  rw [k0, key, key, key, key]
theorem RowVals.set {φ : Nat → Prop} {w : World} {f : Fm} {d0 d1 d2 d3 d4 : Value} (hf : InV φ w f (.agg #[d0, d1, d2, d3, d4])) : ∀ {gs : List Fm} {xs : List Value} (i : Nat), RowVals φ w gs xs → RowVals φ w (gs.set i f) (if i < gs.length then set5L xs (i * 5) d0 d1 d2 d3 d4 else xs)
  | [], xs, i, h => by simpa using h
  | g :: r, xs, 0, h => by
    obtain ⟨c0, c1, c2, c3, c4, t, rfl, h1, h2⟩ := h
    exact ⟨d0, d1, d2, d3, d4, t, by simp [set5L], hf, h2⟩
  | g :: r, xs, i + 1, h => by
    obtain ⟨c0, c1, c2, c3, c4, t, rfl, h1, h2⟩ := h
    have ih := RowVals.set hf i h2
    by_cases hi : i < r.length
    · rw [if_pos hi] at ih
      rw [if_pos (by simpa using hi), set5L_succ]
      exact ⟨c0, c1, c2, c3, c4, _, rfl, h1, ih⟩
    · rw [if_neg hi] at ih
      rw [if_neg (by simpa using hi)]
      exact ⟨c0, c1, c2, c3, c4, _, rfl, h1, ih⟩
/-- a form's slices are rows of their own, and what its kids hold lies elsewhere -/
structure TopAt (T U : TypeId) (lo : Nat) (w : World) (f : Fm) (sa : Option Addr) (scap : Nat) (a : Option Addr) (cap : Nat) (xs : List Value) : Prop where
  kd : -9223372036854775808 ≤ f.kind ∧ f.kind ≤ 9223372036854775807
  nn : -9223372036854775808 ≤ f.n ∧ f.n ≤ 9223372036854775807
  nm : f.name.size ≤ maxLen
  sb : ∀ n ∈ f.scopes, -9223372036854775808 ≤ n ∧ n ≤ 9223372036854775807
  srow : w.ownsRow lo U 1 (.slice sa f.scopes.length scap) f.scopes.length (f.scopes.map (Value.int .i64))
  krow : w.ownsRow lo T 5 (.slice a f.kids.length cap) f.kids.length xs
  vals : RowVals (fun k => lo ≤ k ∧ k < w.heap.size ∧ (Value.slice a f.kids.length cap).ownBlock ≠ some k ∧ (Value.slice sa f.scopes.length scap).ownBlock ≠ some k) w f.kids xs
  ne : (Value.slice sa f.scopes.length scap).ownBlock = none ∨ (Value.slice sa f.scopes.length scap).ownBlock ≠ (Value.slice a f.kids.length cap).ownBlock
theorem ownsRow_intRow {w : World} {lo : Nat} {U : TypeId} {v : Value} {l : List Int} (h : w.ownsRow lo U 1 v l.length (l.map (Value.int .i64))) (hb : ∀ n ∈ l, -9223372036854775808 ≤ n ∧ n ≤ 9223372036854775807) :
    IntRow (fun k => lo ≤ k ∧ k < w.heap.size) w v l := by
  rcases h.2 with ⟨rfl, h0⟩ | ⟨g, cap, cur, rfl, hlo, hg, hn, hm, hs, hx⟩
  · obtain rfl := List.length_eq_zero_iff.1 h0
    exact ⟨none, 0, rfl, Nat.le_refl _, Nat.zero_le _, hb, .inl rfl⟩
  · refine ⟨_, cap, rfl, hn, hm, hb, .inr ⟨g, 0, rfl, ⟨hlo, (Array.getElem?_eq_some_iff.1 hg).1⟩, fun i hi => ?_⟩⟩
    rw [Nat.zero_add, cell_of_row w g i _ _ _ hg]
    have h1 : (cur.toList.take (l.length * 1))[i]? = (l.map (Value.int .i64))[i]? := by rw [hx]
    rw [List.getElem?_take_of_lt (by omega), List.getElem?_map, List.getElem?_eq_getElem hi] at h1
    simpa using h1
theorem TopAt.inV {T U : TypeId} {lo : Nat} {w : World} {f : Fm} {sa a : Option Addr} {scap cap : Nat} {xs : List Value} (h : TopAt T U lo w f sa scap a cap xs) :
    InV (fun k => lo ≤ k ∧ k < w.heap.size) w f (.agg #[.int .i64 f.kind, .string f.name, .int .i64 f.n, .slice sa f.scopes.length scap, .slice a f.kids.length cap]) := by
  cases f with
  | mk kd nm n sc ks =>
    have hi := ownsRow_intRow h.srow h.sb
    obtain ⟨h1, h2, h3, h4, h5, h6, h7, h8⟩ := h
    simp only [Fm.kind, Fm.n, Fm.name, Fm.scopes, Fm.kids] at *
    unfold InV
    rcases h6.2 with ⟨e, h0⟩ | ⟨g, cp, cur, e, hb, hg, hnc, hcm, _⟩
    · injection e with e1 e2 e3
      subst e1 e3
      exact ⟨_, none, 0, rfl, h1, h2, h3, hi, by omega, Nat.zero_le _, .inl (List.length_eq_zero_iff.1 h0)⟩
    · injection e with e1 e2 e3
      subst e1 e3
      refine ⟨_, some ⟨g, 0, none⟩, cap, rfl, h1, h2, h3, hi, hnc, hcm, .inr ⟨g, 0, rfl, ⟨hb, (Array.getElem?_eq_some_iff.1 hg).1⟩, ?_⟩⟩
      refine RowVals.row (h7.keep (fun _ _ => rfl) fun k hk => ⟨hk.1, hk.2.1⟩) fun j u hj => ?_
      have := h6.cells (g := g) rfl j u hj
      unfold Addr.add at this
      split at this <;> simp_all
/-- a form made anew, its slices rows of their own -/
def TopPost (T U : TypeId) (f : Fm) (w : World) (e : Ending) (w' : World) : Prop :=
  ∃ sa scap a cap xs, e = .returned (.agg #[.int .i64 f.kind, .string f.name, .int .i64 f.n, .slice sa f.scopes.length scap, .slice a f.kids.length cap]) ∧ TopAt T U w.heap.size w' f sa scap a cap xs ∧ Below w.heap.size w w'
theorem TopPost.made {T U : TypeId} {f : Fm} {w w' : World} {e : Ending} (h : TopPost T U f w e w') : MadePost f w e w' := by
  obtain ⟨sa, scap, a, cap, xs, rfl, ht, hb⟩ := h
  exact ⟨_, rfl, ht.inV, hb⟩
end
end Go.Proofs.Ytbclgmabidjegaa
