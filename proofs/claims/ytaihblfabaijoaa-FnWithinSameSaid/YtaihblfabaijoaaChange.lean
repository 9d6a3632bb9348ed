/- The contracts of the changes of one node. -/
import Derived.Test.YtaihblfabaijoaaMaChg
import Derived.Test.YtaihblfabaijoaaPop
import Derived.Test.YtaihblfabaijoaaToData
import Derived.OwnWalk
namespace Go.Proofs.Ytaihblfabaijoaa
open Go.RowKit
set_option linter.unusedVariables false
/-- what the change of one node leaves -/
structure Changed (new : List Int) (b o : Nat) (w w' : World) : Prop where
  only : Only [b] w w'
  sc : ∃ sa scap bs, w'.cell? ⟨b, o + 3, none⟩ = some (.slice sa new.length scap) ∧ IntOwn w' (.slice sa new.length scap) new bs ∧ NewBs bs w.heap.size w'.heap.size ∧ AllPlain w' bs
  cell : ∀ i, i ≠ o + 3 → w'.cell? ⟨b, i, none⟩ = w.cell? ⟨b, i, none⟩
  frozen : ∀ i, w'.frozen? ⟨b, i, none⟩ = w.frozen? ⟨b, i, none⟩
  plain : Plain w b → Plain w' b
theorem ownsRow_plain {w : World} {base g : Nat} {e : TypeId} {size n m cap : Nat} {xs : List Value} (h : w.ownsRow base e size (.slice (some ⟨g, 0, none⟩) n cap) m xs) : Plain w g := by
  rcases h.2 with ⟨h', _⟩ | ⟨g', cap', cur, h', hb, hg, _⟩
  · simp at h'
  · simp only [Value.slice.injEq, Option.some.injEq, Addr.mk.injEq, and_true] at h'
    obtain ⟨rfl, rfl, rfl⟩ := h'
    exact ⟨cur, e, hg⟩
theorem ownsRow_ints {w : World} {base g cap : Nat} {e : TypeId} {l : List Int} (h : w.ownsRow base e 1 (.slice (some ⟨g, 0, none⟩) l.length cap) l.length (l.map (Value.int .i64)))
    (hb : ∀ n ∈ l, -9223372036854775808 ≤ n ∧ n ≤ 9223372036854775807) : IntOwn w (.slice (some ⟨g, 0, none⟩) l.length cap) l [g] := by
  obtain ⟨_, _, _, h1, h2⟩ := ownsRow_at h
  refine ⟨_, cap, rfl, h1, h2, hb, .inr ⟨g, 0, rfl, rfl, fun i hi => ?_⟩⟩
  rw [Nat.zero_add]
  refine ⟨?_, h.frozenAt i⟩
  rw [h.cellAt i (by omega), List.getElem?_map, List.getElem?_eq_getElem hi]
  rfl
theorem run_append_empty {P : Program} (w : World) (t ty e : TypeId) (i : TypeInfo) (ht : P.underlying t = some (.slice e)) (hi : P.info? e = some i) (a : Option Addr) (c : Nat) :
    (Builtin.append_ #[t, t] ty #[.slice none 0 0, .slice a 0 c]).run P w = .ok (.slice none 0 0) w := by
  cases a <;> simp [Builtin.append_, run_underlying ht, sizeOf, typeInfo, hi, Builtin.lenOf, Builtin.firstCells, loadCells, loadCellsFrom, Result.andThen]
theorem wpList_append_empty {P : Program} {w : World} {ops : Array Oper} {rest : List Oper} {o : Oper} {a : Act} {Q : Exit → Act → World → Prop} (hgd : o.guard = none) (s x : Operand) (t : TypeId)
    (ho : o.op = .call { callee := .builtin .append, args := #[s, x], argTypes := #[t, t] }) (e : TypeId) (i : TypeInfo) (ht : P.underlying t = some (.slice e)) (hi : P.info? e = some i)
    (hs : a.eval s = .slice none 0 0) (ad : Option Addr) (c : Nat) (hx : a.eval x = .slice ad 0 c) (h : wpList P ops Q rest (a.put o.dst (.slice none 0 0)) w) : wpList P ops Q (o :: rest) a w := by
  refine wpList_plain hgd fun K hK => ?_
  have hrun := run_append_empty (P := P) w t o.type e i ht hi ad c
  unfold Oper.wp
  simp [execOp, ho, resolve, invoke, builtin, hs, hx, hrun, Result.andThen]
  exact hK _ _ h
theorem InV.bounds {φ : Nat → Prop} {w : World} {f : Fm} {v : Value} (h : InV φ w f v) :
    (-9223372036854775808 ≤ f.kind ∧ f.kind ≤ 9223372036854775807) ∧ (-9223372036854775808 ≤ f.n ∧ f.n ≤ 9223372036854775807) ∧ f.name.size ≤ maxLen := by
  cases f with
  | mk k nm n sc ks =>
    unfold InV at h
    obtain ⟨vs, a, cap, _, h1, h2, h3, _⟩ := h
    exact ⟨h1, h2, h3⟩
/-- the blocks that matter behind a round: those that did, and new ones -/
def RelGrows (l l' : List (Addr × Fm)) (D D' : Nat → Nat → Prop) (E E' : List Nat) (n : Nat) : Prop := ∀ k, RelB l' D' E' k → RelB l D E k ∨ n ≤ k
theorem chgStep_nil {chg : Int → List Int → List Int} {base : Nat} {w0 w2 w3 : World} {root : Addr × Fm} {l0 : List (Addr × Fm)} {b o : Nat} {f : Fm} {D : Nat → Nat → Prop} {E : List Nat}
    (h : ChgMid chg base w0 w2 root (l0 ++ [(⟨b, o, none⟩, f)]) D E) (hc : Changed (chg f.kind f.scopes) b o w2 w3) {u : Value} (h4 : w3.cell? ⟨b, o + 4, none⟩ = some u) (hk : f.kids = []) :
    ∃ D' E', ChgMid chg base w0 (w3.setCell ⟨b, o + 4, none⟩ (.slice none 0 0)) root l0 D' E' ∧ RelGrows (l0 ++ [(⟨b, o, none⟩, f)]) l0 D D' E E' w2.heap.size := by
  obtain ⟨⟨b', o', e, _, _, _, _, _, _, _, _, _, _, hin⟩, hbb, hbl⟩ := h.todo (⟨b, o, none⟩, f) (by simp)
  injection e with e1 e2
  subst e1 e2
  simp only at hbb hbl
  obtain ⟨hfk, hfn, hnm⟩ := hin.bounds
  obtain ⟨sa, scap, bs, s1, s2, s3, s4⟩ := hc.sc
  have hne : ∀ c ∈ bs, c ≠ b := fun c hm => by have := (s3.2 c hm).1; omega
  have hsz : w2.heap.size ≤ w3.heap.size := hc.only.size
  have hset : (w3.setCell ⟨b, o + 4, none⟩ (.slice none 0 0)).heap.size = w3.heap.size := by simp [World.setCell]
  have := h.step (w5 := w3.setCell ⟨b, o + 4, none⟩ (.slice none 0 0)) (sa := sa) (a := none) (scap := scap) (cap := 0) (bs1 := bs) (kbs := []) (kb := 0)
    (((hc.only.below (fun c hm => by rw [List.mem_singleton] at hm; subst hm; exact hbb) (h.size))).setCell (by simpa using hbb) _) (by rw [hset]; exact hsz)
    (fun k hr hn => by rw [Below.heap_setCell _ _ _ _ hn]; exact hc.only.block k (h.relLt hr.left) (by simpa using hn))
    (fun i => by rw [World.frozen?_setCell]; exact hc.frozen i) (fun i h1 h2 => by rw [World.cell?_setCell_other _ _ _ _ (addr_ne (by omega))]; exact hc.cell i h1)
    (fun hp => (hc.plain hp).setCell _ _ _) (by rw [World.cell?_setCell_other _ _ _ _ (addr_ne (by omega))]; exact s1)
    (s2.later fun c hm => Below.heap_setCell _ _ _ _ (hne c hm)) (by rw [List.append_nil, hset]; exact s3) (by rw [List.append_nil]; exact s4.same fun c hm => Below.heap_setCell _ _ _ _ (hne c hm))
    (by rw [hk]; exact World.cell?_setCell_same _ _ _ h4) (by rw [hk]; exact Nat.le_refl _) (Nat.zero_le _) (.inl ⟨hk, rfl⟩) (by rw [hk]; intro x hx; cases hx) hfk hfn hnm
  rw [hk, show itemsOf 0 0 [] = [] from rfl, List.append_nil] at this
  refine ⟨_, _, this, fun k hr => ?_⟩
  rcases hr with ⟨x, hx, e⟩ | ⟨i, hd | ⟨e, _⟩ | hd⟩ | hm
  · exact .inl (.inl ⟨x, List.mem_append_left _ hx, e⟩)
  · exact .inl (.inr (.inl ⟨i, hd⟩))
  · exact .inl (.inl ⟨_, List.mem_append_right _ (List.mem_singleton.2 rfl), e.symm⟩)
  · exact .inr (s3.2 k hd).1
  · rcases List.mem_append.1 hm with hm | hm
    · exact .inl (.inr (.inr hm))
    · rw [List.append_nil] at hm
      exact .inr (s3.2 k hm).1
theorem chgStep_kids {chg : Int → List Int → List Int} {base : Nat} {w0 w2 w3 w4 : World} {root : Addr × Fm} {l0 : List (Addr × Fm)} {b o : Nat} {f : Fm} {D : Nat → Nat → Prop} {E : List Nat}
    (h : ChgMid chg base w0 w2 root (l0 ++ [(⟨b, o, none⟩, f)]) D E) (hc : Changed (chg f.kind f.scopes) b o w2 w3) {u : Value} (h4 : w3.cell? ⟨b, o + 4, none⟩ = some u)
    {xb xo qcap : Nat} {T : TypeId} (hrow : RowIn (· < base) w0 xb xo f.kids) (hxb : xb < base) (hgrow : w3.grownBy w4 none)
    (hown : w4.ownsRow base T 5 (.slice (some ⟨w3.heap.size, 0, none⟩) f.kids.length qcap) f.kids.length (rowCells w3 xb xo (f.kids.length * 5))) :
    ∃ D' E', ChgMid chg base w0 (w4.setCell ⟨b, o + 4, none⟩ (.slice (some ⟨w3.heap.size, 0, none⟩) f.kids.length qcap)) root (l0 ++ itemsOf w3.heap.size 0 f.kids) D' E' ∧
      RelGrows (l0 ++ [(⟨b, o, none⟩, f)]) (l0 ++ itemsOf w3.heap.size 0 f.kids) D D' E E' w2.heap.size ∧ RelB (l0 ++ itemsOf w3.heap.size 0 f.kids) D' E' b := by
  obtain ⟨⟨b', o', e, _, _, _, _, _, _, _, _, _, _, hin⟩, hbb, hbl⟩ := h.todo (⟨b, o, none⟩, f) (by simp)
  injection e with e1 e2
  subst e1 e2
  simp only at hbb hbl
  obtain ⟨hfk, hfn, hnm⟩ := hin.bounds
  obtain ⟨sa, scap, bs, s1, s2, s3, s4⟩ := hc.sc
  have hsz : w2.heap.size ≤ w3.heap.size := hc.only.size
  have hsz4 : w3.heap.size < w4.heap.size := (hown.lt _ rfl).2
  have hs34 : ∀ k, k < w3.heap.size → w4.heap[k]? = w3.heap[k]? := fun k hk => hgrow.block k hk (by simp)
  have hne : ∀ c ∈ bs, c ≠ b ∧ c < w3.heap.size := fun c hm => ⟨by have := (s3.2 c hm).1; omega, (s3.2 c hm).2⟩
  have hset : (w4.setCell ⟨b, o + 4, none⟩ (.slice (some ⟨w3.heap.size, 0, none⟩) f.kids.length qcap)).heap.size = w4.heap.size := by simp [World.setCell]
  have hbl3 : b < w3.heap.size := by omega
  have hb4 := hs34 b hbl3
  have h44 : w4.cell? ⟨b, o + 4, none⟩ = some u := (World.cell?_of_block (a := ⟨b, o + 4, none⟩) hb4).trans h4
  obtain ⟨_, _, _, hcap, hmax⟩ := ownsRow_at hown
  have hb24 : Below base w2 w4 := (hc.only.below (fun c hm => by rw [List.mem_singleton] at hm; subst hm; exact hbb) h.size).trans
    ⟨hgrow.os, hgrow.tape, hgrow.output, hgrow.size, fun k hk => hs34 k (by have := h.size; omega)⟩
  have hown5 : (w4.setCell ⟨b, o + 4, none⟩ (.slice (some ⟨w3.heap.size, 0, none⟩) f.kids.length qcap)).ownsRow base T 5 (.slice (some ⟨w3.heap.size, 0, none⟩) f.kids.length qcap) f.kids.length (rowCells w3 xb xo (f.kids.length * 5)) :=
    ownsRow_setFar hown (by omega)
  have hb03 : Below base w0 w3 := h.below.trans (hc.only.below (fun c hm => by rw [List.mem_singleton] at hm; subst hm; exact hbb) h.size)
  have := h.step (w5 := w4.setCell ⟨b, o + 4, none⟩ (.slice (some ⟨w3.heap.size, 0, none⟩) f.kids.length qcap)) (sa := sa) (a := some ⟨w3.heap.size, 0, none⟩) (scap := scap) (cap := qcap) (bs1 := bs) (kbs := [w3.heap.size]) (kb := w3.heap.size)
    (hb24.setCell (by simpa using hbb) _) (by rw [hset]; omega)
    (fun k hr hn => by
      have hk2 := h.relLt hr.left
      rw [Below.heap_setCell _ _ _ _ hn, hs34 k (by omega)]
      exact hc.only.block k hk2 (by simpa using hn))
    (fun i => by rw [World.frozen?_setCell, World.frozen?_of_block (a := ⟨b, i, none⟩) hb4]; exact hc.frozen i)
    (fun i h1 h2 => by rw [World.cell?_setCell_other _ _ _ _ (addr_ne (by omega)), World.cell?_of_block (a := ⟨b, i, none⟩) hb4]; exact hc.cell i h1)
    (fun hp => ((hc.plain hp).same hb4).setCell _ _ _)
    (by rw [World.cell?_setCell_other _ _ _ _ (addr_ne (by omega)), World.cell?_of_block (a := ⟨b, o + 3, none⟩) hb4]; exact s1)
    (s2.later fun c hm => by rw [Below.heap_setCell _ _ _ _ (hne c hm).1]; exact hs34 c (hne c hm).2)
    (by rw [hset]; exact s3.append ((NewBs.nil (w3.heap.size + 1) w4.heap.size).cons (Nat.le_refl _) hsz4) hsz (Nat.le_of_lt hsz4))
    ((s4.same fun c hm => by rw [Below.heap_setCell _ _ _ _ (hne c hm).1]; exact hs34 c (hne c hm).2).append ((AllPlain.nil _).cons (ownsRow_plain hown5)))
    (World.cell?_setCell_same _ _ _ h44) hcap hmax (.inr ⟨rfl, rfl⟩)
    (RowIn.copied (w := w0) (k := 0) (by simpa using hrow) fun i hi => by
      rw [Nat.zero_add] at hi
      refine ⟨?_, hown5.frozenAt i⟩
      rw [hown5.cellAt i hi, rowCells_get _ _ _ _ _ hi]
      obtain ⟨v, hv, _⟩ := hrow.there i hi
      rw [hb03.cell (p := ⟨xb, xo + i, none⟩) hxb, hv]
      rfl) hfk hfn hnm
  refine ⟨_, _, this, fun k hr => ?_, .inr (.inl ⟨o, .inr (.inl ⟨rfl, Nat.le_refl _, by omega⟩)⟩)⟩
  rcases hr with ⟨x, hx, e⟩ | ⟨i, hd | ⟨e, _⟩ | hd⟩ | hm
  · rcases List.mem_append.1 hx with hx | hx
    · exact .inl (.inl ⟨x, List.mem_append_left _ hx, e⟩)
    · obtain ⟨i, _, e'⟩ := itemsOf_mem _ _ _ _ hx
      rw [e'] at e
      exact .inr (by rw [← e]; exact hsz)
  · exact .inl (.inr (.inl ⟨i, hd⟩))
  · exact .inl (.inl ⟨_, List.mem_append_right _ (List.mem_singleton.2 rfl), e.symm⟩)
  · exact .inr (s3.2 k hd).1
  · rcases List.mem_append.1 hm with hm | hm
    · exact .inl (.inr (.inr hm))
    · rcases List.mem_append.1 hm with hm | hm
      · exact .inr (s3.2 k hm).1
      · rw [List.mem_singleton] at hm
        exact .inr (by omega)
end Go.Proofs.Ytaihblfabaijoaa
