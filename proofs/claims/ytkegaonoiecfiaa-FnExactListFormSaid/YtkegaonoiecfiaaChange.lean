/- The contracts of the changes of one node. -/
import Derived.Test.YtkegaonoiecfiaaMaChg
import Derived.Test.YtkegaonoiecfiaaPop
import Derived.Test.YtkegaonoiecfiaaTo
import Derived.OwnWalk
namespace Go.Proofs.Ytkegaonoiecfiaa
open Go.RowKit
set_option linter.unusedVariables false
/-- what the change of one node leaves -/
structure Changed (new : List Int) (b o : Nat) (w w' : World) : Prop where
  only : Only [b] w w'
  sc : ∃ sa scap bs, w'.cell? ⟨b, o + 3, none⟩ = some (.slice sa new.length scap) ∧ IntOwn w' (.slice sa new.length scap) new bs ∧ NewBs bs w.heap.size w'.heap.size ∧ AllPlain w' bs
  cell : ∀ i, i ≠ o + 3 → w'.cell? ⟨b, i, none⟩ = w.cell? ⟨b, i, none⟩
  frozen : ∀ i, w'.frozen? ⟨b, i, none⟩ = w.frozen? ⟨b, i, none⟩
  plain : Plain w b → Plain w' b
theorem ownsRow_plain {w : World} {base g : Nat} {e : TypeId} {size n m cap : Nat} {xs : List Value} (h : w.ownsRow base e size (.slice (some ⟨g, 0, none⟩) n cap) m xs) : Plain w g := by
  rcases h.2 with ⟨h', _⟩ | ⟨g', cap', cur, h', hb, hg, _⟩
  · simp at h'
  · simp only [Value.slice.injEq, Option.some.injEq, Addr.mk.injEq, and_true] at h'
    obtain ⟨rfl, rfl, rfl⟩ := h'
    exact ⟨cur, e, hg⟩
theorem ownsRow_ints {w : World} {base g cap : Nat} {e : TypeId} {l : List Int} (h : w.ownsRow base e 1 (.slice (some ⟨g, 0, none⟩) l.length cap) l.length (l.map (Value.int .i64)))
    (hb : ∀ n ∈ l, -9223372036854775808 ≤ n ∧ n ≤ 9223372036854775807) : IntOwn w (.slice (some ⟨g, 0, none⟩) l.length cap) l [g] := by
  obtain ⟨_, _, _, h1, h2⟩ := ownsRow_at h
  refine ⟨_, cap, rfl, h1, h2, hb, .inr ⟨g, 0, rfl, rfl, fun i hi => ?_⟩⟩
  rw [Nat.zero_add]
  refine ⟨?_, h.frozenAt i⟩
  rw [h.cellAt i (by omega), List.getElem?_map, List.getElem?_eq_getElem hi]
  rfl
theorem run_append_empty {P : Program} (w : World) (t ty e : TypeId) (i : TypeInfo) (ht : P.underlying t = some (.slice e)) (hi : P.info? e = some i) (a : Option Addr) (c : Nat) :
    (Builtin.append_ #[t, t] ty #[.slice none 0 0, .slice a 0 c]).run P w = .ok (.slice none 0 0) w := by
  cases a <;> simp [Builtin.append_, run_underlying ht, sizeOf, typeInfo, hi, Builtin.lenOf, Builtin.firstCells, loadCells, loadCellsFrom, Result.andThen]
theorem wpList_append_empty {P : Program} {w : World} {ops : Array Oper} {rest : List Oper} {o : Oper} {a : Act} {Q : Exit → Act → World → Prop} (hgd : o.guard = none) (s x : Operand) (t : TypeId)
    (ho : o.op = .call { callee := .builtin .append, args := #[s, x], argTypes := #[t, t] }) (e : TypeId) (i : TypeInfo) (ht : P.underlying t = some (.slice e)) (hi : P.info? e = some i)
    (hs : a.eval s = .slice none 0 0) (ad : Option Addr) (c : Nat) (hx : a.eval x = .slice ad 0 c) (h : wpList P ops Q rest (a.put o.dst (.slice none 0 0)) w) : wpList P ops Q (o :: rest) a w := by
  refine wpList_plain hgd fun K hK => ?_
  have hrun := run_append_empty (P := P) w t o.type e i ht hi ad c
  unfold Oper.wp
  simp [execOp, ho, resolve, invoke, builtin, hs, hx, hrun, Result.andThen]
  exact hK _ _ h
set_option maxRecDepth 100000 in
set_option maxHeartbeats 400000 in
theorem copyScopes_any (φ : Nat → Prop) (b o : Nat) (l : List Int) (sa : Option Addr) (scap : Nat) (w : World) (hc : w.cell? ⟨b, o + 3, none⟩ = some (.slice sa l.length scap)) (hf : w.frozen? ⟨b, o + 3, none⟩ = false)
    (hv : IntRow φ w (.slice sa l.length scap) l) (hl : l.length ≤ 1048576) :
    Calls Try.prog 73 #[.pointer (some ⟨b, o, none⟩)] w fun e w' => e = .returned (.tuple #[]) ∧ Changed l b o w w' := by
  obtain ⟨a, cap, e, hcap, hmax, hwf, hrow⟩ := hv
  injection e with e1 _ e3
  subst e1 e3
  have hbl : b < w.heap.size := cell_lt hc
  have HWF := Lib.hid hwf
  have HF := Lib.hid hf
  obtain ⟨i0, hi0, hz0, hz1, hz2⟩ := info_parts Try.infoInt
  by_cases h0 : l = []
  · subst h0
    have HC := Lib.hid hc
    clear hrow hwf
    go_enter Try.func73, Try.ntmps73
    go_wp2_with (at_builtin; refine wpList_append_empty rfl _ _ 22 rfl 3 i0 Try.underlying22 hi0 rfl _ _ rfl ?_)
    go_end0
    refine ⟨rfl, (Only.refl _ _).setCell _ _ _ (by simp), ⟨none, 0, [], World.cell?_setCell_same _ _ _ hc, ⟨none, 0, rfl, Nat.le_refl _, Nat.zero_le _, by simp, .inl ⟨rfl, rfl⟩⟩, NewBs.nil _ _, AllPlain.nil _⟩, fun i hi => World.cell?_setCell_other _ _ _ _ (addr_ne (by omega)), fun i => World.frozen?_setCell _ _ _ _, fun h => h.setCell _ _ _⟩
  · rcases hrow with h | ⟨sb, soff, rfl, _, hcells⟩
    · exact absurd h h0
    have hpos : 0 < l.length := by cases l with | nil => exact absurd rfl h0 | cons _ _ => simp
    have HN : Hid (∀ j u, (l.map (Value.int .i64))[j]? = some u → w.cell? ((⟨sb, soff, none⟩ : Addr).add j) = some u) := by
      intro j u hj
      rw [List.getElem?_map] at hj
      obtain ⟨x, hx, rfl⟩ := Option.map_eq_some_iff.1 hj
      obtain ⟨hj', rfl⟩ := List.getElem?_eq_some_iff.1 hx
      have := hcells j hj'
      unfold Addr.add
      split
      · rename_i h; subst h; simpa using this
      · exact this
    have hL1 : 0 + l.length ≤ maxLen := by unfold maxLen; omega
    have hL2 : (0 + l.length) * 8 ≤ 140737488355328 := by omega
    clear hcells hwf hf h0
    have hfz := HF.out
    go_enter Try.func73, Try.ntmps73
    go_wp2_with (at_builtin; refine wpList_append_lies _ rfl _ _ 22 rfl w.heap.size 3 i0 _ 1 8 Try.underlying22 hi0 hz0 hz1 hz2 rfl (by decide) _ 0 [] rfl (World.ownsRow_nil _ _ _ _) ⟨sb, soff, none⟩ l.length scap (l.map (Value.int .i64)) rfl (by simp) HN.out (by intro u hu; obtain ⟨x, _, rfl⟩ := List.mem_map.1 hu; rfl) hpos hL1 hL2 (Nat.le_refl _) w.heap.size rfl ?_; intro gg qcap w4 hown1 hgrow hat hlt4; have HOWN1 := Lib.hid hown1; have HGROW := Lib.hid hgrow; have HAT := Lib.hid hat; have hc4 := (hgrow.cell_far ⟨b, o + 3, none⟩ hbl (show some b ≠ none from by simp)).trans hc; have hf4 := (hgrow.frozen_far ⟨b, o + 3, none⟩ hbl (show some b ≠ none from by simp)).trans hfz; clear hown1 hgrow hat)
    go_end0
    have hgg : gg = w.heap.size := by
      rcases HAT.out with h | h
      · exact absurd (show (none : Option Nat) = some gg from h) (by simp)
      · exact h
    have hown : w4.ownsRow w.heap.size 3 1 (.slice (some ⟨gg, 0, none⟩) l.length qcap) l.length (l.map (Value.int .i64)) := by
      have := HOWN1.out
      rw [Nat.zero_add, List.nil_append] at this
      exact this
    have hnb : gg ≠ b := by omega
    have hown5 := ownsRow_setFar (o := o + 3) (u := .slice (some ⟨gg, 0, none⟩) l.length qcap) hown hnb
    have hsame : ∀ k, k < w.heap.size → w4.heap[k]? = w.heap[k]? := fun k hk => HGROW.out.block k hk (show some k ≠ none from by simp)
    refine ⟨rfl, ?_, ⟨_, qcap, [gg], World.cell?_setCell_same _ _ _ hc4, ownsRow_ints hown5 HWF.out, ⟨by simp, fun c hc => ?_⟩, fun c hc => ?_⟩, fun i hi => ?_, fun i => ?_, fun h => ?_⟩
    · exact Only.setCell ⟨HGROW.out.os, HGROW.out.tape, HGROW.out.output, HGROW.out.size, fun k hk _ => hsame k hk⟩ _ _ _ (by simp)
    · rw [List.mem_singleton] at hc
      subst hc
      exact ⟨by omega, by simp [World.setCell]; exact hlt4⟩
    · rw [List.mem_singleton] at hc
      subst hc
      exact ownsRow_plain hown5
    · rw [World.cell?_setCell_other _ _ _ _ (addr_ne (by omega))]
      exact World.cell?_of_block (a := ⟨b, i, none⟩) (hsame b hbl)
    · rw [World.frozen?_setCell]
      exact World.frozen?_of_block (a := ⟨b, i, none⟩) (hsame b hbl)
    · exact (h.same (hsame b hbl)).setCell _ _ _
set_option maxRecDepth 100000 in
set_option maxHeartbeats 400000 in
theorem stripScopes_any (b o : Nat) (l : List Int) (sa : Option Addr) (scap : Nat) (w : World) (hc : w.cell? ⟨b, o + 3, none⟩ = some (.slice sa l.length scap)) (hf : w.frozen? ⟨b, o + 3, none⟩ = false) :
    Calls Try.prog 67 #[.pointer (some ⟨b, o, none⟩)] w fun e w' => e = .returned (.tuple #[]) ∧ Changed [] b o w w' := by
  have HC := Lib.hid hc
  have HF := Lib.hid hf
  go_enter Try.func67, Try.ntmps67
  go_wp2_with fail
  go_end0
  refine ⟨rfl, (Only.refl _ _).setCell _ _ _ (by simp), ⟨none, 0, [], World.cell?_setCell_same _ _ _ hc, ⟨none, 0, rfl, Nat.le_refl _, Nat.zero_le _, by simp, .inl ⟨rfl, rfl⟩⟩, NewBs.nil _ _, AllPlain.nil _⟩, fun i hi => World.cell?_setCell_other _ _ _ _ (addr_ne (by omega)), fun i => World.frozen?_setCell _ _ _ _, fun h => h.setCell _ _ _⟩
theorem InV.bounds {φ : Nat → Prop} {w : World} {f : Fm} {v : Value} (h : InV φ w f v) :
    (-9223372036854775808 ≤ f.kind ∧ f.kind ≤ 9223372036854775807) ∧ (-9223372036854775808 ≤ f.n ∧ f.n ≤ 9223372036854775807) ∧ f.name.size ≤ maxLen := by
  cases f with
  | mk k nm n sc ks =>
    unfold InV at h
    obtain ⟨vs, a, cap, _, h1, h2, h3, _⟩ := h
    exact ⟨h1, h2, h3⟩
/-- the blocks that matter behind a round: those that did, and new ones -/
def RelGrows (l l' : List (Addr × Fm)) (D D' : Nat → Nat → Prop) (E E' : List Nat) (n : Nat) : Prop := ∀ k, RelB l' D' E' k → RelB l D E k ∨ n ≤ k
theorem chgStep_nil {chg : Int → List Int → List Int} {base : Nat} {w0 w2 w3 : World} {root : Addr × Fm} {l0 : List (Addr × Fm)} {b o : Nat} {f : Fm} {D : Nat → Nat → Prop} {E : List Nat}
    (h : ChgMid chg base w0 w2 root (l0 ++ [(⟨b, o, none⟩, f)]) D E) (hc : Changed (chg f.kind f.scopes) b o w2 w3) {u : Value} (h4 : w3.cell? ⟨b, o + 4, none⟩ = some u) (hk : f.kids = []) :
    ∃ D' E', ChgMid chg base w0 (w3.setCell ⟨b, o + 4, none⟩ (.slice none 0 0)) root l0 D' E' ∧ RelGrows (l0 ++ [(⟨b, o, none⟩, f)]) l0 D D' E E' w2.heap.size := by
  obtain ⟨⟨b', o', e, _, _, _, _, _, _, _, _, _, _, hin⟩, hbb, hbl⟩ := h.todo (⟨b, o, none⟩, f) (by simp)
  injection e with e1 e2
  subst e1 e2
  simp only at hbb hbl
  obtain ⟨hfk, hfn, hnm⟩ := hin.bounds
  obtain ⟨sa, scap, bs, s1, s2, s3, s4⟩ := hc.sc
  have hne : ∀ c ∈ bs, c ≠ b := fun c hm => by have := (s3.2 c hm).1; omega
  have hsz : w2.heap.size ≤ w3.heap.size := hc.only.size
  have hset : (w3.setCell ⟨b, o + 4, none⟩ (.slice none 0 0)).heap.size = w3.heap.size := by simp [World.setCell]
  have := h.step (w5 := w3.setCell ⟨b, o + 4, none⟩ (.slice none 0 0)) (sa := sa) (a := none) (scap := scap) (cap := 0) (bs1 := bs) (kbs := []) (kb := 0)
    (((hc.only.below (fun c hm => by rw [List.mem_singleton] at hm; subst hm; exact hbb) (h.size))).setCell (by simpa using hbb) _) (by rw [hset]; exact hsz)
    (fun k hr hn => by rw [Below.heap_setCell _ _ _ _ hn]; exact hc.only.block k (h.relLt hr.left) (by simpa using hn))
    (fun i => by rw [World.frozen?_setCell]; exact hc.frozen i) (fun i h1 h2 => by rw [World.cell?_setCell_other _ _ _ _ (addr_ne (by omega))]; exact hc.cell i h1)
    (fun hp => (hc.plain hp).setCell _ _ _) (by rw [World.cell?_setCell_other _ _ _ _ (addr_ne (by omega))]; exact s1)
    (s2.later fun c hm => Below.heap_setCell _ _ _ _ (hne c hm)) (by rw [List.append_nil, hset]; exact s3) (by rw [List.append_nil]; exact s4.same fun c hm => Below.heap_setCell _ _ _ _ (hne c hm))
    (by rw [hk]; exact World.cell?_setCell_same _ _ _ h4) (by rw [hk]; exact Nat.le_refl _) (Nat.zero_le _) (.inl ⟨hk, rfl⟩) (by rw [hk]; intro x hx; cases hx) hfk hfn hnm
  rw [hk, show itemsOf 0 0 [] = [] from rfl, List.append_nil] at this
  refine ⟨_, _, this, fun k hr => ?_⟩
  rcases hr with ⟨x, hx, e⟩ | ⟨i, hd | ⟨e, _⟩ | hd⟩ | hm
  · exact .inl (.inl ⟨x, List.mem_append_left _ hx, e⟩)
  · exact .inl (.inr (.inl ⟨i, hd⟩))
  · exact .inl (.inl ⟨_, List.mem_append_right _ (List.mem_singleton.2 rfl), e.symm⟩)
  · exact .inr (s3.2 k hd).1
  · rcases List.mem_append.1 hm with hm | hm
    · exact .inl (.inr (.inr hm))
    · rw [List.append_nil] at hm
      exact .inr (s3.2 k hm).1
theorem chgStep_kids {chg : Int → List Int → List Int} {base : Nat} {w0 w2 w3 w4 : World} {root : Addr × Fm} {l0 : List (Addr × Fm)} {b o : Nat} {f : Fm} {D : Nat → Nat → Prop} {E : List Nat}
    (h : ChgMid chg base w0 w2 root (l0 ++ [(⟨b, o, none⟩, f)]) D E) (hc : Changed (chg f.kind f.scopes) b o w2 w3) {u : Value} (h4 : w3.cell? ⟨b, o + 4, none⟩ = some u)
    {xb xo qcap : Nat} {T : TypeId} (hrow : RowIn (· < base) w0 xb xo f.kids) (hxb : xb < base) (hgrow : w3.grownBy w4 none)
    (hown : w4.ownsRow base T 5 (.slice (some ⟨w3.heap.size, 0, none⟩) f.kids.length qcap) f.kids.length (rowCells w3 xb xo (f.kids.length * 5))) :
    ∃ D' E', ChgMid chg base w0 (w4.setCell ⟨b, o + 4, none⟩ (.slice (some ⟨w3.heap.size, 0, none⟩) f.kids.length qcap)) root (l0 ++ itemsOf w3.heap.size 0 f.kids) D' E' ∧
      RelGrows (l0 ++ [(⟨b, o, none⟩, f)]) (l0 ++ itemsOf w3.heap.size 0 f.kids) D D' E E' w2.heap.size ∧ RelB (l0 ++ itemsOf w3.heap.size 0 f.kids) D' E' b := by
  obtain ⟨⟨b', o', e, _, _, _, _, _, _, _, _, _, _, hin⟩, hbb, hbl⟩ := h.todo (⟨b, o, none⟩, f) (by simp)
  injection e with e1 e2
  subst e1 e2
  simp only at hbb hbl
  obtain ⟨hfk, hfn, hnm⟩ := hin.bounds
  obtain ⟨sa, scap, bs, s1, s2, s3, s4⟩ := hc.sc
  have hsz : w2.heap.size ≤ w3.heap.size := hc.only.size
  have hsz4 : w3.heap.size < w4.heap.size := (hown.lt _ rfl).2
  have hs34 : ∀ k, k < w3.heap.size → w4.heap[k]? = w3.heap[k]? := fun k hk => hgrow.block k hk (by simp)
  have hne : ∀ c ∈ bs, c ≠ b ∧ c < w3.heap.size := fun c hm => ⟨by have := (s3.2 c hm).1; omega, (s3.2 c hm).2⟩
  have hset : (w4.setCell ⟨b, o + 4, none⟩ (.slice (some ⟨w3.heap.size, 0, none⟩) f.kids.length qcap)).heap.size = w4.heap.size := by simp [World.setCell]
  have hbl3 : b < w3.heap.size := by omega
  have hb4 := hs34 b hbl3
  have h44 : w4.cell? ⟨b, o + 4, none⟩ = some u := (World.cell?_of_block (a := ⟨b, o + 4, none⟩) hb4).trans h4
  obtain ⟨_, _, _, hcap, hmax⟩ := ownsRow_at hown
  have hb24 : Below base w2 w4 := (hc.only.below (fun c hm => by rw [List.mem_singleton] at hm; subst hm; exact hbb) h.size).trans
    ⟨hgrow.os, hgrow.tape, hgrow.output, hgrow.size, fun k hk => hs34 k (by have := h.size; omega)⟩
  have hown5 : (w4.setCell ⟨b, o + 4, none⟩ (.slice (some ⟨w3.heap.size, 0, none⟩) f.kids.length qcap)).ownsRow base T 5 (.slice (some ⟨w3.heap.size, 0, none⟩) f.kids.length qcap) f.kids.length (rowCells w3 xb xo (f.kids.length * 5)) :=
    ownsRow_setFar hown (by omega)
  have hb03 : Below base w0 w3 := h.below.trans (hc.only.below (fun c hm => by rw [List.mem_singleton] at hm; subst hm; exact hbb) h.size)
  have := h.step (w5 := w4.setCell ⟨b, o + 4, none⟩ (.slice (some ⟨w3.heap.size, 0, none⟩) f.kids.length qcap)) (sa := sa) (a := some ⟨w3.heap.size, 0, none⟩) (scap := scap) (cap := qcap) (bs1 := bs) (kbs := [w3.heap.size]) (kb := w3.heap.size)
    (hb24.setCell (by simpa using hbb) _) (by rw [hset]; omega)
    (fun k hr hn => by
      have hk2 := h.relLt hr.left
      rw [Below.heap_setCell _ _ _ _ hn, hs34 k (by omega)]
      exact hc.only.block k hk2 (by simpa using hn))
    (fun i => by rw [World.frozen?_setCell, World.frozen?_of_block (a := ⟨b, i, none⟩) hb4]; exact hc.frozen i)
    (fun i h1 h2 => by rw [World.cell?_setCell_other _ _ _ _ (addr_ne (by omega)), World.cell?_of_block (a := ⟨b, i, none⟩) hb4]; exact hc.cell i h1)
    (fun hp => ((hc.plain hp).same hb4).setCell _ _ _)
    (by rw [World.cell?_setCell_other _ _ _ _ (addr_ne (by omega)), World.cell?_of_block (a := ⟨b, o + 3, none⟩) hb4]; exact s1)
    (s2.later fun c hm => by rw [Below.heap_setCell _ _ _ _ (hne c hm).1]; exact hs34 c (hne c hm).2)
    (by rw [hset]; exact s3.append ((NewBs.nil (w3.heap.size + 1) w4.heap.size).cons (Nat.le_refl _) hsz4) hsz (Nat.le_of_lt hsz4))
    ((s4.same fun c hm => by rw [Below.heap_setCell _ _ _ _ (hne c hm).1]; exact hs34 c (hne c hm).2).append ((AllPlain.nil _).cons (ownsRow_plain hown5)))
    (World.cell?_setCell_same _ _ _ h44) hcap hmax (.inr ⟨rfl, rfl⟩)
    (RowIn.copied (w := w0) (k := 0) (by simpa using hrow) fun i hi => by
      rw [Nat.zero_add] at hi
      refine ⟨?_, hown5.frozenAt i⟩
      rw [hown5.cellAt i hi, rowCells_get _ _ _ _ _ hi]
      obtain ⟨v, hv, _⟩ := hrow.there i hi
      rw [hb03.cell (p := ⟨xb, xo + i, none⟩) hxb, hv]
      rfl) hfk hfn hnm
  refine ⟨_, _, this, fun k hr => ?_, .inr (.inl ⟨o, .inr (.inl ⟨rfl, Nat.le_refl _, by omega⟩)⟩)⟩
  rcases hr with ⟨x, hx, e⟩ | ⟨i, hd | ⟨e, _⟩ | hd⟩ | hm
  · rcases List.mem_append.1 hx with hx | hx
    · exact .inl (.inl ⟨x, List.mem_append_left _ hx, e⟩)
    · obtain ⟨i, _, e'⟩ := itemsOf_mem _ _ _ _ hx
      rw [e'] at e
      exact .inr (by rw [← e]; exact hsz)
  · exact .inl (.inr (.inl ⟨i, hd⟩))
  · exact .inl (.inl ⟨_, List.mem_append_right _ (List.mem_singleton.2 rfl), e.symm⟩)
  · exact .inr (s3.2 k hd).1
  · rcases List.mem_append.1 hm with hm | hm
    · exact .inl (.inr (.inr hm))
    · rcases List.mem_append.1 hm with hm | hm
      · exact .inr (s3.2 k hm).1
      · rw [List.mem_singleton] at hm
        exact .inr (by omega)
end Go.Proofs.Ytkegaonoiecfiaa
