/- Copies of bindings, and scopes of their own. -/
import Derived.Test.YtbmpgfojhoganaaSpecAdd
import Derived.Test.YtbmpgfojhoganaaImplCands
import Derived.Test.YtbmpgfojhoganaaToB
import Derived.Laws.CopyOwn
namespace Go.Proofs.Ytbmpgfojhoganaa
open Go.RowKit
set_option linter.unusedVariables false
set_option linter.unusedSimpArgs false
/-- copying elements of more than one cell -/
theorem run_copy_many {P : Program} (w : World) (dT sT ty elem : TypeId) (g o dLen dCap : Nat) (sp : Option Addr) (sLen sCap m : Nat) (cur : List Value) (t : TypeId) (cs : List Value)
    (hu : P.underlying dT = some (.slice elem)) (hs : (P.info? elem).map (·.size) = some m)
    (hg : w.heap[g]? = some (.cells cur.toArray t (0, 0))) (hn : cs.length = Nat.min sLen dLen * m)
    (hsrc : 0 < cs.length → ∃ ad, sp = some ad ∧ ∀ j v, cs[j]? = some v → w.cell? (ad.add j) = some v) (hfit : o + cs.length ≤ cur.length) (h1 : ∀ v ∈ cs, v.oneCell' = true) (hsp : sp = none → sLen = 0) :
    (Builtin.copy_ #[dT, sT] ty #[.slice (some ⟨g, o, none⟩) dLen dCap, .slice sp sLen sCap]).run P w = .ok (goInt (Nat.min sLen dLen)) (w.setRow g (splice cur o cs).toArray) := by
  have hst := run_storeCells_at P g o t cs 0 cur.toArray w hg (by simpa using hfit) h1
  have hst2 : (storeCells ⟨g, o, none⟩ cs 0).run P w = .ok () (w.setRow g (splice cur o cs).toArray) := by
    rw [hst]
    simp [splice]
  cases hq : P.info? elem with
  | none => simp [hq] at hs
  | some i =>
    have hi : i.size = m := by simpa [hq] using hs
    by_cases h0 : cs.length = 0
    · obtain rfl : cs = [] := List.eq_nil_of_length_eq_zero h0
      have hz : Nat.min sLen dLen * m = 0 := by simpa using hn.symm
      have hz2 : m * Nat.min sLen dLen = 0 := by rw [Nat.mul_comm]; exact hz
      cases sp with
      | none =>
        have := hsp rfl
        subst this
        simp [Builtin.copy_, run_underlying hu, Builtin.lenOf, Builtin.firstCells, sizeOf, typeInfo, hq, hi, hst2]
      | some ad => simp [Builtin.copy_, run_underlying hu, Builtin.lenOf, Builtin.firstCells, sizeOf, typeInfo, hq, hi, hz, hz2, loadCells, loadCellsFrom, hst2]
    · obtain ⟨ad, rfl, hsrc2⟩ := hsrc (by omega)
      have hl := run_loadCells_list (P := P) w ad cs hsrc2
      rw [hn] at hl
      have hl2 := hl
      rw [Nat.mul_comm] at hl2
      simp [Builtin.copy_, run_underlying hu, Builtin.lenOf, Builtin.firstCells, sizeOf, typeInfo, hq, hi, hl, hl2, hst2]
theorem wpList_copy_many {P : Program} {w : World} {ops : Array Oper} {rest : List Oper} {o : Oper} {a : Act} {Q : Exit → Act → World → Prop} (hgd : o.guard = none) (d s : Operand) (dT sT : TypeId)
    (ho : o.op = .call { callee := .builtin .copy, args := #[d, s], argTypes := #[dT, sT] }) (elem : TypeId) (hu : P.underlying dT = some (.slice elem)) (m : Nat) (hsz : (P.info? elem).map (·.size) = some m)
    (sp : Option Addr) (dLen dCap sLen sCap g off : Nat) (hd : a.eval d = .slice (some ⟨g, off, none⟩) dLen dCap) (hs : a.eval s = .slice sp sLen sCap)
    (cur : List Value) (t : TypeId) (hg : w.heap[g]? = some (.cells cur.toArray t (0, 0))) (cs : List Value) (hn : cs.length = Nat.min sLen dLen * m)
    (hsrc : 0 < cs.length → ∃ ad, sp = some ad ∧ ∀ j v, cs[j]? = some v → w.cell? (ad.add j) = some v) (hfit : off + cs.length ≤ cur.length) (h1 : ∀ v ∈ cs, v.oneCell' = true) (hsp : sp = none → sLen = 0)
    (B : Nat) (w0 : World) (hb : Below B w0 w) (hBg : B ≤ g)
    (h : ∀ w', Hid (w'.heap[g]? = some (.cells (splice cur off cs).toArray t (0, 0))) → Below B w0 w' → wpList P ops Q rest (a.put o.dst (goInt (Nat.min sLen dLen))) w') :
    wpList P ops Q (o :: rest) a w := by
  refine wpList_plain hgd fun K hK => ?_
  have hrun := run_copy_many (P := P) w dT sT o.type elem g off dLen dCap sp sLen sCap m cur t cs hu hsz hg hn hsrc hfit h1 hsp
  unfold Oper.wp
  simp [execOp, ho, resolve, invoke, builtin, hd, hs, hrun, Result.andThen]
  exact hK _ _ (h _ (show _ = _ from setRow_heap w g _ _ t _ hg) (below_setRow hb hBg _))
/-- 'append(nil, l...)': a list of numbers of its own -/
theorem wpList_append_clone {P : Program} {w : World} {ops : Array Oper} {rest : List Oper} {o : Oper} {a : Act} {Q : Exit → Act → World → Prop} (hgd : o.guard = none) (s x : Operand) (t e : TypeId)
    (ho : o.op = .call { callee := .builtin .append, args := #[s, x], argTypes := #[t, t] }) (i : TypeInfo) (ht : P.underlying t = some (.slice e)) (hi : P.info? e = some i) (hz : i.zero = some (.int .i64 0)) (hsize : i.size = 1) (hby : i.bytes = 8)
    (sc : List Int) (sa : Option Addr) (scap : Nat) (φ : Nat → Prop) (hs : a.eval s = .slice none 0 0) (hx : a.eval x = .slice sa sc.length scap) (hv : IntRow φ w (.slice sa sc.length scap) sc) (hl : sc.length ≤ 1048576)
    (h : ∀ sa' scap' bs' w', w.grownBy w' none → IntOwn w' (.slice sa' sc.length scap') sc bs' → NewBs bs' w.heap.size w'.heap.size → wpList P ops Q rest (a.put o.dst (.slice sa' sc.length scap')) w') : wpList P ops Q (o :: rest) a w := by
  obtain ⟨a0, cap0, e0, hcap, hmax, hwf, hrow⟩ := hv
  injection e0 with e1 _ e3
  subst e1 e3
  by_cases h0 : sc = []
  · subst h0
    refine wpList_append_empty hgd s x t ho e i ht hi hs sa scap hx ?_
    exact h none 0 [] w ⟨rfl, rfl, rfl, Nat.le_refl _, fun _ _ _ => rfl⟩ ⟨none, 0, rfl, Nat.le_refl _, Nat.zero_le _, by simp, .inl ⟨rfl, rfl⟩⟩ (NewBs.nil _ _)
  · rcases hrow with hr | ⟨sb, soff, rfl, _, hcells⟩
    · exact absurd hr h0
    have hpos : 0 < sc.length := by cases sc with | nil => exact absurd rfl h0 | cons _ _ => simp
    refine wpList_append_lies _ hgd s x t ho w.heap.size e i _ 1 8 ht hi hz hsize hby rfl (by omega) _ 0 [] hs (World.ownsRow_nil _ _ _ _) ⟨sb, soff, none⟩ sc.length scap (sc.map (Value.int .i64)) hx (by simp) ?_ ?_ hpos (by unfold maxLen; omega) (by omega) (Nat.le_refl _) w.heap.size rfl ?_
    · intro j u hj
      rw [List.getElem?_map] at hj
      obtain ⟨y, hy, rfl⟩ := Option.map_eq_some_iff.1 hj
      obtain ⟨hj', rfl⟩ := List.getElem?_eq_some_iff.1 hy
      have := hcells j hj'
      unfold Addr.add
      split
      · rename_i h; subst h; simpa using this
      · exact this
    · intro u hu
      obtain ⟨y, _, rfl⟩ := List.mem_map.1 hu
      rfl
    · intro g qcap w' hown' hgrow hat hlt
      rw [Nat.zero_add, List.nil_append] at hown'
      have hgg : g = w.heap.size := by
        rcases hat with e | e
        · simp [Value.ownBlock] at e
        · exact e
      rw [Nat.zero_add]
      exact h _ qcap [g] w' hgrow (ownsRow_ints hown' hwf) ⟨by simp, fun c hc => by rw [List.mem_singleton] at hc; subst hc; exact ⟨by omega, hlt⟩⟩
/-- the first j of a row of bindings have scopes of their own -/
structure CloneB (w wr : World) (g : Nat) (L : List Bd) (j S : Nat) (bs : List Nat) : Prop where
  below : Below w.heap.size w wr
  row : BdRowOwn wr g 0 (L.take j) bs
  rest : ∀ i, j ≤ i → (h : i < L.length) → BdAt (· < w.heap.size) wr g (i * 3) L[i]
  free : ∀ i, wr.frozen? ⟨g, i, none⟩ = false
  news : NewBs bs S wr.heap.size
  fix : w.heap.size ≤ g ∧ g < S ∧ S ≤ wr.heap.size
set_option maxHeartbeats 2000000 in
theorem CloneB.step {w wr W1 : World} {g : Nat} {L : List Bd} {j S : Nat} {bs bs' : List Nat} {sa : Option Addr} {scap : Nat} (h : CloneB w wr g L j S bs) (hj : j < L.length) (hg : wr.grownBy W1 none)
    (hi : IntOwn W1 (.slice sa L[j].scopes.length scap) L[j].scopes bs') (hn : NewBs bs' wr.heap.size W1.heap.size) :
    CloneB w (W1.setCell ⟨g, j * 3 + 1, none⟩ (.slice sa L[j].scopes.length scap)) g L (j + 1) S (bs ++ bs') := by
  obtain ⟨f1, f2, f3⟩ := h.fix
  have hsz := hg.size
  have hz : (W1.setCell ⟨g, j * 3 + 1, none⟩ (.slice sa L[j].scopes.length scap)).heap.size = W1.heap.size := by simp [World.setCell]
  have hold : ∀ k, k < wr.heap.size → W1.heap[k]? = wr.heap[k]? := fun k hk => hg.block k hk (by simp)
  have hset : ∀ k, k ≠ g → (W1.setCell ⟨g, j * 3 + 1, none⟩ (.slice sa L[j].scopes.length scap)).heap[k]? = W1.heap[k]? := fun k hk => Below.heap_setCell _ _ _ _ hk
  have hc1 : ∀ i, W1.cell? ⟨g, i, none⟩ = wr.cell? ⟨g, i, none⟩ := fun i => World.cell?_of_block (a := ⟨g, i, none⟩) (hold g (by omega))
  have hc : ∀ i, i ≠ j * 3 + 1 → (W1.setCell ⟨g, j * 3 + 1, none⟩ (.slice sa L[j].scopes.length scap)).cell? ⟨g, i, none⟩ = wr.cell? ⟨g, i, none⟩ := fun i hi => (World.cell?_setCell_other _ _ _ _ (addr_ne (Ne.symm hi))).trans (hc1 i)
  have hf : ∀ i, (W1.setCell ⟨g, j * 3 + 1, none⟩ (.slice sa L[j].scopes.length scap)).frozen? ⟨g, i, none⟩ = wr.frozen? ⟨g, i, none⟩ := fun i => (World.frozen?_setCell _ _ _ _).trans (World.frozen?_of_block (a := ⟨g, i, none⟩) (hold g (by omega)))
  obtain ⟨sb, sbcap, c0, c1, c2, hr⟩ := h.rest j (Nat.le_refl _) hj
  have hl : (L.take j).length = j := by rw [List.length_take]; omega
  refine ⟨?_, ?_, fun i h1 h2 => ?_, fun i => (hf i).trans (h.free i), ?_, f1, f2, by omega⟩
  · refine (h.below.trans ((show Below wr.heap.size wr W1 from ⟨hg.os, hg.tape, hg.output, hsz, hold⟩).mono (by omega))).setCell (p := ⟨g, j * 3 + 1, none⟩) f1 _
  · rw [List.take_succ_eq_append_getElem hj]
    refine BdRowOwn.snoc (h.row.upto (fun c hc' => (hset c (by have := h.news.2 c hc'; omega)).trans (hold c (by have := h.news.2 c hc'; omega))) (fun i h1 h2 => ⟨hc i (by rw [hl] at h2; omega), hf i⟩)) ?_
    rw [hl, Nat.zero_add]
    exact ⟨sa, scap, (hc _ (by omega)).trans c0, World.cell?_setCell_same _ _ _ ((hc1 _).trans c1), (hc _ (by omega)).trans c2, fun i _ => (hf _).trans (h.free _), hi.later (fun c hc' => hset c (by have := hn.2 c hc'; omega))⟩
  · obtain ⟨sd, sdcap, d0, d1, d2, hr2⟩ := h.rest i (by omega) h2
    exact ⟨sd, sdcap, (hc _ (by omega)).trans d0, (hc _ (by omega)).trans d1, (hc _ (by omega)).trans d2, hr2.later (fun k (hk : k < w.heap.size) => (hset k (by omega)).trans (hold k (by omega)))⟩
  · rw [hz]
    exact h.news.append hn f3 hsz
theorem make_binds1 (n : Nat) (hn : n ≤ 1048576) (w : World) : (Instr.makeSlice 47 (.int .i64 (n : Int)) (.int .i64 ((n : Int) + 1))).run Try.prog w =
    .ok (.slice (some ⟨w.heap.size, 0, none⟩) n (n + 1)) (w.alloc (.cells (madeCells zeroBd ((n + 1) * 3)) 83)) := by
  obtain ⟨i, hi, hzz⟩ := Option.map_eq_some_iff.1 Try.infoBd
  simp only [Prod.mk.injEq] at hzz
  obtain ⟨hz, hs, hb⟩ := hzz
  have := run_make (P := Try.prog) w 47 83 i _ Try.underlying47 hi hz .i64 .i64 n ((n + 1 : Nat) : Int) (by omega) (by omega) (by rw [hb]; omega) (by omega)
  rw [hs] at this
  have e : ((n + 1 : Nat) : Int) = (n : Int) + 1 := by omega
  rw [e] at this
  have h := this
  simp at h
  exact h
/-- the cells of bindings that came in -/
theorem bd_cells {φ : Nat → Prop} {w : World} {pa : Option Addr} {cap : Nat} {l : List Bd} (h : BdRow φ w (.slice pa l.length cap) l) :
    ∃ xs, xs.length = l.length * 3 ∧ BdVals φ w l xs ∧ (∀ u ∈ xs, u.oneCell' = true) ∧ (0 < xs.length → ∃ b off, pa = some ⟨b, off, none⟩ ∧ φ b ∧ ∀ j v, xs[j]? = some v → w.cell? ⟨b, off + j, none⟩ = some v) := by
  obtain ⟨a, cap', e, _, _, _, h⟩ := h
  injection e with e1 _ _
  subst e1
  rcases h with rfl | ⟨b, off, rfl, hb, h⟩
  · exact ⟨[], rfl, rfl, by simp, by simp⟩
  · have key : ∀ (r : List Bd) (o : Nat), (∀ i, (h : i < r.length) → BdAt φ w b (o + i * 3) r[i]) → ∃ xs, xs.length = r.length * 3 ∧ BdVals φ w r xs ∧ (∀ u ∈ xs, u.oneCell' = true) ∧ ∀ j v, xs[j]? = some v → w.cell? ⟨b, o + j, none⟩ = some v := by
      intro r
      induction r with
      | nil => intro o _; exact ⟨[], rfl, rfl, by simp, by simp⟩
      | cons x r ih =>
        intro o hh
        obtain ⟨sa, scap, c0, c1, c2, hr⟩ := hh 0 (by simp)
        obtain ⟨xs, g1, g2, g3, g4⟩ := ih (o + 3) (fun i hi => by
          have := hh (i + 1) (by simpa using hi)
          rw [show o + (i + 1) * 3 = o + 3 + i * 3 by omega] at this
          simpa using this)
        refine ⟨.string x.name :: .slice sa x.scopes.length scap :: .int .i64 x.id :: xs, by simp [g1]; omega, ⟨sa, scap, xs, rfl, hr, g2⟩, ?_, ?_⟩
        · intro u hu
          simp only [List.mem_cons] at hu
          rcases hu with rfl | rfl | rfl | hu
          · rfl
          · rfl
          · rfl
          · exact g3 u hu
        · intro j v hv
          match j with
          | 0 => simp at hv; subst hv; simpa using c0
          | 1 => simp at hv; subst hv; simpa using c1
          | 2 => simp at hv; subst hv; simpa using c2
          | j + 3 =>
            have := g4 j v (by simpa using hv)
            rw [show o + (j + 3) = o + 3 + j by omega]
            exact this
    obtain ⟨xs, g1, g2, g3, g4⟩ := key l off h
    exact ⟨xs, g1, g2, g3, fun _ => ⟨b, off, rfl, hb, g4⟩⟩
theorem bindsB_init {l : List Bd} {x : Bd} (h : bindsB (l ++ [x]) = true) : bindsB l = true := by
  unfold bindsB at h ⊢
  rw [Bool.and_eq_true] at h ⊢
  have h1 := of_decide_eq_true h.1
  rw [List.length_append, List.length_singleton] at h1
  refine ⟨decide_eq_true (by omega), ?_⟩
  have h2 := h.2
  unfold bindsUp at h2 ⊢
  rw [List.all_eq_true] at h2 ⊢
  intro i hi
  have hi' := List.mem_range.1 hi
  have := h2 i (List.mem_range.2 (by rw [List.length_append]; omega))
  rw [List.getElem?_append_left hi'] at this
  rw [List.getElem?_eq_getElem hi'] at this ⊢
  rw [List.take_append_of_le_length (by omega)] at this
  exact this
theorem addB_eq (l : List Bd) (f : Fm) (id : Int) : addB l f id = (isNameB f && bindsB (l ++ [⟨f.name, f.scopes, id⟩])) := by
  unfold addB
  cases h : bindsB (l ++ [⟨f.name, f.scopes, id⟩]) with
  | false => simp
  | true => rw [bindsB_init h]; simp
end Go.Proofs.Ytbmpgfojhoganaa
