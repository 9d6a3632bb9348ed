/- Maps whose keys are numbers, as lists of pairs, and the loop over one. Nothing of the program's code is used. -/
import Derived.Test.YtcckhcedfmadeaaFirst
import Derived.Maps.RangeWalk
namespace Go.Proofs.Ytcckhcedfmadeaa
open Go.RowKit Go.Maps Go.ChangeMaps Go.MapKept
set_option linter.unusedVariables false
set_option linter.unusedSimpArgs false
/-- the entries of a map are these pairs, in this order -/
def EntsAre (es : Array MapEntry) (clock : Nat) (l : List (Nat × Value)) : Prop :=
  es.toList.map (fun e => (e.key, e.val)) = l.map (fun p => (Value.int .i64 p.1, p.2)) ∧ (∀ e ∈ es.toList, e.born < clock) ∧ (es.toList.map (·.born)).Nodup
/-- block 'ib' is a map that holds these, in this order -/
def CandIn (w : World) (ib : Nat) (l : List (Nat × Value)) : Prop := ∃ es clock, w.heap[ib]? = some (.map es clock) ∧ EntsAre es clock l
theorem CandIn.same {w w' : World} {ib : Nat} {l : List (Nat × Value)} (h : CandIn w ib l) (hs : w'.heap[ib]? = w.heap[ib]?) : CandIn w' ib l := by
  obtain ⟨es, clock, h1, h2⟩ := h
  exact ⟨es, clock, hs.trans h1, h2⟩
theorem CandIn.lt {w : World} {ib : Nat} {l : List (Nat × Value)} (h : CandIn w ib l) : ib < w.heap.size := by
  obtain ⟨es, clock, h1, h2⟩ := h
  exact (Array.getElem?_eq_some_iff.1 h1).1
theorem EntsAre.pair {es : Array MapEntry} {clock : Nat} {l : List (Nat × Value)} (h : EntsAre es clock l) {e : MapEntry} (he : e ∈ es.toList) : ∃ p ∈ l, e.key = .int .i64 p.1 ∧ e.val = p.2 := by
  have h1 : (e.key, e.val) ∈ es.toList.map (fun e => (e.key, e.val)) := List.mem_map.2 ⟨e, he, rfl⟩
  rw [h.1] at h1
  obtain ⟨p, hp, h2⟩ := List.mem_map.1 h1
  injection h2 with h3 h4
  exact ⟨p, hp, h3.symm, h4.symm⟩
theorem EntsAre.entry {es : Array MapEntry} {clock : Nat} {l : List (Nat × Value)} (h : EntsAre es clock l) {p : Nat × Value} (hp : p ∈ l) : ∃ e ∈ es.toList, e.key = .int .i64 p.1 ∧ e.val = p.2 := by
  have h1 : (Value.int .i64 p.1, p.2) ∈ l.map (fun p => (Value.int .i64 p.1, p.2)) := List.mem_map.2 ⟨p, hp, rfl⟩
  rw [← h.1] at h1
  obtain ⟨e, he, h2⟩ := List.mem_map.1 h1
  injection h2 with h3 h4
  exact ⟨e, he, h3, h4⟩
theorem CandIn.made (w : World) : CandIn (w.alloc (.map #[] 0)) w.heap.size [] := ⟨#[], 0, heap_alloc_new w _, rfl, fun e he => (by cases he), List.nodup_nil⟩
/-- all of them have it -/
def AllD (l : List (Nat × Value)) (D : Nat × Value → Prop) : Prop := ∀ p ∈ l, D p
/-- the loop over such a map: what has come up has 'D' -/
def CandMid (w : World) (r ib : Nat) (l : List (Nat × Value)) (D : Nat × Value → Prop) (cnt : Nat) : Prop :=
  ∃ es clock seen c0, w.heap[ib]? = some (.map es clock) ∧ EntsAre es clock l ∧ w.heap[r]? = some (.mapIter (some ib) clock seen c0) ∧ clock ≤ c0 ∧ cnt = (leftOf es seen).size ∧
    ∀ e ∈ es.toList, seen.contains e.born = true → ∀ p ∈ l, e.key = .int .i64 p.1 → e.val = p.2 → D p
theorem CandMid.same {w w' : World} {r ib : Nat} {l : List (Nat × Value)} {D : Nat × Value → Prop} {cnt : Nat} (h : CandMid w r ib l D cnt) (h1 : w'.heap[ib]? = w.heap[ib]?) (h2 : w'.heap[r]? = w.heap[r]?) : CandMid w' r ib l D cnt := by
  obtain ⟨es, clock, seen, c0, g1, g2, g3, g4⟩ := h
  exact ⟨es, clock, seen, c0, h1.trans g1, g2, h2.trans g3, g4⟩
theorem CandMid.lt {w : World} {r ib : Nat} {l : List (Nat × Value)} {D : Nat × Value → Prop} {cnt : Nat} (h : CandMid w r ib l D cnt) : ib < w.heap.size ∧ r < w.heap.size := by
  obtain ⟨es, clock, seen, c0, g1, g2, g3, g4⟩ := h
  exact ⟨(Array.getElem?_eq_some_iff.1 g1).1, (Array.getElem?_eq_some_iff.1 g3).1⟩
theorem CandIn.range {P : Program} {w : World} {ib : Nat} {l : List (Nat × Value)} (h : CandIn w ib l) (t k e : TypeId) (ht : P.underlying t = some (.map k e)) (D : Nat × Value → Prop) :
    ∃ w' cnt, (Instr.range t (.map (some ib))).run P w = .ok (.pointer (some ⟨w.heap.size, 0, none⟩)) w' ∧ CandMid w' w.heap.size ib l D cnt ∧ Below w.heap.size w w' ∧ w'.heap.size = w.heap.size + 1 := by
  have hlt := h.lt
  obtain ⟨es, clock, hb, he⟩ := h
  refine ⟨_, _, run_range_map w t k e ib es clock ht hb, ⟨es, clock, #[], clock, ((heap_alloc_old w _ hlt).trans hb), he, heap_alloc_new w _, Nat.le_refl _, rfl, fun e _ h => (by simp at h)⟩, (Below.refl _ _).alloc (Nat.le_refl _) _, by simp⟩
section
variable {P : Program} (w : World) {ops : Array Oper} {rest : List Oper} {o : Oper} {a : Act} {Q : Exit → Act → World → Prop}
theorem wpList_range_cand (hg : o.guard = none) (m : Operand) (t : TypeId) (hop : o.op = Op.range t m) (k e : TypeId) (ht : P.underlying t = some (.map k e)) (ib : Nat) (l : List (Nat × Value)) (D : Nat × Value → Prop)
    (hm : a.eval m = .map (some ib)) (h : CandIn w ib l)
    (hK : ∀ w' cnt, CandMid w' w.heap.size ib l D cnt → Below w.heap.size w w' → w'.heap.size = w.heap.size + 1 → wpList P ops Q rest (a.put o.dst (.pointer (some ⟨w.heap.size, 0, none⟩))) w') :
    wpList P ops Q (o :: rest) a w := by
  refine wpList_plain hg fun K' hK' => ?_
  obtain ⟨w', cnt, hrun, r1, r2, r3⟩ := h.range t k e ht D
  unfold Oper.wp
  simp [execOp, hop, hm, hrun, Result.andThen]
  exact hK' _ _ (hK w' cnt r1 r2 r3)
theorem wpList_next_cand (hg : o.guard = none) (it : Operand) (hop : o.op = Op.next it false) (r ib : Nat) (l : List (Nat × Value)) (D : Nat × Value → Prop) (cnt : Nat)
    (hit : a.eval it = .pointer (some ⟨r, 0, none⟩)) (h : CandMid w r ib l D cnt)
    (hDone : AllD l D → wpList P ops Q rest (a.put o.dst (.tuple #[.bool false])) w)
    (hMore : ∀ (k : Nat) (v : Value) (w' : World) (cnt' : Nat), (k, v) ∈ l → (D (k, v) → CandMid w' r ib l D cnt') → cnt' < cnt → w'.heap[ib]? = w.heap[ib]? → Below r w w' → w'.heap.size = w.heap.size → (∀ j, j ≠ r → w'.heap[j]? = w.heap[j]?) →
      (Instr.entry (.pointer (some ⟨r, 0, none⟩))).run P w' = .ok (.tuple #[.int .i64 k, v]) w' → wpList P ops Q rest (a.put o.dst (.tuple #[.bool true, .int .i64 k, v])) w') :
    wpList P ops Q (o :: rest) a w := by
  refine wpList_plain hg fun K' hK' => ?_
  unfold Oper.wp
  obtain ⟨es, clock, seen, c0, hb, he, hr, hsc, rfl, hD⟩ := h
  have hne : ib ≠ r := by
    intro e1
    rw [e1, hr] at hb
    cases hb
  rcases run_next_at (P := P) w o.type r ib clock c0 seen es clock hr hb he.2.1 hsc with ⟨h0, hrun⟩ | ⟨e, hel, w1, hal, hrun⟩
  · simp [execOp, hop, hit, hrun, Result.andThen]
    refine hK' _ _ (hDone fun p hp => ?_)
    obtain ⟨e, he1, he2, he3⟩ := he.entry hp
    exact hD e he1 (all_seen es seen h0 e he1) p hp he2 he3
  · obtain ⟨hem, hes⟩ := mem_left hel
    obtain ⟨p, hp, hk, hv⟩ := he.pair hem
    have hr1 : w1.heap[r]? = some (.mapIter (some ib) clock seen c0) := by rcases hal with rfl | rfl <;> exact hr
    have hb1 : w1.heap[ib]? = some (.map es clock) := by rcases hal with rfl | rfl <;> exact hb
    have hset := heap_set (o' := .mapIter (some ib) clock (seen.push e.born) clock) hr1
    have hb' : (setBlock w1 r (.mapIter (some ib) clock (seen.push e.born) clock)).heap[ib]? = some (.map es clock) := (hset.2 ib hne).trans hb1
    have hsz : (setBlock w1 r (.mapIter (some ib) clock (seen.push e.born) clock)).heap.size = w.heap.size := by rcases hal with rfl | rfl <;> simp [setBlock]
    have hoth : ∀ k, k ≠ r → (setBlock w1 r (.mapIter (some ib) clock (seen.push e.born) clock)).heap[k]? = w.heap[k]? := fun k hk => (hset.2 k hk).trans (by rcases hal with rfl | rfl <;> rfl)
    have hent := run_entry_at (P := P) (setBlock w1 r (.mapIter (some ib) clock (seen.push e.born) clock)) r ib clock seen es clock e hset.1 hb' hem he.2.2
    rw [hk, hv] at hrun hent
    simp [execOp, hop, hit, hrun, Result.andThen]
    refine hK' _ _ (hMore p.1 p.2 _ _ hp (fun hDp => ⟨es, clock, seen.push e.born, clock, hb', he, hset.1, Nat.le_refl _, rfl, fun x hx hxs q hq hq1 hq2 => ?_⟩) (left_shrinks es seen e hel) (hb'.trans hb.symm) ?_ hsz hoth hent)
    · rw [contains_push, Bool.or_eq_true] at hxs
      rcases hxs with hxs | hxs
      · exact hD x hx hxs q hq hq1 hq2
      · have hxb : x.born = e.born := by simpa using hxs
        have hxe : x = e := born_inj he.2.2 hx hem hxb
        subst hxe
        have h1 : (Value.int .i64 (p.1 : Int)) = .int .i64 (q.1 : Int) := hk.symm.trans hq1
        have h2 : p.2 = q.2 := hv.symm.trans hq2
        injection h1 with _ h1
        have h3 : p = q := Prod.ext (by omega) h2
        exact h3 ▸ hDp
    · rcases hal with rfl | rfl
      · exact ⟨rfl, rfl, rfl, by rw [hsz]; exact Nat.le_refl _, fun k hk => hoth k (by omega)⟩
      · exact ⟨rfl, rfl, rfl, by rw [hsz]; exact Nat.le_refl _, fun k hk => hoth k (by omega)⟩
end
end Go.Proofs.Ytcckhcedfmadeaa
