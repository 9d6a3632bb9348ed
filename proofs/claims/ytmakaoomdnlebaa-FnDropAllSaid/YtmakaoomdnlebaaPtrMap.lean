/- A map keyed by pointers to forms: reading and storing. -/
import Derived.Test.YtmakaoomdnlebaaChecked
import Derived.Test.YtmakaoomdnlebaaData
import Derived.LaidEql
import Derived.MapKept
import Derived.KernelRfl
namespace Go.Proofs.Ytmakaoomdnlebaa
open Go.RowKit
set_option linter.unusedSimpArgs false
/-- the entries of a map keyed by pointers, its elements bools -/
def entriesOf (m : List (Addr × Bool)) (es : List MapEntry) : Prop := es.map (fun e => (e.key, e.val)) = m.map (fun p => (Value.pointer (some p.1), Value.bool p.2))
def MapAt (w : World) (mb : Nat) (m : List (Addr × Bool)) : Prop := ∃ es clock, w.heap[mb]? = some (.map es clock) ∧ entriesOf m es.toList
def getM : List (Addr × Bool) → Addr → Option Bool
  | [], _ => none
  | p :: r, a => if a = p.1 then some p.2 else getM r a
def putM : List (Addr × Bool) → Addr → Bool → List (Addr × Bool)
  | [], a, v => [(a, v)]
  | p :: r, a, v => if a = p.1 then (p.1, v) :: r else p :: putM r a v
theorem getM_none {m : List (Addr × Bool)} {a : Addr} : getM m a = none ↔ ∀ p ∈ m, p.1 ≠ a := by
  induction m with
  | nil => simp [getM]
  | cons p r ih =>
    unfold getM
    split
    · rename_i h
      constructor
      · intro e; cases e
      · intro h2; exact absurd h.symm (h2 p (by simp))
    · rename_i h
      rw [ih]
      constructor
      · intro h2 q hq
        rcases List.mem_cons.1 hq with rfl | hq
        · exact fun e => h e.symm
        · exact h2 q hq
      · intro h2 q hq; exact h2 q (List.mem_cons_of_mem _ hq)
theorem putM_keys {m : List (Addr × Bool)} {a b : Addr} {v : Bool} : (∃ x, (b, x) ∈ putM m a v) ↔ b = a ∨ ∃ x, (b, x) ∈ m := by
  induction m with
  | nil => simp [putM]
  | cons p r ih =>
    unfold putM
    split
    · rename_i h
      subst h
      obtain ⟨p1, p2⟩ := p
      simp only [List.mem_cons, Prod.mk.injEq]
      constructor
      · rintro ⟨x, ⟨rfl, rfl⟩ | h⟩
        · exact .inl rfl
        · exact .inr ⟨x, .inr h⟩
      · rintro (rfl | ⟨x, ⟨rfl, rfl⟩ | h⟩)
        · exact ⟨v, .inl ⟨rfl, rfl⟩⟩
        · exact ⟨v, .inl ⟨rfl, rfl⟩⟩
        · exact ⟨x, .inr h⟩
    · constructor
      · rintro ⟨x, h⟩
        rcases List.mem_cons.1 h with h | h
        · exact .inr ⟨x, by rw [h]; simp⟩
        · rcases ih.1 ⟨x, h⟩ with h | ⟨y, h⟩
          · exact .inl h
          · exact .inr ⟨y, List.mem_cons_of_mem _ h⟩
      · rintro (h | ⟨x, h⟩)
        · obtain ⟨y, h⟩ := ih.2 (.inl h)
          exact ⟨y, List.mem_cons_of_mem _ h⟩
        · rcases List.mem_cons.1 h with h | h
          · exact ⟨x, by rw [h]; simp⟩
          · obtain ⟨y, h⟩ := ih.2 (.inr ⟨x, h⟩)
            exact ⟨y, List.mem_cons_of_mem _ h⟩
theorem getM_some {m : List (Addr × Bool)} {a : Addr} (h : ∃ x, (a, x) ∈ m) : ∃ v, getM m a = some v := by
  cases hg : getM m a with
  | some v => exact ⟨v, rfl⟩
  | none =>
    obtain ⟨x, h⟩ := h
    exact absurd rfl (getM_none.1 hg (a, x) h)
section
variable (w : World)
theorem ptr_size : ∃ j, Try.prog.info? 27 = some j ∧ j.size ≠ 0 := by
  have h : (Try.prog.info? 27).map (fun i => i.size) = some 5 := by kernel_rfl
  obtain ⟨j, h1, h2⟩ := Option.map_eq_some_iff.1 h
  exact ⟨j, h1, by omega⟩
theorem equalIn_ptr (d : Nat) (a b : Addr) (ha : Plain w a.block) (hb : Plain w b.block) :
    (Op.equalIn (d + 1) 53 (.pointer (some a)) (.pointer (some b))).run Try.prog w = .ok (decide (a = b)) w := by
  obtain ⟨j, hj, hs⟩ := ptr_size
  by_cases e : a = b
  · subst e
    simp [Op.equalIn, run_underlying Try.underlying53, sizeOf, typeInfo, hj, hs, run_sameAddr_same]
  · obtain ⟨c, t, ha⟩ := ha
    obtain ⟨c', t', hb⟩ := hb
    simp [Op.equalIn, run_underlying Try.underlying53, sizeOf, typeInfo, hj, hs, run_sameAddr_other w e ha hb, e]
theorem equal_ptr (a b : Addr) (ha : Plain w a.block) (hb : Plain w b.block) :
    (Op.equal 53 (.pointer (some a)) (.pointer (some b))).run Try.prog w = .ok (decide (a = b)) w := equalIn_ptr w 9999 a b ha hb
theorem find_ptr (a : Addr) (ha : Plain w a.block) : ∀ (m : List (Addr × Bool)) (es : List MapEntry) (i : Nat), entriesOf m es → (∀ p ∈ m, Plain w p.1.block) →
    (getM m a = none ∧ (Instr.findAsking 53 (.pointer (some a)) es i).run Try.prog w = .ok none w) ∨
    ∃ j v e, getM m a = some v ∧ (Instr.findAsking 53 (.pointer (some a)) es i).run Try.prog w = .ok (some (i + j, .bool v)) w ∧ es[j]? = some e ∧ e.key = .pointer (some a) ∧
      ∀ (u : Bool) (es' : List MapEntry), es' = es.modify j (fun e => { e with key := .pointer (some a), val := .bool u }) → entriesOf (putM m a u) es'
  | [], es, i, he, _ => by
    have : es = [] := by simpa [entriesOf] using he
    subst this
    exact .inl ⟨rfl, by simp [Instr.findAsking]⟩
  | p :: r, [], i, he, _ => by simp [entriesOf] at he
  | p :: r, e :: es, i, he, hp => by
    simp only [entriesOf, List.map_cons, List.cons.injEq, Prod.mk.injEq] at he
    obtain ⟨⟨hk, hv⟩, hr⟩ := he
    by_cases hap : a = p.1
    · refine .inr ⟨0, p.2, e, by simp [getM, hap], ?_, rfl, by rw [hk, hap], ?_⟩
      · have := equal_ptr w a p.1 ha (hp p (by simp))
        rw [hap] at this ⊢
        simp [Instr.findAsking, hk, this, hv, Result.andThen]
      · intro u es' hes
        subst hes
        simp [entriesOf, putM, hap, hr]
    · have hne := equal_ptr w a p.1 ha (hp p (by simp))
      rcases find_ptr a ha r es (i + 1) hr (fun q hq => hp q (List.mem_cons_of_mem _ hq)) with ⟨h1, h2⟩ | ⟨j, v, e', h1, h2, h3, h4, h5⟩
      · exact .inl ⟨by simp [getM, hap, h1], by simp [Instr.findAsking, hk, hne, hap, h2, Result.andThen]⟩
      · refine .inr ⟨j + 1, v, e', by simp [getM, hap, h1], ?_, by simpa using h3, h4, ?_⟩
        · simp [Instr.findAsking, hk, hne, hap, h2, Result.andThen]
          omega
        · intro u es' hes
          subst hes
          have := h5 u _ rfl
          simp only [entriesOf] at this ⊢
          simp [putM, hap, hk, hv, this]
theorem findKey_ptr (a : Addr) (es : List MapEntry) (m : List (Addr × Bool)) (he : entriesOf m es) : (Instr.findKey 53 (.pointer (some a)) es).run Try.prog w = (Instr.findAsking 53 (.pointer (some a)) es 0).run Try.prog w := by
  cases es with
  | nil => simp [Instr.findKey, run_underlying Try.underlying53, Instr.findNow, Instr.findAsking, Result.andThen]
  | cons e es =>
    cases m with
    | nil => simp [entriesOf] at he
    | cons p r =>
      simp only [entriesOf, List.map_cons, List.cons.injEq, Prod.mk.injEq] at he
      simp [Instr.findKey, run_underlying Try.underlying53, Instr.findNow, Instr.sameNow, he.1.1, Result.andThen]
theorem checkKey_ptr (em : Bool) (a : Addr) : (Instr.checkKey em 10000 53 (.pointer (some a))).run Try.prog w = .ok () w := by
  unfold Instr.checkKey
  simp [run_underlying Try.underlying53, Result.andThen]
theorem lookup_ptr (mb : Nat) (m : List (Addr × Bool)) (a : Addr) (h : MapAt w mb m) (hp : ∀ p ∈ m, Plain w p.1.block) (ha : Plain w a.block) (g : Option Bool) (hg : getM m a = g) :
    (Instr.lookup 109 (.map (some mb)) (.pointer (some a)) true).run Try.prog w = .ok (.tuple #[.bool (g.getD false), .bool g.isSome]) w ∧
      (Instr.lookup 109 (.map (some mb)) (.pointer (some a)) false).run Try.prog w = .ok (.bool (g.getD false)) w := by
  obtain ⟨es, clock, hb, he⟩ := h
  have hz : (zeroValue 4).run Try.prog w = .ok (.bool false) w := by kernel_rfl
  have hf := findKey_ptr w a es.toList m he
  subst hg
  rcases find_ptr w a ha m es.toList 0 he hp with ⟨h1, h2⟩ | ⟨j, v, e, h1, h2, _⟩
  · rw [h2] at hf
    constructor <;> simp [Instr.lookup, run_underlying Try.underlying109, Go.MapKept.run_getObj_map hb, checkKey_ptr, hf, hz, h1, Result.andThen]
  · rw [h2] at hf
    constructor <;> simp [Instr.lookup, run_underlying Try.underlying109, Go.MapKept.run_getObj_map hb, checkKey_ptr, hf, h1, Result.andThen]
/-- what storing into the map leaves -/
def Stored (mb : Nat) (m : List (Addr × Bool)) (w w' : World) : Prop :=
  MapAt w' mb m ∧ w'.heap.size = w.heap.size ∧ (∀ k, k ≠ mb → w'.heap[k]? = w.heap[k]?) ∧ w'.os = w.os ∧ w'.tape = w.tape ∧ w'.output = w.output
theorem update_ptr (mb : Nat) (m : List (Addr × Bool)) (a : Addr) (u : Bool) (h : MapAt w mb m) (hp : ∀ p ∈ m, Plain w p.1.block) (ha : Plain w a.block) :
    ∃ w', (Instr.mapUpdate 109 (.map (some mb)) (.pointer (some a)) (.bool u)).run Try.prog w = .ok () w' ∧ Stored mb (putM m a u) w w' := by
  obtain ⟨es, clock, hb, he⟩ := h
  have hlt : mb < w.heap.size := (Array.getElem?_eq_some_iff.1 hb).1
  have hf := findKey_ptr w a es.toList m he
  rcases find_ptr w a ha m es.toList 0 he hp with ⟨h1, h2⟩ | ⟨j, v, e, h1, h2, h3, h4, h5⟩
  · rw [h2] at hf
    refine ⟨{ w with heap := w.heap.setIfInBounds mb (.map (es.push ⟨.pointer (some a), .bool u, clock⟩) (clock + 1)) }, by simp [Instr.mapUpdate, run_underlying Try.underlying109, Go.MapKept.run_getObj_map hb, checkKey_ptr, hf, Go.MapKept.run_setObj_map _ hb, Result.andThen], ⟨es.push ⟨.pointer (some a), .bool u, clock⟩, clock + 1, by simp [hlt], ?_⟩, by simp, fun k hk => by simp [Ne.symm hk], rfl, rfl, rfl⟩
    have : putM m a u = m ++ [(a, u)] := by
      clear hb hf h2 he hp
      induction m with
      | nil => rfl
      | cons p r ih =>
        have hn := getM_none.1 h1
        have hne : a ≠ p.1 := fun e => hn p (by simp) e.symm
        simp only [getM, if_neg hne] at h1
        simp [putM, if_neg hne, ih h1]
    rw [this]
    simp only [entriesOf] at he ⊢
    simp [he]
  · rw [h2, Nat.zero_add] at hf
    have hj : j < es.size := by have := (List.getElem?_eq_some_iff.1 h3).1; simpa using this
    have hst : (Instr.keyThatStays (.pointer (some a)) (.pointer (some a))).run Try.prog w = .ok (.pointer (some a)) w := by
      simp [Instr.keyThatStays, Instr.sameBits]
    have hgd : ((es[j]?).map (·.key)).getD (.pointer (some a)) = .pointer (some a) := by
      rw [Array.getElem?_toList] at h3
      rw [h3]; exact h4
    refine ⟨{ w with heap := w.heap.setIfInBounds mb (.map (es.modify j fun e => { e with key := .pointer (some a), val := .bool u }) clock) }, by simp [Instr.mapUpdate, run_underlying Try.underlying109, Go.MapKept.run_getObj_map hb, checkKey_ptr, hf, hgd, hst, Go.MapKept.run_setObj_map _ hb, Result.andThen], ⟨es.modify j fun e => { e with key := .pointer (some a), val := .bool u }, clock, by simp [hlt], ?_⟩, by simp, fun k hk => by simp [Ne.symm hk], rfl, rfl, rfl⟩
    refine h5 u _ ?_
    simp
end
end Go.Proofs.Ytmakaoomdnlebaa
