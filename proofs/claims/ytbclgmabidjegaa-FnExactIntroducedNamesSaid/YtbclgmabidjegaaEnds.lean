/- The first texts of this seat: letters and names, forms as data, sets of scopes, validity, small walks. -/
import Derived.Test.YtbclgmabidjegaaChecked
import Derived.Test.YtbclgmabidjegaaData
import Derived.LaidEql
import Derived.MapKept
import Derived.KernelRfl
import Derived.Test.YtbclgmabidjegaaPop
import Derived.Test.YtbclgmabidjegaaValid
import Derived.Test.YtbclgmabidjegaaEndAt
import Derived.Deep.LoopGhost
import Derived.OwnWalk
namespace Go.Proofs.Ytbclgmabidjegaa
section
open Go.RowKit
set_option linter.unusedSimpArgs false
/-- the entries of a map keyed by pointers, its elements bools -/
def entriesOf (m : List (Addr × Bool)) (es : List MapEntry) : Prop := es.map (fun e => (e.key, e.val)) = m.map (fun p => (Value.pointer (some p.1), Value.bool p.2))
def MapAt (w : World) (mb : Nat) (m : List (Addr × Bool)) : Prop := ∃ es clock, w.heap[mb]? = some (.map es clock) ∧ entriesOf m es.toList
def getM : List (Addr × Bool) → Addr → Option Bool
  | [], _ => none
  | p :: r, a => if a = p.1 then some p.2 else getM r a
def putM : List (Addr × Bool) → Addr → Bool → List (Addr × Bool)
  | [], a, v => [(a, v)]
  | p :: r, a, v => if a = p.1 then (p.1, v) :: r else p :: putM r a v
theorem getM_none {m : List (Addr × Bool)} {a : Addr} : getM m a = none ↔ ∀ p ∈ m, p.1 ≠ a := by
  induction m with
  | nil => simp [getM]
  | cons p r ih =>
    unfold getM
    split
    · rename_i h
      constructor
      · intro e; cases e
      · intro h2; exact absurd h.symm (h2 p (by simp))
    · rename_i h
      rw [ih]
      constructor
      · intro h2 q hq
        rcases List.mem_cons.1 hq with rfl | hq
        · exact fun e => h e.symm
        · exact h2 q hq
      · intro h2 q hq; exact h2 q (List.mem_cons_of_mem _ hq)
theorem putM_keys {m : List (Addr × Bool)} {a b : Addr} {v : Bool} : (∃ x, (b, x) ∈ putM m a v) ↔ b = a ∨ ∃ x, (b, x) ∈ m := by
  induction m with
  | nil => simp [putM]
  | cons p r ih =>
    unfold putM
    split
    · rename_i h
      subst h
      obtain ⟨p1, p2⟩ := p
      simp only [List.mem_cons, Prod.mk.injEq]
      constructor
      · rintro ⟨x, ⟨rfl, rfl⟩ | h⟩
        · exact .inl rfl
        · exact .inr ⟨x, .inr h⟩
      · rintro (rfl | ⟨x, ⟨rfl, rfl⟩ | h⟩)
        · exact ⟨v, .inl ⟨rfl, rfl⟩⟩
        · exact ⟨v, .inl ⟨rfl, rfl⟩⟩
        · exact ⟨x, .inr h⟩
    · constructor
      · rintro ⟨x, h⟩
        rcases List.mem_cons.1 h with h | h
        · exact .inr ⟨x, by rw [h]; simp⟩
        · rcases ih.1 ⟨x, h⟩ with h | ⟨y, h⟩
          · exact .inl h
          · exact .inr ⟨y, List.mem_cons_of_mem _ h⟩
      · rintro (h | ⟨x, h⟩)
        · obtain ⟨y, h⟩ := ih.2 (.inl h)
          exact ⟨y, List.mem_cons_of_mem _ h⟩
        · rcases List.mem_cons.1 h with h | h
          · exact ⟨x, by rw [h]; simp⟩
          · obtain ⟨y, h⟩ := ih.2 (.inr ⟨x, h⟩)
            exact ⟨y, List.mem_cons_of_mem _ h⟩
theorem getM_some {m : List (Addr × Bool)} {a : Addr} (h : ∃ x, (a, x) ∈ m) : ∃ v, getM m a = some v := by
  cases hg : getM m a with
  | some v => exact ⟨v, rfl⟩
  | none =>
    obtain ⟨x, h⟩ := h
    exact absurd rfl (getM_none.1 hg (a, x) h)
section
variable (w : World)
theorem ptr_size : ∃ j, Try.prog.info? 33 = some j ∧ j.size ≠ 0 := by
  have h : (Try.prog.info? 33).map (fun i => i.size) = some 5 := by kernel_rfl
  obtain ⟨j, h1, h2⟩ := Option.map_eq_some_iff.1 h
  exact ⟨j, h1, by omega⟩
theorem equalIn_ptr (d : Nat) (a b : Addr) (ha : Plain w a.block) (hb : Plain w b.block) :
    (Op.equalIn (d + 1) 218 (.pointer (some a)) (.pointer (some b))).run Try.prog w = .ok (decide (a = b)) w := by
  obtain ⟨j, hj, hs⟩ := ptr_size
  by_cases e : a = b
  · subst e
    simp [Op.equalIn, run_underlying Try.underlying218, sizeOf, typeInfo, hj, hs, run_sameAddr_same]
  · obtain ⟨c, t, ha⟩ := ha
    obtain ⟨c', t', hb⟩ := hb
    simp [Op.equalIn, run_underlying Try.underlying218, sizeOf, typeInfo, hj, hs, run_sameAddr_other w e ha hb, e]
theorem equal_ptr (a b : Addr) (ha : Plain w a.block) (hb : Plain w b.block) :
    (Op.equal 218 (.pointer (some a)) (.pointer (some b))).run Try.prog w = .ok (decide (a = b)) w := equalIn_ptr w 9999 a b ha hb
theorem find_ptr (a : Addr) (ha : Plain w a.block) : ∀ (m : List (Addr × Bool)) (es : List MapEntry) (i : Nat), entriesOf m es → (∀ p ∈ m, Plain w p.1.block) →
    (getM m a = none ∧ (Instr.findAsking 218 (.pointer (some a)) es i).run Try.prog w = .ok none w) ∨
    ∃ j v e, getM m a = some v ∧ (Instr.findAsking 218 (.pointer (some a)) es i).run Try.prog w = .ok (some (i + j, .bool v)) w ∧ es[j]? = some e ∧ e.key = .pointer (some a) ∧
      ∀ (u : Bool) (es' : List MapEntry), es' = es.modify j (fun e => { e with key := .pointer (some a), val := .bool u }) → entriesOf (putM m a u) es'
  | [], es, i, he, _ => by
    have : es = [] := by simpa [entriesOf] using he
    subst this
    exact .inl ⟨rfl, by simp [Instr.findAsking]⟩
  | p :: r, [], i, he, _ => by simp [entriesOf] at he
  | p :: r, e :: es, i, he, hp => by
    simp only [entriesOf, List.map_cons, List.cons.injEq, Prod.mk.injEq] at he
    obtain ⟨⟨hk, hv⟩, hr⟩ := he
    by_cases hap : a = p.1
    · refine .inr ⟨0, p.2, e, by simp [getM, hap], ?_, rfl, by rw [hk, hap], ?_⟩
      · have := equal_ptr w a p.1 ha (hp p (by simp))
        rw [hap] at this ⊢
        simp [Instr.findAsking, hk, this, hv, Result.andThen]
      · intro u es' hes
        subst hes
        simp [entriesOf, putM, hap, hr]
    · have hne := equal_ptr w a p.1 ha (hp p (by simp))
      rcases find_ptr a ha r es (i + 1) hr (fun q hq => hp q (List.mem_cons_of_mem _ hq)) with ⟨h1, h2⟩ | ⟨j, v, e', h1, h2, h3, h4, h5⟩
      · exact .inl ⟨by simp [getM, hap, h1], by simp [Instr.findAsking, hk, hne, hap, h2, Result.andThen]⟩
      · refine .inr ⟨j + 1, v, e', by simp [getM, hap, h1], ?_, by simpa using h3, h4, ?_⟩
        · simp [Instr.findAsking, hk, hne, hap, h2, Result.andThen]
          omega
        · intro u es' hes
          subst hes
          have := h5 u _ rfl
          simp only [entriesOf] at this ⊢
          simp [putM, hap, hk, hv, this]
theorem findKey_ptr (a : Addr) (es : List MapEntry) (m : List (Addr × Bool)) (he : entriesOf m es) : (Instr.findKey 218 (.pointer (some a)) es).run Try.prog w = (Instr.findAsking 218 (.pointer (some a)) es 0).run Try.prog w := by
  cases es with
  | nil => simp [Instr.findKey, run_underlying Try.underlying218, Instr.findNow, Instr.findAsking, Result.andThen]
  | cons e es =>
    cases m with
    | nil => simp [entriesOf] at he
    | cons p r =>
      simp only [entriesOf, List.map_cons, List.cons.injEq, Prod.mk.injEq] at he
      simp [Instr.findKey, run_underlying Try.underlying218, Instr.findNow, Instr.sameNow, he.1.1, Result.andThen]
theorem checkKey_ptr (em : Bool) (a : Addr) : (Instr.checkKey em 10000 218 (.pointer (some a))).run Try.prog w = .ok () w := by
  unfold Instr.checkKey
  simp [run_underlying Try.underlying218, Result.andThen]
theorem lookup_ptr (mb : Nat) (m : List (Addr × Bool)) (a : Addr) (h : MapAt w mb m) (hp : ∀ p ∈ m, Plain w p.1.block) (ha : Plain w a.block) (g : Option Bool) (hg : getM m a = g) :
    (Instr.lookup 260 (.map (some mb)) (.pointer (some a)) true).run Try.prog w = .ok (.tuple #[.bool (g.getD false), .bool g.isSome]) w ∧
      (Instr.lookup 260 (.map (some mb)) (.pointer (some a)) false).run Try.prog w = .ok (.bool (g.getD false)) w := by
  obtain ⟨es, clock, hb, he⟩ := h
  have hz : (zeroValue 4).run Try.prog w = .ok (.bool false) w := by kernel_rfl
  have hf := findKey_ptr w a es.toList m he
  subst hg
  rcases find_ptr w a ha m es.toList 0 he hp with ⟨h1, h2⟩ | ⟨j, v, e, h1, h2, _⟩
  · rw [h2] at hf
    constructor <;> simp [Instr.lookup, run_underlying Try.underlying260, Go.MapKept.run_getObj_map hb, checkKey_ptr, hf, hz, h1, Result.andThen]
  · rw [h2] at hf
    constructor <;> simp [Instr.lookup, run_underlying Try.underlying260, Go.MapKept.run_getObj_map hb, checkKey_ptr, hf, h1, Result.andThen]
/-- what storing into the map leaves -/
def Stored (mb : Nat) (m : List (Addr × Bool)) (w w' : World) : Prop :=
  MapAt w' mb m ∧ w'.heap.size = w.heap.size ∧ (∀ k, k ≠ mb → w'.heap[k]? = w.heap[k]?) ∧ w'.os = w.os ∧ w'.tape = w.tape ∧ w'.output = w.output
theorem update_ptr (mb : Nat) (m : List (Addr × Bool)) (a : Addr) (u : Bool) (h : MapAt w mb m) (hp : ∀ p ∈ m, Plain w p.1.block) (ha : Plain w a.block) :
    ∃ w', (Instr.mapUpdate 260 (.map (some mb)) (.pointer (some a)) (.bool u)).run Try.prog w = .ok () w' ∧ Stored mb (putM m a u) w w' := by
  obtain ⟨es, clock, hb, he⟩ := h
  have hlt : mb < w.heap.size := (Array.getElem?_eq_some_iff.1 hb).1
  have hf := findKey_ptr w a es.toList m he
  rcases find_ptr w a ha m es.toList 0 he hp with ⟨h1, h2⟩ | ⟨j, v, e, h1, h2, h3, h4, h5⟩
  · rw [h2] at hf
    refine ⟨{ w with heap := w.heap.setIfInBounds mb (.map (es.push ⟨.pointer (some a), .bool u, clock⟩) (clock + 1)) }, by simp [Instr.mapUpdate, run_underlying Try.underlying260, Go.MapKept.run_getObj_map hb, checkKey_ptr, hf, Go.MapKept.run_setObj_map _ hb, Result.andThen], ⟨es.push ⟨.pointer (some a), .bool u, clock⟩, clock + 1, by simp [hlt], ?_⟩, by simp, fun k hk => by simp [Ne.symm hk], rfl, rfl, rfl⟩
    have : putM m a u = m ++ [(a, u)] := by
      clear hb hf h2 he hp
      induction m with
      | nil => rfl
      | cons p r ih =>
        have hn := getM_none.1 h1
        have hne : a ≠ p.1 := fun e => hn p (by simp) e.symm
        simp only [getM, if_neg hne] at h1
        simp [putM, if_neg hne, ih h1]
    rw [this]
    simp only [entriesOf] at he ⊢
    simp [he]
  · rw [h2, Nat.zero_add] at hf
    have hj : j < es.size := by have := (List.getElem?_eq_some_iff.1 h3).1; simpa using this
    have hst : (Instr.keyThatStays (.pointer (some a)) (.pointer (some a))).run Try.prog w = .ok (.pointer (some a)) w := by
      simp [Instr.keyThatStays, Instr.sameBits]
    have hgd : ((es[j]?).map (·.key)).getD (.pointer (some a)) = .pointer (some a) := by
      rw [Array.getElem?_toList] at h3
      rw [h3]; exact h4
    refine ⟨{ w with heap := w.heap.setIfInBounds mb (.map (es.modify j fun e => { e with key := .pointer (some a), val := .bool u }) clock) }, by simp [Instr.mapUpdate, run_underlying Try.underlying260, Go.MapKept.run_getObj_map hb, checkKey_ptr, hf, hgd, hst, Go.MapKept.run_setObj_map _ hb, Result.andThen], ⟨es.modify j fun e => { e with key := .pointer (some a), val := .bool u }, clock, by simp [hlt], ?_⟩, by simp, fun k hk => by simp [Ne.symm hk], rfl, rfl, rfl⟩
    refine h5 u _ ?_
    simp
end
end
end Go.Proofs.Ytbclgmabidjegaa
namespace Go.Proofs.Ytbclgmabidjegaa
section
open Go.RowKit
set_option linter.unusedVariables false
/-- the form of its own that lies at an address -/
def NodeOwn (w : World) (p : Addr) (f : Fm) (bs : List Nat) : Prop :=
  ∃ b o, p = ⟨b, o, none⟩ ∧ ∃ sa scap a cap, w.cell? ⟨b, o, none⟩ = some (.int .i64 f.kind) ∧ w.cell? ⟨b, o + 1, none⟩ = some (.string f.name) ∧
      w.cell? ⟨b, o + 2, none⟩ = some (.int .i64 f.n) ∧ w.cell? ⟨b, o + 3, none⟩ = some (.slice sa f.scopes.length scap) ∧
      w.cell? ⟨b, o + 4, none⟩ = some (.slice a f.kids.length cap) ∧
      OwnV w f (.agg #[.int .i64 f.kind, .string f.name, .int .i64 f.n, .slice sa f.scopes.length scap, .slice a f.kids.length cap]) bs
/-- an entry of the list of work: an address, the form there, its blocks, whether it is open -/
structure Ent where
  p : Addr
  f : Fm
  bs : List Nat
  op : Bool
/-- nothing of the one lies where the other does -/
def Apart (x y : Ent) : Prop := x.p ≠ y.p ∧ x.p.block ∉ y.bs ∧ y.p.block ∉ x.bs ∧ ∀ c ∈ x.bs, c ∉ y.bs
def adrsOf (b : Nat) : Nat → Nat → List Addr
  | _, 0 => []
  | off, n + 1 => ⟨b, off, none⟩ :: adrsOf b (off + 5) n
theorem adrsOf_get (b : Nat) : ∀ (n off i : Nat) (h : i < n), (adrsOf b off n)[i]? = some ⟨b, off + i * 5, none⟩
  | n + 1, off, 0, _ => by simp [adrsOf]
  | n + 1, off, i + 1, h => by
    have := adrsOf_get b n (off + 5) i (by omega)
    simp only [adrsOf, List.getElem?_cons_succ, this]
    rw [show off + 5 + i * 5 = off + (i + 1) * 5 from by omega]
theorem adrsOf_block (b : Nat) : ∀ (n off : Nat) (p : Addr), p ∈ adrsOf b off n → p.block = b ∧ off ≤ p.off
  | 0, _, _, h => by simp [adrsOf] at h
  | n + 1, off, p, h => by
    rcases List.mem_cons.1 h with rfl | h
    · exact ⟨rfl, Nat.le_refl _⟩
    · have := adrsOf_block b n (off + 5) p h
      exact ⟨this.1, by omega⟩
/-- the entries of a row -/
theorem RowOwn.entries {w : World} {b : Nat} : ∀ {ks : List Fm} {off : Nat} {bs : List Nat}, RowOwn w b off ks bs → b ∉ bs → bs.Nodup →
    ∃ es : List Ent, es.map (·.f) = ks ∧ es.map (·.p) = adrsOf b off ks.length ∧ (∀ x ∈ es, x.op = false ∧ NodeOwn w x.p x.f x.bs ∧ x.bs.Nodup ∧ (∀ c ∈ x.bs, c ∈ bs)) ∧ es.Pairwise Apart
  | [], off, bs, h, _, _ => ⟨[], rfl, rfl, fun x hx => (by cases hx), List.Pairwise.nil⟩
  | f :: r, off, bs, h, hb, hn => by
    obtain ⟨sa, scap, a, cap, bs1, bs2, rfl, c0, c1, c2, c3, c4, _, hown, hrest⟩ := h.head
    obtain ⟨n1, n2, n3⟩ := List.nodup_append.1 hn
    have hb1 : b ∉ bs1 := fun h => hb (List.mem_append_left _ h)
    have hb2 : b ∉ bs2 := fun h => hb (List.mem_append_right _ h)
    obtain ⟨es, e1, e2, e3, e4⟩ := RowOwn.entries hrest hb2 n2
    refine ⟨⟨⟨b, off, none⟩, f, bs1, false⟩ :: es, by simp [e1], by simp [adrsOf, e2], ?_, ?_⟩
    · intro x hx
      rcases List.mem_cons.1 hx with rfl | hx
      · exact ⟨rfl, ⟨b, off, rfl, sa, scap, a, cap, c0, c1, c2, c3, c4, hown⟩, n1, fun c hc => List.mem_append_left _ hc⟩
      · obtain ⟨h1, h2, h3, h4⟩ := e3 x hx
        exact ⟨h1, h2, h3, fun c hc => List.mem_append_right _ (h4 c hc)⟩
    · refine List.Pairwise.cons ?_ e4
      intro y hy
      have hyp : y.p ∈ adrsOf b (off + 5) r.length := by rw [← e2]; exact List.mem_map_of_mem hy
      obtain ⟨hyb, hyo⟩ := adrsOf_block _ _ _ _ hyp
      refine ⟨fun e => ?_, fun hm => hb2 ((e3 y hy).2.2.2 _ hm), fun hm => ?_, fun c hc hm => n3 c hc c ((e3 y hy).2.2.2 c hm) rfl⟩
      · have : y.p.off = off := by rw [← e]
        omega
      · rw [hyb] at hm; exact hb1 hm
/-- what is so of the list of work and the map, whatever else turns -/
structure EndStat (w0 : World) (base : Nat) (m : List (Addr × Bool)) (l : List Ent) : Prop where
  opens : ∀ x ∈ l, x.op = true → ∃ y, (x.p, y) ∈ m
  plains : ∀ q ∈ m, q.1.block < base ∧ Plain w0 q.1.block
  node : ∀ x ∈ l, x.op = false → NodeOwn w0 x.p x.f x.bs ∧ (x.p.block < base ∧ Plain w0 x.p.block) ∧ (∀ c ∈ x.bs, c < base ∧ Plain w0 c) ∧ x.bs.Nodup ∧ x.p.block ∉ x.bs ∧ ∀ q ∈ m, q.1 ≠ x.p ∧ q.1.block ∉ x.bs
  apart : (l.filter fun x => !x.op).Pairwise Apart
theorem EndStat.sub {w0 : World} {base : Nat} {m : List (Addr × Bool)} {l l' : List Ent} (h : EndStat w0 base m l) (hs : l'.Sublist l) : EndStat w0 base m l' :=
  ⟨fun x hx => h.opens x (hs.subset hx), h.plains, fun x hx => h.node x (hs.subset hx), h.apart.sublist (hs.filter _)⟩
theorem EndStat.close {w0 : World} {base : Nat} {m : List (Addr × Bool)} {l : List Ent} {x : Ent} (h : EndStat w0 base m (l ++ [x])) (hx : x.op = true) (u : Bool) : EndStat w0 base (putM m x.p u) l := by
  obtain ⟨y, hy⟩ := h.opens x (by simp) hx
  have keys : ∀ q ∈ putM m x.p u, ∃ v, (q.1, v) ∈ m := fun q hq => by
    rcases putM_keys.1 ⟨q.2, hq⟩ with e | h
    · rw [e]; exact ⟨y, hy⟩
    · exact h
  have h' := h.sub (List.sublist_append_left l [x])
  refine ⟨fun z hz ho => ?_, fun q hq => ?_, fun z hz ho => ?_, h'.apart⟩
  · exact putM_keys.2 (.inr (h'.opens z hz ho))
  · obtain ⟨v, hv⟩ := keys q hq
    exact h.plains (q.1, v) hv
  · obtain ⟨a1, a2, a3, a4, a5, a6⟩ := h'.node z hz ho
    refine ⟨a1, a2, a3, a4, a5, fun q hq => ?_⟩
    obtain ⟨v, hv⟩ := keys q hq
    exact a6 (q.1, v) hv
/-- a form is opened: its kids join the work -/
theorem EndStat.open {w0 : World} {base : Nat} {m : List (Addr × Bool)} {l : List Ent} {x : Ent} (h : EndStat w0 base m (l ++ [x])) (hx : x.op = false) (u : Bool) :
    ∃ (b o : Nat) (sa : Option Addr) (scap : Nat) (a : Option Addr) (cap : Nat) (es : List Ent), x.p = ⟨b, o, none⟩ ∧ w0.cell? ⟨b, o + 4, none⟩ = some (.slice a x.f.kids.length cap) ∧ x.f.kids.length ≤ cap ∧ cap ≤ maxLen ∧
      es.map (·.f) = x.f.kids ∧ EndStat w0 base (putM m x.p u) (l ++ [{ x with op := true }] ++ es) ∧ (∀ y ∈ es, y.op = false) ∧
      (x.f.kids ≠ [] → ∃ kb ko, a = some ⟨kb, ko, none⟩ ∧ kb < base ∧ Plain w0 kb ∧ es.map (·.p) = adrsOf kb ko x.f.kids.length) := by
  obtain ⟨⟨b, o, hp, sa, scap, a, cap, c0, c1, c2, c3, c4, hown⟩, hpb, hbs, hnd, hpn, hkeys⟩ := h.node x (by simp) hx
  obtain ⟨sa', scap', a', cap', bs1, bs2, e, _, _, _, _, hk, hbe⟩ := hown.kids
  injection e with e
  injection e with e
  simp only [List.cons.injEq, and_true, Value.slice.injEq, true_and] at e
  obtain ⟨⟨rfl, rfl⟩, rfl, rfl⟩ := e
  have hmem : ∀ c ∈ bs2, c ∈ x.bs := fun c hc => by rw [hbe]; exact List.mem_append_right _ hc
  have hnd2 : bs2.Nodup := (List.nodup_append.1 (hbe ▸ hnd)).2.1
  have hap : ∀ z ∈ l, z.op = false → Apart z x := fun z hz ho => by
    have := h.apart
    rw [List.filter_append, show [x].filter (fun x => !x.op) = [x] from by simp [hx]] at this
    exact (List.pairwise_append.1 this).2.2 z (List.mem_filter.2 ⟨hz, by simp [ho]⟩) x (by simp)
  have keys : ∀ q ∈ putM m x.p u, q.1 = x.p ∨ ∃ v, (q.1, v) ∈ m := fun q hq => putM_keys.1 ⟨q.2, hq⟩
  have stat : ∀ es : List Ent, (∀ y ∈ es, y.op = false ∧ NodeOwn w0 y.p y.f y.bs ∧ y.bs.Nodup ∧ (∀ c ∈ y.bs, c ∈ bs2) ∧ y.p.block ∈ bs2 ∧ y.p.block ∉ y.bs) → es.Pairwise Apart →
      EndStat w0 base (putM m x.p u) (l ++ [{ x with op := true }] ++ es) := fun es he hpw => by
    refine ⟨fun z hz ho => ?_, fun q hq => ?_, fun z hz ho => ?_, ?_⟩
    · rcases List.mem_append.1 hz with hz | hz
      · rcases List.mem_append.1 hz with hz | hz
        · exact putM_keys.2 (.inr (h.opens z (List.mem_append_left _ hz) ho))
        · rw [List.mem_singleton] at hz
          subst hz
          exact putM_keys.2 (.inl rfl)
      · rw [(he z hz).1] at ho; cases ho
    · rcases keys q hq with e | ⟨v, hv⟩
      · rw [e]; exact hpb
      · exact h.plains (q.1, v) hv
    · rcases List.mem_append.1 hz with hz | hz
      · rcases List.mem_append.1 hz with hz | hz
        · obtain ⟨a1, a2, a3, a4, a5, a6⟩ := h.node z (List.mem_append_left _ hz) ho
          refine ⟨a1, a2, a3, a4, a5, fun q hq => ?_⟩
          rcases keys q hq with e | ⟨v, hv⟩
          · obtain ⟨g1, g2, g3, g4⟩ := hap z hz ho
            rw [e]; exact ⟨fun e => g1 e.symm, g3⟩
          · exact a6 (q.1, v) hv
        · rw [List.mem_singleton] at hz
          subst hz
          cases ho
      · obtain ⟨g1, g2, g3, g4, g5, g6⟩ := he z hz
        refine ⟨g2, hbs _ (hmem _ g5), fun c hc => hbs c (hmem c (g4 c hc)), g3, g6, fun q hq => ?_⟩
        rcases keys q hq with e | ⟨v, hv⟩
        · rw [e]
          exact ⟨fun e => hpn (by rw [e]; exact hmem _ g5), fun hm => hpn (hmem _ (g4 _ hm))⟩
        · obtain ⟨k1, k2⟩ := hkeys (q.1, v) hv
          exact ⟨fun e => k2 (by show q.1.block ∈ x.bs; rw [e]; exact hmem _ g5), fun hm => k2 (hmem _ (g4 _ hm))⟩
    · rw [List.filter_append, List.filter_append, show ([{ x with op := true }] : List Ent).filter (fun x => !x.op) = [] from by simp, List.append_nil]
      refine List.pairwise_append.2 ⟨?_, ?_, ?_⟩
      · have := h.apart
        rw [List.filter_append] at this
        exact (List.pairwise_append.1 this).1
      · exact hpw.sublist List.filter_sublist
      · intro z hz y hy
        obtain ⟨hz, ho⟩ := List.mem_filter.1 hz
        obtain ⟨hy, _⟩ := List.mem_filter.1 hy
        obtain ⟨g1, g2, g3, g4⟩ := hap z hz (by simpa using ho)
        obtain ⟨_, _, _, k4, k5, _⟩ := he y hy
        exact ⟨fun e => g2 (hmem _ (by rw [e]; exact k5)), fun hm => g2 (hmem _ (k4 _ hm)), fun hm => g4 _ hm (hmem _ k5), fun c hc hm => g4 c hc (hmem _ (k4 _ hm))⟩
  obtain ⟨hl, hm, hrow⟩ := hk
  rcases hrow with ⟨h0, h1⟩ | ⟨kb, ko, bs3, rfl, rfl, hrow⟩
  · exact ⟨b, o, sa, scap, a, cap, [], hp, c4, hl, hm, by rw [h0]; rfl, stat [] (fun y hy => (by cases hy)) List.Pairwise.nil, fun y hy => (by cases hy), fun h => absurd h0 h⟩
  · obtain ⟨nb, nd⟩ := List.nodup_cons.1 hnd2
    obtain ⟨es, e1, e2, e3, e4⟩ := hrow.entries nb nd
    have hblk : ∀ y ∈ es, y.p.block = kb := fun y hy => (adrsOf_block _ _ _ _ (by rw [← e2]; exact List.mem_map_of_mem hy)).1
    refine ⟨b, o, sa, scap, _, cap, es, hp, c4, hl, hm, e1, stat es (fun y hy => ?_) e4, fun y hy => (e3 y hy).1, fun _ => ⟨kb, ko, rfl, (hbs kb (hmem _ (by simp))).1, (hbs kb (hmem _ (by simp))).2, e2⟩⟩
    obtain ⟨g1, g2, g3, g4⟩ := e3 y hy
    exact ⟨g1, g2, g3, fun c hc => List.mem_cons_of_mem _ (g4 c hc), by rw [hblk y hy]; simp, by rw [hblk y hy]; exact fun hm => nb (g4 _ hm)⟩
/-- how many rounds are to come at most -/
def restE : List Ent → Nat
  | [] => 0
  | x :: r => (if x.op then 1 else 2 * x.f.count) + restE r
theorem restE_append (l m : List Ent) : restE (l ++ m) = restE l + restE m := by
  induction l with
  | nil => simp [restE]
  | cons x r ih => simp only [List.cons_append, restE, ih]; omega
theorem restE_kids : ∀ (es : List Ent), (∀ y ∈ es, y.op = false) → restE es = 2 * countAll (es.map (·.f))
  | [], _ => rfl
  | x :: r, h => by
    have := restE_kids r (fun y hy => h y (by simp [hy]))
    simp only [restE, List.map_cons, countAll, this, h x (by simp)]
    simp
    omega
theorem length_restE (l : List Ent) : l.length ≤ restE l := by
  induction l with
  | nil => simp
  | cons x r ih =>
    have : 1 ≤ x.f.count := by cases x.f; unfold Fm.count; omega
    simp only [List.length_cons, restE]
    split <;> omega
end
end Go.Proofs.Ytbclgmabidjegaa
namespace Go.Proofs.Ytbclgmabidjegaa
section
open Go.RowKit
set_option linter.unusedVariables false
theorem info_ptr : (Try.prog.info? 218).map (fun i => (i.zero, i.size, i.bytes)) = some (some (.pointer none), 1, 8) := by kernel_rfl
/-- what turns in the rounds -/
structure EndDyn (base : Nat) (w0 wr : World) (mb : Nat) (m : List (Addr × Bool)) (v : Value) (l : List Ent) : Prop where
  map : MapAt wr mb m
  own : wr.ownsRow base 218 1 v l.length (l.map fun x => .pointer (some x.p))
  ne : v.ownBlock ≠ some mb
  below : Below base w0 wr
  size : base ≤ wr.heap.size
  mbge : base ≤ mb
def EndRel (f : Fm) (base : Nat) (w0 : World) (mb k : Nat) (t : Value) (wr : World) : Prop :=
  ∃ m l, EndDyn base w0 wr mb m t l ∧ EndStat w0 base m l ∧ k = restE l ∧ restE l ≤ 2 * f.count
/-- between two rounds of the inner loop -/
def EndIn (base : Nat) (w1 wr : World) (mb : Nat) (m : List (Addr × Bool)) (l1 es : List Ent) (n : Nat) (t i : Value) : Prop :=
  ∃ j : Nat, j ≤ n ∧ i = .int .i64 j ∧ EndDyn base w1 wr mb m t (l1 ++ es.take j)
theorem EndStat.plainsAt {w0 wr : World} {base : Nat} {m : List (Addr × Bool)} {l : List Ent} (h : EndStat w0 base m l) (hb : Below base w0 wr) : ∀ q ∈ m, Plain wr q.1.block :=
  fun q hq => ((h.plains q hq).2).same (hb.block _ (h.plains q hq).1)
theorem Stored.below {mb base : Nat} {m : List (Addr × Bool)} {w w' : World} (h : Stored mb m w w') (hb : base ≤ mb) : Below base w w' :=
  ⟨h.2.2.2.1, h.2.2.2.2.1, h.2.2.2.2.2, by rw [h.2.1]; exact Nat.le_refl _, fun k hk => h.2.2.1 k (by omega)⟩
theorem Stored.row {mb base n g cap : Nat} {e : TypeId} {size : Nat} {m : List (Addr × Bool)} {w w' : World} {xs : List Value} (h : Stored mb m w w')
    (ho : w.ownsRow base e size (.slice (some ⟨g, 0, none⟩) n cap) n xs) (hne : g ≠ mb) : w'.ownsRow base e size (.slice (some ⟨g, 0, none⟩) n cap) n xs :=
  ho.kept (row := some mb) ⟨h.2.2.2.1, h.2.2.2.2.1, h.2.2.2.2.2, by rw [h.2.1]; exact Nat.le_refl _, fun k _ hk => h.2.2.1 k (fun e => hk (by rw [e]))⟩ (.inr (by simp [Value.ownBlock, hne]))
theorem MapAt.same {w w' : World} {mb : Nat} {m : List (Addr × Bool)} (h : MapAt w mb m) (hs : w'.heap[mb]? = w.heap[mb]?) : MapAt w' mb m := by
  obtain ⟨es, clock, h1, h2⟩ := h
  exact ⟨es, clock, hs.trans h1, h2⟩
theorem MapAt.lt {w : World} {mb : Nat} {m : List (Addr × Bool)} (h : MapAt w mb m) : mb < w.heap.size := by
  obtain ⟨es, clock, h1, h2⟩ := h
  exact (Array.getElem?_eq_some_iff.1 h1).1
theorem make_ptrs (w : World) : (Instr.makeMap 260 none).run Try.prog w = .ok (.map (some w.heap.size)) (w.alloc (.map #[] 0)) := by
  simp [Instr.makeMap, Result.andThen]
set_option maxRecDepth 100000 in
set_option maxHeartbeats 2000000 in
theorem holdsItself_own (f : Fm) (tb : Nat) (sa a : Option Addr) (scap cap : Nat) (bs : List Nat) (w : World) (hbox : FormBox w tb f sa scap a cap) (hpb : Plain w tb) (htb : tb < w.heap.size) (hnb : tb ∉ bs)
    (hv : OwnV w f (.agg #[.int .i64 f.kind, .string f.name, .int .i64 f.n, .slice sa f.scopes.length scap, .slice a f.kids.length cap]) bs) (hnd : bs.Nodup) (hlt : ∀ c ∈ bs, c < w.heap.size) (hp : AllPlain w bs) (hc : f.count ≤ 4294967296) :
    Calls Try.prog 207 #[.pointer (some ⟨tb, 0, none⟩), .func (.func 179) #[] #[]] w fun e w' => e = .returned (.bool false) ∧ Below w.heap.size w w' := by
  have HV := Lib.hid hv
  have HND := Lib.hid hnd
  have HLT := Lib.hid hlt
  have HPL := Lib.hid hp
  have HBX := Lib.hid hbox
  have HPX := Lib.hid hpb
  have HNB := Lib.hid hnb
  have hbox2 := HBX.out
  obtain ⟨i0, hi0, hz0, hz1, hz2⟩ := info_parts info_ptr
  clear hv hnd hlt hp hbox hpb hnb hbox2
  have hmk := make_ptrs w
  go_enter Try.func207, Try.ntmps207
  go_wp2_with fail
  clear hmk
  go_loopg [6] (2 * f.count) (fun k t wr => EndRel f w.heap.size w w.heap.size k t wr)
  case atStart =>
    obtain ⟨c0, c1, c2, c3, c4⟩ := HBX.out
    refine ⟨[], [⟨⟨tb, 0, none⟩, f, bs, false⟩], ⟨?_, ?_, ?_, ?_, ?_, ?_⟩, ⟨fun x hx => ?_, fun q hq => (by cases hq), fun x hx ho => ?_, ?_⟩, by simp [restE], by simp [restE]⟩
    · exact ⟨#[], 0, (by rw [((below_alloc (w.alloc (Obj.map #[] 0)) _).block w.heap.size (by simp)), heap_alloc_new]), rfl⟩
    · have := World.ownsRow_lit (base := w.heap.size) (e := 218) (size := 1) (w.alloc (Obj.map #[] 0)) #[.pointer (some ⟨tb, 0, none⟩)] 1 (by simp) (by unfold maxLen; omega) (by simp)
      rw [size_alloc'] at this
      exact this
    · simp [Value.ownBlock]
    · exact ((Below.refl _ w).alloc (Nat.le_refl _) _).alloc (by simp) _
    · simp; omega
    · exact Nat.le_refl _
    · rw [List.mem_singleton] at hx
      subst hx
      intro h; cases h
    · rw [List.mem_singleton] at hx
      subst hx
      refine ⟨⟨tb, 0, rfl, sa, scap, a, cap, c0, c1, c2, c3, c4, HV.out⟩, ⟨htb, HPX.out⟩, fun c hc => ⟨HLT.out c hc, HPL.out c hc⟩, HND.out, HNB.out, fun q hq => (by cases hq)⟩
    · simp
  case round =>
    obtain ⟨m, l, hd, hst, hk, hkc⟩ := hrel
    have HD := Lib.hid hd
    have HST := Lib.hid hst
    have HK := Lib.hid hk
    clear hk
    have hmlt := hd.map.lt
    rcases List.eq_nil_or_concat l with rfl | ⟨l0, x, rfl⟩
    · have hb : Below w.heap.size w wr := hd.below
      have hform : ∃ a cap, u6 = .slice a 0 cap := by
        rcases hd.own.2 with ⟨h, _⟩ | ⟨g, cap, _, h, _⟩
        · exact ⟨none, 0, h⟩
        · exact ⟨_, cap, h⟩
      obtain ⟨va, vc, rfl⟩ := hform
      have HB := Lib.hid hb
      clear hb hd hst
      go_wp2_with fail
      go_ret
      exact ⟨rfl, HB.out⟩
    · rw [List.concat_eq_append] at hd hst HD HST HK hkc
      obtain ⟨p, xf, xbs, xop⟩ := x
      have ho := hd.own
      rw [List.length_append, List.length_singleton, List.map_append] at ho
      obtain ⟨g, gcap, rfl, hgb, hgl⟩ := ho.form (by omega)
      have hgm : g ≠ w.heap.size := fun e => hd.ne (by simp [Value.ownBlock, e])
      have hcell : wr.cell? ⟨g, l0.length, none⟩ = some (.pointer (some p)) := by
        rw [ho.cellAt l0.length (by omega), List.getElem?_append_right (by simp)]; simp
      obtain ⟨_, _, _, hgc, hgcm⟩ := ownsRow_at ho
      unfold maxLen at hgcm
      have HCUT := Lib.hid (ownsRow_cut ho (by simp))
      have hplains := hst.plainsAt hd.below
      have hlen := length_restE l0
      have hre := restE_append l0 [⟨p, xf, xbs, xop⟩]
      have HRE := Lib.hid hre
      clear hre
      cases xop with
      | true =>
        obtain ⟨y, hy⟩ := hst.opens ⟨p, xf, xbs, true⟩ (by simp) rfl
        obtain ⟨vb, hvb⟩ := getM_some ⟨y, hy⟩
        have hpp : Plain wr p.block := hplains (p, y) hy
        have hlk := (lookup_ptr wr w.heap.size m p hd.map hplains hpp (some vb) hvb).1
        obtain ⟨W, hup, hsto⟩ := update_ptr wr w.heap.size m p false hd.map hplains hpp
        have HSTO := Lib.hid hsto
        have HCL := Lib.hid (hst.close rfl false)
        clear hplains ho hd hst hsto hvb hy hpp
        go_wp2_with fail
        go_roundg (restE l0)
        case measure =>
          have h1 := HK.out
          have h2 := HRE.out
          simp only [restE] at h2
          simp at h2
          omega
        case rel =>
          have h2 := HRE.out
          refine ⟨putM m p false, l0, ⟨HSTO.out.1, HSTO.out.row (by simpa using HCUT.out) hgm, by simp [Value.ownBlock, hgm], HD.out.below.trans (HSTO.out.below HD.out.mbge), by rw [HSTO.out.2.1]; exact HD.out.size, HD.out.mbge⟩, HCL.out, rfl, by omega⟩
      | false =>
        obtain ⟨_, ⟨hpb, hppl⟩, _, _, _, hkeys⟩ := hst.node ⟨p, xf, xbs, false⟩ (by simp) rfl
        have hnone : getM m p = none := getM_none.2 fun q hq => (hkeys q hq).1
        have hpp : Plain wr p.block := hppl.same (hd.below.block _ hpb)
        have hlk := (lookup_ptr wr w.heap.size m p hd.map hplains hpp none hnone).1
        obtain ⟨W, hup, hsto⟩ := update_ptr wr w.heap.size m p true hd.map hplains hpp
        obtain ⟨b, o, sb, sbcap, ka, kcap, es, hpe, hk4, hkl, hkm, hef, hnew, heo, hadr⟩ := hst.open rfl true
        simp only at hpe
        subst hpe
        have hb1 : b < w.heap.size := hpb
        have hbW : Below (w.heap.size) w W := hd.below.trans (hsto.below hd.mbge)
        have hc4 : W.cell? ⟨b, o + 4, none⟩ = some (.slice ka xf.kids.length kcap) := (hbW.cell (p := ⟨b, o + 4, none⟩) hb1).trans hk4
        have HSTO := Lib.hid hsto
        have HNEW := Lib.hid hnew
        have HADR := Lib.hid hadr
        have HEF := Lib.hid hef
        have HEO := Lib.hid heo
        have HBW := Lib.hid hbW
        have HK4 := Lib.hid hk4
        unfold maxLen at hkm
        have hcx := count_eq xf
        have HCX := Lib.hid hcx
        have HKC := Lib.hid hkc
        have hlk2 := length_countAll xf.kids
        have hbnd : l0.length + xf.kids.length ≤ 17179869184 := by
          have h2 := HRE.out
          simp only [restE] at h2
          simp at h2
          omega
        have hlen1 : es.length = xf.kids.length := by rw [← HEF.out, List.length_map]
        have HL1 : Hid (es.length = xf.kids.length) := hlen1
        have hle1 : es.length ≤ xf.kids.length := by omega
        have hle2 : xf.kids.length ≤ es.length := by omega
        have HDYN : Hid (EndDyn (w.heap.size) w W w.heap.size (putM m ⟨b, o, none⟩ true) (.slice (some ⟨g, 0, none⟩) (l0.length + 1) gcap) ((l0 ++ [⟨⟨b, o, none⟩, xf, xbs, true⟩]) ++ es.take 0)) := by
          refine ⟨hsto.1, ?_, by simp [Value.ownBlock, hgm], hbW, by rw [hsto.2.1]; exact hd.size, hd.mbge⟩
          have := hsto.row ho hgm
          simpa using this
        clear hplains ho hd hst hsto hnone hpp hkeys hppl hnew hadr hef heo hbW hk4 hkc hcx hlk2 hlen1
        go_wp2_with fail
        refine (kidsOf_any b o _ W hc4).mono ?_
        rintro e w1 ⟨rfl, rfl⟩
        go_wp2_with fail
        go_loopw [6, 46] (fun t i wr2 => EndIn (w.heap.size) w wr2 w.heap.size (putM m ⟨b, o, none⟩ true) (l0 ++ [⟨⟨b, o, none⟩, xf, xbs, true⟩]) es xf.kids.length t i) (fun _ i _ => xf.kids.length - (intOf i).toNat)
        case atStart => exact ⟨0, Nat.zero_le _, rfl, HDYN.out⟩
        case round =>
          obtain ⟨j, hj, rfl, hd2⟩ := hrel
          have HD2 := Lib.hid hd2
          by_cases hlt : j < xf.kids.length
          · obtain ⟨kb, ko, rfl, hkb, hkp, hmp⟩ := HADR.out (by intro e; rw [e] at hlt; simp at hlt)
            have hje : j < es.length := by omega
            have hpj : es[j].p = ⟨kb, ko + j * 5, none⟩ := by
              have h1 := adrsOf_get kb xf.kids.length ko j hlt
              rw [← hmp, List.getElem?_map, List.getElem?_eq_getElem hje] at h1
              simpa using h1
            obtain ⟨_, ⟨_, hpl2⟩, _, _, _, hkeys2⟩ := HNEW.out.node es[j] (by simp) (HEO.out _ (List.getElem_mem hje))
            have hno2 : getM (putM m ⟨b, o, none⟩ true) ⟨kb, ko + j * 5, none⟩ = none := getM_none.2 fun q hq => by rw [← hpj]; exact (hkeys2 q hq).1
            have hpw : Plain wr kb := hkp.same (hd2.below.block _ hkb)
            have hlk3 := (lookup_ptr wr w.heap.size _ ⟨kb, ko + j * 5, none⟩ hd2.map (HNEW.out.plainsAt hd2.below) hpw none hno2).2
            have hown := hd2.own
            have hbz := hd2.size
            have hmb := hd2.map.lt
            have hln : ((l0 ++ [⟨⟨b, o, none⟩, xf, xbs, true⟩]) ++ es.take j : List Ent).length = l0.length + 1 + j := by
              rw [List.length_append, List.length_append, List.length_take, List.length_singleton]; omega
            have HLN := Lib.hid hln
            rw [hln] at hown
            have hL1 : (l0.length + 1 + j) + 1 ≤ maxLen := by unfold maxLen; omega
            have hL2 : ((l0.length + 1 + j) + 1) * 8 ≤ 140737488355328 := by omega
            have hlw := hown.lt
            have HLW := Lib.hid hlw
            have hnem := HD2.out.ne
            have HNEM := Lib.hid hnem
            have HPJ := Lib.hid hpj
            have hj0 : (0 : Int) ≤ (j : Int) := by omega
            have hj1 : (j : Int) < (xf.kids.length : Int) := by omega
            clear hd2 hpl2 hkeys2 hno2 hpw hln hpj hmp hlw hnem
            go_wp2_with (at_builtin; refine wpList_append_lies _ rfl _ _ 250 rfl w.heap.size 218 i0 _ 1 8 Try.underlying250 hi0 hz0 hz1 hz2 rfl (by decide) _ _ _ rfl (hown.alloc _) ⟨wr.heap.size, 0, none⟩ 1 1 [.pointer (some ⟨kb, ko + j * 5, none⟩)] rfl rfl (World.news_of_block (cs := #[.pointer (some ⟨kb, ko + j * 5, none⟩)]) (t := 218) (fr := (0, 0)) (heap_alloc_new wr _)) (by simp [Value.oneCell']) (by omega) hL1 hL2 (by simp; omega) (wr.heap.size + 1) (by simp) ?_; intro gg qcap w4 hown1 hgrow hat hlt4; have HOWN1 := Lib.hid hown1; have HGROW := Lib.hid hgrow; have HAT := Lib.hid hat; clear hown1 hgrow hat)
            have HNEXT : Hid (EndDyn (w.heap.size) w w4 w.heap.size (putM m ⟨b, o, none⟩ true) (.slice (some ⟨gg, 0, none⟩) (l0.length + 1 + j + 1) qcap) ((l0 ++ [⟨⟨b, o, none⟩, xf, xbs, true⟩]) ++ es.take (j + 1))) := by
              have hA : Below w.heap.size wr (wr.alloc (.cells #[.pointer (some ⟨kb, ko + j * 5, none⟩)] 218)) := (Below.refl _ wr).alloc hbz _
              have hgs := HGROW.out.size
              rw [size_alloc'] at hgs
              refine ⟨?_, ?_, ?_, ?_, by omega, HD2.out.mbge⟩
              · refine HD2.out.map.same ?_
                rw [HGROW.out.block w.heap.size (by rw [size_alloc']; omega) (fun e => HNEM.out e.symm)]
                exact (below_alloc wr _).block _ hmb
              · rw [List.take_succ_eq_append_getElem hje, ← List.append_assoc, List.length_append, HLN.out, List.map_append, List.length_singleton, List.map_singleton, HPJ.out]
                exact HOWN1.out
              · intro e
                have e : gg = w.heap.size := by simpa [Value.ownBlock] using e
                rcases HAT.out with h | h
                · exact HNEM.out (by rw [← e]; exact h)
                · omega
              · exact HD2.out.below.trans (hA.grown HGROW.out (by rw [size_alloc']; omega) (fun k hk => (HLW.out k hk).1))
            clear HOWN1 HGROW HAT
            go_wp2_with fail
            go_roundw
            case rel =>
              refine ⟨j + 1, by omega, by go_num, HNEXT.out⟩
            case measure => simp [intOf]; omega
          · obtain rfl : j = xf.kids.length := by omega
            have HEND : Hid (EndRel f (w.heap.size) w w.heap.size (restE ((l0 ++ [⟨⟨b, o, none⟩, xf, xbs, true⟩]) ++ es)) u6 wr ∧ restE ((l0 ++ [⟨⟨b, o, none⟩, xf, xbs, true⟩]) ++ es) < gk) := by
              have h0 : es.take xf.kids.length = es := List.take_of_length_le hle1
              have h1 := HRE.out
              have h2 := HK.out
              have h3 := HKC.out
              have h4 := restE_append (l0 ++ [⟨⟨b, o, none⟩, xf, xbs, true⟩]) es
              have h5 := restE_append l0 [⟨⟨b, o, none⟩, xf, xbs, true⟩]
              have h6 := restE_kids es HEO.out
              have h7 := HCX.out
              rw [HEF.out] at h6
              simp only [restE] at h1 h5
              simp at h1 h5
              refine ⟨⟨_, _, by rw [← h0]; exact HD2.out, HNEW.out, rfl, by omega⟩, by omega⟩
            clear hd2
            go_wp2_with fail
            go_roundg (restE ((l0 ++ [⟨⟨b, o, none⟩, xf, xbs, true⟩]) ++ es))
            case measure => exact HEND.out.2
            case rel => exact HEND.out.1
set_option maxRecDepth 100000 in
set_option maxHeartbeats 1000000 in
theorem endless_own (f : Fm) (v : Value) (bs : List Nat) (w : World) (hv : OwnV w f v bs) (hnd : bs.Nodup) (hlt : ∀ c ∈ bs, c < w.heap.size) (hp : AllPlain w bs) (hc : f.count ≤ 4294967296) :
    Calls Try.prog 177 #[v] w fun e w' => e = .returned (.bool false) ∧ Below w.heap.size w w' := by
  have HV := Lib.hid hv
  have HIN := Lib.hid (OwnV.inV (φ := (· < w.heap.size)) f v bs hlt hv)
  obtain ⟨sa, scap, a, cap, _, _, rfl, _⟩ := hv.form
  have HND := Lib.hid hnd
  have HLT := Lib.hid hlt
  have HPL := Lib.hid hp
  clear hv hnd hlt hp
  go_enter Try.func177, Try.ntmps177
  go_wp2_with fail
  refine (implFormValid_any w.heap.size f _ _ (by simp) (InV.later (same_below (below_alloc _ _)) _ _ HIN.out)).mono ?_
  rintro e w1 ⟨rfl, hb1⟩
  have HBX := Lib.hid ((FormBox.fresh w f sa a scap cap 33).later hb1)
  have HPX : Hid (Plain w1 w.heap.size) := (Plain.fresh w _ _).later hb1
  have hs1 : w.heap.size + 1 ≤ w1.heap.size := by have := hb1.size; simpa using this
  have HB1 : Hid (Below w.heap.size w w1) := (below_alloc _ _).trans (hb1.mono (by simp))
  clear hb1
  cases hfv : formB f with
  | true =>
    go_wp2_with fail
    go_ret
    exact ⟨rfl, HB1.out⟩
  | false =>
    go_wp2_with fail
    refine (holdsItself_own f w.heap.size sa a scap cap bs w1 HBX.out HPX.out (by omega) (fun hm => Nat.lt_irrefl _ (HLT.out _ hm)) (HV.out.later _ _ _ (SameOn.of_below HB1.out HLT.out)) HND.out (fun c hc => by have := HLT.out c hc; omega) (fun c hc => (HPL.out c hc).later HB1.out) hc).mono ?_
    rintro e w2 ⟨rfl, hb2⟩
    have HB2 : Hid (Below w.heap.size w w2) := HB1.out.trans (hb2.mono (by omega))
    clear hb2
    go_wp2_with fail
    go_ret
    exact ⟨rfl, HB2.out⟩
theorem endlessAt_own (f : Fm) (v : Value) (bs : List Nat) (w : World) (hv : OwnV w f v bs) (hnd : bs.Nodup) (hlt : ∀ c ∈ bs, c < w.heap.size) (hp : AllPlain w bs) (hc : f.count ≤ 4294967296) : EndlessAt v w :=
  fun w' hb => endless_own f v bs w' (hv.later _ _ _ (SameOn.of_below hb hlt)) hnd (fun c hm => Nat.lt_of_lt_of_le (hlt c hm) hb.size) (hp.later hb) hc
end
end Go.Proofs.Ytbclgmabidjegaa
