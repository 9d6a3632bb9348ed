/- A map of small numbers, what one node of a core program is tested for, and the room that is tested in. -/
import Derived.Test.YtbclgmabidjegaaFirst
import Derived.Test.YtbclgmabidjegaaStrs
import Derived.Test.YtbclgmabidjegaaCvSpec
import Derived.Test.YtbclgmabidjegaaSameDataC
import Derived.Test.YtbclgmabidjegaaAllData
namespace Go.Proofs.Ytbclgmabidjegaa
section
open Go.RowKit Go.Maps
set_option linter.unusedVariables false
set_option linter.unusedSimpArgs false
/-- a map that holds just the numbers of a list -/
def MapI (w : World) (mb : Nat) (S : List Int) : Prop := ∃ (es : Array MapEntry) (clock : Nat) (m : List Int), w.heap[mb]? = some (.map es clock) ∧ es.toList.map (fun e => (e.key, e.val)) = m.map (fun i => (Value.int .i64 i, Value.bool true)) ∧ m.Nodup ∧ (∀ i ∈ m, 1 ≤ i ∧ i ≤ 999) ∧ ∀ i, i ∈ m ↔ i ∈ S
/-- all but one block is as it was -/
structure OneB (mb : Nat) (w w' : World) : Prop where
  os : w'.os = w.os
  tape : w'.tape = w.tape
  output : w'.output = w.output
  size : w'.heap.size = w.heap.size
  block : ∀ k, k ≠ mb → w'.heap[k]? = w.heap[k]?
theorem MapI.same {w w' : World} {mb : Nat} {S : List Int} (h : MapI w mb S) (hs : w'.heap[mb]? = w.heap[mb]?) : MapI w' mb S := by
  obtain ⟨es, c, m, h1, h2⟩ := h
  exact ⟨es, c, m, hs.trans h1, h2⟩
theorem MapI.lt {w : World} {mb : Nat} {S : List Int} (h : MapI w mb S) : mb < w.heap.size := by
  obtain ⟨es, c, m, h1, h2⟩ := h
  exact (Array.getElem?_eq_some_iff.1 h1).1
theorem MapI.later {w w' : World} {mb : Nat} {S : List Int} (h : MapI w mb S) (hb : Below w.heap.size w w') : MapI w' mb S := h.same (hb.block mb h.lt)
theorem MapI.congr {w : World} {mb : Nat} {S T : List Int} (h : MapI w mb S) (hs : ∀ i, i ∈ S ↔ i ∈ T) : MapI w mb T := by
  obtain ⟨es, c, m, h1, h2, h3, h4, h5⟩ := h
  exact ⟨es, c, m, h1, h2, h3, h4, fun i => (h5 i).trans (hs i)⟩
theorem MapI.small {w : World} {mb : Nat} {S : List Int} (h : MapI w mb S) {i : Int} (hi : i ∈ S) : 1 ≤ i ∧ i ≤ 999 := by
  obtain ⟨es, c, m, h1, h2, h3, h4, h5⟩ := h
  exact h4 i ((h5 i).2 hi)
theorem keyIntM (i : Int) (h : -9223372036854775808 ≤ i ∧ i ≤ 9223372036854775807) : keyOf Try.prog 3 (.int .i64 i) = some (.int .i64 i) := keyOf_int_mk Try.underlying3 (WalkArith.wf_i64 (by omega))
theorem MapI.entry {m : List Int} {es : List MapEntry} (he : es.map (fun e => (e.key, e.val)) = m.map (fun s => (Value.int .i64 s, Value.bool true))) {e : MapEntry} (h : e ∈ es) : ∃ s ∈ m, e.key = .int .i64 s ∧ e.val = .bool true := by
  have h1 : (e.key, e.val) ∈ es.map (fun e => (e.key, e.val)) := List.mem_map.2 ⟨e, h, rfl⟩
  rw [he] at h1
  obtain ⟨s, hs, h2⟩ := List.mem_map.1 h1
  injection h2 with h3 h4
  exact ⟨s, hs, h3.symm, h4.symm⟩
theorem MapI.has {m : List Int} {es : List MapEntry} (he : es.map (fun e => (e.key, e.val)) = m.map (fun s => (Value.int .i64 s, Value.bool true))) {s : Int} (h : s ∈ m) : ∃ e ∈ es, e.key = .int .i64 s := by
  have h1 : (Value.int .i64 s, Value.bool true) ∈ m.map (fun s => (Value.int .i64 s, Value.bool true)) := List.mem_map.2 ⟨s, h, rfl⟩
  rw [← he] at h1
  obtain ⟨e, h2, h3⟩ := List.mem_map.1 h1
  injection h3 with h4 h5
  exact ⟨e, h2, h4⟩
theorem hasI_mem (l : List Int) (s : Int) : (l.any fun z => z == s) = true ↔ s ∈ l := by
  rw [List.any_eq_true]
  constructor
  · rintro ⟨x, hx, h⟩
    rw [beq_iff_eq] at h
    rw [← h]
    exact hx
  · intro h
    exact ⟨s, h, by simp⟩
theorem hasI_congr {S T : List Int} (h : ∀ i, i ∈ S ↔ i ∈ T) (s : Int) : (S.any fun z => z == s) = (T.any fun z => z == s) := by
  rw [Bool.eq_iff_iff, hasI_mem, hasI_mem]
  exact h s
theorem make_intMap (w : World) : (Instr.makeMap 104 none).run Try.prog w = .ok (.map (some w.heap.size)) (w.alloc (.map #[] 0)) := by
  simp [Instr.makeMap, Result.andThen]
theorem mapI_new (w : World) : MapI (w.alloc (.map #[] 0)) w.heap.size [] :=
  ⟨#[], 0, [], (Go.MapKept.heap_alloc w _).1, rfl, List.nodup_nil, fun i h => (by cases h), fun i => Iff.rfl⟩
set_option maxRecDepth 10000 in
theorem lookup_int (w : World) (mb : Nat) (S : List Int) (s : Int) (h : MapI w mb S) (hs : -9223372036854775808 ≤ s ∧ s ≤ 9223372036854775807) :
    (Instr.lookup 104 (.map (some mb)) (.int .i64 s) false).run Try.prog w = .ok (.bool (S.any fun z => z == s)) w := by
  obtain ⟨es, clock, m, hb, he, hnd, hsm, hS⟩ := h
  rw [← hasI_congr hS]
  have hz : (zeroValue 4).run Try.prog w = .ok (.bool false) w := by kernel_rfl
  have K : Keyed Try.prog 3 := int_keyed Try.underlying3
  have hk := keyIntM s hs
  have hck : ∀ em, (Instr.checkKey em 10000 3 (.int .i64 s)).run Try.prog w = .ok () w := fun em => K.check w em hk
  rcases K.find w hk es.toList (fun e hm2 => by obtain ⟨x, hx, hkx, _⟩ := MapI.entry he hm2; exact ⟨_, by rw [hkx]; exact keyIntM x (by have := hsm x hx; omega)⟩) with ⟨hf, hno⟩ | ⟨j, e, hf, hj, hkey⟩
  · have hB : (m.any fun z => z == s) = false := by
      cases hh : (m.any fun z => z == s) with
      | false => rfl
      | true =>
        obtain ⟨e, h1, h2⟩ := MapI.has he ((hasI_mem m s).1 hh)
        exact absurd h2 (hno e h1)
    rw [hB]
    simp [Instr.lookup, run_underlying Try.underlying104, Go.MapKept.run_getObj_map hb, hck, hf, hz, Result.andThen]
  · have hmem := List.mem_of_getElem? hj
    obtain ⟨x, hx, hkx, hv⟩ := MapI.entry he hmem
    have hB : (m.any fun z => z == s) = true := by
      have hxs := hkx.symm.trans hkey
      injection hxs with _ hxs
      exact (hasI_mem m s).2 (hxs ▸ hx)
    rw [hv] at hf
    rw [hB]
    simp [Instr.lookup, run_underlying Try.underlying104, Go.MapKept.run_getObj_map hb, hck, hf, Result.andThen]
set_option maxRecDepth 10000 in
theorem update_int (w : World) (mb : Nat) (S : List Int) (s : Int) (h : MapI w mb S) (hs : 1 ≤ s ∧ s ≤ 999) (hno : (S.any fun z => z == s) = false) :
    ∃ w', (Instr.mapUpdate 104 (.map (some mb)) (.int .i64 s) (.bool true)).run Try.prog w = .ok () w' ∧ MapI w' mb (S ++ [s]) ∧ OneB mb w w' := by
  obtain ⟨es, clock, m, hb, he, hnd, hsm, hS⟩ := h
  rw [← hasI_congr hS] at hno
  have hlt : mb < w.heap.size := (Array.getElem?_eq_some_iff.1 hb).1
  have K : Keyed Try.prog 3 := int_keyed Try.underlying3
  have hk := keyIntM s (by omega)
  have hck : ∀ em, (Instr.checkKey em 10000 3 (.int .i64 s)).run Try.prog w = .ok () w := fun em => K.check w em hk
  have hnm : s ∉ m := fun hh => by rw [(hasI_mem m s).2 hh] at hno; cases hno
  rcases K.find w hk es.toList (fun e hm2 => by obtain ⟨x, hx, hkx, _⟩ := MapI.entry he hm2; exact ⟨_, by rw [hkx]; exact keyIntM x (by have := hsm x hx; omega)⟩) with ⟨hf, _⟩ | ⟨j, e, hf, hj, hkey⟩
  · refine ⟨{ w with heap := w.heap.setIfInBounds mb (.map (es.push ⟨.int .i64 s, .bool true, clock⟩) (clock + 1)) }, by simp [Instr.mapUpdate, run_underlying Try.underlying104, Go.MapKept.run_getObj_map hb, hck, hf, Go.MapKept.run_setObj_map _ hb, Result.andThen],
      ⟨es.push ⟨.int .i64 s, .bool true, clock⟩, clock + 1, m ++ [s], by simp [hlt], by simp [he], ?_, ?_, ?_⟩, ⟨rfl, rfl, rfl, by simp, fun k hk => by simp [Ne.symm hk]⟩⟩
    · exact List.nodup_append.2 ⟨hnd, by simp, by intro a ha b hb e; rw [List.mem_singleton] at hb; subst hb; subst e; exact hnm ha⟩
    · intro i hi
      rcases List.mem_append.1 hi with h | h
      · exact hsm i h
      · rw [List.mem_singleton] at h; omega
    · intro i
      rw [List.mem_append, List.mem_append, hS i]
  · exfalso
    obtain ⟨x, hx, hkx, _⟩ := MapI.entry he (List.mem_of_getElem? hj)
    rw [hkx] at hkey
    injection hkey with _ hkey
    exact hnm (hkey ▸ hx)
theorem map_eraseIdx' {α β : Type} (f : α → β) : ∀ (l : List α) (j : Nat), (l.eraseIdx j).map f = (l.map f).eraseIdx j
  | [], _ => rfl
  | x :: r, 0 => rfl
  | x :: r, j + 1 => by simp only [List.eraseIdx_cons_succ, List.map_cons, map_eraseIdx' f r j]
theorem mem_eraseIdx_of_nodup {m : List Int} (hnd : m.Nodup) {j : Nat} {x : Int} (hj : m[j]? = some x) (i : Int) : i ∈ m.eraseIdx j ↔ i ∈ m ∧ i ≠ x := by
  have hl := (List.getElem?_eq_some_iff.1 hj).1
  have hx := (List.getElem?_eq_some_iff.1 hj).2
  rw [List.mem_eraseIdx_iff_getElem]
  constructor
  · rintro ⟨k, hk, hkj, rfl⟩
    refine ⟨List.getElem_mem hk, fun e => hkj ?_⟩
    rw [← hx] at e
    exact (List.getElem_inj hnd).1 e
  · rintro ⟨hi, hne⟩
    obtain ⟨k, hk, rfl⟩ := List.getElem_of_mem hi
    exact ⟨k, hk, fun e => hne (by subst e; exact hx), rfl⟩
set_option maxRecDepth 10000 in
theorem delete_int (w : World) (mb : Nat) (S : List Int) (s : Int) (h : MapI w mb S) (hs : -9223372036854775808 ≤ s ∧ s ≤ 9223372036854775807) :
    ∃ w', (∀ ty, (Builtin.delete_ #[104, 3] ty #[.map (some mb), .int .i64 s]).run Try.prog w = .ok (.tuple #[]) w') ∧ MapI w' mb (S.filter fun z => z != s) ∧ OneB mb w w' := by
  obtain ⟨es, clock, m, hb, he, hnd, hsm, hS⟩ := h
  have hlt : mb < w.heap.size := (Array.getElem?_eq_some_iff.1 hb).1
  have K : Keyed Try.prog 3 := int_keyed Try.underlying3
  have hk := keyIntM s hs
  have hck : ∀ em, (Instr.checkKey em 10000 3 (.int .i64 s)).run Try.prog w = .ok () w := fun em => K.check w em hk
  have hF : ∀ i, i ∈ S.filter (fun z => z != s) ↔ (i ∈ S ∧ i ≠ s) := fun i => by rw [List.mem_filter]; simp
  rcases K.find w hk es.toList (fun e hm2 => by obtain ⟨x, hx, hkx, _⟩ := MapI.entry he hm2; exact ⟨_, by rw [hkx]; exact keyIntM x (by have := hsm x hx; omega)⟩) with ⟨hf, hno⟩ | ⟨j, e, hf, hj, hkey⟩
  · refine ⟨{ w with heap := w.heap.setIfInBounds mb (.map es clock) }, fun ty => by simp [Builtin.delete_, run_underlying Try.underlying104, Go.MapKept.run_getObj_map hb, hck, hf, Go.MapKept.run_setObj_map _ hb, Result.andThen],
      ⟨es, clock, m, by simp [hlt], he, hnd, hsm, ?_⟩, ⟨rfl, rfl, rfl, by simp, fun k hk => by simp [Ne.symm hk]⟩⟩
    intro i
    rw [hF, ← hS i]
    refine ⟨fun hi => ⟨hi, fun e => ?_⟩, fun hi => hi.1⟩
    subst e
    obtain ⟨e, h1, h2⟩ := MapI.has he hi
    exact hno e h1 h2
  · have hmem := List.mem_of_getElem? hj
    obtain ⟨x, hx, hkx, hv⟩ := MapI.entry he hmem
    have hxs := hkx.symm.trans hkey
    injection hxs with _ hxs
    subst hxs
    have hmj : m[j]? = some x := by
      have h1 : (es.toList.map (fun e => (e.key, e.val)))[j]? = some (e.key, e.val) := by rw [List.getElem?_map, hj]; rfl
      rw [he, List.getElem?_map] at h1
      cases hq : m[j]? with
      | none => rw [hq] at h1; cases h1
      | some y =>
        rw [hq] at h1
        simp only [Option.map_some, Option.some.injEq, Prod.mk.injEq] at h1
        have h2 := h1.1.trans hkey
        injection h2 with _ h2
        rw [h2]
    refine ⟨{ w with heap := w.heap.setIfInBounds mb (.map (es.eraseIdxIfInBounds j) clock) }, fun ty => by simp [Builtin.delete_, run_underlying Try.underlying104, Go.MapKept.run_getObj_map hb, hck, hf, Go.MapKept.run_setObj_map _ hb, Result.andThen],
      ⟨es.eraseIdxIfInBounds j, clock, m.eraseIdx j, by simp [hlt], ?_, hnd.sublist (List.eraseIdx_sublist _ _), ?_, ?_⟩, ⟨rfl, rfl, rfl, by simp, fun k hk => by simp [Ne.symm hk]⟩⟩
    · rw [show (es.eraseIdxIfInBounds j).toList = es.toList.eraseIdx j from by simp, map_eraseIdx', he, ← map_eraseIdx']
    · intro i hi
      exact hsm i (List.mem_of_mem_eraseIdx hi)
    · intro i
      rw [hF, ← hS i, mem_eraseIdx_of_nodup hnd hmj]
end
end Go.Proofs.Ytbclgmabidjegaa
namespace Go.Proofs.Ytbclgmabidjegaa.CoreT
section
open Go.RowKit
set_option linter.unusedVariables false
set_option linter.unusedSimpArgs false
/-- a core program with a kind alone -/
def bareCk (k : Int) : Ck := .mk k 0 ByteArray.empty 0 [] zeroForm []
theorem putsL_nil_eq {l ns : List Int} (h : putsL l ns = []) : ns = [] := by
  cases ns with
  | nil => rfl
  | cons n r =>
    have : n ∈ putsL l (n :: r) := (mem_putsL (n :: r) l n).2 (.inr (by simp))
    rw [h] at this
    cases this
theorem foldS_nil_of : ∀ (V : List Fm), (∀ g ∈ V, g.scopes = []) → foldS [] V = []
  | [], _ => rfl
  | g :: V, h => by
    unfold foldS
    rw [List.foldl_cons, h g (by simp)]
    have : putsL [] [] = [] := rfl
    rw [this]
    exact foldS_nil_of V fun g' hg => h g' (by simp [hg])
theorem mem_foldS : ∀ (V : List Fm) (l : List Int) (n : Int), n ∈ foldS l V ↔ (n ∈ l ∨ ∃ g ∈ V, n ∈ g.scopes)
  | [], l, n => by unfold foldS; simp
  | g :: V, l, n => by
    unfold foldS
    rw [List.foldl_cons]
    have h := mem_foldS V (putsL l g.scopes) n
    unfold foldS at h
    rw [h, mem_putsL]
    simp only [List.mem_cons, exists_eq_or_imp]
    rw [or_assoc]
theorem foldS_nil_iff (V : List Fm) : foldS [] V = [] ↔ ∀ g ∈ V, g.scopes = [] := by
  constructor
  · intro h g hg
    cases hs : g.scopes with
    | nil => rfl
    | cons n r =>
      have : n ∈ foldS [] V := (mem_foldS V [] n).2 (.inr ⟨g, hg, by rw [hs]; simp⟩)
      rw [h] at this
      cases this
  · exact foldS_nil_of V
mutual
theorem bareB_pre : ∀ f : Fm, bareB f = true ↔ ∀ g ∈ f.pre, g.scopes = []
  | .mk k nm n sc ks => by
    rw [bareB, Bool.and_eq_true, Fm.pre, bareAll_pre ks, List.isEmpty_iff]
    simp only [List.mem_cons, forall_eq_or_imp]
    exact Iff.rfl
theorem bareAll_pre : ∀ l : List Fm, bareAll l = true ↔ ∀ g ∈ preAll l, g.scopes = []
  | [] => by rw [bareAll, preAll]; simp
  | f :: r => by
    rw [bareAll, Bool.and_eq_true, preAll, bareB_pre f, bareAll_pre r]
    constructor
    · rintro ⟨h1, h2⟩ g hg
      rcases List.mem_append.1 hg with h | h
      · exact h1 g h
      · exact h2 g h
    · intro h
      exact ⟨fun g hg => h g (List.mem_append.2 (.inl hg)), fun g hg => h g (List.mem_append.2 (.inr hg))⟩
end
theorem bareB_scopes (f : Fm) (h : formB f = true) : ((scopesOf f).length == 0) = bareB f := by
  unfold scopesOf
  rw [if_pos h, Bool.eq_iff_iff, beq_iff_eq, List.length_eq_zero_iff, foldS_nil_iff, bareB_pre]
theorem bytes0 (nm : ByteArray) : (ByteArray.empty.data.toList == nm.data.toList) = (nm.toList == (ByteArray.mk #[]).toList) := by
  rw [Lib.toList_data, Lib.toList_data, Bool.eq_iff_iff, beq_iff_eq, beq_iff_eq]
  exact eq_comm
theorem int0 (i : Int) : ((0 : Int) == i) = (i == 0) := by rw [Bool.eq_iff_iff, beq_iff_eq, beq_iff_eq]; exact eq_comm
theorem nil0 (l : List Int) : (([] : List Int) == l) = (l.length == 0) := by cases l <;> rfl
theorem len0 {α : Type} (l : List α) : ((0 : Nat) == l.length) = (l.length == 0) := by rw [Bool.eq_iff_iff, beq_iff_eq, beq_iff_eq]; exact eq_comm
theorem same_bare (k id : Int) (nm : ByteArray) (n : Int) (ids : List Int) (d : Fm) (ks : List Ck) : nodeSameC (bareCk k) (.mk k id nm n ids d ks) =
    ((id == 0) && (nm.toList == (ByteArray.mk #[]).toList) && (n == 0) && (ids.length == 0) && sameB d zeroForm && (ks.length == 0)) := by
  unfold nodeSameC bareCk
  simp only [Ck.kind, Ck.id, Ck.name, Ck.n, Ck.ids, Ck.data, Ck.kids, List.length_nil]
  rw [int0, bytes0, int0, nil0, len0, sameB_symm]
  simp
theorem any_small {S : List Int} {i : Int} (hS : ∀ i ∈ S, 1 ≤ i ∧ i ≤ 999) (h : (S.any fun z => z == i) = true) : 1 ≤ i ∧ i ≤ 999 := hS i ((hasI_mem S i).1 h)
theorem empty_list : (ByteArray.empty.toList == (ByteArray.mk #[]).toList) = true := by rw [beq_iff_eq]; rfl
theorem idsB_nil (S : List Int) : idsB S [] = true := by rw [idsB]
theorem len_nil {α : Type} {l : List α} (h : (l.length == 0) = true) : l = [] := List.length_eq_zero_iff.1 (beq_iff_eq.1 h)
theorem coreAll_nil (d : Nat) (S : List Int) : coreAll d S [] = true := by rw [coreAll]
theorem cv_var (d : Nat) (S : List Int) (hS : ∀ i ∈ S, 1 ≤ i ∧ i ≤ 999) (id : Int) (nm : ByteArray) (n : Int) (ids : List Int) (f : Fm) (ks : List Ck) :
    coreB (d + 1) S (.mk 1 id nm n ids f ks) = (nodeSameC (bareCk 1) (.mk 1 0 nm n ids f ks) && S.any fun z => z == id) := by
  rw [coreB_succ, same_bare]
  simp only [Ck.kind, Ck.id, Ck.kids, Ck.ids, kidsB, fieldsB, fld1, fld2, fld3, fld4, fld5, Ck.name, Ck.n, Ck.data]
  simp only [if_true, show ¬ ((1 : Int) = 2) from by decide, show ¬ ((1 : Int) = 3) from by decide, show ¬ ((1 : Int) = 4) from by decide, show ¬ ((1 : Int) = 5) from by decide, if_false, beq_self_eq_true, Bool.true_and]
  rw [Bool.eq_iff_iff]
  simp only [Bool.and_eq_true, decide_eq_true_eq]
  constructor
  · rintro ⟨hk, ⟨_, hn, hx, hf, hi⟩, ha, _⟩
    exact ⟨⟨⟨⟨⟨hn, hx⟩, hi⟩, hf⟩, hk⟩, ha⟩
  · rintro ⟨⟨⟨⟨⟨hn, hx⟩, hi⟩, hf⟩, hk⟩, ha⟩
    have hid := any_small hS ha
    refine ⟨hk, ⟨⟨decide_eq_true hid.1, decide_eq_true hid.2⟩, hn, hx, hf, hi⟩, ha, ?_, ?_⟩
    · rw [len_nil hi]; exact idsB_nil _
    · rw [len_nil hk]; exact coreAll_nil _ _
theorem cv_free (d : Nat) (S : List Int) (id : Int) (nm : ByteArray) (n : Int) (ids : List Int) (f : Fm) (ks : List Ck) :
    coreB (d + 1) S (.mk 2 id nm n ids f ks) = (nodeSameC (bareCk 2) (.mk 2 id ByteArray.empty n ids f ks) && nameB nm.data.toList) := by
  rw [coreB_succ, same_bare]
  simp only [Ck.kind, Ck.id, Ck.kids, Ck.ids, kidsB, fieldsB, fld1, fld2, fld3, fld4, fld5, Ck.name, Ck.n, Ck.data]
  simp only [if_true, show ¬ ((2 : Int) = 1) from by decide, show ¬ ((2 : Int) = 3) from by decide, show ¬ ((2 : Int) = 4) from by decide, show ¬ ((2 : Int) = 5) from by decide, if_false, Bool.true_and]
  rw [empty_list, Bool.eq_iff_iff]
  simp only [Bool.and_eq_true, decide_eq_true_eq, Bool.true_and, and_true]
  constructor
  · rintro ⟨hk, ⟨h1, hn, hx, hf, hi⟩, _, _⟩
    exact ⟨⟨⟨⟨⟨h1, hx⟩, hi⟩, hf⟩, hk⟩, hn⟩
  · rintro ⟨⟨⟨⟨⟨h1, hx⟩, hi⟩, hf⟩, hk⟩, hn⟩
    refine ⟨hk, ⟨h1, hn, hx, hf, hi⟩, ?_, ?_⟩
    · rw [len_nil hi]; exact idsB_nil _
    · rw [len_nil hk]; exact coreAll_nil _ _
theorem cv_num (d : Nat) (S : List Int) (id : Int) (nm : ByteArray) (n : Int) (ids : List Int) (f : Fm) (ks : List Ck) :
    coreB (d + 1) S (.mk 3 id nm n ids f ks) = (nodeSameC (bareCk 3) (.mk 3 id nm 0 ids f ks) && (decide (0 ≤ n) && decide (n ≤ 999))) := by
  rw [coreB_succ, same_bare]
  simp only [Ck.kind, Ck.id, Ck.kids, Ck.ids, kidsB, fieldsB, fld1, fld2, fld3, fld4, fld5, Ck.name, Ck.n, Ck.data]
  simp only [if_true, show ¬ ((3 : Int) = 1) from by decide, show ¬ ((3 : Int) = 2) from by decide, show ¬ ((3 : Int) = 4) from by decide, show ¬ ((3 : Int) = 5) from by decide, if_false, Bool.true_and, beq_self_eq_true]
  rw [Bool.eq_iff_iff]
  simp only [Bool.and_eq_true, decide_eq_true_eq, Bool.true_and, and_true]
  constructor
  · rintro ⟨hk, ⟨h1, hn, hx, hf, hi⟩, _, _⟩
    exact ⟨⟨⟨⟨⟨h1, hn⟩, hi⟩, hf⟩, hk⟩, of_decide_eq_true hx.1, of_decide_eq_true hx.2⟩
  · rintro ⟨⟨⟨⟨⟨h1, hn⟩, hi⟩, hf⟩, hk⟩, hx⟩
    refine ⟨hk, ⟨h1, hn, ⟨decide_eq_true hx.1, decide_eq_true hx.2⟩, hf, hi⟩, ?_, ?_⟩
    · rw [len_nil hi]; exact idsB_nil _
    · rw [len_nil hk]; exact coreAll_nil _ _
theorem sameB_zero : sameB zeroForm zeroForm = true := sameB_refl _
theorem cv_quote (d : Nat) (S : List Int) (id : Int) (nm : ByteArray) (n : Int) (ids : List Int) (f : Fm) (ks : List Ck) :
    coreB (d + 1) S (.mk 4 id nm n ids f ks) = (nodeSameC (bareCk 4) (.mk 4 id nm n ids zeroForm ks) && (formB f && bareB f)) := by
  rw [coreB_succ, same_bare]
  simp only [Ck.kind, Ck.id, Ck.kids, Ck.ids, kidsB, fieldsB, fld1, fld2, fld3, fld4, fld5, Ck.name, Ck.n, Ck.data]
  simp only [if_true, show ¬ ((4 : Int) = 1) from by decide, show ¬ ((4 : Int) = 2) from by decide, show ¬ ((4 : Int) = 3) from by decide, show ¬ ((4 : Int) = 5) from by decide, if_false, Bool.true_and]
  rw [sameB_zero, Bool.eq_iff_iff]
  simp only [Bool.and_eq_true, decide_eq_true_eq, Bool.true_and, and_true]
  constructor
  · rintro ⟨hk, ⟨h1, hn, hx, hf, hi⟩, _, _⟩
    exact ⟨⟨⟨⟨⟨h1, hn⟩, hx⟩, hi⟩, hk⟩, hf⟩
  · rintro ⟨⟨⟨⟨⟨h1, hn⟩, hx⟩, hi⟩, hk⟩, hf⟩
    refine ⟨hk, ⟨h1, hn, hx, hf, hi⟩, ?_, ?_⟩
    · rw [len_nil hi]; exact idsB_nil _
    · rw [len_nil hk]; exact coreAll_nil _ _
theorem cv_fun (d : Nat) (S : List Int) (id : Int) (nm : ByteArray) (n : Int) (ids : List Int) (f : Fm) (ks : List Ck) (hk : ks.length = 1) :
    coreB (d + 1) S (.mk 5 id nm n ids f ks) = (nodeSameC (bareCk 5) (.mk 5 id nm n [] f []) && (idsB S ids && coreAll d (S ++ ids) ks)) := by
  rw [coreB_succ, same_bare]
  simp only [Ck.kind, Ck.id, Ck.kids, Ck.ids, kidsB, fieldsB, fld1, fld2, fld3, fld4, fld5, Ck.name, Ck.n, Ck.data]
  simp only [if_true, show ¬ ((5 : Int) = 1) from by decide, show ¬ ((5 : Int) = 2) from by decide, show ¬ ((5 : Int) = 3) from by decide, show ¬ ((5 : Int) = 4) from by decide, if_false, Bool.true_and, hk, beq_self_eq_true, List.length_nil, Bool.and_true]
  rw [Bool.eq_iff_iff]
  simp only [Bool.and_eq_true, and_assoc]
theorem cv_call (d : Nat) (S : List Int) (id : Int) (nm : ByteArray) (n : Int) (ids : List Int) (f : Fm) (ks : List Ck) (k : Int) (hk : (k = 6 ∧ 0 < ks.length) ∨ (k = 7 ∧ ks.length = 3)) :
    coreB (d + 1) S (.mk k id nm n ids f ks) = (nodeSameC (bareCk k) (.mk k id nm n ids f []) && coreAll d S ks) := by
  rw [coreB_succ, same_bare]
  have e1 : ¬ (k = 1) := by omega
  have e2 : ¬ (k = 2) := by omega
  have e3 : ¬ (k = 3) := by omega
  have e4 : ¬ (k = 4) := by omega
  have e5 : ¬ (k = 5) := by omega
  have hkb : kidsB k ks.length = true := by
    unfold kidsB
    rw [if_neg e1, if_neg e2, if_neg e3, if_neg e4, if_neg e5]
    rcases hk with ⟨rfl, h⟩ | ⟨rfl, h⟩
    · rw [if_pos rfl, decide_eq_true_eq]; omega
    · rw [if_neg (by decide), h]; rfl
  simp only [Ck.kind, Ck.id, Ck.kids, Ck.ids, fieldsB, fld1, fld2, fld3, fld4, fld5, Ck.name, Ck.n, Ck.data]
  rw [hkb]
  simp only [e1, e2, e3, e4, e5, if_false, Bool.true_and, List.length_nil, beq_self_eq_true, Bool.and_true]
  rw [Bool.eq_iff_iff]
  simp only [Bool.and_eq_true]
  constructor
  · rintro ⟨⟨h1, hn, hx, hf, hi⟩, _, ha⟩
    rw [len_nil hi, List.append_nil] at ha
    exact ⟨⟨⟨⟨⟨h1, hn⟩, hx⟩, hi⟩, hf⟩, ha⟩
  · rintro ⟨⟨⟨⟨⟨h1, hn⟩, hx⟩, hi⟩, hf⟩, ha⟩
    refine ⟨⟨h1, hn, hx, hf, hi⟩, ?_, ?_⟩
    · rw [len_nil hi]; exact idsB_nil _
    · rw [len_nil hi, List.append_nil]; exact ha
theorem cv_none (d : Nat) (S : List Int) (id : Int) (nm : ByteArray) (n : Int) (ids : List Int) (f : Fm) (ks : List Ck) (k : Int)
    (h1 : k ≠ 1) (h2 : k ≠ 2) (h3 : k ≠ 3) (h4 : k ≠ 4) (h5 : ¬ (k = 5 ∧ ks.length = 1)) (h6 : ¬ (k = 6 ∧ 0 < ks.length)) (h7 : ¬ (k = 7 ∧ ks.length = 3)) :
    coreB d S (.mk k id nm n ids f ks) = false := by
  cases d with
  | zero => exact coreB_zero _ _
  | succ d =>
    rw [coreB_succ]
    have hkb : kidsB k ks.length = false := by
      unfold kidsB
      rw [if_neg h1, if_neg h2, if_neg h3, if_neg h4]
      by_cases e5 : k = 5
      · rw [if_pos e5, beq_eq_false_iff_ne]; exact fun h => h5 ⟨e5, h⟩
      · rw [if_neg e5]
        by_cases e6 : k = 6
        · rw [if_pos e6, decide_eq_false_iff_not]; exact fun h => h6 ⟨e6, by omega⟩
        · rw [if_neg e6]
          cases hb : (k == 7 && ks.length == 3) with
          | false => rfl
          | true =>
            rw [Bool.and_eq_true, beq_iff_eq, beq_iff_eq] at hb
            exact absurd hb h7
    simp only [Ck.kind, Ck.kids]
    rw [hkb, Bool.false_and]
/-- sets with the same members -/
theorem idsB_congr : ∀ (ids : List Int) {S T : List Int}, (∀ i, i ∈ S ↔ i ∈ T) → idsB S ids = idsB T ids
  | [], S, T, h => by rw [idsB, idsB]
  | i :: r, S, T, h => by
    rw [idsB, idsB, hasI_congr h i, idsB_congr r (S := S ++ [i]) (T := T ++ [i]) (fun j => by simp only [List.mem_append, h j])]
mutual
theorem coreB_congr : ∀ (x : Ck) (d : Nat) {S T : List Int}, (∀ i, i ∈ S ↔ i ∈ T) → coreB d S x = coreB d T x
  | .mk k id nm n ids f ks, 0, S, T, h => by rw [coreB_zero, coreB_zero]
  | .mk k id nm n ids f ks, d + 1, S, T, h => by
    rw [coreB, coreB, hasI_congr h id, idsB_congr ids h, coreAll_congr ks d (S := S ++ ids) (T := T ++ ids) (fun j => by simp only [List.mem_append, h j])]
theorem coreAll_congr : ∀ (l : List Ck) (d : Nat) {S T : List Int}, (∀ i, i ∈ S ↔ i ∈ T) → coreAll d S l = coreAll d T l
  | [], d, S, T, h => by rw [coreAll, coreAll]
  | x :: r, d, S, T, h => by rw [coreAll, coreAll, coreB_congr x d h, coreAll_congr r d h]
end
/-- numbers taken out of a set, one after another -/
def unB (S ids : List Int) : List Int := ids.foldl (fun T i => T.filter fun z => z != i) S
theorem mem_unB : ∀ (ids S : List Int) (i : Int), i ∈ unB S ids ↔ (i ∈ S ∧ i ∉ ids)
  | [], S, i => by unfold unB; simp
  | j :: r, S, i => by
    have h := mem_unB r (S.filter fun z => z != j) i
    unfold unB at h ⊢
    rw [List.foldl_cons, h, List.mem_filter]
    simp only [List.mem_cons, bne_iff_ne, ne_eq]
    constructor
    · rintro ⟨⟨h1, h2⟩, h3⟩
      exact ⟨h1, fun h => h.elim h2 h3⟩
    · rintro ⟨h1, h2⟩
      exact ⟨⟨h1, fun h => h2 (.inl h)⟩, fun h => h2 (.inr h)⟩
theorem idsB_small : ∀ (ids S : List Int), idsB S ids = true → ∀ i ∈ ids, 1 ≤ i ∧ i ≤ 999
  | [], S, h, i, hi => by cases hi
  | j :: r, S, h, i, hi => by
    rw [idsB] at h
    simp only [Bool.and_eq_true, decide_eq_true_eq] at h
    rcases List.mem_cons.1 hi with rfl | hi
    · exact ⟨h.1, h.2.1⟩
    · exact idsB_small r _ h.2.2.2 i hi
theorem idsB_fresh : ∀ (ids S : List Int), idsB S ids = true → ∀ i ∈ ids, i ∉ S
  | [], S, h, i, hi => by cases hi
  | j :: r, S, h, i, hi => by
    rw [idsB] at h
    simp only [Bool.and_eq_true, decide_eq_true_eq, Bool.not_eq_true'] at h
    rcases List.mem_cons.1 hi with rfl | hi
    · intro hm
      rw [(hasI_mem S i).2 hm] at h
      exact absurd h.2.2.1 (by decide)
    · exact fun hm => idsB_fresh r _ h.2.2.2 i hi (List.mem_append.2 (.inl hm))
theorem unB_back {S ids : List Int} (h : idsB S ids = true) (i : Int) : i ∈ unB (S ++ ids) ids ↔ i ∈ S := by
  rw [mem_unB, List.mem_append]
  constructor
  · rintro ⟨h1 | h1, h2⟩
    · exact h1
    · exact absurd h1 h2
  · intro h1
    exact ⟨.inl h1, fun hi => idsB_fresh ids S h i hi h1⟩
theorem unB_take (S ids : List Int) (j : Nat) (hj : j < ids.length) : unB S (ids.take (j + 1)) = (unB S (ids.take j)).filter fun z => z != ids[j] := by
  unfold unB
  rw [List.take_succ_eq_append_getElem hj, List.foldl_append]
  rfl
end
end Go.Proofs.Ytbclgmabidjegaa.CoreT
namespace Go.Proofs.Ytbclgmabidjegaa.CoreT
section
open Go.RowKit
set_option linter.unusedVariables false
set_option linter.unusedSimpArgs false
/-- the room: a block with a counter and a map -/
structure RoomC (w : World) (b mb n d : Nat) (S : List Int) : Prop where
  room : RoomAt w b 0 n d
  ptr : w.cell? ⟨b, 2, none⟩ = some (.map (some mb))
  set : MapI w mb S
  ne : b ≠ mb
/-- all that was there is as it was, but for the counter and the map -/
structure KeptC (b mb : Nat) (w w' : World) : Prop where
  os : w'.os = w.os
  tape : w'.tape = w.tape
  output : w'.output = w.output
  size : w.heap.size ≤ w'.heap.size
  block : ∀ k, k < w.heap.size → k ≠ b → k ≠ mb → w'.heap[k]? = w.heap[k]?
theorem KeptC.refl (b mb : Nat) (w : World) : KeptC b mb w w := ⟨rfl, rfl, rfl, Nat.le_refl _, fun _ _ _ _ => rfl⟩
theorem KeptC.trans {b mb : Nat} {u v w : World} (h : KeptC b mb u v) (g : KeptC b mb v w) : KeptC b mb u w :=
  ⟨g.os.trans h.os, g.tape.trans h.tape, g.output.trans h.output, Nat.le_trans h.size g.size,
    fun k hk hn hm => (g.block k (Nat.lt_of_lt_of_le hk h.size) hn hm).trans (h.block k hk hn hm)⟩
theorem KeptC.of_below {b mb B : Nat} {w w' : World} (h : Below B w w') (hB : w.heap.size ≤ B) : KeptC b mb w w' :=
  ⟨h.os, h.tape, h.output, h.size, fun k hk _ _ => h.block k (by omega)⟩
theorem KeptC.alloc {b mb : Nat} {u w : World} (h : KeptC b mb u w) (o : Obj) : KeptC b mb u (w.alloc o) := h.trans (KeptC.of_below (below_alloc w o) (Nat.le_refl _))
theorem KeptC.of_kept {b mb lo hi : Nat} {w w' : World} (h : Kept b lo hi w w') : KeptC b mb w w' := ⟨h.os, h.tape, h.output, h.size, fun k hk hn _ => h.block k hk hn⟩
theorem KeptC.of_one {b mb : Nat} {w w' : World} (h : OneB mb w w') : KeptC b mb w w' := ⟨h.os, h.tape, h.output, by rw [h.size]; exact Nat.le_refl _, fun k _ _ hm => h.block k hm⟩
theorem KeptC.below {b mb B : Nat} {w w' : World} (h : KeptC b mb w w') (hB : B ≤ b) (hM : B ≤ mb) (hs : B ≤ w.heap.size) : Below B w w' :=
  ⟨h.os, h.tape, h.output, h.size, fun k hk => h.block k (by omega) (by omega) (by omega)⟩
theorem KeptC.other {b mb : Nat} {w w' : World} (h : KeptC b mb w w') {k o : Nat} (hk : k < w.heap.size) (hn : k ≠ b) (hm : k ≠ mb) : w'.cell? ⟨k, o, none⟩ = w.cell? ⟨k, o, none⟩ :=
  World.cell?_of_block (w := w) (a := ⟨k, o, none⟩) (h.block k hk hn hm)
theorem RoomC.lt {w : World} {b mb n d : Nat} {S : List Int} (h : RoomC w b mb n d S) : b < w.heap.size := h.room.lt
theorem RoomC.mlt {w : World} {b mb n d : Nat} {S : List Int} (h : RoomC w b mb n d S) : mb < w.heap.size := h.set.lt
theorem RoomC.later {w w' : World} {b mb n d : Nat} {S : List Int} (h : RoomC w b mb n d S) (hb : Below w.heap.size w w') : RoomC w' b mb n d S :=
  ⟨h.room.later hb, cell_later' hb h.ptr, h.set.later hb, h.ne⟩
theorem RoomC.congr {w : World} {b mb n d : Nat} {S T : List Int} (h : RoomC w b mb n d S) (hs : ∀ i, i ∈ S ↔ i ∈ T) : RoomC w b mb n d T := ⟨h.room, h.ptr, h.set.congr hs, h.ne⟩
theorem RoomC.kept {w w' : World} {b mb n d n' d' : Nat} {S : List Int} (h : RoomC w b mb n d S) (hr : RoomAt w' b 0 n' d') (hk : Kept b 0 2 w w') : RoomC w' b mb n' d' S :=
  ⟨hr, (hk.cell 2 (.inr (by omega))).trans h.ptr, h.set.same (hk.block mb h.mlt (Ne.symm h.ne)), h.ne⟩
theorem RoomC.one {w w' : World} {b mb n d : Nat} {S T : List Int} (h : RoomC w b mb n d S) (hm : MapI w' mb T) (ho : OneB mb w w') : RoomC w' b mb n d T := by
  have hs : w'.heap[b]? = w.heap[b]? := ho.block b h.ne
  have hc : ∀ i, w'.cell? ⟨b, i, none⟩ = w.cell? ⟨b, i, none⟩ := fun i => World.cell?_of_block (a := ⟨b, i, none⟩) hs
  have hf : ∀ i, w'.frozen? ⟨b, i, none⟩ = w.frozen? ⟨b, i, none⟩ := fun i => World.frozen?_of_block (a := ⟨b, i, none⟩) hs
  exact ⟨⟨(hc _).trans h.room.nodes, (hc _).trans h.room.depth, (hf _).trans h.room.fr0, (hf _).trans h.room.fr1⟩, (hc _).trans h.ptr, hm, h.ne⟩
/-- the core program's memory is plain and lies below B -/
theorem inC_plB {B : Nat} {x : Ck} {v : Value} {w w' : World} (hb : Below B w w') (h : InC (Pl B w) w x v) : InC (Pl B w') w' x v :=
  InC.mono (fun k hk => ⟨hk.1, hk.2.same (hb.block _ hk.1)⟩) _ _ (InC.later (fun k hk => hb.block _ hk.1) _ _ h)
theorem rowC_plB {B b off : Nat} {l : List Ck} {w w' : World} (hb : Below B w w') (hk : b < B ∧ Plain w b) (h : RowC (Pl B w) w b off l) : RowC (Pl B w') w' b off l :=
  RowC.mono (fun k hk => ⟨hk.1, hk.2.same (hb.block _ hk.1)⟩) _ _ _ (RowC.later (φ := Pl B w) (fun k hk => hb.block _ hk.1) b hk off l h)
/-- whether a core program is valid in a room -/
def okC (S : List Int) (d n : Nat) (x : Ck) : Bool := coreB (120 - d) S x && decide (n + x.count ≤ 600)
/-- what a test of a core program leaves -/
def HoldsC (r : Bool) (c : Nat) (S : List Int) (b mb n d : Nat) (w : World) (e : Ending) (w' : World) : Prop :=
  e = .returned (.bool r) ∧ (∃ n' d' S', n' ≤ 601 ∧ d ≤ d' ∧ d' ≤ d + 1 ∧ RoomC w' b mb n' d' S' ∧ (r = true → n' = n + c ∧ d' = d ∧ S' = S)) ∧ KeptC b mb w w'
theorem okC_full {S : List Int} {d n : Nat} (x : Ck) (h : ¬ (n + 1 ≤ 600 ∧ d + 1 ≤ 120)) : okC S d n x = false := by
  unfold okC
  have h1 := x.count_eq
  by_cases h2 : n + 1 ≤ 600
  · have h3 : 120 - d = 0 := by omega
    rw [h3, coreB_zero, Bool.false_and]
  · rw [decide_eq_false (by omega), Bool.and_false]
/-- whether core programs are valid in a room, one after another -/
def okCs (S : List Int) (d n : Nat) (l : List Ck) : Bool := coreAll (120 - d) S l && decide (n + countCs l ≤ 600)
theorem okC_leaf {S : List Int} {d n : Nat} {x : Ck} {r : Bool} (hroom : n + 1 ≤ 600 ∧ d + 1 ≤ 120) (hk : r = true → x.kids = []) (h : coreB (119 - d + 1) S x = r) : okC S d n x = r := by
  unfold okC
  rw [show 120 - d = 119 - d + 1 from by omega, h]
  cases r with
  | false => rfl
  | true => rw [x.count_eq, hk rfl, countCs, decide_eq_true (by omega)]; rfl
theorem okC_list {S T : List Int} {d n : Nat} {x : Ck} {ks : List Ck} {q : Bool} (hroom : n + 1 ≤ 600 ∧ d + 1 ≤ 120) (hx : x.kids = ks) (h : coreB (119 - d + 1) S x = (q && coreAll (119 - d) T ks)) : okC S d n x = (q && okCs T (d + 1) (n + 1) ks) := by
  unfold okC okCs
  rw [show 120 - d = 119 - d + 1 from by omega, h, show 120 - (d + 1) = 119 - d from by omega, x.count_eq, hx, show n + 1 + countCs ks = n + (countCs ks + 1) from by omega, Bool.and_assoc]
theorem okCs_nil (S : List Int) (d n : Nat) (h : n ≤ 600) : okCs S d n [] = true := by unfold okCs; rw [coreAll, countCs, decide_eq_true (by omega)]; rfl
theorem okCs_cons (S : List Int) (d n : Nat) (x : Ck) (r : List Ck) : okCs S d n (x :: r) = (okC S d n x && okCs S d (n + x.count) r) := by
  unfold okCs okC
  rw [coreAll, countCs, ← Nat.add_assoc, Bool.eq_iff_iff]
  simp only [Bool.and_eq_true, decide_eq_true_eq]
  constructor
  · rintro ⟨⟨h1, h2⟩, h3⟩; exact ⟨⟨h1, by omega⟩, h2, h3⟩
  · rintro ⟨⟨h1, h2⟩, h3, h4⟩; exact ⟨⟨h1, h3⟩, h4⟩
end
end Go.Proofs.Ytbclgmabidjegaa.CoreT
