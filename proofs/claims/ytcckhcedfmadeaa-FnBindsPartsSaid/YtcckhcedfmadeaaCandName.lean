/- The map of a list's bindings by name: its outer and its inner maps. -/
import Derived.Test.YtcckhcedfmadeaaCandMap
import Derived.Test.YtcckhcedfmadeaaStrs
namespace Go.Proofs.Ytcckhcedfmadeaa
open Go.RowKit Go.Maps Go.ChangeMaps Go.MapKept
set_option linter.unusedVariables false
set_option linter.unusedSimpArgs false
/-- block 'ob' is a map from these names to these maps -/
def MapN (w : World) (ob : Nat) (m : List (ByteArray × Nat)) : Prop := ∃ es clock, w.heap[ob]? = some (.map es clock) ∧ es.toList.map (fun e => (e.key, e.val)) = m.map (fun p => (Value.string p.1, Value.map (some p.2)))
theorem MapN.same {w w' : World} {ob : Nat} {m : List (ByteArray × Nat)} (h : MapN w ob m) (hs : w'.heap[ob]? = w.heap[ob]?) : MapN w' ob m := by
  obtain ⟨es, clock, h1, h2⟩ := h
  exact ⟨es, clock, hs.trans h1, h2⟩
theorem MapN.lt {w : World} {ob : Nat} {m : List (ByteArray × Nat)} (h : MapN w ob m) : ob < w.heap.size := by
  obtain ⟨es, clock, h1, h2⟩ := h
  exact (Array.getElem?_eq_some_iff.1 h1).1
theorem MapN.made (w : World) : MapN (w.alloc (.map #[] 0)) w.heap.size [] := ⟨#[], 0, heap_alloc_new w _, rfl⟩
theorem MapN.entry {m : List (ByteArray × Nat)} {es : List MapEntry} (he : es.map (fun e => (e.key, e.val)) = m.map (fun p => (Value.string p.1, Value.map (some p.2)))) {e : MapEntry} (h : e ∈ es) : ∃ p ∈ m, e.key = .string p.1 ∧ e.val = .map (some p.2) := by
  have h1 : (e.key, e.val) ∈ es.map (fun e => (e.key, e.val)) := List.mem_map.2 ⟨e, h, rfl⟩
  rw [he] at h1
  obtain ⟨p, hp, h2⟩ := List.mem_map.1 h1
  injection h2 with h3 h4
  exact ⟨p, hp, h3.symm, h4.symm⟩
theorem MapN.has {m : List (ByteArray × Nat)} {es : List MapEntry} (he : es.map (fun e => (e.key, e.val)) = m.map (fun p => (Value.string p.1, Value.map (some p.2)))) {p : ByteArray × Nat} (h : p ∈ m) : ∃ e ∈ es, e.key = .string p.1 := by
  have h1 : (Value.string p.1, Value.map (some p.2)) ∈ m.map (fun p => (Value.string p.1, Value.map (some p.2))) := List.mem_map.2 ⟨p, h, rfl⟩
  rw [← he] at h1
  obtain ⟨e, h2, h3⟩ := List.mem_map.1 h1
  injection h3 with h4 h5
  exact ⟨e, h2, h4⟩
/-- the inner map of a name: what a look into the outer one gives -/
def lookN (m : List (ByteArray × Nat)) (s : ByteArray) (r : Option Nat) : Prop := match r with
  | some ib => (s, ib) ∈ m
  | none => ∀ ib, (s, ib) ∉ m
set_option maxRecDepth 10000 in
theorem lookup_name (w : World) (ob : Nat) (m : List (ByteArray × Nat)) (s : ByteArray) (h : MapN w ob m) (hm : ∀ x ∈ m, x.1.size ≤ maxLen) (hs : s.size ≤ maxLen) :
    ∃ r, lookN m s r ∧ (Instr.lookup 84 (.map (some ob)) (.string s) false).run Try.prog w = .ok (.map r) w := by
  obtain ⟨es, clock, hb, he⟩ := h
  have hz : (zeroValue 132).run Try.prog w = .ok (.map none) w := by kernel_rfl
  have K : Keyed Try.prog 9 := string_keyed Try.underlying9
  have hk := keyStr s hs
  have hck : ∀ em, (Instr.checkKey em 10000 9 (.string s)).run Try.prog w = .ok () w := fun em => K.check w em hk
  rcases K.find w hk es.toList (fun e hm2 => by obtain ⟨x, hx, hkx, _⟩ := MapN.entry he hm2; exact ⟨_, by rw [hkx]; exact keyStr x.1 (hm x hx)⟩) with ⟨hf, hno⟩ | ⟨j, e, hf, hj, hkey⟩
  · refine ⟨none, fun ib hib => ?_, by simp [Instr.lookup, run_underlying Try.underlying84, Go.MapKept.run_getObj_map hb, hck, hf, hz, Result.andThen]⟩
    obtain ⟨e, h1, h2⟩ := MapN.has he hib
    exact hno e h1 h2
  · obtain ⟨x, hx, hkx, hv⟩ := MapN.entry he (List.mem_of_getElem? hj)
    have hxs : x.1 = s := Value.string.inj (hkx.symm.trans hkey)
    rw [hv] at hf
    refine ⟨some x.2, by show (s, x.2) ∈ m; rw [← hxs]; exact hx, by simp [Instr.lookup, run_underlying Try.underlying84, Go.MapKept.run_getObj_map hb, hck, hf, Result.andThen]⟩
theorem update_name (w : World) (ob ib : Nat) (m : List (ByteArray × Nat)) (s : ByteArray) (h : MapN w ob m) (hm : ∀ x ∈ m, x.1.size ≤ maxLen) (hs : s.size ≤ maxLen) (hno : ∀ ib, (s, ib) ∉ m) :
    ∃ w', (Instr.mapUpdate 84 (.map (some ob)) (.string s) (.map (some ib))).run Try.prog w = .ok () w' ∧
      MapN w' ob (m ++ [(s, ib)]) ∧ w'.heap.size = w.heap.size ∧ (∀ k, k ≠ ob → w'.heap[k]? = w.heap[k]?) ∧ w'.os = w.os ∧ w'.tape = w.tape ∧ w'.output = w.output := by
  obtain ⟨es, clock, hb, he⟩ := h
  have hlt : ob < w.heap.size := (Array.getElem?_eq_some_iff.1 hb).1
  have K : Keyed Try.prog 9 := string_keyed Try.underlying9
  have hk := keyStr s hs
  have hck : ∀ em, (Instr.checkKey em 10000 9 (.string s)).run Try.prog w = .ok () w := fun em => K.check w em hk
  rcases K.find w hk es.toList (fun e hm2 => by obtain ⟨x, hx, hkx, _⟩ := MapN.entry he hm2; exact ⟨_, by rw [hkx]; exact keyStr x.1 (hm x hx)⟩) with ⟨hf, _⟩ | ⟨j, e, hf, hj, hkey⟩
  · refine ⟨{ w with heap := w.heap.setIfInBounds ob (.map (es.push ⟨.string s, .map (some ib), clock⟩) (clock + 1)) }, by simp [Instr.mapUpdate, run_underlying Try.underlying84, Go.MapKept.run_getObj_map hb, hck, hf, Go.MapKept.run_setObj_map _ hb, Result.andThen],
      ⟨es.push ⟨.string s, .map (some ib), clock⟩, clock + 1, by simp [hlt], by simp [he]⟩, by simp, fun k hk => by simp [Ne.symm hk], rfl, rfl, rfl⟩
  · exfalso
    obtain ⟨x, hx, hkx, _⟩ := MapN.entry he (List.mem_of_getElem? hj)
    have hxs : x.1 = s := Value.string.inj (hkx.symm.trans hkey)
    exact hno x.2 (by rw [← hxs]; exact hx)
theorem keyInt (n : Nat) (hn : n ≤ 1048576) : keyOf Try.prog 3 (.int .i64 (n : Int)) = some (.int .i64 n) := keyOf_int_mk Try.underlying3 (WalkArith.wf_i64 (by omega))
theorem update_cand (w : World) (ib : Nat) (l : List (Nat × Value)) (n : Nat) (v : Value) (h : CandIn w ib l) (hl : ∀ p ∈ l, p.1 < n) (hn : n ≤ 1048576) :
    ∃ w', (Instr.mapUpdate 132 (.map (some ib)) (.int .i64 (n : Int)) v).run Try.prog w = .ok () w' ∧
      CandIn w' ib (l ++ [(n, v)]) ∧ w'.heap.size = w.heap.size ∧ (∀ k, k ≠ ib → w'.heap[k]? = w.heap[k]?) ∧ w'.os = w.os ∧ w'.tape = w.tape ∧ w'.output = w.output := by
  obtain ⟨es, clock, hb, he⟩ := h
  have hlt : ib < w.heap.size := (Array.getElem?_eq_some_iff.1 hb).1
  have K : Keyed Try.prog 3 := int_keyed Try.underlying3
  have hk := keyInt n hn
  have hck : ∀ em, (Instr.checkKey em 10000 3 (.int .i64 (n : Int))).run Try.prog w = .ok () w := fun em => K.check w em hk
  rcases K.find w hk es.toList (fun e hm2 => by obtain ⟨x, hx, hkx, _⟩ := he.pair hm2; exact ⟨_, by rw [hkx]; exact keyInt x.1 (by have := hl x hx; omega)⟩) with ⟨hf, _⟩ | ⟨j, e, hf, hj, hkey⟩
  · refine ⟨{ w with heap := w.heap.setIfInBounds ib (.map (es.push ⟨.int .i64 n, v, clock⟩) (clock + 1)) }, by simp [Instr.mapUpdate, run_underlying Try.underlying132, Go.MapKept.run_getObj_map hb, hck, hf, Go.MapKept.run_setObj_map _ hb, Result.andThen],
      ⟨es.push ⟨.int .i64 n, v, clock⟩, clock + 1, by simp [hlt], by simp [he.1], fun e hm2 => ?_, ?_⟩, by simp, fun k hk => by simp [Ne.symm hk], rfl, rfl, rfl⟩
    · rw [Array.toList_push, List.mem_append, List.mem_singleton] at hm2
      rcases hm2 with hm2 | rfl
      · have := he.2.1 e hm2; omega
      · exact Nat.lt_succ_self _
    · rw [Array.toList_push, List.map_append, List.nodup_append]
      refine ⟨he.2.2, by simp, fun b hb1 c hc => ?_⟩
      obtain ⟨e, he1, rfl⟩ := List.mem_map.1 hb1
      simp only [List.map_cons, List.map_nil, List.mem_singleton] at hc
      have := he.2.1 e he1
      omega
  · exfalso
    obtain ⟨x, hx, hkx, _⟩ := he.pair (List.mem_of_getElem? hj)
    have h1 : (Value.int .i64 (x.1 : Int)) = .int .i64 (n : Int) := hkx.symm.trans hkey
    injection h1 with _ h1
    have := hl x hx
    omega
end Go.Proofs.Ytcckhcedfmadeaa
