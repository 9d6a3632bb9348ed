/- Maps of type map[string]bool all of whose values are true, as lists of strings. -/
import Derived.Test.YtlgalpdjeojaaaaSpecNames
import Derived.Maps.Keyed
import Derived.Maps.Own
namespace Go.Proofs.Ytlgalpdjeojaaaa
open Go.RowKit Go.Maps
set_option linter.unusedVariables false
set_option linter.unusedSimpArgs false
/-- a map that holds these strings -/
def MapS (w : World) (mb : Nat) (m : List ByteArray) : Prop := ∃ es clock, w.heap[mb]? = some (.map es clock) ∧ es.toList.map (fun e => (e.key, e.val)) = m.map (fun s => (Value.string s, Value.bool true))
theorem keyStr (s : ByteArray) (hs : s.size ≤ maxLen) : keyOf Try.prog 9 (.string s) = some (.string s.data.toList) := WideMaps.keyOf_string_mk Try.underlying9 hs
theorem MapS.entry {w : World} {m : List ByteArray} {es : List MapEntry} (he : es.map (fun e => (e.key, e.val)) = m.map (fun s => (Value.string s, Value.bool true))) {e : MapEntry} (h : e ∈ es) : ∃ s ∈ m, e.key = .string s ∧ e.val = .bool true := by
  have h1 : (e.key, e.val) ∈ es.map (fun e => (e.key, e.val)) := List.mem_map.2 ⟨e, h, rfl⟩
  rw [he] at h1
  obtain ⟨s, hs, h2⟩ := List.mem_map.1 h1
  injection h2 with h3 h4
  exact ⟨s, hs, h3.symm, h4.symm⟩
theorem MapS.has {w : World} {m : List ByteArray} {es : List MapEntry} (he : es.map (fun e => (e.key, e.val)) = m.map (fun s => (Value.string s, Value.bool true))) {s : ByteArray} (h : s ∈ m) : ∃ e ∈ es, e.key = .string s := by
  have h1 : (Value.string s, Value.bool true) ∈ m.map (fun s => (Value.string s, Value.bool true)) := List.mem_map.2 ⟨s, h, rfl⟩
  rw [← he] at h1
  obtain ⟨e, h2, h3⟩ := List.mem_map.1 h1
  injection h3 with h4 h5
  exact ⟨e, h2, h4⟩
theorem inB_mem (l : List ByteArray) (s : ByteArray) : inB l s = true ↔ s ∈ l := by
  unfold inB
  rw [List.any_eq_true]
  constructor
  · rintro ⟨x, hx, h⟩
    rw [beq_iff_eq, Lib.toList_data, Lib.toList_data] at h
    rw [← (ByteArray.ext (Array.toList_inj.1 h) : x = s)]
    exact hx
  · intro h
    exact ⟨s, h, by simp⟩
set_option maxRecDepth 10000 in
theorem lookup_str (w : World) (mb : Nat) (m : List ByteArray) (s : ByteArray) (h : MapS w mb m) (hm : ∀ x ∈ m, x.size ≤ maxLen) (hs : s.size ≤ maxLen) :
    (Instr.lookup 74 (.map (some mb)) (.string s) false).run Try.prog w = .ok (.bool (inB m s)) w := by
  obtain ⟨es, clock, hb, he⟩ := h
  have hz : (zeroValue 4).run Try.prog w = .ok (.bool false) w := by kernel_rfl
  have K : Keyed Try.prog 9 := string_keyed Try.underlying9
  have hk := keyStr s hs
  have hck : ∀ em, (Instr.checkKey em 10000 9 (.string s)).run Try.prog w = .ok () w := fun em => K.check w em hk
  rcases K.find w hk es.toList (fun e hm2 => by obtain ⟨x, hx, hkx, _⟩ := MapS.entry (w := w) he hm2; exact ⟨_, by rw [hkx]; exact keyStr x (hm x hx)⟩) with ⟨hf, hno⟩ | ⟨j, e, hf, hj, hkey⟩
  · have hB : inB m s = false := by
      cases hh : inB m s with
      | false => rfl
      | true =>
        obtain ⟨e, h1, h2⟩ := MapS.has (w := w) he ((inB_mem m s).1 hh)
        exact absurd h2 (hno e h1)
    rw [hB]
    simp [Instr.lookup, run_underlying Try.underlying74, Go.MapKept.run_getObj_map hb, hck, hf, hz, Result.andThen]
  · have hmem := List.mem_of_getElem? hj
    obtain ⟨x, hx, hkx, hv⟩ := MapS.entry (w := w) he hmem
    have hB : inB m s = true := by
      have hxs : x = s := Value.string.inj (hkx.symm.trans hkey)
      exact (inB_mem m s).2 (hxs ▸ hx)
    rw [hv] at hf
    rw [hB]
    simp [Instr.lookup, run_underlying Try.underlying74, Go.MapKept.run_getObj_map hb, hck, hf, Result.andThen]
theorem update_str (w : World) (mb : Nat) (m : List ByteArray) (s : ByteArray) (h : MapS w mb m) (hm : ∀ x ∈ m, x.size ≤ maxLen) (hs : s.size ≤ maxLen) (hno : inB m s = false) :
    ∃ w', (Instr.mapUpdate 74 (.map (some mb)) (.string s) (.bool true)).run Try.prog w = .ok () w' ∧
      MapS w' mb (m ++ [s]) ∧ w'.heap.size = w.heap.size ∧ (∀ k, k ≠ mb → w'.heap[k]? = w.heap[k]?) ∧ w'.os = w.os ∧ w'.tape = w.tape ∧ w'.output = w.output := by
  obtain ⟨es, clock, hb, he⟩ := h
  have hlt : mb < w.heap.size := (Array.getElem?_eq_some_iff.1 hb).1
  have K : Keyed Try.prog 9 := string_keyed Try.underlying9
  have hk := keyStr s hs
  have hck : ∀ em, (Instr.checkKey em 10000 9 (.string s)).run Try.prog w = .ok () w := fun em => K.check w em hk
  rcases K.find w hk es.toList (fun e hm2 => by obtain ⟨x, hx, hkx, _⟩ := MapS.entry (w := w) he hm2; exact ⟨_, by rw [hkx]; exact keyStr x (hm x hx)⟩) with ⟨hf, _⟩ | ⟨j, e, hf, hj, hkey⟩
  · refine ⟨{ w with heap := w.heap.setIfInBounds mb (.map (es.push ⟨.string s, .bool true, clock⟩) (clock + 1)) }, by simp [Instr.mapUpdate, run_underlying Try.underlying74, Go.MapKept.run_getObj_map hb, hck, hf, Go.MapKept.run_setObj_map _ hb, Result.andThen],
      ⟨es.push ⟨.string s, .bool true, clock⟩, clock + 1, by simp [hlt], by simp [he]⟩, by simp, fun k hk => by simp [Ne.symm hk], rfl, rfl, rfl⟩
  · exfalso
    obtain ⟨x, hx, hkx, _⟩ := MapS.entry (w := w) he (List.mem_of_getElem? hj)
    rw [hkx] at hkey
    injection hkey with hkey
    rw [(inB_mem m s).2 (hkey ▸ hx)] at hno
    cases hno
end Go.Proofs.Ytlgalpdjeojaaaa
