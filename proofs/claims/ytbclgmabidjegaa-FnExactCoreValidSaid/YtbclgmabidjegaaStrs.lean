/- The first texts of this seat: letters and names, forms as data, sets of scopes, validity, small walks. -/
import Derived.Test.YtbclgmabidjegaaSlim
import Derived.Test.YtbclgmabidjegaaMids
import Derived.Maps.AppendAt
import Derived.Maps.Keyed
import Derived.Maps.Own
import Derived.Test.YtbclgmabidjegaaData
namespace Go.Proofs.Ytbclgmabidjegaa
section
open Go.RowKit
set_option linter.unusedVariables false
set_option linter.unusedSimpArgs false
theorem Try.infoStr : (Try.prog.info? 9).map (fun i => (i.zero, i.size, i.bytes)) = some (some (.string ByteArray.empty), 1, 16) := by kernel_rfl
/-- a list of strings, read -/
def StrRow (w : World) (v : Value) (l : List ByteArray) : Prop :=
  ∃ a cap, v = .slice a l.length cap ∧ l.length ≤ cap ∧ cap ≤ maxLen ∧ (l = [] ∨ ∃ b off, a = some ⟨b, off, none⟩ ∧ ∀ i, (h : i < l.length) → w.cell? ⟨b, off + i, none⟩ = some (.string l[i]))
theorem strRow_of {w : World} {base : Nat} {v : Value} {l : List ByteArray} {e : TypeId} (h : w.ownsRow base e 1 v l.length (l.map Value.string)) : StrRow w v l := by
  rcases h.2 with ⟨rfl, h0⟩ | ⟨g, cap, cur, rfl, hb, hg, hn, hm, hs, hx⟩
  · obtain rfl : l = [] := List.eq_nil_of_length_eq_zero h0
    exact ⟨none, 0, rfl, Nat.le_refl _, by unfold maxLen; omega, .inl rfl⟩
  · refine ⟨_, cap, rfl, hn, hm, .inr ⟨g, 0, rfl, fun i hi => ?_⟩⟩
    have h1 : (cur.toList.take (l.length * 1))[i]? = (l.map Value.string)[i]? := by rw [hx]
    rw [List.getElem?_take_of_lt (by omega), List.getElem?_map, List.getElem?_eq_getElem hi] at h1
    rw [Nat.zero_add, cell_of_row w _ i _ _ _ hg]
    simpa using h1
def inB (l : List ByteArray) (s : ByteArray) : Bool := l.any fun x => x.toList == s.toList
theorem inB_take_succ (l : List ByteArray) (s : ByteArray) (j : Nat) (h : j < l.length) : inB (l.take (j + 1)) s = (inB (l.take j) s || l[j].toList == s.toList) := by
  unfold inB
  rw [List.take_succ_eq_append_getElem h, List.any_append]
  simp
/-- the names of a form, each once -/
def addN (out : List ByteArray) (g : Fm) : List ByteArray := if (g.kind == 1 && !inB out g.name) = true then out ++ [g.name] else out
def namesF (out : List ByteArray) (V : List Fm) : List ByteArray := V.foldl addN out
theorem namesF_append (out : List ByteArray) (V W : List Fm) : namesF out (V ++ W) = namesF (namesF out V) W := List.foldl_append ..
theorem addN_length (out : List ByteArray) (g : Fm) : (addN out g).length ≤ out.length + 1 := by
  unfold addN
  split
  · simp
  · omega
theorem namesF_length : ∀ (V : List Fm) (out : List ByteArray), (namesF out V).length ≤ out.length + V.length
  | [], out => by simp [namesF]
  | g :: V, out => by
    have h1 := addN_length out g
    have h2 := namesF_length V (addN out g)
    unfold namesF at h2 ⊢
    simp only [List.foldl_cons, List.length_cons]
    omega
theorem below_of_grown {base : Nat} {w w' : World} {row : Option Nat} (h : w.grownBy w' row) (hb : base ≤ w.heap.size) (hr : ∀ q, row = some q → base ≤ q) : Below base w w' :=
  ⟨h.os, h.tape, h.output, h.size, fun k hk => h.block k (by omega) (fun e => by have := hr k e.symm; omega)⟩
end
end Go.Proofs.Ytbclgmabidjegaa
namespace Go.Proofs.Ytbclgmabidjegaa
section
open Go.RowKit Go.Maps
set_option linter.unusedVariables false
set_option linter.unusedSimpArgs false
/-- a map that holds these strings -/
def MapS (w : World) (mb : Nat) (m : List ByteArray) : Prop := ∃ es clock, w.heap[mb]? = some (.map es clock) ∧ es.toList.map (fun e => (e.key, e.val)) = m.map (fun s => (Value.string s, Value.bool true))
theorem keyStr (s : ByteArray) (hs : s.size ≤ maxLen) : keyOf Try.prog 9 (.string s) = some (.string s.data.toList) := WideMaps.keyOf_string_mk Try.underlying9 hs
theorem MapS.entry {w : World} {m : List ByteArray} {es : List MapEntry} (he : es.map (fun e => (e.key, e.val)) = m.map (fun s => (Value.string s, Value.bool true))) {e : MapEntry} (h : e ∈ es) : ∃ s ∈ m, e.key = .string s ∧ e.val = .bool true := by
  have h1 : (e.key, e.val) ∈ es.map (fun e => (e.key, e.val)) := List.mem_map.2 ⟨e, h, rfl⟩
  rw [he] at h1
  obtain ⟨s, hs, h2⟩ := List.mem_map.1 h1
  injection h2 with h3 h4
  exact ⟨s, hs, h3.symm, h4.symm⟩
theorem MapS.has {w : World} {m : List ByteArray} {es : List MapEntry} (he : es.map (fun e => (e.key, e.val)) = m.map (fun s => (Value.string s, Value.bool true))) {s : ByteArray} (h : s ∈ m) : ∃ e ∈ es, e.key = .string s := by
  have h1 : (Value.string s, Value.bool true) ∈ m.map (fun s => (Value.string s, Value.bool true)) := List.mem_map.2 ⟨s, h, rfl⟩
  rw [← he] at h1
  obtain ⟨e, h2, h3⟩ := List.mem_map.1 h1
  injection h3 with h4 h5
  exact ⟨e, h2, h4⟩
theorem inB_mem (l : List ByteArray) (s : ByteArray) : inB l s = true ↔ s ∈ l := by
  unfold inB
  rw [List.any_eq_true]
  constructor
  · rintro ⟨x, hx, h⟩
    rw [beq_iff_eq, Lib.toList_data, Lib.toList_data] at h
    rw [← (ByteArray.ext (Array.toList_inj.1 h) : x = s)]
    exact hx
  · intro h
    exact ⟨s, h, by simp⟩
set_option maxRecDepth 10000 in
theorem lookup_str (w : World) (mb : Nat) (m : List ByteArray) (s : ByteArray) (h : MapS w mb m) (hm : ∀ x ∈ m, x.size ≤ maxLen) (hs : s.size ≤ maxLen) :
    (Instr.lookup 118 (.map (some mb)) (.string s) false).run Try.prog w = .ok (.bool (inB m s)) w := by
  obtain ⟨es, clock, hb, he⟩ := h
  have hz : (zeroValue 4).run Try.prog w = .ok (.bool false) w := by kernel_rfl
  have K : Keyed Try.prog 9 := string_keyed Try.underlying9
  have hk := keyStr s hs
  have hck : ∀ em, (Instr.checkKey em 10000 9 (.string s)).run Try.prog w = .ok () w := fun em => K.check w em hk
  rcases K.find w hk es.toList (fun e hm2 => by obtain ⟨x, hx, hkx, _⟩ := MapS.entry (w := w) he hm2; exact ⟨_, by rw [hkx]; exact keyStr x (hm x hx)⟩) with ⟨hf, hno⟩ | ⟨j, e, hf, hj, hkey⟩
  · have hB : inB m s = false := by
      cases hh : inB m s with
      | false => rfl
      | true =>
        obtain ⟨e, h1, h2⟩ := MapS.has (w := w) he ((inB_mem m s).1 hh)
        exact absurd h2 (hno e h1)
    rw [hB]
    simp [Instr.lookup, run_underlying Try.underlying118, Go.MapKept.run_getObj_map hb, hck, hf, hz, Result.andThen]
  · have hmem := List.mem_of_getElem? hj
    obtain ⟨x, hx, hkx, hv⟩ := MapS.entry (w := w) he hmem
    have hB : inB m s = true := by
      have hxs : x = s := Value.string.inj (hkx.symm.trans hkey)
      exact (inB_mem m s).2 (hxs ▸ hx)
    rw [hv] at hf
    rw [hB]
    simp [Instr.lookup, run_underlying Try.underlying118, Go.MapKept.run_getObj_map hb, hck, hf, Result.andThen]
theorem update_str (w : World) (mb : Nat) (m : List ByteArray) (s : ByteArray) (h : MapS w mb m) (hm : ∀ x ∈ m, x.size ≤ maxLen) (hs : s.size ≤ maxLen) (hno : inB m s = false) :
    ∃ w', (Instr.mapUpdate 118 (.map (some mb)) (.string s) (.bool true)).run Try.prog w = .ok () w' ∧
      MapS w' mb (m ++ [s]) ∧ w'.heap.size = w.heap.size ∧ (∀ k, k ≠ mb → w'.heap[k]? = w.heap[k]?) ∧ w'.os = w.os ∧ w'.tape = w.tape ∧ w'.output = w.output := by
  obtain ⟨es, clock, hb, he⟩ := h
  have hlt : mb < w.heap.size := (Array.getElem?_eq_some_iff.1 hb).1
  have K : Keyed Try.prog 9 := string_keyed Try.underlying9
  have hk := keyStr s hs
  have hck : ∀ em, (Instr.checkKey em 10000 9 (.string s)).run Try.prog w = .ok () w := fun em => K.check w em hk
  rcases K.find w hk es.toList (fun e hm2 => by obtain ⟨x, hx, hkx, _⟩ := MapS.entry (w := w) he hm2; exact ⟨_, by rw [hkx]; exact keyStr x (hm x hx)⟩) with ⟨hf, _⟩ | ⟨j, e, hf, hj, hkey⟩
  · refine ⟨{ w with heap := w.heap.setIfInBounds mb (.map (es.push ⟨.string s, .bool true, clock⟩) (clock + 1)) }, by simp [Instr.mapUpdate, run_underlying Try.underlying118, Go.MapKept.run_getObj_map hb, hck, hf, Go.MapKept.run_setObj_map _ hb, Result.andThen],
      ⟨es.push ⟨.string s, .bool true, clock⟩, clock + 1, by simp [hlt], by simp [he]⟩, by simp, fun k hk => by simp [Ne.symm hk], rfl, rfl, rfl⟩
  · exfalso
    obtain ⟨x, hx, hkx, _⟩ := MapS.entry (w := w) he (List.mem_of_getElem? hj)
    rw [hkx] at hkey
    injection hkey with hkey
    rw [(inB_mem m s).2 (hkey ▸ hx)] at hno
    cases hno
end
end Go.Proofs.Ytbclgmabidjegaa
namespace Go.Proofs.Ytbclgmabidjegaa
section
open Go.RowKit
set_option linter.unusedVariables false
set_option linter.unusedSimpArgs false
/-- a list of strings in a block of its own -/
def StrOwn (w : World) (v : Value) (l : List ByteArray) (bs : List Nat) : Prop :=
  ∃ a cap, v = .slice a l.length cap ∧ l.length ≤ cap ∧ cap ≤ maxLen ∧
    ((l = [] ∧ bs = []) ∨ ∃ b off, a = some ⟨b, off, none⟩ ∧ bs = [b] ∧ ∀ i, (h : i < l.length) → w.cell? ⟨b, off + i, none⟩ = some (.string l[i]) ∧ w.frozen? ⟨b, off + i, none⟩ = false)
theorem StrOwn.row {w : World} {v : Value} {l : List ByteArray} {bs : List Nat} (h : StrOwn w v l bs) : StrRow w v l := by
  obtain ⟨a, cap, rfl, h1, h2, h3⟩ := h
  refine ⟨a, cap, rfl, h1, h2, ?_⟩
  rcases h3 with ⟨rfl, _⟩ | ⟨b, off, rfl, _, h4⟩
  · exact .inl rfl
  · exact .inr ⟨b, off, rfl, fun i hi => (h4 i hi).1⟩
theorem StrOwn.later {w w' : World} {v : Value} {l : List ByteArray} {bs : List Nat} (hs : SameOn bs w w') (h : StrOwn w v l bs) : StrOwn w' v l bs := by
  obtain ⟨a, cap, rfl, h1, h2, h3⟩ := h
  refine ⟨a, cap, rfl, h1, h2, ?_⟩
  rcases h3 with h3 | ⟨b, off, rfl, rfl, h4⟩
  · exact .inl h3
  · have hb := hs b (by simp)
    exact .inr ⟨b, off, rfl, rfl, fun i hi => ⟨(World.cell?_of_block (a := ⟨b, off + i, none⟩) hb).trans (h4 i hi).1, (World.frozen?_of_block (a := ⟨b, off + i, none⟩) hb).trans (h4 i hi).2⟩⟩
theorem StrRow.later {w w' : World} {v : Value} {l : List ByteArray} (hb : Below w.heap.size w w') (h : StrRow w v l) : StrRow w' v l := by
  obtain ⟨a, cap, rfl, h1, h2, h3⟩ := h
  refine ⟨a, cap, rfl, h1, h2, ?_⟩
  rcases h3 with h3 | ⟨b, off, rfl, h4⟩
  · exact .inl h3
  · exact .inr ⟨b, off, rfl, fun i hi => cell_later' hb (h4 i hi)⟩
end
end Go.Proofs.Ytbclgmabidjegaa
