/- The first texts of this seat: letters and names, forms as data, sets of scopes, validity, small walks. -/
import Derived.Test.YtbclgmabidjegaaData
import Derived.Sort.Row
import Derived.Test.YtbclgmabidjegaaMids
import Derived.Laws.CopyOwn
namespace Go.Proofs.Ytbclgmabidjegaa
section
section
open Go.RowKit
set_option linter.unusedVariables false
set_option linter.unusedSimpArgs false
theorem setCell_comm (w : World) (a b : Nat) (i j : Nat) (u v : Value) (h : a ≠ b) : (w.setCell ⟨a, i, none⟩ u).setCell ⟨b, j, none⟩ v = (w.setCell ⟨b, j, none⟩ v).setCell ⟨a, i, none⟩ u := by
  rw [Sort.setCell_eq, Sort.setCell_eq, Sort.setCell_eq, Sort.setCell_eq]
  unfold Sort.mapBlock
  congr 1
  apply Array.ext_getElem?
  intro k
  simp only [Array.getElem?_modify]
  by_cases hb : b = k
  · subst hb
    simp [h]
  · by_cases ha : a = k
    · simp [ha, hb]
    · simp [ha, hb]
theorem set5_setCell (w : World) (g o pb : Nat) (c0 c1 c2 c3 c4 v : Value) (h : g ≠ pb) : set5 (w.setCell ⟨pb, 0, none⟩ v) g o c0 c1 c2 c3 c4 = (set5 w g o c0 c1 c2 c3 c4).setCell ⟨pb, 0, none⟩ v := by
  unfold set5
  rw [setCell_comm w pb g _ _ _ _ (Ne.symm h), setCell_comm _ pb g _ _ _ _ (Ne.symm h), setCell_comm _ pb g _ _ _ _ (Ne.symm h), setCell_comm _ pb g _ _ _ _ (Ne.symm h), setCell_comm _ pb g _ _ _ _ (Ne.symm h)]
theorem set5_world (w : World) (g o pb : Nat) (c0 c1 c2 c3 c4 v : Value) : ((set5 w g o c0 c1 c2 c3 c4).setCell ⟨pb, 0, none⟩ v).os = w.os ∧ ((set5 w g o c0 c1 c2 c3 c4).setCell ⟨pb, 0, none⟩ v).tape = w.tape ∧ ((set5 w g o c0 c1 c2 c3 c4).setCell ⟨pb, 0, none⟩ v).output = w.output ∧
    ((set5 w g o c0 c1 c2 c3 c4).setCell ⟨pb, 0, none⟩ v).heap.size = w.heap.size := by
  refine ⟨?_, ?_, ?_, ?_⟩
  · simp only [set5, World.setCell]
  · simp only [set5, World.setCell]
  · simp only [set5, World.setCell]
  · simp [set5, World.setCell]
theorem set5_list (xs : List Value) (n : Nat) (hx : xs.length = n) (z0 z1 z2 z3 z4 u0 u1 u2 u3 u4 : Value) :
    (((((xs ++ [z0, z1, z2, z3, z4]).set n u0).set (n + 1) u1).set (n + 2) u2).set (n + 3) u3).set (n + 4) u4 = xs ++ [u0, u1, u2, u3, u4] := by
  subst hx
  simp
theorem ownsRow_set5v {w : World} {base g cap n : Nat} {e : TypeId} {xs : List Value} {z0 z1 z2 z3 z4 : Value} (u0 u1 u2 u3 u4 : Value) (hx : xs.length = n * 5)
    (h : w.ownsRow base e 5 (.slice (some ⟨g, 0, none⟩) (n + 1) cap) (n + 1) (xs ++ [z0, z1, z2, z3, z4])) :
    (set5 w g (n * 5) u0 u1 u2 u3 u4).ownsRow base e 5 (.slice (some ⟨g, 0, none⟩) (n + 1) cap) (n + 1) (xs ++ [u0, u1, u2, u3, u4]) := by
  have h1 := ((((h.stored (n * 5) u0).1.stored (n * 5 + 1) u1).1.stored (n * 5 + 2) u2).1.stored (n * 5 + 3) u3).1.stored (n * 5 + 4) u4
  rw [set5_list _ _ hx] at h1
  exact h1.1
end
end
end Go.Proofs.Ytbclgmabidjegaa
namespace Go.Proofs.Ytbclgmabidjegaa
section
open Go.RowKit
set_option linter.unusedVariables false
set_option linter.unusedSimpArgs false
/-- copying elements of more than one cell -/
theorem run_copy_many {P : Program} (w : World) (dT sT ty elem : TypeId) (g o dLen dCap : Nat) (sp : Option Addr) (sLen sCap m : Nat) (cur : List Value) (t : TypeId) (cs : List Value)
    (hu : P.underlying dT = some (.slice elem)) (hs : (P.info? elem).map (·.size) = some m)
    (hg : w.heap[g]? = some (.cells cur.toArray t (0, 0))) (hn : cs.length = Nat.min sLen dLen * m)
    (hsrc : 0 < cs.length → ∃ ad, sp = some ad ∧ ∀ j v, cs[j]? = some v → w.cell? (ad.add j) = some v) (hfit : o + cs.length ≤ cur.length) (h1 : ∀ v ∈ cs, v.oneCell' = true) (hsp : sp = none → sLen = 0) :
    (Builtin.copy_ #[dT, sT] ty #[.slice (some ⟨g, o, none⟩) dLen dCap, .slice sp sLen sCap]).run P w = .ok (goInt (Nat.min sLen dLen)) (w.setRow g (splice cur o cs).toArray) := by
  have hst := run_storeCells_at P g o t cs 0 cur.toArray w hg (by simpa using hfit) h1
  have hst2 : (storeCells ⟨g, o, none⟩ cs 0).run P w = .ok () (w.setRow g (splice cur o cs).toArray) := by
    rw [hst]
    simp [splice]
  cases hq : P.info? elem with
  | none => simp [hq] at hs
  | some i =>
    have hi : i.size = m := by simpa [hq] using hs
    by_cases h0 : cs.length = 0
    · obtain rfl : cs = [] := List.eq_nil_of_length_eq_zero h0
      have hz : Nat.min sLen dLen * m = 0 := by simpa using hn.symm
      have hz2 : m * Nat.min sLen dLen = 0 := by rw [Nat.mul_comm]; exact hz
      cases sp with
      | none =>
        have := hsp rfl
        subst this
        simp [Builtin.copy_, run_underlying hu, Builtin.lenOf, Builtin.firstCells, sizeOf, typeInfo, hq, hi, hst2]
      | some ad => simp [Builtin.copy_, run_underlying hu, Builtin.lenOf, Builtin.firstCells, sizeOf, typeInfo, hq, hi, hz, hz2, loadCells, loadCellsFrom, hst2]
    · obtain ⟨ad, rfl, hsrc2⟩ := hsrc (by omega)
      have hl := run_loadCells_list (P := P) w ad cs hsrc2
      rw [hn] at hl
      have hl2 := hl
      rw [Nat.mul_comm] at hl2
      simp [Builtin.copy_, run_underlying hu, Builtin.lenOf, Builtin.firstCells, sizeOf, typeInfo, hq, hi, hl, hl2, hst2]
theorem wpList_copy_many {P : Program} {w : World} {ops : Array Oper} {rest : List Oper} {o : Oper} {a : Act} {Q : Exit → Act → World → Prop} (hgd : o.guard = none) (d s : Operand) (dT sT : TypeId)
    (ho : o.op = .call { callee := .builtin .copy, args := #[d, s], argTypes := #[dT, sT] }) (elem : TypeId) (hu : P.underlying dT = some (.slice elem)) (m : Nat) (hsz : (P.info? elem).map (·.size) = some m)
    (sp : Option Addr) (dLen dCap sLen sCap g off : Nat) (hd : a.eval d = .slice (some ⟨g, off, none⟩) dLen dCap) (hs : a.eval s = .slice sp sLen sCap)
    (cur : List Value) (t : TypeId) (hg : w.heap[g]? = some (.cells cur.toArray t (0, 0))) (cs : List Value) (hn : cs.length = Nat.min sLen dLen * m)
    (hsrc : 0 < cs.length → ∃ ad, sp = some ad ∧ ∀ j v, cs[j]? = some v → w.cell? (ad.add j) = some v) (hfit : off + cs.length ≤ cur.length) (h1 : ∀ v ∈ cs, v.oneCell' = true) (hsp : sp = none → sLen = 0)
    (B : Nat) (w0 : World) (hb : Below B w0 w) (hBg : B ≤ g)
    (h : ∀ w', Hid (w'.heap[g]? = some (.cells (splice cur off cs).toArray t (0, 0))) → Below B w0 w' → wpList P ops Q rest (a.put o.dst (goInt (Nat.min sLen dLen))) w') :
    wpList P ops Q (o :: rest) a w := by
  refine wpList_plain hgd fun K hK => ?_
  have hrun := run_copy_many (P := P) w dT sT o.type elem g off dLen dCap sp sLen sCap m cur t cs hu hsz hg hn hsrc hfit h1 hsp
  unfold Oper.wp
  simp [execOp, ho, resolve, invoke, builtin, hd, hs, hrun, Result.andThen]
  exact hK _ _ (h _ (show _ = _ from setRow_heap w g _ _ t _ hg) (below_setRow hb hBg _))
end
end Go.Proofs.Ytbclgmabidjegaa
