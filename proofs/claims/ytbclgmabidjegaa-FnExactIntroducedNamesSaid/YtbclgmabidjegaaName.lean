/- The contracts of the comparison of names, of both sides. -/
import Derived.Test.YtbclgmabidjegaaNameIs
import Derived.Test.YtbclgmabidjegaaImplSame
import Derived.Test.YtbclgmabidjegaaValid
import Derived.Test.YtbclgmabidjegaaData
namespace Go.Proofs.Ytbclgmabidjegaa
open Go.RowKit
set_option linter.unusedVariables false
/-- two names that are the same -/
def sameNameB (f g : Fm) : Bool := isNameB f && sameB f g
set_option maxRecDepth 100000 in
set_option maxHeartbeats 400000 in
theorem implSameName_any (B : Nat) (f g : Fm) (v u : Value) (w : World) (hB : B ≤ w.heap.size) (hv : InV (· < B) w f v) (hu : InV (· < B) w g u) :
    Calls Try.prog 183 #[v, u] w fun e w' => e = .returned (.bool (sameNameB f g)) ∧ Below w.heap.size w w' := by
  have HV := Lib.hid hv
  have HU := Lib.hid hu
  obtain ⟨sa, scap, a, cap, rfl⟩ := hv.form
  obtain ⟨sa', scap', a', cap', rfl⟩ := hu.form
  clear hv hu
  have hA2 : ∀ O O', Below w.heap.size w ((w.alloc O).alloc O') := fun O O' => ((Below.refl _ w).alloc (Nat.le_refl _) _).alloc (by simp) _
  have HA2 := Lib.hid hA2
  clear hA2
  go_enter Try.func183, Try.ntmps183
  go_wp2_with fail
  refine (isName_any B f _ _ (by simp; omega) (InV.later (same_below ((HA2.out _ _).mono hB)) _ _ HV.out)).mono ?_
  rintro e w1 ⟨rfl, hb1⟩
  have hs1 : w.heap.size + 2 ≤ w1.heap.size := by have := hb1.size; simpa using this
  have z0 : ∀ i, w1.cell? ⟨w.heap.size, i, none⟩ = (#[Value.int .i64 f.kind, .string f.name, .int .i64 f.n, .slice sa f.scopes.length scap, .slice a f.kids.length cap])[i]? := fun i =>
    (hb1.cell (p := ⟨w.heap.size, i, none⟩) (by simp; omega)).trans (a2_cell0 _ _ _ _ _)
  have z1 : ∀ i, w1.cell? ⟨w.heap.size + 1, i, none⟩ = (#[Value.int .i64 g.kind, .string g.name, .int .i64 g.n, .slice sa' g.scopes.length scap', .slice a' g.kids.length cap'])[i]? := fun i =>
    (hb1.cell (p := ⟨w.heap.size + 1, i, none⟩) (by simp)).trans (World.cell?_alloc_at _ _ _ _ (by simp))
  have x0 : w1.cell? ⟨w.heap.size, 0, none⟩ = some (.int .i64 f.kind) := z0 0
  have x1 : w1.cell? ⟨w.heap.size, 1, none⟩ = some (.string f.name) := z0 1
  have x2 : w1.cell? ⟨w.heap.size, 2, none⟩ = some (.int .i64 f.n) := z0 2
  have x3 : w1.cell? ⟨w.heap.size, 3, none⟩ = some (.slice sa f.scopes.length scap) := z0 3
  have x4 : w1.cell? ⟨w.heap.size, 4, none⟩ = some (.slice a f.kids.length cap) := z0 4
  have y0 : w1.cell? ⟨w.heap.size + 1, 0, none⟩ = some (.int .i64 g.kind) := z1 0
  have y1 : w1.cell? ⟨w.heap.size + 1, 1, none⟩ = some (.string g.name) := z1 1
  have y2 : w1.cell? ⟨w.heap.size + 1, 2, none⟩ = some (.int .i64 g.n) := z1 2
  have y3 : w1.cell? ⟨w.heap.size + 1, 3, none⟩ = some (.slice sa' g.scopes.length scap') := z1 3
  have y4 : w1.cell? ⟨w.heap.size + 1, 4, none⟩ = some (.slice a' g.kids.length cap') := z1 4
  have HB1 : Hid (Below w.heap.size w w1) := (HA2.out _ _).trans (hb1.mono (by simp; omega))
  clear hb1 z0 z1
  cases hn : isNameB f with
  | false =>
    have HE : Hid (sameNameB f g = false) := by unfold Hid sameNameB; rw [hn]; rfl
    go_wp2_with fail
    go_ret
    exact ⟨ret_bool HE.out.symm, HB1.out⟩
  | true =>
    have hf : formB f = true := by unfold isNameB at hn; simp only [Bool.and_eq_true] at hn; exact hn.2
    have HF := Lib.hid hf
    have HE : Hid (sameNameB f g = sameB f g) := by unfold Hid sameNameB; rw [hn]; rfl
    clear hn hf
    go_wp2_with fail
    refine (implSame_any B f g _ _ _ (by omega) (InV.later (same_below (HB1.out.mono hB)) _ _ HV.out) (InV.later (same_below (HB1.out.mono hB)) _ _ HU.out) (by have := formB_count HF.out; omega) (endlessAt_valid f HF.out B _ _ (by omega) (InV.later (same_below (HB1.out.mono hB)) _ _ HV.out))).mono ?_
    rintro e w2 ⟨rfl, hb2⟩
    have HB2 : Hid (Below w.heap.size w w2) := HB1.out.trans (hb2.mono (by omega))
    clear hb2
    cases hs : sameB f g with
    | false =>
      have HE : Hid (sameNameB f g = false) := HE.out.trans hs
      go_wp2_with fail
      go_ret
      exact ⟨ret_bool HE.out.symm, HB2.out⟩
    | true =>
      have HE : Hid (sameNameB f g = true) := HE.out.trans hs
      go_wp2_with fail
      go_ret
      exact ⟨ret_bool HE.out.symm, HB2.out⟩
theorem bytes_eq {s t : ByteArray} (h : s.data.toList = t.data.toList) : s = t := by
  cases s; cases t
  congr 1
  exact Array.toList_inj.1 h
mutual
theorem sameB_eq : ∀ {f g : Fm}, sameB f g = true → f = g
  | .mk k nm n sc ks, .mk k' nm' n' sc' ks', h => by
    simp only [sameB, Bool.and_eq_true, beq_iff_eq] at h
    obtain ⟨⟨⟨⟨rfl, h2⟩, rfl⟩, rfl⟩, h5⟩ := h
    rw [bytes_eq h2, sameAll_eq h5]
theorem sameAll_eq : ∀ {ks ls : List Fm}, sameAll ks ls = true → ks = ls
  | [], [], _ => rfl
  | f :: r, g :: s, h => by
    simp only [sameAll, Bool.and_eq_true] at h
    rw [sameB_eq h.1, sameAll_eq h.2]
  | [], _ :: _, h => by simp [sameAll] at h
  | _ :: _, [], h => by simp [sameAll] at h
end
theorem sameNameB_spec (f g : Fm) : sameNameB f g = (formB f && (formB g && (f.kind == 1 && sameB f g))) := by
  unfold sameNameB isNameB
  cases hs : sameB f g with
  | false => simp
  | true =>
    obtain rfl := sameB_eq hs
    cases formB f <;> cases f.kind == 1 <;> rfl
end Go.Proofs.Ytbclgmabidjegaa
