/- Core programs as trees: their order, their parts, the way to them. -/
import Derived.Test.YtbclgmabidjegaaCoreData
import Derived.Test.YtbclgmabidjegaaPop
import Derived.Deep.LoopGhost
namespace Go.Proofs.Ytbclgmabidjegaa
open Go.RowKit
set_option linter.unusedVariables false
set_option linter.unusedSimpArgs false
mutual
/-- a core program and those in it, in the order of the text -/
def Ck.pre : Ck → List Ck
  | .mk k id nm n ids d ks => .mk k id nm n ids d ks :: preCs ks
def preCs : List Ck → List Ck
  | [] => []
  | f :: r => f.pre ++ preCs r
end
theorem Ck.pre_eq (f : Ck) : f.pre = f :: preCs f.kids := by cases f; simp [Ck.pre, Ck.kids]
mutual
theorem Ck.pre_length : ∀ f : Ck, f.pre.length = f.count
  | .mk k id nm n ids d ks => by simp only [Ck.pre, Ck.count, List.length_cons, preCs_length ks]
theorem preCs_length : ∀ ks : List Ck, (preCs ks).length = countCs ks
  | [] => rfl
  | f :: r => by simp only [preCs, countCs, List.length_append, Ck.pre_length f, preCs_length r]
end
/-- the nodes of a row -/
def itemsC (b : Nat) : Nat → List Ck → List (Addr × Ck)
  | _, [] => []
  | off, f :: r => (⟨b, off, none⟩, f) :: itemsC b (off + 11) r
theorem itemsC_length (b : Nat) : ∀ (ks : List Ck) (off : Nat), (itemsC b off ks).length = ks.length
  | [], _ => rfl
  | f :: r, off => by simp [itemsC, itemsC_length b r (off + 11)]
def countIC : List (Addr × Ck) → Nat
  | [] => 0
  | x :: r => x.2.count + countIC r
theorem countIC_append (l m : List (Addr × Ck)) : countIC (l ++ m) = countIC l + countIC m := by
  induction l with
  | nil => simp [countIC]
  | cons x r ih => simp only [List.cons_append, countIC, ih]; omega
theorem length_countIC (l : List (Addr × Ck)) : l.length ≤ countIC l := by
  induction l with
  | nil => simp
  | cons x r ih =>
    have := x.2.count_eq
    simp only [List.length_cons, countIC]
    omega
theorem kidsOfCore_any (b o : Nat) (v : Value) (w : World) (hc : w.cell? ⟨b, o + 10, none⟩ = some v) :
    Calls Try.prog 76 #[.pointer (some ⟨b, o, none⟩)] w fun e w' => e = .returned v ∧ w = w' := by
  go_enter Try.func76, Try.ntmps76
  go_wp2_with fail
  go_ret
  exact ⟨rfl, rfl⟩
set_option maxRecDepth 100000 in
set_option maxHeartbeats 400000 in
theorem popCore_any (base pb g cap n : Nat) (xs : List Value) (x : Value) (w : World) (hp : w.cell? ⟨pb, 0, none⟩ = some (.slice (some ⟨g, 0, none⟩) (n + 1) cap)) (hf : w.frozen? ⟨pb, 0, none⟩ = false)
    (hown : w.ownsRow base 112 1 (.slice (some ⟨g, 0, none⟩) (n + 1) cap) (n + 1) (xs ++ [x])) (hx : xs.length = n) (hne : g ≠ pb) (hb : base ≤ pb) (hbw : base ≤ w.heap.size) :
    Calls Try.prog 192 #[.pointer (some ⟨pb, 0, none⟩)] w
      fun e w' => e = .returned x ∧ Popped base 112 1 pb g cap n xs w w' := by
  have hc : w.cell? ⟨g, n, none⟩ = some x := by
    rw [hown.cellAt n (by omega), List.getElem?_append_right (by omega), hx]; simp
  have hcm : n + 1 ≤ cap ∧ cap ≤ maxLen := by
    rcases hown.2 with ⟨h', _⟩ | ⟨g', cap', cur, h', _, _, h1, h2, _⟩
    · simp at h'
    · simp only [Value.slice.injEq, Option.some.injEq, Addr.mk.injEq, and_true, true_and] at h'
      obtain ⟨rfl, rfl⟩ := h'
      exact ⟨h1, h2⟩
  obtain ⟨hcap, hmax⟩ := hcm
  unfold maxLen at hmax
  have HO := Lib.hid (ownsRow_cut hown (by omega))
  have HF := Lib.hid hf
  clear hown hx
  go_enter Try.func192, Try.ntmps192
  go_wp2_with fail
  go_ret
  exact ⟨rfl, popped_set hp HF.out HO.out hne hb⟩
end Go.Proofs.Ytbclgmabidjegaa
