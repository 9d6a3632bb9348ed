/- A variable that a law's loop changes; scopes dropped one by one. -/
import Derived.Test.YtmakaoomdnlebaaLwSets
namespace Go.Proofs.Ytmakaoomdnlebaa
open Go.RowKit
set_option linter.unusedVariables false
set_option linter.unusedSimpArgs false
/-- the form in a variable that was made last, and what lies below it -/
structure YAt (W0 wr : World) (Y : Fm) (y0 : Option Addr) (y1 : Nat) (y2 : Option Addr) (y3 : Nat) : Prop where
  below : Below W0.heap.size W0 wr
  box : FormBox wr W0.heap.size Y y0 y1 y2 y3
  free : ∀ i, wr.frozen? ⟨W0.heap.size, i, none⟩ = false
  inv : InV (fun k => k < wr.heap.size ∧ k ≠ W0.heap.size) wr Y (.agg #[.int .i64 Y.kind, .string Y.name, .int .i64 Y.n, .slice y0 Y.scopes.length y1, .slice y2 Y.kids.length y3])
theorem YAt.start {W0 : World} {f : Fm} {f0 : Option Addr} {f1 : Nat} {f2 : Option Addr} {f3 : Nat} (h : InV (· < W0.heap.size) W0 f (.agg #[.int .i64 f.kind, .string f.name, .int .i64 f.n, .slice f0 f.scopes.length f1, .slice f2 f.kids.length f3])) (T : TypeId) :
    YAt W0 (W0.alloc (.cells #[.int .i64 f.kind, .string f.name, .int .i64 f.n, .slice f0 f.scopes.length f1, .slice f2 f.kids.length f3] T)) f f0 f1 f2 f3 := by
  have hb := below_alloc W0 (.cells #[.int .i64 f.kind, .string f.name, .int .i64 f.n, .slice f0 f.scopes.length f1, .slice f2 f.kids.length f3] T)
  exact ⟨hb, FormBox.fresh W0 f f0 f2 f1 f3 T, fun i => World.frozen?_alloc_at _ _ _ _ rfl, InV.mono (fun k (hk : k < W0.heap.size) => ⟨by rw [size_alloc']; omega, by omega⟩) _ _ (InV.later (same_below hb) _ _ h)⟩
theorem YAt.later {W0 wr w1 : World} {Y : Fm} {y0 : Option Addr} {y1 : Nat} {y2 : Option Addr} {y3 : Nat} (h : YAt W0 wr Y y0 y1 y2 y3) (hb : Below wr.heap.size wr w1) : YAt W0 w1 Y y0 y1 y2 y3 :=
  ⟨h.below.trans (hb.mono h.below.size), h.box.later hb, fun i => (hb.frozen (p := ⟨W0.heap.size, i, none⟩) h.box.lt).trans (h.free i), InV.mono (fun k hk => ⟨Nat.lt_of_lt_of_le hk.1 hb.size, hk.2⟩) _ _ (InV.later (Same.of_below hb fun k hk => hk.1) _ _ h.inv)⟩
theorem YAt.set {W0 wr : World} {Y Q : Fm} {y0 q0 : Option Addr} {y1 q1 : Nat} {y2 q2 : Option Addr} {y3 q3 : Nat} (h : YAt W0 wr Y y0 y1 y2 y3) (hin : InV (fun k => k < wr.heap.size ∧ k ≠ W0.heap.size) wr Q (.agg #[.int .i64 Q.kind, .string Q.name, .int .i64 Q.n, .slice q0 Q.scopes.length q1, .slice q2 Q.kids.length q3])) :
    YAt W0 (set5 wr W0.heap.size 0 (.int .i64 Q.kind) (.string Q.name) (.int .i64 Q.n) (.slice q0 Q.scopes.length q1) (.slice q2 Q.kids.length q3)) Q q0 q1 q2 q3 := by
  obtain ⟨b0, b1, b2, b3, b4⟩ := h.box
  have hz := set5_size wr W0.heap.size 0 (.int .i64 Q.kind) (.string Q.name) (.int .i64 Q.n) (.slice q0 Q.scopes.length q1) (.slice q2 Q.kids.length q3)
  refine ⟨set5_below h.below (b := W0.heap.size) (Nat.le_refl _) 0 _ _ _ _ _, set5_in wr W0.heap.size 0 _ _ _ _ _ (fun j hj => ?_), fun i => ?_, InV.mono (fun k hk => ⟨by rw [hz]; exact hk.1, hk.2⟩) _ _ (InV.later (fun k hk => set5_block _ _ _ _ _ _ _ _ hk.2) _ _ hin)⟩
  · rw [Nat.zero_add]
    match j, hj with
    | 0, _ => exact ⟨_, b0⟩
    | 1, _ => exact ⟨_, b1⟩
    | 2, _ => exact ⟨_, b2⟩
    | 3, _ => exact ⟨_, b3⟩
    | 4, _ => exact ⟨_, b4⟩
  · rw [set5_frozen]; exact h.free i
theorem row_at {φ : Nat → Prop} {w : World} {pa : Option Addr} {ca : Nat} {l : List Int} (h : IntRow φ w (.slice pa l.length ca) l) (j : Nat) (hj : j < l.length) :
    ∃ b off, pa = some ⟨b, off, none⟩ ∧ φ b ∧ l.length ≤ ca ∧ w.cell? ⟨b, off + j, none⟩ = some (.int .i64 l[j]) := by
  obtain ⟨a, cap, e, h1, h2, h3, h4⟩ := h
  injection e with e1 e2 e3
  subst e1 e3
  rcases h4 with h4 | ⟨b, off, e, hb, hc⟩
  · rw [h4] at hj; simp at hj
  · exact ⟨b, off, e, hb, h1, hc j hj⟩
/-- all scopes of a list dropped, one by one -/
def dropsF (ns : List Int) (f : Fm) : Fm := ns.foldl (fun g n => afterF 2 n g) f
def cutsL (ns : List Int) (k : Int) (sc : List Int) : List Int := ns.foldl (fun s n => chgW 2 n k s) sc
theorem drops_chg : ∀ (ns : List Int) (f : Fm), formB f = true → (∀ n ∈ ns, 1 ≤ n ∧ n ≤ 99) → dropsF ns f = f.chg (cutsL ns) ∧ formB (dropsF ns f) = true
  | [], f, hf, _ => ⟨(chg_id f).symm, hf⟩
  | n :: ns, f, hf, hn => by
    have hok := drop_ok hf (hn n (by simp))
    have hv := after_valid hok rfl
    obtain ⟨h1, h2⟩ := drops_chg ns (afterF 2 n f) hv.2.2 fun m hm => hn m (by simp [hm])
    refine ⟨?_, h2⟩
    show dropsF ns (afterF 2 n f) = _
    rw [h1, afterF_ok hok, chg_chg]
    rfl
theorem drops_succ (ns : List Int) (f : Fm) (j : Nat) (hj : j < ns.length) : dropsF (ns.take (j + 1)) f = afterF 2 ns[j] (dropsF (ns.take j) f) := by
  unfold dropsF
  rw [List.take_succ_eq_append_getElem hj, List.foldl_append]; rfl
theorem mem_cuts : ∀ (ns sc : List Int) (x : Int), x ∈ cutsL ns 1 sc ↔ x ∈ sc ∧ x ∉ ns
  | [], sc, x => by simp [cutsL]
  | n :: ns, sc, x => by
    show x ∈ cutsL ns 1 (chgW 2 n 1 sc) ↔ _
    rw [mem_cuts ns, mem_drop]
    simp [and_assoc]
theorem cuts_nil (k : Int) : ∀ ns : List Int, cutsL ns k [] = []
  | [] => rfl
  | n :: ns => by
    show cutsL ns k (chgW 2 n k []) = []
    have e : chgW 2 n k [] = [] := by unfold chgW; split <;> simp
    rw [e]; exact cuts_nil k ns
theorem scopesOf_bounds {f : Fm} (h : formB f = true) : ∀ n ∈ scopesOf f, 1 ≤ n ∧ n ≤ 99 := fun n hn => by
  obtain ⟨g, hg, hx⟩ := (mem_scopesOf h n).1 hn
  exact scopesB_mem (valid_pre h hg).1 n hx
/-- a form whose scopes are all dropped is the form without scopes -/
theorem drops_all {f : Fm} (h : formB f = true) : dropsF (scopesOf f) f = f.chg fun _ _ => [] := by
  rw [(drops_chg _ f h (scopesOf_bounds h)).1]
  refine chg_on f fun g hg => ?_
  by_cases hk : g.kind = 1
  · rw [hk]
    refine List.eq_nil_iff_forall_not_mem.2 fun x hx => ?_
    obtain ⟨h1, h2⟩ := (mem_cuts _ _ _).1 hx
    exact h2 ((mem_scopesOf h x).2 ⟨g, hg, h1⟩)
  · rw [(valid_pre h hg).2 hk, cuts_nil]
end Go.Proofs.Ytmakaoomdnlebaa
