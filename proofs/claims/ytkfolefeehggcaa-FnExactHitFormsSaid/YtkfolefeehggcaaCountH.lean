/- How many nodes hits have. -/
import Derived.Test.YtkfolefeehggcaaHitKit
namespace Go.Proofs.Ytkfolefeehggcaa
set_option linter.unusedVariables false
mutual
/-- how many nodes -/
def Ht.count : Ht → Nat
  | .mk _ _ _ ks => countHs ks + 1
def countHs : List Ht → Nat
  | [] => 0
  | x :: r => x.count + countHs r
end
theorem Ht.count_eq (x : Ht) : x.count = countHs x.many + 1 := by cases x; simp only [Ht.count, Ht.many]
theorem length_countHs (l : List Ht) : l.length ≤ countHs l := by
  induction l with
  | nil => simp [countHs]
  | cons x r ih => have := x.count_eq; simp only [List.length_cons, countHs]; omega
theorem Ht.sz_eq (x : Ht) : x.sz = x.name.sz + x.one.sz + szHs x.many := by cases x; simp only [Ht.sz, Ht.name, Ht.one, Ht.many]
mutual
theorem Ht.count_le : ∀ x : Ht, x.count ≤ x.sz + 1
  | .mk _ _ _ ks => by have := countHs_le ks; unfold Ht.count Ht.sz; omega
theorem countHs_le : ∀ l : List Ht, countHs l ≤ szHs l
  | [] => by simp [countHs, szHs]
  | x :: r => by have := Ht.count_le x; have := countHs_le r; unfold countHs szHs; omega
end
theorem szHs_get (l : List Ht) (i : Nat) (h : i < l.length) : l[i].sz + 1 ≤ szHs l := by
  have g1 := szHin_take_succ l i h
  have g2 := szHin_take_le l (i + 1)
  have g3 := szHs_length l
  have g4 : szHs l = l.length + szHin l := by unfold szHin; omega
  omega
theorem InH.many {φ : Nat → Prop} {w : World} {x : Ht} {s1 : Option Addr} {t1 : Nat} {k1 : Option Addr} {l1 : Nat} {s2 : Option Addr} {t2 : Nat} {k2 : Option Addr} {l2 : Nat} {a : Option Addr} {cap : Nat} (h : InH φ w x (.agg #[.int .i64 x.name.kind, .string x.name.name, .int .i64 x.name.n, .slice s1 x.name.scopes.length t1, .slice k1 x.name.kids.length l1, .int .i64 x.depth, .int .i64 x.one.kind, .string x.one.name, .int .i64 x.one.n, .slice s2 x.one.scopes.length t2, .slice k2 x.one.kids.length l2, .slice a x.many.length cap])) : HitsIn φ w a cap x.many := by
  obtain ⟨_, _, _, _, _, _, _, _, a', cap', e, _, _, _, hk⟩ := h.form
  injection e with e
  injection e with e
  simp only [List.cons.injEq, and_true, Value.slice.injEq, true_and] at e
  obtain ⟨_, _, _, _, e1, e2⟩ := e
  subst e1 e2
  exact hk
theorem InH.nameOne {φ : Nat → Prop} {w : World} {x : Ht} {s1 : Option Addr} {t1 : Nat} {k1 : Option Addr} {l1 : Nat} {s2 : Option Addr} {t2 : Nat} {k2 : Option Addr} {l2 : Nat} {a : Option Addr} {cap : Nat} (h : InH φ w x (.agg #[.int .i64 x.name.kind, .string x.name.name, .int .i64 x.name.n, .slice s1 x.name.scopes.length t1, .slice k1 x.name.kids.length l1, .int .i64 x.depth, .int .i64 x.one.kind, .string x.one.name, .int .i64 x.one.n, .slice s2 x.one.scopes.length t2, .slice k2 x.one.kids.length l2, .slice a x.many.length cap])) : InV φ w x.name (.agg #[.int .i64 x.name.kind, .string x.name.name, .int .i64 x.name.n, .slice s1 x.name.scopes.length t1, .slice k1 x.name.kids.length l1]) ∧ InV φ w x.one (.agg #[.int .i64 x.one.kind, .string x.one.name, .int .i64 x.one.n, .slice s2 x.one.scopes.length t2, .slice k2 x.one.kids.length l2]) := by
  obtain ⟨_, _, _, _, _, _, _, _, a', cap', e, _, h1, h2, _⟩ := h.form
  injection e with e
  injection e with e
  simp only [List.cons.injEq, and_true, Value.slice.injEq, true_and] at e
  obtain ⟨⟨e1, e2⟩, ⟨e3, e4⟩, ⟨e5, e6⟩, ⟨e7, e8⟩, e9, e10⟩ := e
  subst e1 e2 e3 e4 e5 e6 e7 e8
  exact ⟨h1, h2⟩
end Go.Proofs.Ytkfolefeehggcaa
