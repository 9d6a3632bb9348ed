/- Hits as data, and as they lie in memory. -/
import Derived.Test.YtlmplfpdmelcjaaFirst
namespace Go.Proofs.Ytlmplfpdmelcjaa
open Go.RowKit
set_option linter.unusedVariables false
/-- a hit, as data -/
inductive Ht where
  | mk (name : Fm) (depth : Int) (one : Fm) (many : List Ht)
def Ht.name : Ht → Fm | .mk n _ _ _ => n
def Ht.depth : Ht → Int | .mk _ d _ _ => d
def Ht.one : Ht → Fm | .mk _ _ o _ => o
def Ht.many : Ht → List Ht | .mk _ _ _ m => m
mutual
theorem Ht.ind_aux {P : Ht → Prop} (h : ∀ n d o m, (∀ g ∈ m, P g) → P (.mk n d o m)) : ∀ x, P x
  | .mk n d o m => h n d o m (Ht.ind_list h m)
theorem Ht.ind_list {P : Ht → Prop} (h : ∀ n d o m, (∀ g ∈ m, P g) → P (.mk n d o m)) : ∀ (l : List Ht), ∀ g ∈ l, P g
  | [], _, hg => by cases hg
  | x :: r, g, hg => by
    cases hg with
    | head => exact Ht.ind_aux h x
    | tail _ hr => exact Ht.ind_list h r g hr
end
theorem Ht.ind {P : Ht → Prop} (h : ∀ n d o m, (∀ g ∈ m, P g) → P (.mk n d o m)) (x : Ht) : P x := Ht.ind_aux h x
mutual
/-- a value of type Hit that reads as a hit, its blocks where 'φ' lets them lie -/
def InH (φ : Nat → Prop) (w : World) : Ht → Value → Prop
  | .mk nm d one many, v => ∃ s1 t1 k1 l1 s2 t2 k2 l2 a cap, v = .agg #[.int .i64 nm.kind, .string nm.name, .int .i64 nm.n, .slice s1 nm.scopes.length t1, .slice k1 nm.kids.length l1, .int .i64 d, .int .i64 one.kind, .string one.name, .int .i64 one.n, .slice s2 one.scopes.length t2, .slice k2 one.kids.length l2, .slice a many.length cap] ∧
      (-9223372036854775808 ≤ d ∧ d ≤ 9223372036854775807) ∧ InV φ w nm (.agg #[.int .i64 nm.kind, .string nm.name, .int .i64 nm.n, .slice s1 nm.scopes.length t1, .slice k1 nm.kids.length l1]) ∧ InV φ w one (.agg #[.int .i64 one.kind, .string one.name, .int .i64 one.n, .slice s2 one.scopes.length t2, .slice k2 one.kids.length l2]) ∧ many.length ≤ cap ∧ cap ≤ maxLen ∧
      (many = [] ∨ ∃ b off, a = some ⟨b, off, none⟩ ∧ φ b ∧ RowH φ w b off many)
def RowH (φ : Nat → Prop) (w : World) (b off : Nat) : List Ht → Prop
  | [] => True
  | x :: r => (∃ c0 c1 c2 c3 c4 c5 c6 c7 c8 c9 c10 c11,  w.cell? ⟨b, off, none⟩ = some c0 ∧ w.cell? ⟨b, off + 1, none⟩ = some c1 ∧ w.cell? ⟨b, off + 2, none⟩ = some c2 ∧ w.cell? ⟨b, off + 3, none⟩ = some c3 ∧ w.cell? ⟨b, off + 4, none⟩ = some c4 ∧ w.cell? ⟨b, off + 5, none⟩ = some c5 ∧ w.cell? ⟨b, off + 6, none⟩ = some c6 ∧ w.cell? ⟨b, off + 7, none⟩ = some c7 ∧ w.cell? ⟨b, off + 8, none⟩ = some c8 ∧ w.cell? ⟨b, off + 9, none⟩ = some c9 ∧ w.cell? ⟨b, off + 10, none⟩ = some c10 ∧ w.cell? ⟨b, off + 11, none⟩ = some c11 ∧ InH φ w x (.agg #[c0, c1, c2, c3, c4, c5, c6, c7, c8, c9, c10, c11])) ∧ RowH φ w b (off + 12) r
end
/-- a list of hits -/
def HitsIn (φ : Nat → Prop) (w : World) (a : Option Addr) (cap : Nat) (l : List Ht) : Prop :=
  l.length ≤ cap ∧ cap ≤ maxLen ∧ (l = [] ∨ ∃ b off, a = some ⟨b, off, none⟩ ∧ φ b ∧ RowH φ w b off l)
mutual
theorem InH.later {φ : Nat → Prop} {w w' : World} (hb : Same φ w w') : ∀ (x : Ht) (v : Value), InH φ w x v → InH φ w' x v
  | .mk nm d one many, v, h => by
    unfold InH at h ⊢
    obtain ⟨s1, t1, k1, l1, s2, t2, k2, l2, a, cap, h1, hd, hn, ho, h4, h5, h6⟩ := h
    refine ⟨s1, t1, k1, l1, s2, t2, k2, l2, a, cap, h1, hd, hn.later hb, ho.later hb, h4, h5, ?_⟩
    rcases h6 with h6 | ⟨b, off, h6, hp, h7⟩
    · exact .inl h6
    · exact .inr ⟨b, off, h6, hp, RowH.later hb b hp off many h7⟩
theorem RowH.later {φ : Nat → Prop} {w w' : World} (hb : Same φ w w') (b : Nat) (hp : φ b) : ∀ (off : Nat) (l : List Ht), RowH φ w b off l → RowH φ w' b off l
  | _, [], _ => by unfold RowH; trivial
  | off, x :: r, h => by
    unfold RowH at h ⊢
    obtain ⟨⟨c0, c1, c2, c3, c4, c5, c6, c7, c8, c9, c10, c11, h0, h1, h2, h3, h4, h5, h6, h7, h8, h9, h10, h11, h12⟩, h13⟩ := h
    refine ⟨⟨c0, c1, c2, c3, c4, c5, c6, c7, c8, c9, c10, c11, ?_, ?_, ?_, ?_, ?_, ?_, ?_, ?_, ?_, ?_, ?_, ?_, InH.later hb x _ h12⟩, RowH.later hb b hp (off + 12) r h13⟩
    all_goals rw [hb.cell hp]; assumption
end
mutual
theorem InH.mono {φ ψ : Nat → Prop} {w : World} (hb : ∀ k, φ k → ψ k) : ∀ (x : Ht) (v : Value), InH φ w x v → InH ψ w x v
  | .mk nm d one many, v, h => by
    unfold InH at h ⊢
    obtain ⟨s1, t1, k1, l1, s2, t2, k2, l2, a, cap, h1, hd, hn, ho, h4, h5, h6⟩ := h
    refine ⟨s1, t1, k1, l1, s2, t2, k2, l2, a, cap, h1, hd, hn.mono hb, ho.mono hb, h4, h5, ?_⟩
    rcases h6 with h6 | ⟨b, off, h6, hp, h7⟩
    · exact .inl h6
    · exact .inr ⟨b, off, h6, hb b hp, RowH.mono hb b off many h7⟩
theorem RowH.mono {φ ψ : Nat → Prop} {w : World} (hb : ∀ k, φ k → ψ k) (b : Nat) : ∀ (off : Nat) (l : List Ht), RowH φ w b off l → RowH ψ w b off l
  | _, [], _ => by unfold RowH; trivial
  | off, x :: r, h => by
    unfold RowH at h ⊢
    obtain ⟨⟨c0, c1, c2, c3, c4, c5, c6, c7, c8, c9, c10, c11, h0, h1, h2, h3, h4, h5, h6, h7, h8, h9, h10, h11, h12⟩, h13⟩ := h
    exact ⟨⟨c0, c1, c2, c3, c4, c5, c6, c7, c8, c9, c10, c11, h0, h1, h2, h3, h4, h5, h6, h7, h8, h9, h10, h11, InH.mono hb x _ h12⟩, RowH.mono hb b (off + 12) r h13⟩
end
theorem HitsIn.later {φ : Nat → Prop} {w w' : World} {a : Option Addr} {cap : Nat} {l : List Ht} (hs : Same φ w w') (h : HitsIn φ w a cap l) : HitsIn φ w' a cap l := by
  refine ⟨h.1, h.2.1, ?_⟩
  rcases h.2.2 with h | ⟨b, off, e1, e2, h⟩
  · exact .inl h
  · exact .inr ⟨b, off, e1, e2, h.later hs b e2⟩
theorem HitsIn.mono {φ ψ : Nat → Prop} {w : World} {a : Option Addr} {cap : Nat} {l : List Ht} (hs : ∀ k, φ k → ψ k) (h : HitsIn φ w a cap l) : HitsIn ψ w a cap l := by
  refine ⟨h.1, h.2.1, ?_⟩
  rcases h.2.2 with h | ⟨b, off, e1, e2, h⟩
  · exact .inl h
  · exact .inr ⟨b, off, e1, hs b e2, h.mono hs b⟩
theorem RowH.at {φ : Nat → Prop} {w : World} {b : Nat} : ∀ {off : Nat} {l : List Ht}, RowH φ w b off l → ∀ (i : Nat) (h : i < l.length),
    ∃ c0 c1 c2 c3 c4 c5 c6 c7 c8 c9 c10 c11,  w.cell? ⟨b, off + i * 12, none⟩ = some c0 ∧ w.cell? ⟨b, off + i * 12 + 1, none⟩ = some c1 ∧ w.cell? ⟨b, off + i * 12 + 2, none⟩ = some c2 ∧ w.cell? ⟨b, off + i * 12 + 3, none⟩ = some c3 ∧ w.cell? ⟨b, off + i * 12 + 4, none⟩ = some c4 ∧ w.cell? ⟨b, off + i * 12 + 5, none⟩ = some c5 ∧ w.cell? ⟨b, off + i * 12 + 6, none⟩ = some c6 ∧ w.cell? ⟨b, off + i * 12 + 7, none⟩ = some c7 ∧ w.cell? ⟨b, off + i * 12 + 8, none⟩ = some c8 ∧ w.cell? ⟨b, off + i * 12 + 9, none⟩ = some c9 ∧ w.cell? ⟨b, off + i * 12 + 10, none⟩ = some c10 ∧ w.cell? ⟨b, off + i * 12 + 11, none⟩ = some c11 ∧ InH φ w l[i] (.agg #[c0, c1, c2, c3, c4, c5, c6, c7, c8, c9, c10, c11])
  | off, x :: r, h, 0, _ => by unfold RowH at h; simpa using h.1
  | off, x :: r, h, i + 1, hi => by
    unfold RowH at h
    have := RowH.at h.2 i (by simpa using hi)
    rw [show off + (i + 1) * 12 = off + 12 + i * 12 from by omega]
    simpa using this
theorem InH.form {φ : Nat → Prop} {w : World} {x : Ht} {v : Value} (h : InH φ w x v) : ∃ s1 t1 k1 l1 s2 t2 k2 l2 a cap, v = .agg #[.int .i64 x.name.kind, .string x.name.name, .int .i64 x.name.n, .slice s1 x.name.scopes.length t1, .slice k1 x.name.kids.length l1, .int .i64 x.depth, .int .i64 x.one.kind, .string x.one.name, .int .i64 x.one.n, .slice s2 x.one.scopes.length t2, .slice k2 x.one.kids.length l2, .slice a x.many.length cap] ∧
      (-9223372036854775808 ≤ x.depth ∧ x.depth ≤ 9223372036854775807) ∧ InV φ w x.name (.agg #[.int .i64 x.name.kind, .string x.name.name, .int .i64 x.name.n, .slice s1 x.name.scopes.length t1, .slice k1 x.name.kids.length l1]) ∧ InV φ w x.one (.agg #[.int .i64 x.one.kind, .string x.one.name, .int .i64 x.one.n, .slice s2 x.one.scopes.length t2, .slice k2 x.one.kids.length l2]) ∧ HitsIn φ w a cap x.many := by
  cases x with
  | mk nm d one many =>
    unfold InH at h
    exact h
theorem RowH.at' {φ : Nat → Prop} {w : World} {b off : Nat} {l : List Ht} (h : RowH φ w b off l) (i : Nat) (hi : i < l.length) :
    ∃ s1 t1 k1 l1 s2 t2 k2 l2 a cap, w.cell? ⟨b, off + i * 12, none⟩ = some (.int .i64 l[i].name.kind) ∧ w.cell? ⟨b, off + i * 12 + 1, none⟩ = some (.string l[i].name.name) ∧ w.cell? ⟨b, off + i * 12 + 2, none⟩ = some (.int .i64 l[i].name.n) ∧ w.cell? ⟨b, off + i * 12 + 3, none⟩ = some (.slice s1 l[i].name.scopes.length t1) ∧ w.cell? ⟨b, off + i * 12 + 4, none⟩ = some (.slice k1 l[i].name.kids.length l1) ∧ w.cell? ⟨b, off + i * 12 + 5, none⟩ = some (.int .i64 l[i].depth) ∧ w.cell? ⟨b, off + i * 12 + 6, none⟩ = some (.int .i64 l[i].one.kind) ∧ w.cell? ⟨b, off + i * 12 + 7, none⟩ = some (.string l[i].one.name) ∧ w.cell? ⟨b, off + i * 12 + 8, none⟩ = some (.int .i64 l[i].one.n) ∧ w.cell? ⟨b, off + i * 12 + 9, none⟩ = some (.slice s2 l[i].one.scopes.length t2) ∧ w.cell? ⟨b, off + i * 12 + 10, none⟩ = some (.slice k2 l[i].one.kids.length l2) ∧ w.cell? ⟨b, off + i * 12 + 11, none⟩ = some (.slice a l[i].many.length cap) ∧ InH φ w l[i] (.agg #[.int .i64 l[i].name.kind, .string l[i].name.name, .int .i64 l[i].name.n, .slice s1 l[i].name.scopes.length t1, .slice k1 l[i].name.kids.length l1, .int .i64 l[i].depth, .int .i64 l[i].one.kind, .string l[i].one.name, .int .i64 l[i].one.n, .slice s2 l[i].one.scopes.length t2, .slice k2 l[i].one.kids.length l2, .slice a l[i].many.length cap]) := by
  obtain ⟨c0, c1, c2, c3, c4, c5, c6, c7, c8, c9, c10, c11, h0, h1, h2, h3, h4, h5, h6, h7, h8, h9, h10, h11, h12⟩ := h.at i hi
  have hk := h12
  obtain ⟨s1, t1, k1, l1, s2, t2, k2, l2, a, cap, e, _⟩ := hk.form
  injection e with e
  injection e with e
  simp only [List.cons.injEq, and_true] at e
  obtain ⟨rfl, rfl, rfl, rfl, rfl, rfl, rfl, rfl, rfl, rfl, rfl, rfl⟩ := e
  exact ⟨s1, t1, k1, l1, s2, t2, k2, l2, a, cap, h0, h1, h2, h3, h4, h5, h6, h7, h8, h9, h10, h11, h12⟩
mutual
/-- how many places a hit takes -/
def Ht.sz : Ht → Nat
  | .mk nm _ one many => nm.sz + one.sz + szHs many
def szHs : List Ht → Nat
  | [] => 0
  | x :: r => x.sz + 1 + szHs r
end
theorem szHs_length (l : List Ht) : l.length ≤ szHs l := by
  induction l with
  | nil => simp
  | cons x r ih => simp only [List.length_cons, szHs]; omega
/-- the places behind those of the list itself -/
def szHin (l : List Ht) : Nat := szHs l - l.length
theorem szHin_take_succ (l : List Ht) (i : Nat) (h : i < l.length) : szHin (l.take (i + 1)) = szHin (l.take i) + (l[i]).sz := by
  induction l generalizing i with
  | nil => simp at h
  | cons x r ih =>
    have hl := szHs_length
    cases i with
    | zero => simp [szHin, szHs]
    | succ i =>
      have := ih i (by simpa using h)
      have h1 := hl (r.take (i + 1))
      have h2 := hl (r.take i)
      simp only [szHin] at this ⊢
      simp only [List.take_succ_cons, szHs, List.getElem_cons_succ, List.length_cons]
      omega
theorem szHin_take_le (l : List Ht) (i : Nat) : szHin (l.take i) ≤ szHin l := by
  induction l generalizing i with
  | nil => simp
  | cons x r ih =>
    cases i with
    | zero => simp [szHin, szHs]
    | succ i =>
      have := ih i
      have h1 := szHs_length (r.take i)
      have h2 := szHs_length r
      simp only [szHin] at this ⊢
      simp only [List.take_succ_cons, szHs, List.length_cons]
      omega
end Go.Proofs.Ytlmplfpdmelcjaa
