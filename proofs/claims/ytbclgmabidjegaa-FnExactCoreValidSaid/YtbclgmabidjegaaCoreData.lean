/- Core programs as data, and as they lie in memory. -/
import Derived.Test.YtbclgmabidjegaaFirst
namespace Go.Proofs.Ytbclgmabidjegaa
open Go.RowKit
set_option linter.unusedVariables false
/-- a core program, as data -/
inductive Ck where
  | mk (kind id : Int) (name : ByteArray) (n : Int) (ids : List Int) (data : Fm) (kids : List Ck)
def Ck.kind : Ck → Int | .mk k _ _ _ _ _ _ => k
def Ck.id : Ck → Int | .mk _ i _ _ _ _ _ => i
def Ck.name : Ck → ByteArray | .mk _ _ s _ _ _ _ => s
def Ck.n : Ck → Int | .mk _ _ _ n _ _ _ => n
def Ck.ids : Ck → List Int | .mk _ _ _ _ i _ _ => i
def Ck.data : Ck → Fm | .mk _ _ _ _ _ d _ => d
def Ck.kids : Ck → List Ck | .mk _ _ _ _ _ _ ks => ks
mutual
theorem Ck.ind_aux {P : Ck → Prop} (h : ∀ k id nm n ids d ks, (∀ g ∈ ks, P g) → P (.mk k id nm n ids d ks)) : ∀ x, P x
  | .mk k id nm n ids d ks => h k id nm n ids d ks (Ck.ind_list h ks)
theorem Ck.ind_list {P : Ck → Prop} (h : ∀ k id nm n ids d ks, (∀ g ∈ ks, P g) → P (.mk k id nm n ids d ks)) : ∀ (l : List Ck), ∀ g ∈ l, P g
  | [], _, hg => by cases hg
  | x :: r, g, hg => by
    cases hg with
    | head => exact Ck.ind_aux h x
    | tail _ hr => exact Ck.ind_list h r g hr
end
theorem Ck.ind {P : Ck → Prop} (h : ∀ k id nm n ids d ks, (∀ g ∈ ks, P g) → P (.mk k id nm n ids d ks)) (x : Ck) : P x := Ck.ind_aux h x
mutual
/-- a value of type Core that reads as a core program, its blocks where 'φ' lets them lie -/
def InC (φ : Nat → Prop) (w : World) : Ck → Value → Prop
  | .mk k id nm n ids d ks, v => ∃ i1 j1 s1 t1 k1 l1 a cap, v = .agg #[.int .i64 k, .int .i64 id, .string nm, .int .i64 n, .slice i1 ids.length j1, .int .i64 d.kind, .string d.name, .int .i64 d.n, .slice s1 d.scopes.length t1, .slice k1 d.kids.length l1, .slice a ks.length cap] ∧
      (-9223372036854775808 ≤ k ∧ k ≤ 9223372036854775807) ∧ (-9223372036854775808 ≤ id ∧ id ≤ 9223372036854775807) ∧ (-9223372036854775808 ≤ n ∧ n ≤ 9223372036854775807) ∧ nm.size ≤ maxLen ∧ IntRow φ w (.slice i1 ids.length j1) ids ∧ InV φ w d (.agg #[.int .i64 d.kind, .string d.name, .int .i64 d.n, .slice s1 d.scopes.length t1, .slice k1 d.kids.length l1]) ∧ ks.length ≤ cap ∧ cap ≤ maxLen ∧
      (ks = [] ∨ ∃ b off, a = some ⟨b, off, none⟩ ∧ φ b ∧ RowC φ w b off ks)
def RowC (φ : Nat → Prop) (w : World) (b off : Nat) : List Ck → Prop
  | [] => True
  | x :: r => (∃ c0 c1 c2 c3 c4 c5 c6 c7 c8 c9 c10,  w.cell? ⟨b, off, none⟩ = some c0 ∧ w.cell? ⟨b, off + 1, none⟩ = some c1 ∧ w.cell? ⟨b, off + 2, none⟩ = some c2 ∧ w.cell? ⟨b, off + 3, none⟩ = some c3 ∧ w.cell? ⟨b, off + 4, none⟩ = some c4 ∧ w.cell? ⟨b, off + 5, none⟩ = some c5 ∧ w.cell? ⟨b, off + 6, none⟩ = some c6 ∧ w.cell? ⟨b, off + 7, none⟩ = some c7 ∧ w.cell? ⟨b, off + 8, none⟩ = some c8 ∧ w.cell? ⟨b, off + 9, none⟩ = some c9 ∧ w.cell? ⟨b, off + 10, none⟩ = some c10 ∧ InC φ w x (.agg #[c0, c1, c2, c3, c4, c5, c6, c7, c8, c9, c10])) ∧ RowC φ w b (off + 11) r
end
/-- a list of core programs -/
def CoresIn (φ : Nat → Prop) (w : World) (a : Option Addr) (cap : Nat) (l : List Ck) : Prop :=
  l.length ≤ cap ∧ cap ≤ maxLen ∧ (l = [] ∨ ∃ b off, a = some ⟨b, off, none⟩ ∧ φ b ∧ RowC φ w b off l)
mutual
theorem InC.later {φ : Nat → Prop} {w w' : World} (hb : Same φ w w') : ∀ (x : Ck) (v : Value), InC φ w x v → InC φ w' x v
  | .mk k id nm n ids d ks, v, h => by
    unfold InC at h ⊢
    obtain ⟨i1, j1, s1, t1, k1, l1, a, cap, h1, hk, hi, hn, hm, hr, hd, h4, h5, h6⟩ := h
    refine ⟨i1, j1, s1, t1, k1, l1, a, cap, h1, hk, hi, hn, hm, hr.later hb, hd.later hb, h4, h5, ?_⟩
    rcases h6 with h6 | ⟨b, off, h6, hp, h7⟩
    · exact .inl h6
    · exact .inr ⟨b, off, h6, hp, RowC.later hb b hp off ks h7⟩
theorem RowC.later {φ : Nat → Prop} {w w' : World} (hb : Same φ w w') (b : Nat) (hp : φ b) : ∀ (off : Nat) (l : List Ck), RowC φ w b off l → RowC φ w' b off l
  | _, [], _ => by unfold RowC; trivial
  | off, x :: r, h => by
    unfold RowC at h ⊢
    obtain ⟨⟨c0, c1, c2, c3, c4, c5, c6, c7, c8, c9, c10, h0, h1, h2, h3, h4, h5, h6, h7, h8, h9, h10, h12⟩, h13⟩ := h
    refine ⟨⟨c0, c1, c2, c3, c4, c5, c6, c7, c8, c9, c10, ?_, ?_, ?_, ?_, ?_, ?_, ?_, ?_, ?_, ?_, ?_, InC.later hb x _ h12⟩, RowC.later hb b hp (off + 11) r h13⟩
    all_goals rw [hb.cell hp]; assumption
end
mutual
theorem InC.mono {φ ψ : Nat → Prop} {w : World} (hb : ∀ k, φ k → ψ k) : ∀ (x : Ck) (v : Value), InC φ w x v → InC ψ w x v
  | .mk k id nm n ids d ks, v, h => by
    unfold InC at h ⊢
    obtain ⟨i1, j1, s1, t1, k1, l1, a, cap, h1, hk, hi, hn, hm, hr, hd, h4, h5, h6⟩ := h
    refine ⟨i1, j1, s1, t1, k1, l1, a, cap, h1, hk, hi, hn, hm, hr.mono hb, hd.mono hb, h4, h5, ?_⟩
    rcases h6 with h6 | ⟨b, off, h6, hp, h7⟩
    · exact .inl h6
    · exact .inr ⟨b, off, h6, hb b hp, RowC.mono hb b off ks h7⟩
theorem RowC.mono {φ ψ : Nat → Prop} {w : World} (hb : ∀ k, φ k → ψ k) (b : Nat) : ∀ (off : Nat) (l : List Ck), RowC φ w b off l → RowC ψ w b off l
  | _, [], _ => by unfold RowC; trivial
  | off, x :: r, h => by
    unfold RowC at h ⊢
    obtain ⟨⟨c0, c1, c2, c3, c4, c5, c6, c7, c8, c9, c10, h0, h1, h2, h3, h4, h5, h6, h7, h8, h9, h10, h12⟩, h13⟩ := h
    exact ⟨⟨c0, c1, c2, c3, c4, c5, c6, c7, c8, c9, c10, h0, h1, h2, h3, h4, h5, h6, h7, h8, h9, h10, InC.mono hb x _ h12⟩, RowC.mono hb b (off + 11) r h13⟩
end
theorem CoresIn.later {φ : Nat → Prop} {w w' : World} {a : Option Addr} {cap : Nat} {l : List Ck} (hs : Same φ w w') (h : CoresIn φ w a cap l) : CoresIn φ w' a cap l := by
  refine ⟨h.1, h.2.1, ?_⟩
  rcases h.2.2 with h | ⟨b, off, e1, e2, h⟩
  · exact .inl h
  · exact .inr ⟨b, off, e1, e2, h.later hs b e2⟩
theorem CoresIn.mono {φ ψ : Nat → Prop} {w : World} {a : Option Addr} {cap : Nat} {l : List Ck} (hs : ∀ k, φ k → ψ k) (h : CoresIn φ w a cap l) : CoresIn ψ w a cap l := by
  refine ⟨h.1, h.2.1, ?_⟩
  rcases h.2.2 with h | ⟨b, off, e1, e2, h⟩
  · exact .inl h
  · exact .inr ⟨b, off, e1, hs b e2, h.mono hs b⟩
theorem RowC.at {φ : Nat → Prop} {w : World} {b : Nat} : ∀ {off : Nat} {l : List Ck}, RowC φ w b off l → ∀ (i : Nat) (h : i < l.length),
    ∃ c0 c1 c2 c3 c4 c5 c6 c7 c8 c9 c10,  w.cell? ⟨b, off + i * 11, none⟩ = some c0 ∧ w.cell? ⟨b, off + i * 11 + 1, none⟩ = some c1 ∧ w.cell? ⟨b, off + i * 11 + 2, none⟩ = some c2 ∧ w.cell? ⟨b, off + i * 11 + 3, none⟩ = some c3 ∧ w.cell? ⟨b, off + i * 11 + 4, none⟩ = some c4 ∧ w.cell? ⟨b, off + i * 11 + 5, none⟩ = some c5 ∧ w.cell? ⟨b, off + i * 11 + 6, none⟩ = some c6 ∧ w.cell? ⟨b, off + i * 11 + 7, none⟩ = some c7 ∧ w.cell? ⟨b, off + i * 11 + 8, none⟩ = some c8 ∧ w.cell? ⟨b, off + i * 11 + 9, none⟩ = some c9 ∧ w.cell? ⟨b, off + i * 11 + 10, none⟩ = some c10 ∧ InC φ w l[i] (.agg #[c0, c1, c2, c3, c4, c5, c6, c7, c8, c9, c10])
  | off, x :: r, h, 0, _ => by unfold RowC at h; simpa using h.1
  | off, x :: r, h, i + 1, hi => by
    unfold RowC at h
    have := RowC.at h.2 i (by simpa using hi)
    rw [show off + (i + 1) * 11 = off + 11 + i * 11 from by omega]
    simpa using this
theorem InC.form {φ : Nat → Prop} {w : World} {x : Ck} {v : Value} (h : InC φ w x v) : ∃ i1 j1 s1 t1 k1 l1 a cap, v = .agg #[.int .i64 x.kind, .int .i64 x.id, .string x.name, .int .i64 x.n, .slice i1 x.ids.length j1, .int .i64 x.data.kind, .string x.data.name, .int .i64 x.data.n, .slice s1 x.data.scopes.length t1, .slice k1 x.data.kids.length l1, .slice a x.kids.length cap] ∧
      (-9223372036854775808 ≤ x.kind ∧ x.kind ≤ 9223372036854775807) ∧ (-9223372036854775808 ≤ x.id ∧ x.id ≤ 9223372036854775807) ∧ (-9223372036854775808 ≤ x.n ∧ x.n ≤ 9223372036854775807) ∧ x.name.size ≤ maxLen ∧ IntRow φ w (.slice i1 x.ids.length j1) x.ids ∧ InV φ w x.data (.agg #[.int .i64 x.data.kind, .string x.data.name, .int .i64 x.data.n, .slice s1 x.data.scopes.length t1, .slice k1 x.data.kids.length l1]) ∧ CoresIn φ w a cap x.kids := by
  cases x with
  | mk k id nm n ids d ks =>
    unfold InC at h
    exact h
theorem InC.of {φ : Nat → Prop} {w : World} {x : Ck} {i1 : Option Addr} {j1 : Nat} {s1 : Option Addr} {t1 : Nat} {k1 : Option Addr} {l1 : Nat} {a : Option Addr} {cap : Nat} (h : (-9223372036854775808 ≤ x.kind ∧ x.kind ≤ 9223372036854775807) ∧ (-9223372036854775808 ≤ x.id ∧ x.id ≤ 9223372036854775807) ∧ (-9223372036854775808 ≤ x.n ∧ x.n ≤ 9223372036854775807) ∧ x.name.size ≤ maxLen ∧ IntRow φ w (.slice i1 x.ids.length j1) x.ids ∧ InV φ w x.data (.agg #[.int .i64 x.data.kind, .string x.data.name, .int .i64 x.data.n, .slice s1 x.data.scopes.length t1, .slice k1 x.data.kids.length l1]) ∧ CoresIn φ w a cap x.kids) : InC φ w x (.agg #[.int .i64 x.kind, .int .i64 x.id, .string x.name, .int .i64 x.n, .slice i1 x.ids.length j1, .int .i64 x.data.kind, .string x.data.name, .int .i64 x.data.n, .slice s1 x.data.scopes.length t1, .slice k1 x.data.kids.length l1, .slice a x.kids.length cap]) := by
  cases x with
  | mk k id nm n ids d ks =>
    unfold InC
    exact ⟨i1, j1, s1, t1, k1, l1, a, cap, rfl, h⟩
theorem InC.parts {φ : Nat → Prop} {w : World} {x : Ck} {i1 : Option Addr} {j1 : Nat} {s1 : Option Addr} {t1 : Nat} {k1 : Option Addr} {l1 : Nat} {a : Option Addr} {cap : Nat} (h : InC φ w x (.agg #[.int .i64 x.kind, .int .i64 x.id, .string x.name, .int .i64 x.n, .slice i1 x.ids.length j1, .int .i64 x.data.kind, .string x.data.name, .int .i64 x.data.n, .slice s1 x.data.scopes.length t1, .slice k1 x.data.kids.length l1, .slice a x.kids.length cap])) : (-9223372036854775808 ≤ x.kind ∧ x.kind ≤ 9223372036854775807) ∧ (-9223372036854775808 ≤ x.id ∧ x.id ≤ 9223372036854775807) ∧ (-9223372036854775808 ≤ x.n ∧ x.n ≤ 9223372036854775807) ∧ x.name.size ≤ maxLen ∧ IntRow φ w (.slice i1 x.ids.length j1) x.ids ∧ InV φ w x.data (.agg #[.int .i64 x.data.kind, .string x.data.name, .int .i64 x.data.n, .slice s1 x.data.scopes.length t1, .slice k1 x.data.kids.length l1]) ∧ CoresIn φ w a cap x.kids := by
  obtain ⟨i2, j2, s2, t2, k2, l2, a2, cap2, e, h⟩ := h.form
  injection e with e
  injection e with e
  simp only [List.cons.injEq, and_true, Value.slice.injEq, true_and] at e
  obtain ⟨⟨rfl, rfl⟩, ⟨rfl, rfl⟩, ⟨rfl, rfl⟩, rfl, rfl⟩ := e
  exact h
theorem RowC.at' {φ : Nat → Prop} {w : World} {b off : Nat} {l : List Ck} (h : RowC φ w b off l) (i : Nat) (hi : i < l.length) :
    ∃ i1 j1 s1 t1 k1 l1 a cap, w.cell? ⟨b, off + i * 11, none⟩ = some (.int .i64 l[i].kind) ∧ w.cell? ⟨b, off + i * 11 + 1, none⟩ = some (.int .i64 l[i].id) ∧ w.cell? ⟨b, off + i * 11 + 2, none⟩ = some (.string l[i].name) ∧ w.cell? ⟨b, off + i * 11 + 3, none⟩ = some (.int .i64 l[i].n) ∧ w.cell? ⟨b, off + i * 11 + 4, none⟩ = some (.slice i1 l[i].ids.length j1) ∧ w.cell? ⟨b, off + i * 11 + 5, none⟩ = some (.int .i64 l[i].data.kind) ∧ w.cell? ⟨b, off + i * 11 + 6, none⟩ = some (.string l[i].data.name) ∧ w.cell? ⟨b, off + i * 11 + 7, none⟩ = some (.int .i64 l[i].data.n) ∧ w.cell? ⟨b, off + i * 11 + 8, none⟩ = some (.slice s1 l[i].data.scopes.length t1) ∧ w.cell? ⟨b, off + i * 11 + 9, none⟩ = some (.slice k1 l[i].data.kids.length l1) ∧ w.cell? ⟨b, off + i * 11 + 10, none⟩ = some (.slice a l[i].kids.length cap) ∧ InC φ w l[i] (.agg #[.int .i64 l[i].kind, .int .i64 l[i].id, .string l[i].name, .int .i64 l[i].n, .slice i1 l[i].ids.length j1, .int .i64 l[i].data.kind, .string l[i].data.name, .int .i64 l[i].data.n, .slice s1 l[i].data.scopes.length t1, .slice k1 l[i].data.kids.length l1, .slice a l[i].kids.length cap]) := by
  obtain ⟨c0, c1, c2, c3, c4, c5, c6, c7, c8, c9, c10, h0, h1, h2, h3, h4, h5, h6, h7, h8, h9, h10, h12⟩ := h.at i hi
  have hk := h12
  obtain ⟨i1, j1, s1, t1, k1, l1, a, cap, e, _⟩ := hk.form
  injection e with e
  injection e with e
  simp only [List.cons.injEq, and_true] at e
  obtain ⟨rfl, rfl, rfl, rfl, rfl, rfl, rfl, rfl, rfl, rfl, rfl⟩ := e
  exact ⟨i1, j1, s1, t1, k1, l1, a, cap, h0, h1, h2, h3, h4, h5, h6, h7, h8, h9, h10, h12⟩
mutual
/-- how many nodes -/
def Ck.count : Ck → Nat
  | .mk _ _ _ _ _ _ ks => countCs ks + 1
def countCs : List Ck → Nat
  | [] => 0
  | x :: r => x.count + countCs r
end
theorem Ck.count_eq (x : Ck) : x.count = countCs x.kids + 1 := by cases x; simp only [Ck.count, Ck.kids]
theorem length_countCs (l : List Ck) : l.length ≤ countCs l := by
  induction l with
  | nil => simp [countCs]
  | cons x r ih => have := x.count_eq; simp only [List.length_cons, countCs]; omega
theorem countCs_take_succ (l : List Ck) (i : Nat) (h : i < l.length) : countCs (l.take (i + 1)) = countCs (l.take i) + (l[i]).count := by
  induction l generalizing i with
  | nil => simp at h
  | cons x r ih =>
    cases i with
    | zero => simp [countCs]
    | succ i =>
      have := ih i (by simpa using h)
      simp only [List.take_succ_cons, countCs, List.getElem_cons_succ]
      omega
theorem countCs_take_le (l : List Ck) (i : Nat) : countCs (l.take i) ≤ countCs l := by
  induction l generalizing i with
  | nil => simp
  | cons x r ih =>
    cases i with
    | zero => simp [countCs]
    | succ i => have := ih i; simp only [List.take_succ_cons, countCs]; omega
mutual
/-- how many places a core program takes -/
def Ck.sz : Ck → Nat
  | .mk _ _ nm _ ids d ks => nm.size + ids.length + d.sz + szCs ks
def szCs : List Ck → Nat
  | [] => 0
  | x :: r => x.sz + 1 + szCs r
end
theorem Ck.sz_eq (x : Ck) : x.sz = x.name.size + x.ids.length + x.data.sz + szCs x.kids := by cases x; simp only [Ck.sz, Ck.name, Ck.ids, Ck.data, Ck.kids]
mutual
theorem Ck.count_le : ∀ x : Ck, x.count ≤ x.sz + 1
  | .mk _ _ _ _ _ _ ks => by have := countCs_le ks; unfold Ck.count Ck.sz; omega
theorem countCs_le : ∀ l : List Ck, countCs l ≤ szCs l
  | [] => by simp [countCs, szCs]
  | x :: r => by have := Ck.count_le x; have := countCs_le r; unfold countCs szCs; omega
end
theorem szCs_length (l : List Ck) : l.length ≤ szCs l := by
  induction l with
  | nil => simp
  | cons x r ih => simp only [List.length_cons, szCs]; omega
/-- the places behind those of the list itself -/
def szCin (l : List Ck) : Nat := szCs l - l.length
theorem szCin_take_succ (l : List Ck) (i : Nat) (h : i < l.length) : szCin (l.take (i + 1)) = szCin (l.take i) + (l[i]).sz := by
  induction l generalizing i with
  | nil => simp at h
  | cons x r ih =>
    have hl := szCs_length
    cases i with
    | zero => simp [szCin, szCs]
    | succ i =>
      have := ih i (by simpa using h)
      have h1 := hl (r.take (i + 1))
      have h2 := hl (r.take i)
      simp only [szCin] at this ⊢
      simp only [List.take_succ_cons, szCs, List.getElem_cons_succ, List.length_cons]
      omega
theorem szCin_take_le (l : List Ck) (i : Nat) : szCin (l.take i) ≤ szCin l := by
  induction l generalizing i with
  | nil => simp
  | cons x r ih =>
    cases i with
    | zero => simp [szCin, szCs]
    | succ i =>
      have := ih i
      have h1 := szCs_length (r.take i)
      have h2 := szCs_length r
      simp only [szCin] at this ⊢
      simp only [List.take_succ_cons, szCs, List.length_cons]
      omega
theorem szCs_get (l : List Ck) (i : Nat) (h : i < l.length) : l[i].sz + 1 ≤ szCs l := by
  have g1 := szCin_take_succ l i h
  have g2 := szCin_take_le l (i + 1)
  have g3 := szCs_length l
  have g4 : szCs l = l.length + szCin l := by unfold szCin; omega
  omega
end Go.Proofs.Ytbclgmabidjegaa
