/- Forms in memory: what a value of type Form reads as, and that it reads so in every later world. -/
import Derived.Test.YtilbjlngnpmhcaaBase
namespace Go.Proofs.Ytilbjlngnpmhcaa
open Go.RowKit
/-- a form, as data -/
inductive Fm where
  | mk (kind : Int) (name : ByteArray) (n : Int) (scopes : List Int) (kids : List Fm)
def Fm.kind : Fm → Int | .mk k _ _ _ _ => k
def Fm.name : Fm → ByteArray | .mk _ s _ _ _ => s
def Fm.n : Fm → Int | .mk _ _ n _ _ => n
def Fm.scopes : Fm → List Int | .mk _ _ _ s _ => s
def Fm.kids : Fm → List Fm | .mk _ _ _ _ k => k

mutual
theorem Fm.ind_aux {P : Fm → Prop} (h : ∀ k nm n sc ks, (∀ g ∈ ks, P g) → P (.mk k nm n sc ks)) : ∀ f, P f
  | .mk k nm n sc ks => h k nm n sc ks (Fm.ind_list h ks)
theorem Fm.ind_list {P : Fm → Prop} (h : ∀ k nm n sc ks, (∀ g ∈ ks, P g) → P (.mk k nm n sc ks)) : ∀ (ks : List Fm), ∀ g ∈ ks, P g
  | [], _, hg => by cases hg
  | f :: r, g, hg => by
    cases hg with
    | head => exact Fm.ind_aux h f
    | tail _ hr => exact Fm.ind_list h r g hr
end
theorem Fm.ind {P : Fm → Prop} (h : ∀ k nm n sc ks, (∀ g ∈ ks, P g) → P (.mk k nm n sc ks)) (f : Fm) : P f := Fm.ind_aux h f

/-- a slice of numbers; 'φ': where its block may lie -/
def IntRow (φ : Nat → Prop) (w : World) (v : Value) (l : List Int) : Prop :=
  ∃ a cap, v = .slice a l.length cap ∧ l.length ≤ cap ∧ cap ≤ maxLen ∧ (∀ n ∈ l, -9223372036854775808 ≤ n ∧ n ≤ 9223372036854775807) ∧
    (l = [] ∨ ∃ b off, a = some ⟨b, off, none⟩ ∧ φ b ∧ ∀ i, (h : i < l.length) → w.cell? ⟨b, off + i, none⟩ = some (.int .i64 l[i]))

mutual
/-- a value of type Form that reads as a form, its blocks where 'φ' lets them lie -/
def InV (φ : Nat → Prop) (w : World) : Fm → Value → Prop
  | .mk k nm n sc ks, v => ∃ vs a cap, v = .agg #[.int .i64 k, .string nm, .int .i64 n, vs, .slice a ks.length cap] ∧
      (-9223372036854775808 ≤ k ∧ k ≤ 9223372036854775807) ∧ (-9223372036854775808 ≤ n ∧ n ≤ 9223372036854775807) ∧
      nm.size ≤ maxLen ∧ IntRow φ w vs sc ∧ ks.length ≤ cap ∧ cap ≤ maxLen ∧
      (ks = [] ∨ ∃ b off, a = some ⟨b, off, none⟩ ∧ φ b ∧ RowIn φ w b off ks)
def RowIn (φ : Nat → Prop) (w : World) (b off : Nat) : List Fm → Prop
  | [] => True
  | f :: r => (∃ c0 c1 c2 c3 c4, w.cell? ⟨b, off, none⟩ = some c0 ∧ w.cell? ⟨b, off + 1, none⟩ = some c1 ∧ w.cell? ⟨b, off + 2, none⟩ = some c2 ∧
      w.cell? ⟨b, off + 3, none⟩ = some c3 ∧ w.cell? ⟨b, off + 4, none⟩ = some c4 ∧ InV φ w f (.agg #[c0, c1, c2, c3, c4])) ∧ RowIn φ w b (off + 5) r
end

theorem cell_lt {w : World} {b o : Nat} {v : Value} (h : w.cell? ⟨b, o, none⟩ = some v) : b < w.heap.size := by
  by_cases hb : b < w.heap.size
  · exact hb
  · exfalso
    simp only [World.cell?, Array.getElem?_eq_none (Nat.le_of_not_lt hb)] at h
    simp at h
theorem cell_later' {w w' : World} {b o : Nat} {v : Value} (hb : Below w.heap.size w w') (h : w.cell? ⟨b, o, none⟩ = some v) : w'.cell? ⟨b, o, none⟩ = some v := by
  rw [hb.cell (p := ⟨b, o, none⟩) (cell_lt h)]; exact h
/-- the blocks of 'φ' are the same in both worlds -/
def Same (φ : Nat → Prop) (w w' : World) : Prop := ∀ k, φ k → w'.heap[k]? = w.heap[k]?
theorem Same.cell {φ : Nat → Prop} {w w' : World} {b o : Nat} (h : Same φ w w') (hb : φ b) : w'.cell? ⟨b, o, none⟩ = w.cell? ⟨b, o, none⟩ :=
  World.cell?_of_block (w := w) (a := ⟨b, o, none⟩) (h b hb)
theorem Same.refl (φ : Nat → Prop) (w : World) : Same φ w w := fun _ _ => rfl
theorem Same.trans {φ : Nat → Prop} {a b c : World} (h : Same φ a b) (g : Same φ b c) : Same φ a c := fun k hk => (g k hk).trans (h k hk)
theorem Same.of_below {B : Nat} {φ : Nat → Prop} {w w' : World} (h : Below B w w') (hφ : ∀ k, φ k → k < B) : Same φ w w' := fun k hk => h.block k (hφ k hk)
theorem same_below {B : Nat} {w w' : World} (h : Below B w w') : Same (· < B) w w' := fun k hk => h.block k hk

theorem IntRow.later {φ : Nat → Prop} {w w' : World} {v : Value} {l : List Int} (hb : Same φ w w') (h : IntRow φ w v l) : IntRow φ w' v l := by
  obtain ⟨a, cap, h1, h2, h3, h4, h5⟩ := h
  refine ⟨a, cap, h1, h2, h3, h4, ?_⟩
  rcases h5 with h5 | ⟨b, off, h5, hp, h6⟩
  · exact .inl h5
  · exact .inr ⟨b, off, h5, hp, fun i hi => by rw [hb.cell hp]; exact h6 i hi⟩
theorem IntRow.mono {φ ψ : Nat → Prop} {w : World} {v : Value} {l : List Int} (hb : ∀ k, φ k → ψ k) (h : IntRow φ w v l) : IntRow ψ w v l := by
  obtain ⟨a, cap, h1, h2, h3, h4, h5⟩ := h
  refine ⟨a, cap, h1, h2, h3, h4, ?_⟩
  rcases h5 with h5 | ⟨b, off, h5, hp, h6⟩
  · exact .inl h5
  · exact .inr ⟨b, off, h5, hb b hp, h6⟩

mutual
theorem InV.later {φ : Nat → Prop} {w w' : World} (hb : Same φ w w') : ∀ (f : Fm) (v : Value), InV φ w f v → InV φ w' f v
  | .mk k nm n sc ks, v, h => by
    unfold InV at h ⊢
    obtain ⟨vs, a, cap, h1, hk, hn, h2, h3, h4, h5, h6⟩ := h
    refine ⟨vs, a, cap, h1, hk, hn, h2, h3.later hb, h4, h5, ?_⟩
    rcases h6 with h6 | ⟨b, off, h6, hp, h7⟩
    · exact .inl h6
    · exact .inr ⟨b, off, h6, hp, RowIn.later hb b hp off ks h7⟩
theorem RowIn.later {φ : Nat → Prop} {w w' : World} (hb : Same φ w w') (b : Nat) (hp : φ b) : ∀ (off : Nat) (ks : List Fm), RowIn φ w b off ks → RowIn φ w' b off ks
  | _, [], _ => by unfold RowIn; trivial
  | off, f :: r, h => by
    unfold RowIn at h ⊢
    obtain ⟨⟨c0, c1, c2, c3, c4, h0, h1, h2, h3, h4, h5⟩, h6⟩ := h
    refine ⟨⟨c0, c1, c2, c3, c4, ?_, ?_, ?_, ?_, ?_, InV.later hb f _ h5⟩, RowIn.later hb b hp (off + 5) r h6⟩
    all_goals rw [hb.cell hp]; assumption
end
mutual
theorem InV.mono {φ ψ : Nat → Prop} {w : World} (hb : ∀ k, φ k → ψ k) : ∀ (f : Fm) (v : Value), InV φ w f v → InV ψ w f v
  | .mk k nm n sc ks, v, h => by
    unfold InV at h ⊢
    obtain ⟨vs, a, cap, h1, hk, hn, h2, h3, h4, h5, h6⟩ := h
    refine ⟨vs, a, cap, h1, hk, hn, h2, h3.mono hb, h4, h5, ?_⟩
    rcases h6 with h6 | ⟨b, off, h6, hp, h7⟩
    · exact .inl h6
    · exact .inr ⟨b, off, h6, hb b hp, RowIn.mono hb b off ks h7⟩
theorem RowIn.mono {φ ψ : Nat → Prop} {w : World} (hb : ∀ k, φ k → ψ k) (b : Nat) : ∀ (off : Nat) (ks : List Fm), RowIn φ w b off ks → RowIn ψ w b off ks
  | _, [], _ => by unfold RowIn; trivial
  | off, f :: r, h => by
    unfold RowIn at h ⊢
    obtain ⟨⟨c0, c1, c2, c3, c4, h0, h1, h2, h3, h4, h5⟩, h6⟩ := h
    exact ⟨⟨c0, c1, c2, c3, c4, h0, h1, h2, h3, h4, InV.mono hb f _ h5⟩, RowIn.mono hb b (off + 5) r h6⟩
end
theorem RowIn.at {φ : Nat → Prop} {w : World} {b : Nat} : ∀ {off : Nat} {ks : List Fm}, RowIn φ w b off ks → ∀ (i : Nat) (h : i < ks.length),
    ∃ c0 c1 c2 c3 c4, w.cell? ⟨b, off + i * 5, none⟩ = some c0 ∧ w.cell? ⟨b, off + i * 5 + 1, none⟩ = some c1 ∧ w.cell? ⟨b, off + i * 5 + 2, none⟩ = some c2 ∧
      w.cell? ⟨b, off + i * 5 + 3, none⟩ = some c3 ∧ w.cell? ⟨b, off + i * 5 + 4, none⟩ = some c4 ∧ InV φ w ks[i] (.agg #[c0, c1, c2, c3, c4])
  | off, f :: r, h, 0, _ => by unfold RowIn at h; simpa using h.1
  | off, f :: r, h, i + 1, hi => by
    unfold RowIn at h
    have := RowIn.at h.2 i (by simpa using hi)
    rw [show off + (i + 1) * 5 = off + 5 + i * 5 from by omega]
    simpa using this
/-- what a value that reads as a form looks like -/
theorem InV.form {φ : Nat → Prop} {w : World} {f : Fm} {v : Value} (h : InV φ w f v) :
    ∃ sa scap a cap, v = .agg #[.int .i64 f.kind, .string f.name, .int .i64 f.n, .slice sa f.scopes.length scap, .slice a f.kids.length cap] := by
  cases f with
  | mk k nm n sc ks =>
    unfold InV at h
    obtain ⟨vs, a, cap, rfl, _, _, _, hvs, _⟩ := h
    obtain ⟨sa, scap, rfl, _⟩ := hvs
    exact ⟨sa, scap, a, cap, rfl⟩
theorem RowIn.at' {φ : Nat → Prop} {w : World} {b off : Nat} {ks : List Fm} (h : RowIn φ w b off ks) (i : Nat) (hi : i < ks.length) :
    ∃ sa scap a cap, w.cell? ⟨b, off + i * 5, none⟩ = some (.int .i64 ks[i].kind) ∧ w.cell? ⟨b, off + i * 5 + 1, none⟩ = some (.string ks[i].name) ∧
      w.cell? ⟨b, off + i * 5 + 2, none⟩ = some (.int .i64 ks[i].n) ∧ w.cell? ⟨b, off + i * 5 + 3, none⟩ = some (.slice sa ks[i].scopes.length scap) ∧
      w.cell? ⟨b, off + i * 5 + 4, none⟩ = some (.slice a ks[i].kids.length cap) ∧
      InV φ w ks[i] (.agg #[.int .i64 ks[i].kind, .string ks[i].name, .int .i64 ks[i].n, .slice sa ks[i].scopes.length scap, .slice a ks[i].kids.length cap]) := by
  obtain ⟨c0, c1, c2, c3, c4, h0, h1, h2, h3, h4, h5⟩ := h.at i hi
  obtain ⟨sa, scap, a, cap, e⟩ := h5.form
  injection e with e
  injection e with e
  simp only [List.cons.injEq, and_true] at e
  obtain ⟨rfl, rfl, rfl, rfl, rfl⟩ := e
  exact ⟨sa, scap, a, cap, h0, h1, h2, h3, h4, h5⟩
mutual
/-- how many nodes -/
def Fm.count : Fm → Nat
  | .mk _ _ _ _ ks => countAll ks + 1
def countAll : List Fm → Nat
  | [] => 0
  | f :: r => f.count + countAll r
end
theorem countAll_take_succ (ks : List Fm) (i : Nat) (h : i < ks.length) : countAll (ks.take (i + 1)) = countAll (ks.take i) + (ks[i]).count := by
  induction ks generalizing i with
  | nil => simp at h
  | cons f r ih =>
    cases i with
    | zero => simp [countAll]
    | succ i =>
      have := ih i (by simpa using h)
      simp only [List.take_succ_cons, countAll, List.getElem_cons_succ]
      omega
theorem countAll_take_le (ks : List Fm) (i : Nat) : countAll (ks.take i) ≤ countAll ks := by
  induction ks generalizing i with
  | nil => simp
  | cons f r ih =>
    cases i with
    | zero => simp [countAll]
    | succ i => have := ih i; simp only [List.take_succ_cons, countAll]; omega
mutual
/-- how many places a form takes, in letters, numbers and forms -/
def Fm.sz : Fm → Nat
  | .mk _ nm _ sc ks => nm.size + sc.length + szAll ks
def szAll : List Fm → Nat
  | [] => 0
  | f :: r => f.sz + 1 + szAll r
end
mutual
theorem Fm.count_le : ∀ f : Fm, f.count ≤ f.sz + 1
  | .mk _ _ _ _ ks => by have := countAll_le ks; unfold Fm.count Fm.sz; omega
theorem countAll_le : ∀ ks : List Fm, countAll ks ≤ szAll ks
  | [] => by simp [countAll, szAll]
  | f :: r => by have := Fm.count_le f; have := countAll_le r; unfold countAll szAll; omega
end
theorem szAll_length (ks : List Fm) : ks.length ≤ szAll ks := by
  induction ks with
  | nil => simp
  | cons f r ih => simp only [List.length_cons, szAll]; omega
/-- the places behind those of the list itself -/
def szIn (ks : List Fm) : Nat := szAll ks - ks.length
theorem szIn_take_succ (ks : List Fm) (i : Nat) (h : i < ks.length) : szIn (ks.take (i + 1)) = szIn (ks.take i) + (ks[i]).sz := by
  induction ks generalizing i with
  | nil => simp at h
  | cons f r ih =>
    have hl := szAll_length
    cases i with
    | zero => simp [szIn, szAll]
    | succ i =>
      have := ih i (by simpa using h)
      have h1 := hl (r.take (i + 1))
      have h2 := hl (r.take i)
      simp only [szIn] at this ⊢
      simp only [List.take_succ_cons, szAll, List.getElem_cons_succ, List.length_cons]
      omega
theorem szIn_take_le (ks : List Fm) (i : Nat) : szIn (ks.take i) ≤ szIn ks := by
  induction ks generalizing i with
  | nil => simp
  | cons f r ih =>
    cases i with
    | zero => simp [szIn, szAll]
    | succ i =>
      have := ih i
      have h1 := szAll_length (r.take i)
      have h2 := szAll_length r
      simp only [szIn] at this ⊢
      simp only [List.take_succ_cons, szAll, List.length_cons]
      omega
end Go.Proofs.Ytilbjlngnpmhcaa
