/- Plain facts on names: what a letter of a name is, what a name is. Nothing of the program is used. -/
import Derived.Test.YtilbjlngnpmhcaaBase
namespace Go.Proofs.Ytilbjlngnpmhcaa
/-- a letter of a name; 'first': at its head -/
def ltr (c : Nat) (first : Bool) : Bool :=
  (decide (97 ≤ c) && decide (c ≤ 122) || c == 42 || c == 63 || c == 61 || c == 43 || c == 60) || (!first && (decide (48 ≤ c) && decide (c ≤ 57) || c == 45))
theorem ltr_lt {c : Nat} {b : Bool} (h : ltr c b = true) : c < 128 := by
  unfold ltr at h
  simp at h
  omega
theorem ltr_true {c : Nat} {b : Bool} (h : ltr c true = true) : ltr c b = true := by
  unfold ltr at h ⊢
  simp at h ⊢
  exact .inl h
theorem ltr_high {c : Nat} (b : Bool) (h : 128 ≤ c) : ltr c b = false := by
  cases hl : ltr c b with
  | false => rfl
  | true => have := ltr_lt hl; omega
/-- the letters of a text are those of a name -/
def ltrs (l : List UInt8) : Bool :=
  match l with
  | [] => true
  | c :: r => ltr c.toNat true && r.all (fun d => ltr d.toNat false)
/-- a name -/
def nameB (l : List UInt8) : Bool :=
  l == [46, 46, 46] || l == [95] || (decide (1 ≤ l.length) && decide (l.length ≤ 12) && ltrs l)
theorem ltrs_take_succ (l : List UInt8) (k : Nat) (h : k < l.length) :
    ltrs (l.take (k + 1)) = (ltrs (l.take k) && ltr (l[k]).toNat (k == 0)) := by
  cases l with
  | nil => simp at h
  | cons c r =>
    cases k with
    | zero => simp [ltrs]
    | succ k =>
      have hk : k < r.length := by simpa using h
      simp only [List.take_succ_cons, ltrs]
      rw [List.take_succ_eq_append_getElem hk, List.all_append]
      simp [Bool.and_assoc]
theorem take_size (s : ByteArray) : s.data.toList.take s.size = s.data.toList := List.take_of_length_le (by rw [Array.length_toList]; exact Nat.le_refl _)
/-- a text with a prefix that is none of a name's is no name -/
theorem ltrs_take (l : List UInt8) (k : Nat) (h : ltrs l = true) : ltrs (l.take k) = true := by
  cases l with
  | nil => simp [ltrs]
  | cons c r =>
    cases k with
    | zero => simp [ltrs]
    | succ k =>
      simp only [ltrs, List.take_succ_cons, Bool.and_eq_true] at h ⊢
      exact ⟨h.1, List.all_eq_true.2 fun x hx => List.all_eq_true.1 h.2 x (List.mem_of_mem_take hx)⟩
theorem nameB_no (l : List UInt8) (k : Nat) (h1 : (l == [46, 46, 46]) = false) (h2 : (l == [95]) = false) (h : ltrs (l.take k) = false) : nameB l = false := by
  unfold nameB
  rw [h1, h2]
  cases hl : ltrs l with
  | false => simp
  | true => rw [ltrs_take l k hl] at h; cases h
theorem nameB_size (l : List UInt8) (h1 : (l == [46, 46, 46]) = false) (h2 : (l == [95]) = false) (h : l.length = 0 ∨ 12 < l.length) : nameB l = false := by
  unfold nameB
  rw [h1, h2]
  rcases h with h | h
  · rw [decide_eq_false (p := 1 ≤ l.length) (by omega)]; simp
  · rw [decide_eq_false (p := l.length ≤ 12) (by omega)]; simp
theorem nameB_yes (l : List UInt8) (h : 1 ≤ l.length ∧ l.length ≤ 12) (hl : ltrs l = true) : nameB l = true := by
  unfold nameB
  rw [hl]
  simp [h.1, h.2]
end Go.Proofs.Ytilbjlngnpmhcaa
