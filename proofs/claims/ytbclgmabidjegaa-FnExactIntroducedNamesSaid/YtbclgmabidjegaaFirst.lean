/- The first texts of this seat: letters and names, forms as data, sets of scopes, validity, small walks. -/
import Derived.WalkKit
import Derived.WalkSpells
import Derived.WalkLawsBesides
import Derived.Lib.Hide
import Derived.Lib.Strings
import Derived.Lib.OthersKept
import Derived.Test.YtbclgmabidjegaaChecked
import Derived.Deep.QuietTactic
import Derived.BigQuiet
import Derived.Defers
import Derived.KernelRfl
namespace Go.Proofs.Ytbclgmabidjegaa
section
open Go.RowKit
theorem ret_bool {a b : Bool} (h : a = b) : Ending.returned (.bool a) = .returned (.bool b) := by rw [h]
theorem ret_int {k : IntKind} {a b : Int} (h : a = b) : Ending.returned (.int k a) = .returned (.int k b) := by rw [h]
theorem size_len (s : ByteArray) : s.size = s.data.toList.length := Lib.size_eq s
end
end Go.Proofs.Ytbclgmabidjegaa
namespace Go.Proofs.Ytbclgmabidjegaa
section
/-- a letter of a name; 'first': at its head -/
def ltr (c : Nat) (first : Bool) : Bool :=
  (decide (97 ≤ c) && decide (c ≤ 122) || c == 42 || c == 63 || c == 61 || c == 43 || c == 60) || (!first && (decide (48 ≤ c) && decide (c ≤ 57) || c == 45))
theorem ltr_lt {c : Nat} {b : Bool} (h : ltr c b = true) : c < 128 := by
  unfold ltr at h
  simp at h
  omega
theorem ltr_true {c : Nat} {b : Bool} (h : ltr c true = true) : ltr c b = true := by
  unfold ltr at h ⊢
  simp at h ⊢
  exact .inl h
theorem ltr_high {c : Nat} (b : Bool) (h : 128 ≤ c) : ltr c b = false := by
  cases hl : ltr c b with
  | false => rfl
  | true => have := ltr_lt hl; omega
/-- the letters of a text are those of a name -/
def ltrs (l : List UInt8) : Bool :=
  match l with
  | [] => true
  | c :: r => ltr c.toNat true && r.all (fun d => ltr d.toNat false)
/-- a name -/
def nameB (l : List UInt8) : Bool :=
  l == [46, 46, 46] || l == [95] || (decide (1 ≤ l.length) && decide (l.length ≤ 12) && ltrs l)
theorem ltrs_take_succ (l : List UInt8) (k : Nat) (h : k < l.length) :
    ltrs (l.take (k + 1)) = (ltrs (l.take k) && ltr (l[k]).toNat (k == 0)) := by
  cases l with
  | nil => simp at h
  | cons c r =>
    cases k with
    | zero => simp [ltrs]
    | succ k =>
      have hk : k < r.length := by simpa using h
      simp only [List.take_succ_cons, ltrs]
      rw [List.take_succ_eq_append_getElem hk, List.all_append]
      simp [Bool.and_assoc]
theorem take_size (s : ByteArray) : s.data.toList.take s.size = s.data.toList := List.take_of_length_le (by rw [Array.length_toList]; exact Nat.le_refl _)
/-- a text with a prefix that is none of a name's is no name -/
theorem ltrs_take (l : List UInt8) (k : Nat) (h : ltrs l = true) : ltrs (l.take k) = true := by
  cases l with
  | nil => simp [ltrs]
  | cons c r =>
    cases k with
    | zero => simp [ltrs]
    | succ k =>
      simp only [ltrs, List.take_succ_cons, Bool.and_eq_true] at h ⊢
      exact ⟨h.1, List.all_eq_true.2 fun x hx => List.all_eq_true.1 h.2 x (List.mem_of_mem_take hx)⟩
theorem nameB_no (l : List UInt8) (k : Nat) (h1 : (l == [46, 46, 46]) = false) (h2 : (l == [95]) = false) (h : ltrs (l.take k) = false) : nameB l = false := by
  unfold nameB
  rw [h1, h2]
  cases hl : ltrs l with
  | false => simp
  | true => rw [ltrs_take l k hl] at h; cases h
theorem nameB_size (l : List UInt8) (h1 : (l == [46, 46, 46]) = false) (h2 : (l == [95]) = false) (h : l.length = 0 ∨ 12 < l.length) : nameB l = false := by
  unfold nameB
  rw [h1, h2]
  rcases h with h | h
  · rw [decide_eq_false (p := 1 ≤ l.length) (by omega)]; simp
  · rw [decide_eq_false (p := l.length ≤ 12) (by omega)]; simp
theorem nameB_yes (l : List UInt8) (h : 1 ≤ l.length ∧ l.length ≤ 12) (hl : ltrs l = true) : nameB l = true := by
  unfold nameB
  rw [hl]
  simp [h.1, h.2]
end
end Go.Proofs.Ytbclgmabidjegaa
namespace Go.Proofs.Ytbclgmabidjegaa
section
open Go.RowKit
set_option maxHeartbeats 400000 in
theorem l1Letter_any (c : Nat) (b : Bool) (w : World) (hc : c < 256) :
    Calls Try.prog 209 #[.int .u8 c, .bool b] w fun e w' => e = .returned (.bool (ltr c b)) ∧ w = w' := by
  go_enter Try.func209, Try.ntmps209
  go_wp2
  all_goals
    go_ret
    refine ⟨ret_bool ?_, rfl⟩
    rw [Bool.eq_iff_iff]
    simp_all [ltr]
    try omega
set_option maxHeartbeats 400000 in
theorem beginsName_any (c : Nat) (w : World) (hc : c < 2147483648) :
    Calls Try.prog 210 #[.int .i32 c] w fun e w' => e = .returned (.bool (ltr c true)) ∧ w = w' := by
  go_enter Try.func210, Try.ntmps210
  go_wp2
  all_goals
    go_ret
    refine ⟨ret_bool ?_, rfl⟩
    rw [Bool.eq_iff_iff]
    simp_all [ltr]
    try omega
end
end Go.Proofs.Ytbclgmabidjegaa
namespace Go.Proofs.Ytbclgmabidjegaa
section
open Go.RowKit
set_option maxHeartbeats 400000 in
theorem continuesName_any (c : Nat) (w : World) (hc : c < 2147483648) (hn : ltr c true = false) :
    Calls Try.prog 211 #[.int .i32 c] w fun e w' => e = .returned (.bool (ltr c false)) ∧ w = w' := by
  go_enter Try.func211, Try.ntmps211
  go_wp2
  all_goals
    go_ret
    refine ⟨ret_bool ?_, rfl⟩
    rw [Bool.eq_iff_iff]
    simp_all [ltr]
    try omega
set_option maxHeartbeats 400000 in
theorem specNameValid_any (s : ByteArray) (w : World) (hs : s.size ≤ maxLen) :
    Calls Try.prog 186 #[.string s] w fun e w' => e = .returned (.bool (nameB s.data.toList)) ∧ w = w' := by
  unfold maxLen at hs
  have hsz := Lib.size_eq s
  by_cases h1 : (s.toList == [46, 46, 46]) = true
  · have hf : nameB s.data.toList = true := by rw [Lib.toList_data] at h1; unfold nameB; rw [h1]; rfl
    have HF := Lib.hid hf
    clear hf hsz
    go_enter Try.func186, Try.ntmps186
    go_wp2
    go_ret
    exact ⟨ret_bool HF.out.symm, rfl⟩
  · by_cases h2 : (s.toList == [95]) = true
    · have hf : nameB s.data.toList = true := by rw [Lib.toList_data] at h2; unfold nameB; rw [h2]; simp
      have HF := Lib.hid hf
      clear hf hsz
      go_enter Try.func186, Try.ntmps186
      go_wp2
      all_goals
        go_ret
        exact ⟨ret_bool HF.out.symm, rfl⟩
    · have h1' : (s.toList == [46, 46, 46]) = false := by simpa using h1
      have h2' : (s.toList == [95]) = false := by simpa using h2
      have H1 : Hid ((s.data.toList == [46, 46, 46]) = false) := by rw [Lib.toList_data] at h1'; exact h1'
      have H2 : Hid ((s.data.toList == [95]) = false) := by rw [Lib.toList_data] at h2'; exact h2'
      have HZ := Lib.hid hsz
      clear h1 h2 hsz
      go_enter Try.func186, Try.ntmps186
      go_wp2
      go_loop [3] (fun i => ∃ k : Nat, k ≤ s.size ∧ k ≤ 13 ∧ i = .int .i64 k ∧ ltrs (s.data.toList.take k) = true) (fun i => s.size - (intOf i).toNat)
      case atStart => exact ⟨0, Nat.zero_le _, by omega, rfl, rfl⟩
      case round =>
        obtain ⟨k, hk, hk2, rfl, hr⟩ := hrel
        have HR := Lib.hid hr
        clear hr
        by_cases hlt : k < s.size ∧ k ≤ 12
        · obtain ⟨hlt, hle⟩ := hlt
          have hk0 : ((k : Int) == 0) = (k == 0) := by rw [Bool.eq_iff_iff]; simp
          have hts : ltrs (s.data.toList.take (k + 1)) = ltr (s[k]).toNat (k == 0) := by
            rw [ltrs_take_succ _ k (by rw [← HZ.out]; exact hlt), HR.out, Bool.true_and]; rfl
          have HS := Lib.hid hts
          clear hts
          cases hl : ltr (s[k]).toNat (k == 0) with
          | true =>
            go_wp2_with (go_at_call 209; refine (l1Letter_any _ _ _ (UInt8.toNat_lt _)).mono ?_; rintro e w' ⟨rfl, rfl⟩)
            go_round
            case rel => exact ⟨k + 1, by omega, by omega, by go_num, by rw [HS.out, hl]⟩
            case measure => simp [intOf]; omega
          | false =>
            go_wp2_with (go_at_call 209; refine (l1Letter_any _ _ _ (UInt8.toNat_lt _)).mono ?_; rintro e w' ⟨rfl, rfl⟩)
            go_ret
            exact ⟨ret_bool (nameB_no _ (k + 1) H1.out H2.out (by rw [HS.out, hl])).symm, rfl⟩
        · by_cases h0 : s.size = 0
          · have HN := Lib.hid (nameB_size _ H1.out H2.out (.inl (by rw [← HZ.out]; exact h0)))
            have hz : s.size < 1 := by omega
            clear h0
            by_cases hlt' : k < s.size
            · omega
            · go_wp2
              all_goals
                go_ret
                exact ⟨ret_bool HN.out.symm, rfl⟩
          · have hz : 1 ≤ s.size := by omega
            clear h0
            by_cases hl : s.size ≤ 12
            · have hk3 : ¬ k < s.size := by omega
              have HN := Lib.hid (nameB_yes s.data.toList (by rw [← HZ.out]; exact ⟨hz, hl⟩) (by have := HR.out; rw [show k = s.size from by omega, take_size] at this; exact this))
              go_wp2
              all_goals
                go_ret
                exact ⟨ret_bool (by rw [HN.out]; simp; omega), rfl⟩
            · have hk3 : ¬ k ≤ 12 := by omega
              have HN := Lib.hid (nameB_size _ H1.out H2.out (.inr (by rw [← HZ.out]; omega)))
              by_cases hlt' : k < s.size
              all_goals
                go_wp2
                all_goals
                  go_ret
                  exact ⟨ret_bool (by rw [HN.out]; simp; omega), rfl⟩

set_option maxHeartbeats 400000 in
theorem implNameValid_any (s : ByteArray) (w : World) (hs : s.size ≤ maxLen) :
    Calls Try.prog 188 #[.string s] w fun e w' => e = .returned (.bool (nameB s.data.toList)) ∧ Below w.heap.size w w' := by
  unfold maxLen at hs
  have hsz := Lib.size_eq s
  by_cases h1 : (s.toList == [46, 46, 46]) = true
  · have hf : nameB s.data.toList = true := by rw [Lib.toList_data] at h1; unfold nameB; rw [h1]; rfl
    have HF := Lib.hid hf
    clear hf hsz
    go_enter Try.func188, Try.ntmps188
    go_wp2
    go_ret
    exact ⟨ret_bool HF.out.symm, Below.refl _ _⟩
  · by_cases h2 : (s.toList == [95]) = true
    · have hf : nameB s.data.toList = true := by rw [Lib.toList_data] at h2; unfold nameB; rw [h2]; simp
      have HF := Lib.hid hf
      clear hf hsz
      go_enter Try.func188, Try.ntmps188
      go_wp2
      all_goals
        go_ret
        exact ⟨ret_bool HF.out.symm, Below.refl _ _⟩
    · have h1' : (s.toList == [46, 46, 46]) = false := by simpa using h1
      have h2' : (s.toList == [95]) = false := by simpa using h2
      have H1 : Hid ((s.data.toList == [46, 46, 46]) = false) := by rw [Lib.toList_data] at h1'; exact h1'
      have H2 : Hid ((s.data.toList == [95]) = false) := by rw [Lib.toList_data] at h2'; exact h2'
      have HZ := Lib.hid hsz
      clear h1 h2 hsz
      by_cases h0 : s.size = 0 ∨ 12 < s.size
      · have HN := Lib.hid (nameB_size _ H1.out H2.out (by rw [← HZ.out]; exact h0))
        rcases h0 with h0 | h0
        all_goals
          go_enter Try.func188, Try.ntmps188
          go_wp2
          all_goals
            go_ret
            exact ⟨ret_bool HN.out.symm, Below.refl _ _⟩
      · have hz1 : 1 ≤ s.size := by omega
        have hz2 : s.size ≤ 12 := by omega
        have hz0 : ((s.size : Int) == 0) = false := by rw [beq_eq_false_iff_ne]; omega
        have hne : ¬ s = ByteArray.empty := by intro e; rw [e] at hz1; simp at hz1
        clear h0
        go_enter Try.func188, Try.ntmps188
        go_wp2
        go_loopw [3, 4] (fun _ _ w' => ∃ k : Nat, w' = w.iter s k ∧ k ≤ s.size ∧ ltrs (s.data.toList.take k) = true) (fun _ _ w' => s.size - w'.iterPos w.heap.size)
        case atStart => exact ⟨0, rfl, Nat.zero_le _, rfl⟩
        case round =>
          obtain ⟨k, rfl, hk, hr⟩ := hrel
          have HR := Lib.hid hr
          clear hr
          by_cases hlt : k < s.size
          · have hts : ltrs (s.data.toList.take (k + 1)) = ltr (s[k]).toNat (k == 0) := by
              rw [ltrs_take_succ _ k (by rw [← HZ.out]; exact hlt), HR.out, Bool.true_and]; rfl
            have HS := Lib.hid hts
            clear hts
            have hbel : Below w.heap.size w (w.iter s (k + 1)) := (Below.refl _ _).alloc (Nat.le_refl _) _
            by_cases ha : (s[k]).toNat < 128
            · have hnx : ∀ ty, (Instr.next (.pointer (some ⟨w.heap.size, 0, none⟩)) true ty).run Try.prog (w.iter s k) = _ := fun ty => run_next_ascii w s k ty hlt ha
              cases hb : ltr (s[k]).toNat true with
              | true =>
                have HL : Hid (ltr (s[k]).toNat (k == 0) = true) := ltr_true hb
                go_wp2_with (first | (go_at_call 210; refine (beginsName_any _ _ (by omega)).mono ?_; rintro e w' ⟨rfl, rfl⟩) | (go_at_call 211; refine (continuesName_any _ _ (by omega) hb).mono ?_; rintro e w' ⟨rfl, rfl⟩))
                go_roundw
                case rel => exact ⟨k + 1, rfl, by omega, by rw [HS.out, HL.out]⟩
                case measure => simp; omega
              | false =>
                by_cases hk0 : k = 0
                · have HN := Lib.hid (nameB_no _ (k + 1) H1.out H2.out (by rw [HS.out, show (k == 0) = true from by simpa using hk0, hb]))
                  have hk0' : ((k : Int) == 0) = true := by simpa using hk0
                  clear hk0
                  go_wp2_with (first | (go_at_call 210; refine (beginsName_any _ _ (by omega)).mono ?_; rintro e w' ⟨rfl, rfl⟩) | (go_at_call 211; refine (continuesName_any _ _ (by omega) hb).mono ?_; rintro e w' ⟨rfl, rfl⟩))
                  all_goals
                    go_ret
                    exact ⟨ret_bool HN.out.symm, hbel⟩
                · have hk0' : ((k : Int) == 0) = false := by rw [beq_eq_false_iff_ne]; omega
                  have hk1 : (k == 0) = false := by simpa using hk0
                  clear hk0
                  cases hc : ltr (s[k]).toNat false with
                  | true =>
                    have HL : Hid (ltr (s[k]).toNat (k == 0) = true) := by rw [hk1]; exact hc
                    clear hk1
                    go_wp2_with (first | (go_at_call 210; refine (beginsName_any _ _ (by omega)).mono ?_; rintro e w' ⟨rfl, rfl⟩) | (go_at_call 211; refine (continuesName_any _ _ (by omega) hb).mono ?_; rintro e w' ⟨rfl, rfl⟩))
                    go_roundw
                    case rel => exact ⟨k + 1, rfl, by omega, by rw [HS.out, HL.out]⟩
                    case measure => simp; omega
                  | false =>
                    have HN := Lib.hid (nameB_no _ (k + 1) H1.out H2.out (by rw [HS.out, hk1, hc]))
                    clear hk1
                    go_wp2_with (first | (go_at_call 210; refine (beginsName_any _ _ (by omega)).mono ?_; rintro e w' ⟨rfl, rfl⟩) | (go_at_call 211; refine (continuesName_any _ _ (by omega) hb).mono ?_; rintro e w' ⟨rfl, rfl⟩))
                    all_goals
                      go_ret
                      exact ⟨ret_bool HN.out.symm, hbel⟩
            · have hnx : ∀ ty, (Instr.next (.pointer (some ⟨w.heap.size, 0, none⟩)) true ty).run Try.prog (w.iter s k) = _ := fun ty => run_next_any w s k ty hlt
              have hd := (decode_high s k hlt (by omega)).1
              have hd2 := decode_le s k
              have hb := ltr_high true hd
              have hc := ltr_high false hd
              have hbel2 : Below w.heap.size w (w.iter s (k + (Utf8.decode s k).2)) := (Below.refl _ _).alloc (Nat.le_refl _) _
              have HN := Lib.hid (nameB_no _ (k + 1) H1.out H2.out (by rw [HS.out, ltr_high _ (by omega)]))
              by_cases hk0 : k = 0
              · have hk0' : ((k : Int) == 0) = true := by simpa using hk0
                clear hk0
                go_wp2_with (first | (go_at_call 210; refine (beginsName_any _ _ (by omega)).mono ?_; rintro e w' ⟨rfl, rfl⟩) | (go_at_call 211; refine (continuesName_any _ _ (by omega) hb).mono ?_; rintro e w' ⟨rfl, rfl⟩))
                all_goals
                  go_ret
                  exact ⟨ret_bool HN.out.symm, hbel2⟩
              · have hk0' : ((k : Int) == 0) = false := by rw [beq_eq_false_iff_ne]; omega
                clear hk0
                go_wp2_with (first | (go_at_call 210; refine (beginsName_any _ _ (by omega)).mono ?_; rintro e w' ⟨rfl, rfl⟩) | (go_at_call 211; refine (continuesName_any _ _ (by omega) hb).mono ?_; rintro e w' ⟨rfl, rfl⟩))
                all_goals
                  go_ret
                  exact ⟨ret_bool HN.out.symm, hbel2⟩
          · have hnx : ∀ ty, (Instr.next (.pointer (some ⟨w.heap.size, 0, none⟩)) true ty).run Try.prog (w.iter s k) = _ := fun ty => run_next_end w s k ty hlt
            have hbel : Below w.heap.size w (w.iter s k) := (Below.refl _ _).alloc (Nat.le_refl _) _
            have HN := Lib.hid (nameB_yes s.data.toList (by rw [← HZ.out]; exact ⟨hz1, hz2⟩) (by have := HR.out; rw [show k = s.size from by omega, take_size] at this; exact this))
            go_wp2
            go_ret
            exact ⟨ret_bool HN.out.symm, hbel⟩
end
end Go.Proofs.Ytbclgmabidjegaa
namespace Go.Proofs.Ytbclgmabidjegaa
section
open Go.RowKit
/-- a form, as data -/
inductive Fm where
  | mk (kind : Int) (name : ByteArray) (n : Int) (scopes : List Int) (kids : List Fm)
def Fm.kind : Fm → Int | .mk k _ _ _ _ => k
def Fm.name : Fm → ByteArray | .mk _ s _ _ _ => s
def Fm.n : Fm → Int | .mk _ _ n _ _ => n
def Fm.scopes : Fm → List Int | .mk _ _ _ s _ => s
def Fm.kids : Fm → List Fm | .mk _ _ _ _ k => k

mutual
theorem Fm.ind_aux {P : Fm → Prop} (h : ∀ k nm n sc ks, (∀ g ∈ ks, P g) → P (.mk k nm n sc ks)) : ∀ f, P f
  | .mk k nm n sc ks => h k nm n sc ks (Fm.ind_list h ks)
theorem Fm.ind_list {P : Fm → Prop} (h : ∀ k nm n sc ks, (∀ g ∈ ks, P g) → P (.mk k nm n sc ks)) : ∀ (ks : List Fm), ∀ g ∈ ks, P g
  | [], _, hg => by cases hg
  | f :: r, g, hg => by
    cases hg with
    | head => exact Fm.ind_aux h f
    | tail _ hr => exact Fm.ind_list h r g hr
end
theorem Fm.ind {P : Fm → Prop} (h : ∀ k nm n sc ks, (∀ g ∈ ks, P g) → P (.mk k nm n sc ks)) (f : Fm) : P f := Fm.ind_aux h f

/-- a slice of numbers; 'φ': where its block may lie -/
def IntRow (φ : Nat → Prop) (w : World) (v : Value) (l : List Int) : Prop :=
  ∃ a cap, v = .slice a l.length cap ∧ l.length ≤ cap ∧ cap ≤ maxLen ∧ (∀ n ∈ l, -9223372036854775808 ≤ n ∧ n ≤ 9223372036854775807) ∧
    (l = [] ∨ ∃ b off, a = some ⟨b, off, none⟩ ∧ φ b ∧ ∀ i, (h : i < l.length) → w.cell? ⟨b, off + i, none⟩ = some (.int .i64 l[i]))

mutual
/-- a value of type Form that reads as a form, its blocks where 'φ' lets them lie -/
def InV (φ : Nat → Prop) (w : World) : Fm → Value → Prop
  | .mk k nm n sc ks, v => ∃ vs a cap, v = .agg #[.int .i64 k, .string nm, .int .i64 n, vs, .slice a ks.length cap] ∧
      (-9223372036854775808 ≤ k ∧ k ≤ 9223372036854775807) ∧ (-9223372036854775808 ≤ n ∧ n ≤ 9223372036854775807) ∧
      nm.size ≤ maxLen ∧ IntRow φ w vs sc ∧ ks.length ≤ cap ∧ cap ≤ maxLen ∧
      (ks = [] ∨ ∃ b off, a = some ⟨b, off, none⟩ ∧ φ b ∧ RowIn φ w b off ks)
def RowIn (φ : Nat → Prop) (w : World) (b off : Nat) : List Fm → Prop
  | [] => True
  | f :: r => (∃ c0 c1 c2 c3 c4, w.cell? ⟨b, off, none⟩ = some c0 ∧ w.cell? ⟨b, off + 1, none⟩ = some c1 ∧ w.cell? ⟨b, off + 2, none⟩ = some c2 ∧
      w.cell? ⟨b, off + 3, none⟩ = some c3 ∧ w.cell? ⟨b, off + 4, none⟩ = some c4 ∧ InV φ w f (.agg #[c0, c1, c2, c3, c4])) ∧ RowIn φ w b (off + 5) r
end

theorem cell_lt {w : World} {b o : Nat} {v : Value} (h : w.cell? ⟨b, o, none⟩ = some v) : b < w.heap.size := by
  by_cases hb : b < w.heap.size
  · exact hb
  · exfalso
    simp only [World.cell?, Array.getElem?_eq_none (Nat.le_of_not_lt hb)] at h
    simp at h
theorem cell_later' {w w' : World} {b o : Nat} {v : Value} (hb : Below w.heap.size w w') (h : w.cell? ⟨b, o, none⟩ = some v) : w'.cell? ⟨b, o, none⟩ = some v := by
  rw [hb.cell (p := ⟨b, o, none⟩) (cell_lt h)]; exact h
/-- the blocks of 'φ' are the same in both worlds -/
def Same (φ : Nat → Prop) (w w' : World) : Prop := ∀ k, φ k → w'.heap[k]? = w.heap[k]?
theorem Same.cell {φ : Nat → Prop} {w w' : World} {b o : Nat} (h : Same φ w w') (hb : φ b) : w'.cell? ⟨b, o, none⟩ = w.cell? ⟨b, o, none⟩ :=
  World.cell?_of_block (w := w) (a := ⟨b, o, none⟩) (h b hb)
theorem Same.refl (φ : Nat → Prop) (w : World) : Same φ w w := fun _ _ => rfl
theorem Same.trans {φ : Nat → Prop} {a b c : World} (h : Same φ a b) (g : Same φ b c) : Same φ a c := fun k hk => (g k hk).trans (h k hk)
theorem Same.of_below {B : Nat} {φ : Nat → Prop} {w w' : World} (h : Below B w w') (hφ : ∀ k, φ k → k < B) : Same φ w w' := fun k hk => h.block k (hφ k hk)
theorem same_below {B : Nat} {w w' : World} (h : Below B w w') : Same (· < B) w w' := fun k hk => h.block k hk

theorem IntRow.later {φ : Nat → Prop} {w w' : World} {v : Value} {l : List Int} (hb : Same φ w w') (h : IntRow φ w v l) : IntRow φ w' v l := by
  obtain ⟨a, cap, h1, h2, h3, h4, h5⟩ := h
  refine ⟨a, cap, h1, h2, h3, h4, ?_⟩
  rcases h5 with h5 | ⟨b, off, h5, hp, h6⟩
  · exact .inl h5
  · exact .inr ⟨b, off, h5, hp, fun i hi => by rw [hb.cell hp]; exact h6 i hi⟩
theorem IntRow.mono {φ ψ : Nat → Prop} {w : World} {v : Value} {l : List Int} (hb : ∀ k, φ k → ψ k) (h : IntRow φ w v l) : IntRow ψ w v l := by
  obtain ⟨a, cap, h1, h2, h3, h4, h5⟩ := h
  refine ⟨a, cap, h1, h2, h3, h4, ?_⟩
  rcases h5 with h5 | ⟨b, off, h5, hp, h6⟩
  · exact .inl h5
  · exact .inr ⟨b, off, h5, hb b hp, h6⟩

mutual
theorem InV.later {φ : Nat → Prop} {w w' : World} (hb : Same φ w w') : ∀ (f : Fm) (v : Value), InV φ w f v → InV φ w' f v
  | .mk k nm n sc ks, v, h => by
    unfold InV at h ⊢
    obtain ⟨vs, a, cap, h1, hk, hn, h2, h3, h4, h5, h6⟩ := h
    refine ⟨vs, a, cap, h1, hk, hn, h2, h3.later hb, h4, h5, ?_⟩
    rcases h6 with h6 | ⟨b, off, h6, hp, h7⟩
    · exact .inl h6
    · exact .inr ⟨b, off, h6, hp, RowIn.later hb b hp off ks h7⟩
theorem RowIn.later {φ : Nat → Prop} {w w' : World} (hb : Same φ w w') (b : Nat) (hp : φ b) : ∀ (off : Nat) (ks : List Fm), RowIn φ w b off ks → RowIn φ w' b off ks
  | _, [], _ => by unfold RowIn; trivial
  | off, f :: r, h => by
    unfold RowIn at h ⊢
    obtain ⟨⟨c0, c1, c2, c3, c4, h0, h1, h2, h3, h4, h5⟩, h6⟩ := h
    refine ⟨⟨c0, c1, c2, c3, c4, ?_, ?_, ?_, ?_, ?_, InV.later hb f _ h5⟩, RowIn.later hb b hp (off + 5) r h6⟩
    all_goals rw [hb.cell hp]; assumption
end
mutual
theorem InV.mono {φ ψ : Nat → Prop} {w : World} (hb : ∀ k, φ k → ψ k) : ∀ (f : Fm) (v : Value), InV φ w f v → InV ψ w f v
  | .mk k nm n sc ks, v, h => by
    unfold InV at h ⊢
    obtain ⟨vs, a, cap, h1, hk, hn, h2, h3, h4, h5, h6⟩ := h
    refine ⟨vs, a, cap, h1, hk, hn, h2, h3.mono hb, h4, h5, ?_⟩
    rcases h6 with h6 | ⟨b, off, h6, hp, h7⟩
    · exact .inl h6
    · exact .inr ⟨b, off, h6, hb b hp, RowIn.mono hb b off ks h7⟩
theorem RowIn.mono {φ ψ : Nat → Prop} {w : World} (hb : ∀ k, φ k → ψ k) (b : Nat) : ∀ (off : Nat) (ks : List Fm), RowIn φ w b off ks → RowIn ψ w b off ks
  | _, [], _ => by unfold RowIn; trivial
  | off, f :: r, h => by
    unfold RowIn at h ⊢
    obtain ⟨⟨c0, c1, c2, c3, c4, h0, h1, h2, h3, h4, h5⟩, h6⟩ := h
    exact ⟨⟨c0, c1, c2, c3, c4, h0, h1, h2, h3, h4, InV.mono hb f _ h5⟩, RowIn.mono hb b (off + 5) r h6⟩
end
theorem RowIn.at {φ : Nat → Prop} {w : World} {b : Nat} : ∀ {off : Nat} {ks : List Fm}, RowIn φ w b off ks → ∀ (i : Nat) (h : i < ks.length),
    ∃ c0 c1 c2 c3 c4, w.cell? ⟨b, off + i * 5, none⟩ = some c0 ∧ w.cell? ⟨b, off + i * 5 + 1, none⟩ = some c1 ∧ w.cell? ⟨b, off + i * 5 + 2, none⟩ = some c2 ∧
      w.cell? ⟨b, off + i * 5 + 3, none⟩ = some c3 ∧ w.cell? ⟨b, off + i * 5 + 4, none⟩ = some c4 ∧ InV φ w ks[i] (.agg #[c0, c1, c2, c3, c4])
  | off, f :: r, h, 0, _ => by unfold RowIn at h; simpa using h.1
  | off, f :: r, h, i + 1, hi => by
    unfold RowIn at h
    have := RowIn.at h.2 i (by simpa using hi)
    rw [show off + (i + 1) * 5 = off + 5 + i * 5 from by omega]
    simpa using this
/-- what a value that reads as a form looks like -/
theorem InV.form {φ : Nat → Prop} {w : World} {f : Fm} {v : Value} (h : InV φ w f v) :
    ∃ sa scap a cap, v = .agg #[.int .i64 f.kind, .string f.name, .int .i64 f.n, .slice sa f.scopes.length scap, .slice a f.kids.length cap] := by
  cases f with
  | mk k nm n sc ks =>
    unfold InV at h
    obtain ⟨vs, a, cap, rfl, _, _, _, hvs, _⟩ := h
    obtain ⟨sa, scap, rfl, _⟩ := hvs
    exact ⟨sa, scap, a, cap, rfl⟩
theorem RowIn.at' {φ : Nat → Prop} {w : World} {b off : Nat} {ks : List Fm} (h : RowIn φ w b off ks) (i : Nat) (hi : i < ks.length) :
    ∃ sa scap a cap, w.cell? ⟨b, off + i * 5, none⟩ = some (.int .i64 ks[i].kind) ∧ w.cell? ⟨b, off + i * 5 + 1, none⟩ = some (.string ks[i].name) ∧
      w.cell? ⟨b, off + i * 5 + 2, none⟩ = some (.int .i64 ks[i].n) ∧ w.cell? ⟨b, off + i * 5 + 3, none⟩ = some (.slice sa ks[i].scopes.length scap) ∧
      w.cell? ⟨b, off + i * 5 + 4, none⟩ = some (.slice a ks[i].kids.length cap) ∧
      InV φ w ks[i] (.agg #[.int .i64 ks[i].kind, .string ks[i].name, .int .i64 ks[i].n, .slice sa ks[i].scopes.length scap, .slice a ks[i].kids.length cap]) := by
  obtain ⟨c0, c1, c2, c3, c4, h0, h1, h2, h3, h4, h5⟩ := h.at i hi
  obtain ⟨sa, scap, a, cap, e⟩ := h5.form
  injection e with e
  injection e with e
  simp only [List.cons.injEq, and_true] at e
  obtain ⟨rfl, rfl, rfl, rfl, rfl⟩ := e
  exact ⟨sa, scap, a, cap, h0, h1, h2, h3, h4, h5⟩
mutual
/-- how many nodes -/
def Fm.count : Fm → Nat
  | .mk _ _ _ _ ks => countAll ks + 1
def countAll : List Fm → Nat
  | [] => 0
  | f :: r => f.count + countAll r
end
theorem countAll_take_succ (ks : List Fm) (i : Nat) (h : i < ks.length) : countAll (ks.take (i + 1)) = countAll (ks.take i) + (ks[i]).count := by
  induction ks generalizing i with
  | nil => simp at h
  | cons f r ih =>
    cases i with
    | zero => simp [countAll]
    | succ i =>
      have := ih i (by simpa using h)
      simp only [List.take_succ_cons, countAll, List.getElem_cons_succ]
      omega
theorem countAll_take_le (ks : List Fm) (i : Nat) : countAll (ks.take i) ≤ countAll ks := by
  induction ks generalizing i with
  | nil => simp
  | cons f r ih =>
    cases i with
    | zero => simp [countAll]
    | succ i => have := ih i; simp only [List.take_succ_cons, countAll]; omega
mutual
/-- how many places a form takes, in letters, numbers and forms -/
def Fm.sz : Fm → Nat
  | .mk _ nm _ sc ks => nm.size + sc.length + szAll ks
def szAll : List Fm → Nat
  | [] => 0
  | f :: r => f.sz + 1 + szAll r
end
mutual
theorem Fm.count_le : ∀ f : Fm, f.count ≤ f.sz + 1
  | .mk _ _ _ _ ks => by have := countAll_le ks; unfold Fm.count Fm.sz; omega
theorem countAll_le : ∀ ks : List Fm, countAll ks ≤ szAll ks
  | [] => by simp [countAll, szAll]
  | f :: r => by have := Fm.count_le f; have := countAll_le r; unfold countAll szAll; omega
end
theorem szAll_length (ks : List Fm) : ks.length ≤ szAll ks := by
  induction ks with
  | nil => simp
  | cons f r ih => simp only [List.length_cons, szAll]; omega
/-- the places behind those of the list itself -/
def szIn (ks : List Fm) : Nat := szAll ks - ks.length
theorem szIn_take_succ (ks : List Fm) (i : Nat) (h : i < ks.length) : szIn (ks.take (i + 1)) = szIn (ks.take i) + (ks[i]).sz := by
  induction ks generalizing i with
  | nil => simp at h
  | cons f r ih =>
    have hl := szAll_length
    cases i with
    | zero => simp [szIn, szAll]
    | succ i =>
      have := ih i (by simpa using h)
      have h1 := hl (r.take (i + 1))
      have h2 := hl (r.take i)
      simp only [szIn] at this ⊢
      simp only [List.take_succ_cons, szAll, List.getElem_cons_succ, List.length_cons]
      omega
theorem szIn_take_le (ks : List Fm) (i : Nat) : szIn (ks.take i) ≤ szIn ks := by
  induction ks generalizing i with
  | nil => simp
  | cons f r ih =>
    cases i with
    | zero => simp [szIn, szAll]
    | succ i =>
      have := ih i
      have h1 := szAll_length (r.take i)
      have h2 := szAll_length r
      simp only [szIn] at this ⊢
      simp only [List.take_succ_cons, szAll, List.length_cons]
      omega
end
end Go.Proofs.Ytbclgmabidjegaa
namespace Go.Proofs.Ytbclgmabidjegaa
section
/-- ascending numbers behind 'last', up to 99 -/
def ascB : Int → List Int → Bool
  | _, [] => true
  | last, x :: r => decide (last < x) && decide (x ≤ 99) && ascB x r
def scopesB (l : List Int) : Bool := decide (l.length ≤ 24) && ascB 0 l
/-- the element in front of place k, or 0 -/
def lastAt (last : Int) (l : List Int) (k : Nat) : Int := match k with | 0 => last | k + 1 => l.getD k 0
theorem ascB_take_succ : ∀ (l : List Int) (last : Int) (k : Nat) (h : k < l.length),
    ascB last (l.take (k + 1)) = (ascB last (l.take k) && (decide (lastAt last l k < l[k]) && decide (l[k] ≤ 99)))
  | x :: r, last, 0, _ => by
    show (decide (last < x) && decide (x ≤ 99) && ascB x []) = (true && (decide (last < x) && decide (x ≤ 99)))
    simp [ascB]
  | x :: r, last, k + 1, h => by
    have ih := ascB_take_succ r x k (by simpa using h)
    have e : lastAt last (x :: r) (k + 1) = lastAt x r k := by
      cases k with
      | zero => simp [lastAt]
      | succ k => simp [lastAt]
    simp only [List.take_succ_cons, ascB, ih, List.getElem_cons_succ, e, Bool.and_assoc]
theorem ascB_take : ∀ (l : List Int) (last : Int) (k : Nat), ascB last l = true → ascB last (l.take k) = true
  | [], _, k, _ => by simp [ascB]
  | x :: r, last, 0, _ => by simp [ascB]
  | x :: r, last, k + 1, h => by
    simp only [List.take_succ_cons, ascB, Bool.and_eq_true] at h ⊢
    exact ⟨h.1, ascB_take r x k h.2⟩
theorem ascB_pos : ∀ (l : List Int) (last : Int) (k : Nat) (h : k < l.length), 0 ≤ last → ascB last (l.take (k + 1)) = true → 1 ≤ l[k] ∧ l[k] ≤ 99
  | x :: r, last, 0, _, hl, h => by
    simp [ascB] at h
    simp
    omega
  | x :: r, last, k + 1, hk, hl, h => by
    simp only [List.take_succ_cons, ascB, Bool.and_eq_true, decide_eq_true_eq] at h
    simpa using ascB_pos r x k (by simpa using hk) (by omega) h.2
theorem scopesB_no (l : List Int) (k : Nat) (h : ascB 0 (l.take k) = false) : scopesB l = false := by
  unfold scopesB
  cases ha : ascB 0 l with
  | false => simp
  | true => rw [ascB_take l 0 k ha] at h; cases h
theorem scopesB_size (l : List Int) (h : 24 < l.length) : scopesB l = false := by
  unfold scopesB
  rw [decide_eq_false (by omega)]; rfl
theorem scopesB_yes (l : List Int) (h : l.length ≤ 24) (ha : ascB 0 l = true) : scopesB l = true := by
  unfold scopesB
  rw [ha, decide_eq_true h]; rfl
end
end Go.Proofs.Ytbclgmabidjegaa
namespace Go.Proofs.Ytbclgmabidjegaa
section
open Go.RowKit
set_option maxRecDepth 100000 in
set_option maxHeartbeats 400000 in
theorem implScopes_any (φ : Nat → Prop) (l : List Int) (v : Value) (w : World) (hv : IntRow φ w v l) :
    Calls Try.prog 189 #[v] w fun e w' => e = .returned (.bool (scopesB l)) ∧ Below w.heap.size w w' := by
  obtain ⟨a, cap, rfl, hcap, hmax, hwf, hl⟩ := hv
  unfold maxLen at hmax
  by_cases h24 : 24 < l.length
  · have HN := Lib.hid (scopesB_size l h24)
    go_enter Try.func189, Try.ntmps189
    go_wp2
    go_ret
    exact ⟨ret_bool HN.out.symm, Below.refl _ _⟩
  · have h24' : l.length ≤ 24 := by omega
    clear h24
    go_enter Try.func189, Try.ntmps189
    go_wp2
    go_loop [3, 11] (fun x i => ∃ k : Nat, k ≤ l.length ∧ i = .int .i64 k ∧ x = .int .i64 (lastAt 0 l k) ∧ ascB 0 (l.take k) = true) (fun _ i => l.length - (intOf i).toNat)
    case atStart => exact ⟨0, Nat.zero_le _, rfl, rfl, rfl⟩
    case round =>
      obtain ⟨k, hk, rfl, rfl, hr⟩ := hrel
      have HR := Lib.hid hr
      clear hr
      by_cases hlt : k < l.length
      · rcases hl with rfl | ⟨b, off, rfl, _, hrow⟩
        · simp at hlt
        · have hc : w.cell? ⟨b, off + k, none⟩ = some (.int .i64 l[k]) := hrow k hlt
          have HS : Hid (ascB 0 (l.take (k + 1)) = (decide (lastAt 0 l k < l[k]) && decide (l[k] ≤ 99))) := by
            unfold Hid; rw [ascB_take_succ l 0 k hlt, HR.out, Bool.true_and]
          have HT : Hid (lastAt 0 l (k + 1) = l[k]) := by
            unfold Hid lastAt; simp [hlt]
          have HW := Lib.hid hwf
          clear hrow hwf
          by_cases h1 : lastAt 0 l k < l[k]
          · by_cases h2 : l[k] ≤ 99
            · go_wp2
              go_round
              case rel => exact ⟨k + 1, by omega, by go_num, by rw [HT.out], by rw [HS.out, decide_eq_true h1, decide_eq_true h2]; rfl⟩
              case measure => simp [intOf]; omega
            · have HN := Lib.hid (scopesB_no l (k + 1) (by rw [HS.out, decide_eq_false h2, Bool.and_false]))
              go_wp2
              all_goals
                go_ret
                exact ⟨ret_bool HN.out.symm, Below.refl _ _⟩
          · have HN := Lib.hid (scopesB_no l (k + 1) (by rw [HS.out, decide_eq_false h1, Bool.false_and]))
            go_wp2
            all_goals
              go_ret
              exact ⟨ret_bool HN.out.symm, Below.refl _ _⟩
      · have HN := Lib.hid (scopesB_yes l h24' (by have := HR.out; rw [show k = l.length from by omega, List.take_length] at this; exact this))
        go_wp2
        go_ret
        exact ⟨ret_bool HN.out.symm, Below.refl _ _⟩
set_option maxRecDepth 100000 in
set_option maxHeartbeats 1000000 in
theorem specScopes_any (φ : Nat → Prop) (l : List Int) (v : Value) (w : World) (hv : IntRow φ w v l) :
    Calls Try.prog 203 #[v] w fun e w' => e = .returned (.bool (scopesB l)) ∧ Below w.heap.size w w' := by
  obtain ⟨a, cap, rfl, hcap, hmax, hwf, hl⟩ := hv
  unfold maxLen at hmax
  go_enter Try.func203, Try.ntmps203
  go_wp2
  go_loopw [3] (fun i wr => ∃ k : Nat, k ≤ l.length ∧ k ≤ 25 ∧ i = .int .i64 k ∧ ascB 0 (l.take k) = true ∧ Below w.heap.size w wr) (fun i _ => l.length - (intOf i).toNat)
  case atStart => exact ⟨0, Nat.zero_le _, by omega, rfl, rfl, Below.refl _ _⟩
  case round =>
    obtain ⟨k, hk, hk2, rfl, hr, hb⟩ := hrel
    have HR := Lib.hid hr
    clear hr
    by_cases hlt : k < l.length ∧ k ≤ 24
    · obtain ⟨hlt, hle⟩ := hlt
      rcases hl with rfl | ⟨b, off, rfl, _, hrow⟩
      · simp at hlt
      · have hc : wr.cell? ⟨b, off + k, none⟩ = some (.int .i64 l[k]) := cell_later' hb (hrow k hlt)
        have hpos := fun h : 1 ≤ k => ascB_pos l 0 (k - 1) (by omega) (by omega) (by rw [show k - 1 + 1 = k from by omega]; exact HR.out)
        have HS : Hid (ascB 0 (l.take (k + 1)) = (decide (lastAt 0 l k < l[k]) && decide (l[k] ≤ 99))) := by
          unfold Hid; rw [ascB_take_succ l 0 k hlt, HR.out, Bool.true_and]
        have HB := Lib.hid hb
        have HRW := Lib.hid hrow
        have hbr := fun (h : 1 ≤ k) => (cell_later' hb (hrow (k - 1) (by omega)) : wr.cell? ⟨b, off + (k - 1), none⟩ = some (.int .i64 l[k - 1]))
        have HCR := Lib.hid hbr
        have HPO := Lib.hid hpos
        have HWF := Lib.hid hwf
        have hka : (k : Int) ≤ 24 := by omega
        clear hb hrow hbr hpos hwf
        by_cases h1 : l[k] < 1
        · have HN : Hid (scopesB l = false) := scopesB_no l (k + 1) (by
            rw [HS.out]
            cases k with
            | zero => rw [decide_eq_false (by simp [lastAt]; omega), Bool.false_and]
            | succ k => have := HPO.out (by omega); rw [decide_eq_false (by simp only [Nat.add_sub_cancel] at this; simp [lastAt, show k < l.length from by omega]; omega), Bool.false_and])
          go_wp2
          go_quiet (fail)
          go_wp2
          go_ret
          exact ⟨ret_bool HN.out.symm, below_drewN HB.out _⟩
        · have d1 : decide (l[k] < 1) = false := decide_eq_false h1
          by_cases h2 : 99 < l[k]
          · have d2 : decide (99 < l[k]) = true := decide_eq_true h2
            have HN : Hid (scopesB l = false) := scopesB_no l (k + 1) (by rw [HS.out, decide_eq_false (show ¬ l[k] ≤ 99 from by omega), Bool.and_false])
            go_wp2
            go_quiet (fail)
            go_wp2
            go_ret
            exact ⟨ret_bool HN.out.symm, below_drewN HB.out _⟩
          · have d2 : decide (99 < l[k]) = false := decide_eq_false h2
            by_cases hk0 : 1 ≤ k
            · have d3 : decide (0 < k) = true := decide_eq_true (by omega)
              have hc2 := HCR.out hk0
              have e1 : lastAt 0 l k = l[k - 1] := by
                cases k with
                | zero => omega
                | succ k => simp [lastAt, show k < l.length from by omega]
              have E1 := Lib.hid e1
              clear e1
              by_cases h3 : l[k] ≤ l[k - 1]
              · have HN : Hid (scopesB l = false) := scopesB_no l (k + 1) (by rw [HS.out, E1.out, decide_eq_false (by omega), Bool.false_and])
                go_wp2
                go_quiet (fail)
                go_wp2
                go_ret
                exact ⟨ret_bool HN.out.symm, below_drewN HB.out _⟩
              · go_wp2
                go_quiet (fail)
                go_wp2
                go_roundw
                case rel => exact ⟨k + 1, by omega, by omega, by go_num, by rw [HS.out, E1.out, decide_eq_true (by omega), decide_eq_true (by omega)]; rfl, below_drewN HB.out _⟩
                case measure => simp [intOf]; omega
            · have d3 : decide (0 < k) = false := decide_eq_false (by omega)
              go_wp2
              go_quiet (fail)
              go_wp2
              go_roundw
              case rel => exact ⟨k + 1, by omega, by omega, by go_num, by rw [HS.out, decide_eq_true (show lastAt 0 l k < l[k] from by rw [show lastAt 0 l k = 0 from by rw [show k = 0 from by omega]; rfl]; omega), decide_eq_true (by omega)]; rfl, below_drewN HB.out _⟩
              case measure => simp [intOf]; omega
    · have HB := Lib.hid hb
      clear hb hl
      by_cases h24 : 24 < l.length
      · have HN := Lib.hid (scopesB_size l h24)
        have hk3 : 24 < k := by omega
        by_cases hlt' : k < l.length
        all_goals
          go_wp2
          go_ret
          exact ⟨ret_bool (by rw [HN.out]; simp; omega), HB.out⟩
      · have hk3 : ¬ k < l.length := by omega
        have HN := Lib.hid (scopesB_yes l (by omega) (by have := HR.out; rw [show k = l.length from by omega, List.take_length] at this; exact this))
        go_wp2
        go_ret
        exact ⟨ret_bool (by rw [HN.out]; simp; omega), HB.out⟩
end
end Go.Proofs.Ytbclgmabidjegaa
namespace Go.Proofs.Ytbclgmabidjegaa
section
open Go.RowKit
/-- well-formed, down to a depth -/
def isB : Nat → Fm → Bool
  | 0, _ => false
  | d + 1, .mk k nm n sc ks =>
    if k = 1 then nameB nm.data.toList && n == 0 && scopesB sc && ks.isEmpty
    else if k = 2 then nm.data.toList.isEmpty && decide (0 ≤ n) && decide (n ≤ 999) && sc.isEmpty && ks.isEmpty
    else k == 3 && nm.data.toList.isEmpty && n == 0 && sc.isEmpty && ks.all (isB d)
def formB (f : Fm) : Bool := isB 40 f && decide (f.count ≤ 400)
theorem Fm.count_pos (f : Fm) : 1 ≤ f.count := by cases f; unfold Fm.count; omega
theorem isB_name (d : Nat) (nm : ByteArray) (sc : List Int) : isB (d + 1) (.mk 1 nm 0 sc []) = (nameB nm.data.toList && scopesB sc) := by
  simp [isB]
theorem count_leaf (k : Int) (nm : ByteArray) (n : Int) (sc : List Int) : (Fm.mk k nm n sc []).count = 1 := by simp [Fm.count, countAll]
theorem holds_name {d n : Nat} (nm : ByteArray) (sc : List Int) (hd : d + 1 ≤ 40) (hn : n + 1 ≤ 400) :
    (isB (40 - d) (.mk 1 nm 0 sc []) && decide (n + (Fm.mk 1 nm 0 sc []).count ≤ 400)) = (nameB nm.data.toList && scopesB sc) := by
  rw [show 40 - d = (39 - d) + 1 from by omega, isB_name, count_leaf, decide_eq_true hn, Bool.and_true]
theorem empty_of {s : ByteArray} (h : s.data.toList = []) : s = ByteArray.empty := by
  cases s with
  | mk d => cases d with
    | mk l => simp at h; subst h; rfl
theorem holds_num {d n : Nat} (x : Int) (hd : d + 1 ≤ 40) (hn : n + 1 ≤ 400) :
    (isB (40 - d) (.mk 2 ByteArray.empty x [] []) && decide (n + (Fm.mk 2 ByteArray.empty x [] []).count ≤ 400)) = (decide (0 ≤ x) && decide (x ≤ 999)) := by
  rw [show 40 - d = (39 - d) + 1 from by omega, count_leaf, decide_eq_true hn, Bool.and_true]
  simp [isB]
theorem holds_not {d n : Nat} (k n0 : Int) (nm : ByteArray) (sc : List Int) (ks : List Fm) (hd : d + 1 ≤ 40)
    (h1 : ¬ (k = 1 ∧ n0 = 0 ∧ ks = [])) (h2 : ¬ (k = 2 ∧ nm.data.toList = [] ∧ sc = [] ∧ ks = [])) (h3 : ¬ (k = 3 ∧ nm.data.toList = [] ∧ n0 = 0 ∧ sc = [])) :
    (isB (40 - d) (.mk k nm n0 sc ks) && decide (n + (Fm.mk k nm n0 sc ks).count ≤ 400)) = false := by
  rw [show 40 - d = (39 - d) + 1 from by omega]
  have : isB (39 - d + 1) (.mk k nm n0 sc ks) = false := by
    cases hb : isB (39 - d + 1) (.mk k nm n0 sc ks) with
    | false => rfl
    | true =>
      exfalso
      unfold isB at hb
      split at hb
      · rename_i e1
        simp at hb
        exact h1 ⟨e1, hb.1.1.2, hb.2⟩
      · split at hb
        · rename_i e2
          simp at hb
          exact h2 ⟨e2, by rw [hb.1.1.1.1], hb.1.2, hb.2⟩
        · simp at hb
          exact h3 ⟨hb.1.1.1.1, by rw [hb.1.1.1.2], hb.1.1.2, hb.1.2⟩
  rw [this, Bool.false_and]
theorem holds_full {d n : Nat} (f : Fm) (h : ¬ (n + 1 ≤ 400 ∧ d + 1 ≤ 40)) : (isB (40 - d) f && decide (n + f.count ≤ 400)) = false := by
  by_cases hd : d + 1 ≤ 40
  · have := f.count_pos
    rw [decide_eq_false (by omega), Bool.and_false]
  · rw [show 40 - d = 0 from by omega]
    simp [isB]
theorem isB_list (d : Nat) (ks : List Fm) : isB (d + 1) (.mk 3 ByteArray.empty 0 [] ks) = ks.all (isB d) := by simp [isB]
theorem holds_list_true {d n : Nat} (ks : List Fm) (hd : d + 1 ≤ 40) (ha : (ks.take ks.length).all (isB (39 - d)) = true) (hn : n + 1 + countAll (ks.take ks.length) ≤ 400) :
    (isB (40 - d) (.mk 3 ByteArray.empty 0 [] ks) && decide (n + (Fm.mk 3 ByteArray.empty 0 [] ks).count ≤ 400)) = true := by
  rw [List.take_length] at ha hn
  rw [show 40 - d = (39 - d) + 1 from by omega, isB_list, ha, Bool.true_and, decide_eq_true_eq]
  unfold Fm.count
  omega
theorem holds_list_false {d n : Nat} (ks : List Fm) (j : Nat) (hj : j < ks.length) (hd : d + 1 ≤ 40)
    (h : (isB (39 - d) ks[j] && decide (n + 1 + countAll (ks.take j) + ks[j].count ≤ 400)) = false) :
    (isB (40 - d) (.mk 3 ByteArray.empty 0 [] ks) && decide (n + (Fm.mk 3 ByteArray.empty 0 [] ks).count ≤ 400)) = false := by
  rw [show 40 - d = (39 - d) + 1 from by omega, isB_list]
  cases hi : isB (39 - d) ks[j] with
  | false =>
    have : ks.all (isB (39 - d)) = false := by
      cases ha : ks.all (isB (39 - d)) with
      | false => rfl
      | true => rw [List.all_eq_true.1 ha ks[j] (List.getElem_mem hj)] at hi; cases hi
    rw [this, Bool.false_and]
  | true =>
    rw [hi, Bool.true_and, decide_eq_false_iff_not] at h
    have h1 := countAll_take_succ ks j hj
    have h2 := countAll_take_le ks (j + 1)
    rw [decide_eq_false (by unfold Fm.count; omega), Bool.and_false]
theorem all_take_succ {α : Type} (p : α → Bool) (ks : List α) (j : Nat) (hj : j < ks.length) (h : (ks.take j).all p = true) (hp : p ks[j] = true) : (ks.take (j + 1)).all p = true := by
  rw [List.take_succ_eq_append_getElem hj, List.all_append, h]
  simp [hp]
end
end Go.Proofs.Ytbclgmabidjegaa
namespace Go.Proofs.Ytbclgmabidjegaa
section
open Go.RowKit
/-- of what was there only the cells 'lo' to 'hi - 1' of block 'b' may have turned -/
structure Kept (b lo hi : Nat) (w w' : World) : Prop where
  os : w'.os = w.os
  tape : w'.tape = w.tape
  output : w'.output = w.output
  size : w.heap.size ≤ w'.heap.size
  block : ∀ k, k < w.heap.size → k ≠ b → w'.heap[k]? = w.heap[k]?
  cell : ∀ o, (o < lo ∨ hi ≤ o) → w'.cell? ⟨b, o, none⟩ = w.cell? ⟨b, o, none⟩
  frozen : ∀ o, w'.frozen? ⟨b, o, none⟩ = w.frozen? ⟨b, o, none⟩
theorem Kept.refl (b lo hi : Nat) (w : World) : Kept b lo hi w w := ⟨rfl, rfl, rfl, Nat.le_refl _, fun _ _ _ => rfl, fun _ _ => rfl, fun _ => rfl⟩
theorem Kept.trans {b lo hi : Nat} {u v w : World} (h : Kept b lo hi u v) (g : Kept b lo hi v w) : Kept b lo hi u w :=
  ⟨g.os.trans h.os, g.tape.trans h.tape, g.output.trans h.output, Nat.le_trans h.size g.size,
    fun k hk hn => (g.block k (Nat.lt_of_lt_of_le hk h.size) hn).trans (h.block k hk hn), fun o ho => (g.cell o ho).trans (h.cell o ho), fun o => (g.frozen o).trans (h.frozen o)⟩
theorem Kept.of_below {b lo hi : Nat} {w w' : World} (h : Below w.heap.size w w') (hb : b < w.heap.size) : Kept b lo hi w w' :=
  ⟨h.os, h.tape, h.output, h.size, fun k hk _ => h.block k hk, fun o _ => h.cell (p := ⟨b, o, none⟩) hb, fun o => h.frozen (p := ⟨b, o, none⟩) hb⟩
theorem Kept.drewN {b lo hi : Nat} {u w : World} (h : Kept b lo hi u w) (n : Nat) : Kept b lo hi u (w.drewN n) :=
  ⟨h.os, h.tape, h.output, h.size, h.block, h.cell, h.frozen⟩
theorem Kept.drew {b lo hi : Nat} {u w : World} (h : Kept b lo hi u w) : Kept b lo hi u w.drew :=
  ⟨h.os, h.tape, h.output, h.size, h.block, h.cell, h.frozen⟩
theorem Kept.alloc {b lo hi : Nat} {u w : World} (h : Kept b lo hi u w) (o : Obj) (hb : b < w.heap.size) : Kept b lo hi u (w.alloc o) :=
  h.trans (Kept.of_below ((Below.refl _ _).alloc (Nat.le_refl _) _) hb)
theorem Kept.setCell {b lo hi : Nat} {u w : World} (h : Kept b lo hi u w) (o : Nat) (v : Value) (hlo : lo ≤ o) (hhi : o < hi) : Kept b lo hi u (w.setCell ⟨b, o, none⟩ v) :=
  h.trans ⟨rfl, rfl, rfl, by simp [World.setCell], fun k _ hn => Below.heap_setCell _ _ _ _ hn,
    fun o' ho => World.cell?_setCell_other _ _ _ _ (by intro e; injection e with _ e2; omega), fun _ => World.frozen?_setCell _ _ _ _⟩
theorem Kept.other {b lo hi : Nat} {w w' : World} (h : Kept b lo hi w w') {k o : Nat} (hk : k < w.heap.size) (hn : k ≠ b) : w'.cell? ⟨k, o, none⟩ = w.cell? ⟨k, o, none⟩ :=
  World.cell?_of_block (w := w) (a := ⟨k, o, none⟩) (h.block k hk hn)
theorem Kept.below {b lo hi B : Nat} {w w' : World} (h : Kept b lo hi w w') (hB : B ≤ b) (hs : B ≤ w.heap.size) : Below B w w' :=
  ⟨h.os, h.tape, h.output, h.size, fun k hk => h.block k (by omega) (by omega)⟩
theorem Kept.chain {b lo hi : Nat} {w w1 w4 w5 : World} {O : Obj} (hb : b < w.heap.size) (h1 : Kept b lo hi (w.alloc O) w1) (h2 : Below w1.heap.size w1 w4) (h3 : Kept b lo hi w4 w5) :
    Kept b lo hi w w5 :=
  ((((Kept.refl b lo hi w).alloc O hb).trans h1).trans (Kept.of_below h2 (Nat.lt_of_lt_of_le hb (Nat.le_trans (by simp) h1.size)))).trans h3
/-- a counter of nodes and depth at a place of a block -/
structure RoomAt (w : World) (b o : Nat) (n d : Nat) : Prop where
  nodes : w.cell? ⟨b, o, none⟩ = some (.int .i64 n)
  depth : w.cell? ⟨b, o + 1, none⟩ = some (.int .i64 d)
  fr0 : w.frozen? ⟨b, o, none⟩ = false
  fr1 : w.frozen? ⟨b, o + 1, none⟩ = false
theorem RoomAt.later {w w' : World} {b o n d : Nat} (h : RoomAt w b o n d) (hb : Below w.heap.size w w') : RoomAt w' b o n d := by
  have hlt := cell_lt h.nodes
  exact ⟨cell_later' hb h.nodes, cell_later' hb h.depth, by rw [hb.frozen (p := ⟨b, o, none⟩) hlt]; exact h.fr0, by rw [hb.frozen (p := ⟨b, o + 1, none⟩) hlt]; exact h.fr1⟩
theorem RoomAt.set {w : World} {b o n d : Nat} (h : RoomAt w b o n d) {n' d' : Nat} {x y : Int} (hx : x = n') (hy : y = d') :
    RoomAt ((w.setCell ⟨b, o, none⟩ (.int .i64 x)).setCell ⟨b, o + 1, none⟩ (.int .i64 y)) b o n' d' := by
  subst hx hy
  refine ⟨?_, ?_, ?_, ?_⟩
  · rw [World.cell?_setCell_other _ _ _ _ (by intro e; injection e with _ e2; omega), World.cell?_setCell_same _ _ _ h.nodes]
  · exact World.cell?_setCell_same _ _ _ (u := .int .i64 d) (by rw [World.cell?_setCell_other _ _ _ _ (by intro e; injection e with _ e2; omega)]; exact h.depth)
  · rw [World.frozen?_setCell, World.frozen?_setCell]; exact h.fr0
  · rw [World.frozen?_setCell, World.frozen?_setCell]; exact h.fr1
theorem RoomAt.setDepth {w : World} {b o n d : Nat} (h : RoomAt w b o n d) {d' : Nat} {y : Int} (hy : y = d') :
    RoomAt (w.setCell ⟨b, o + 1, none⟩ (.int .i64 y)) b o n d' := by
  subst hy
  refine ⟨?_, ?_, ?_, ?_⟩
  · rw [World.cell?_setCell_other _ _ _ _ (by intro e; injection e with _ e2; omega)]; exact h.nodes
  · exact World.cell?_setCell_same _ _ _ h.depth
  · rw [World.frozen?_setCell]; exact h.fr0
  · rw [World.frozen?_setCell]; exact h.fr1
theorem RoomAt.lt {w : World} {b o n d : Nat} (h : RoomAt w b o n d) : b < w.heap.size := cell_lt h.nodes
end
end Go.Proofs.Ytbclgmabidjegaa
namespace Go.Proofs.Ytbclgmabidjegaa
section
open Go.RowKit
set_option maxRecDepth 100000 in
set_option maxHeartbeats 400000 in
theorem enterWithin_any (M D b o n d : Nat) (w : World) (hr : RoomAt w b o n d) (hn : n ≤ 1000000) (hd : d ≤ 1000000) :
    Calls Try.prog 131 #[.pointer (some ⟨b, o, none⟩), .int .i64 M, .int .i64 D] w
      fun e w' => e = .returned (.bool (decide (n + 1 ≤ M) && decide (d + 1 ≤ D))) ∧ RoomAt w' b o (n + 1) (d + 1) ∧ Kept b o (o + 2) w w' := by
  have HR := Lib.hid hr
  obtain ⟨h1, h2, h3, h4⟩ := hr
  go_enter Try.func131, Try.ntmps131
  go_wp2
  all_goals
    go_ret
    refine ⟨ret_bool (by rw [Bool.eq_iff_iff]; simp; try omega), HR.out.set (by omega) (by omega), ((Kept.refl _ _ _ _).setCell _ _ (Nat.le_refl _) (by omega)).setCell _ _ (by omega) (by omega)⟩
set_option maxRecDepth 100000 in
set_option maxHeartbeats 400000 in
theorem enter_any (b o n d : Nat) (w : World) (hr : RoomAt w b o n d) (hn : n ≤ 1000000) (hd : d ≤ 1000000) :
    Calls Try.prog 199 #[.pointer (some ⟨b, o, none⟩)] w
      fun e w' => e = .returned (.bool (decide (n + 1 ≤ 400) && decide (d + 1 ≤ 40))) ∧ RoomAt w' b o (n + 1) (d + 1) ∧ Kept b o (o + 2) w w' := by
  go_enter Try.func199, Try.ntmps199
  go_wp2_with fail
  refine (enterWithin_any 400 40 b o n d w hr hn hd).mono ?_
  rintro e w1 ⟨rfl, h1, h2⟩
  have H1 := Lib.hid h1
  have H2 := Lib.hid h2
  clear h1 h2
  have HC : Hid (∃ c, (decide (n + 1 ≤ 400) && decide (d + 1 ≤ 40)) = c) := ⟨_, rfl⟩
  obtain ⟨c, hc⟩ := HC.out
  rw [hc]
  have HCC := Lib.hid hc
  clear hc HC
  go_wp2_with fail
  go_ret
  exact ⟨by rw [HCC.out]; rfl, H1.out, H2.out⟩
set_option maxRecDepth 100000 in
set_option maxHeartbeats 400000 in
theorem leave_any (b o n d : Nat) (w : World) (hr : RoomAt w b o n (d + 1)) (hd : d ≤ 1000000) :
    Calls Try.prog 132 #[.pointer (some ⟨b, o, none⟩)] w
      fun e w' => e = .returned (.tuple #[]) ∧ RoomAt w' b o n d ∧ Kept b o (o + 2) w w' := by
  have HR := Lib.hid hr
  obtain ⟨h1, h2, h3, h4⟩ := hr
  go_enter Try.func132, Try.ntmps132
  go_wp2
  go_end0
  exact ⟨rfl, HR.out.setDepth (by omega), (Kept.refl _ _ _ _).setCell _ _ (by omega) (by omega)⟩
set_option maxRecDepth 100000 in
set_option maxHeartbeats 400000 in
theorem leave_deferred (b o n d : Nat) (u : FrameMode) (w : World) (hr : RoomAt w b o n (d + 1)) (hd : d ≤ 1000000) :
    CallsD Try.prog 132 #[.pointer (some ⟨b, o, none⟩)] u w
      fun e u' w' => u' = u ∧ (e = .returned (.tuple #[]) ∧ RoomAt w' b o n d ∧ Kept b o (o + 2) w w') := by
  have HR := Lib.hid hr
  obtain ⟨h1, h2, h3, h4⟩ := hr
  go_enter_d Try.func132, Try.ntmps132
  go_wp2
  go_end0
  exact ⟨rfl, HR.out.setDepth (by omega), (Kept.refl _ _ _ _).setCell _ _ (by omega) (by omega)⟩
end
end Go.Proofs.Ytbclgmabidjegaa
namespace Go.Proofs.Ytbclgmabidjegaa
section
open Go.RowKit
set_option maxRecDepth 100000 in
set_option maxHeartbeats 400000 in
theorem nodeOf_name (nm : ByteArray) (a s : Option Addr) (cap slen scap : Nat) (w : World) :
    Calls Try.prog 200 #[.agg #[.int .i64 1, .string nm, .int .i64 0, .slice s slen scap, .slice a 0 cap]] w
      fun e w' => e = .returned (.iface 227 (.agg #[.string nm, .slice s slen scap])) ∧ Below w.heap.size w w' := by
  go_enter Try.func200, Try.ntmps200
  go_wp2
  go_ret
  exact ⟨rfl, by repeat (first | exact Below.refl _ _ | refine Below.alloc ?_ (by simp) _)⟩
set_option maxRecDepth 100000 in
set_option maxHeartbeats 400000 in
theorem nodeOf_num (n : Int) (a s : Option Addr) (cap scap : Nat) (w : World) :
    Calls Try.prog 200 #[.agg #[.int .i64 2, .string ByteArray.empty, .int .i64 n, .slice s 0 scap, .slice a 0 cap]] w
      fun e w' => e = .returned (.iface 229 (.agg #[.int .i64 n])) ∧ Below w.heap.size w w' := by
  go_enter Try.func200, Try.ntmps200
  go_wp2
  go_ret
  exact ⟨rfl, by repeat (first | exact Below.refl _ _ | refine Below.alloc ?_ (by simp) _)⟩
set_option maxRecDepth 100000 in
set_option maxHeartbeats 400000 in
theorem nodeOf_list (a s : Option Addr) (len cap scap : Nat) (w : World) :
    Calls Try.prog 200 #[.agg #[.int .i64 3, .string ByteArray.empty, .int .i64 0, .slice s 0 scap, .slice a len cap]] w
      fun e w' => e = .returned (.iface 238 (.agg #[.slice a len cap])) ∧ Below w.heap.size w w' := by
  go_enter Try.func200, Try.ntmps200
  go_wp2
  go_ret
  exact ⟨rfl, by repeat (first | exact Below.refl _ _ | refine Below.alloc ?_ (by simp) _)⟩
set_option maxRecDepth 100000 in
set_option maxHeartbeats 1000000 in
theorem nodeOf_none (k n : Int) (nm : ByteArray) (a s : Option Addr) (slen scap len cap : Nat) (w : World)
    (h1 : ¬ (k = 1 ∧ n = 0 ∧ len = 0)) (h2 : ¬ (k = 2 ∧ nm.toList = [] ∧ slen = 0 ∧ len = 0)) (h3 : ¬ (k = 3 ∧ nm.toList = [] ∧ n = 0 ∧ slen = 0)) :
    Calls Try.prog 200 #[.agg #[.int .i64 k, .string nm, .int .i64 n, .slice s slen scap, .slice a len cap]] w
      fun e w' => e = .returned .nilIface ∧ Below w.heap.size w w' := by
  have H1 := Lib.hid h1
  have H2 := Lib.hid h2
  have H3 := Lib.hid h3
  clear h1 h2 h3
  go_enter Try.func200, Try.ntmps200
  go_wp2
  all_goals
    first
    | (go_ret; exact ⟨rfl, by repeat (first | exact Below.refl _ _ | refine Below.alloc ?_ (by simp) _)⟩)
    | (exfalso; have g1 := H1.out; have g2 := H2.out; have g3 := H3.out; clear H1 H2 H3; simp_all; done)
end
end Go.Proofs.Ytbclgmabidjegaa
namespace Go.Proofs.Ytbclgmabidjegaa
section
theorem as_nn (x : Value) (w : World) : (Instr.typeAssert (.iface 227 x) 165 227 true).run Try.prog w = .ok (.tuple #[x, .bool true]) w := by kernel_rfl
theorem as_uu (x : Value) (w : World) : (Instr.typeAssert (.iface 229 x) 165 229 true).run Try.prog w = .ok (.tuple #[x, .bool true]) w := by kernel_rfl
theorem as_ll (x : Value) (w : World) : (Instr.typeAssert (.iface 238 x) 165 238 true).run Try.prog w = .ok (.tuple #[x, .bool true]) w := by kernel_rfl
theorem as_un (x : Value) (w : World) : (Instr.typeAssert (.iface 229 x) 165 227 true).run Try.prog w = .ok (.tuple #[.agg #[.string ByteArray.empty, .slice none 0 0], .bool false]) w := by kernel_rfl
theorem as_ln (x : Value) (w : World) : (Instr.typeAssert (.iface 238 x) 165 227 true).run Try.prog w = .ok (.tuple #[.agg #[.string ByteArray.empty, .slice none 0 0], .bool false]) w := by kernel_rfl
theorem as_lu (x : Value) (w : World) : (Instr.typeAssert (.iface 238 x) 165 229 true).run Try.prog w = .ok (.tuple #[.agg #[.int .i64 0], .bool false]) w := by kernel_rfl
theorem as_zn (w : World) : (Instr.typeAssert .nilIface 165 227 true).run Try.prog w = .ok (.tuple #[.agg #[.string ByteArray.empty, .slice none 0 0], .bool false]) w := by kernel_rfl
theorem as_zu (w : World) : (Instr.typeAssert .nilIface 165 229 true).run Try.prog w = .ok (.tuple #[.agg #[.int .i64 0], .bool false]) w := by kernel_rfl
theorem as_zl (w : World) : (Instr.typeAssert .nilIface 165 238 true).run Try.prog w = .ok (.tuple #[.agg #[.slice none 0 0], .bool false]) w := by kernel_rfl
end
end Go.Proofs.Ytbclgmabidjegaa
