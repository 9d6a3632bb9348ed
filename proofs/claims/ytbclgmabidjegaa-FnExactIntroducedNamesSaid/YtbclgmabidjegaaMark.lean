/- The contracts of the laws' marks on numbers and texts. -/
import Derived.Test.YtbclgmabidjegaaChecked
import Derived.Test.YtbclgmabidjegaaData
import Derived.Deep.QuietTactic
import Derived.BigQuiet
import Derived.IntWalk
import Derived.Laws.IdiomStrings
namespace Go.Proofs.Ytbclgmabidjegaa
open Go.RowKit
/-- a row of numbers, its first j marked -/
def Half (w : World) (b off : Nat) (l : List Int) (k : Int) (j : Nat) : Prop :=
  ∀ i, (h : i < l.length) → w.cell? ⟨b, off + i, none⟩ = some (.int .i64 (if i < j then k + i else l[i])) ∧ w.frozen? ⟨b, off + i, none⟩ = false
theorem Half.step {w : World} {b off : Nat} {l : List Int} {k : Int} {j : Nat} (h : Half w b off l k j) (hj : j < l.length) : Half (w.setCell ⟨b, off + j, none⟩ (.int .i64 (k + j))) b off l k (j + 1) := by
  intro i hi
  obtain ⟨h1, h2⟩ := h i hi
  refine ⟨?_, by rw [World.frozen?_setCell]; exact h2⟩
  by_cases e : i = j
  · subst e
    rw [World.cell?_setCell_same _ _ _ h1, if_pos (by omega)]
  · rw [World.cell?_setCell_other _ _ _ _ (addr_ne (by omega)), h1]
    by_cases hl : i < j
    · rw [if_pos hl, if_pos (by omega)]
    · rw [if_neg hl, if_neg (by omega)]
set_option maxRecDepth 100000 in
set_option maxHeartbeats 400000 in
theorem markIntS_any (l : List Int) (v : Value) (bs : List Nat) (k : Int) (w : World) (hv : IntOwn w v l bs) (hk : 1 ≤ k) (hk2 : k + l.length ≤ 1099511627776) :
    Calls Try.prog 84 #[v, .int .i64 k] w
      fun e w' => e = .returned (.int .i64 (k + l.length)) ∧ IntOwn w' v (ramp k l.length) bs ∧ Only bs w w' := by
  obtain ⟨a, cap, rfl, hcap, hmax, _, hl⟩ := hv
  have HCAP := Lib.hid hcap
  have HMAX := Lib.hid hmax
  unfold maxLen at hmax
  have hp : ∃ b off, (l ≠ [] → a = some ⟨b, off, none⟩ ∧ bs = [b]) ∧ (l = [] ∨ (a = some ⟨b, off, none⟩ ∧ bs = [b])) ∧ Half w b off l k 0 ∧ (l = [] → (bs = [] ∨ ∃ b' off', a = some ⟨b', off', none⟩ ∧ bs = [b'])) := by
    rcases hl with ⟨rfl, rfl⟩ | ⟨b, off, h1, h2, h3⟩
    · exact ⟨0, 0, fun h => absurd rfl h, .inl rfl, fun i hi => by simp at hi, fun _ => .inl rfl⟩
    · exact ⟨b, off, fun _ => ⟨h1, h2⟩, .inr ⟨h1, h2⟩, fun i hi => by simpa using h3 i hi, fun _ => .inr ⟨b, off, h1, h2⟩⟩
  obtain ⟨b, off, hne, hor, hhalf, hem⟩ := hp
  have HNE := Lib.hid hne
  have HOR := Lib.hid hor
  have HEM := Lib.hid hem
  have HHF := Lib.hid hhalf
  clear hne hor hhalf hem hl
  go_enter Try.func84, Try.ntmps84
  go_wp2
  go_loopw [1, 5] (fun m i wr => ∃ j : Nat, j ≤ l.length ∧ i = .int .i64 j ∧ m = .int .i64 (k + j) ∧ Half wr b off l k j ∧ Only bs w wr) (fun _ i _ => l.length - (intOf i).toNat)
  case atStart => exact ⟨0, Nat.zero_le _, rfl, by simp, HHF.out, Only.refl _ _⟩
  case round =>
    obtain ⟨j, hj, rfl, rfl, hh, ho⟩ := hrel
    have HH := Lib.hid hh
    have HO := Lib.hid ho
    clear hh ho
    by_cases hlt : j < l.length
    · obtain ⟨rfl, hbs⟩ := HNE.out (by intro e; rw [e] at hlt; simp at hlt)
      obtain ⟨hc, hf⟩ := HH.out j hlt
      have HBS := Lib.hid hbs
      clear hbs
      go_wp2
      go_roundw
      case rel => exact ⟨j + 1, by omega, by go_num, by go_num, HH.out.step hlt, HO.out.setCell _ _ _ (by rw [HBS.out]; simp)⟩
      case measure => simp [intOf]; omega
    · obtain rfl : j = l.length := by omega
      go_wp2
      go_ret
      refine ⟨rfl, ⟨a, cap, by rw [ramp_length], by rw [ramp_length]; exact HCAP.out, HMAX.out, fun n hn => by have := ramp_mem hn; omega, ?_⟩, HO.out⟩
      by_cases h0 : l = []
      · rcases HEM.out h0 with h1 | ⟨b', off', h1, h2⟩
        · exact .inl ⟨by rw [h0]; rfl, h1⟩
        · exact .inr ⟨b', off', h1, h2, fun i hi => by rw [ramp_length, h0] at hi; simp at hi⟩
      · obtain ⟨h1, h2⟩ := HNE.out h0
        refine .inr ⟨b, off, h1, h2, fun i hi => ?_⟩
        have hi' : i < l.length := by rw [ramp_length] at hi; exact hi
        have := HH.out i hi'
        rw [if_pos hi'] at this
        rw [ramp_get]
        exact this
set_option maxRecDepth 100000 in
set_option maxHeartbeats 400000 in
theorem heldIntS_any (φ : Nat → Prop) (n : Nat) (v : Value) (k : Int) (w : World) (hv : IntRow φ w v (ramp k n)) (hk : 1 ≤ k) (hk2 : k + n ≤ 1099511627776) :
    Calls Try.prog 92 #[v, .int .i64 k] w
      fun e w' => e = .returned (.int .i64 (k + n)) ∧ w = w' := by
  obtain ⟨a, cap, rfl, hcap, hmax, _, hl⟩ := hv
  unfold maxLen at hmax
  have HL : Hid (ramp k n = [] ∨ ∃ b off, a = some ⟨b, off, none⟩ ∧ φ b ∧ ∀ i, (h : i < n) → w.cell? ⟨b, off + i, none⟩ = some (.int .i64 (k + i))) := by
    rcases hl with h | ⟨b, off, h1, h2, h3⟩
    · exact .inl h
    · exact .inr ⟨b, off, h1, h2, fun i hi => by have := h3 i (by rw [ramp_length]; exact hi); rw [ramp_get] at this; exact this⟩
  clear hl
  rw [ramp_length] at hcap ⊢
  go_enter Try.func92, Try.ntmps92
  go_wp2
  go_loop [1, 5] (fun m i => ∃ j : Nat, j ≤ n ∧ i = .int .i64 j ∧ m = .int .i64 (k + j)) (fun _ i => n - (intOf i).toNat)
  case atStart => exact ⟨0, Nat.zero_le _, rfl, by simp⟩
  case round =>
    obtain ⟨j, hj, rfl, rfl⟩ := hrel
    by_cases hlt : j < n
    · rcases HL.out with h0 | ⟨b, off, rfl, _, hrow⟩
      · exfalso; have := ramp_length n k; rw [h0] at this; simp at this; omega
      · have hc := hrow j hlt
        clear hrow
        go_wp2
        go_round
        case rel => exact ⟨j + 1, by omega, by go_num, by go_num⟩
        case measure => simp [intOf]; omega
    · obtain rfl : j = n := by omega
      go_wp2
      go_ret
      exact ⟨rfl, rfl⟩
theorem conv1 (w : World) (x : Int) : (convert 182 9 (.slice (some ⟨w.heap.size, 0, none⟩) 1 1)).run Try.prog (w.alloc (.cells #[.int .u8 x] 5)) =
    .ok (.string ⟨#[UInt8.ofNat x.toNat]⟩) (w.alloc (.cells #[.int .u8 x] 5)) := by
  rw [run_convert_bytes_string _ _ _ 5 _ _ _ Try.underlying182 Try.underlying5 Try.underlying9]
  exact run_bytesToString (P := Try.prog) _ _ 1 1 [x] (by
    have := run_loadCells_list (P := Try.prog) (w.alloc (.cells #[.int .u8 x] 5)) ⟨w.heap.size, 0, none⟩ [.int .u8 x] (fun j v hj => by
      cases j with
      | zero => simp at hj; subst hj; simp [Addr.add]
      | succ j => simp at hj)
    exact this)
set_option maxRecDepth 100000 in
set_option maxHeartbeats 400000 in
theorem markText_any (k : Int) (w : World) (hk : 1 ≤ k) (hk2 : k ≤ 1099511627776) :
    Calls Try.prog 86 #[.int .i64 k] w
      fun e w' => e = .returned (.string (mtext k)) ∧ Below w.heap.size w w' := by
  go_enter Try.func86, Try.ntmps86
  go_wp2
  go_loopw [0, 3] (fun x s wr => ∃ (m : Nat) (y : Int) (out : List UInt8), x = .int .i64 y ∧ s = .string ⟨out.toArray⟩ ∧ 0 ≤ y ∧ y ≤ 1099511627776 ∧ y < 10 ^ m ∧ out.length + m ≤ 20 ∧ mgo m y out = mgo 20 k [] ∧ Below w.heap.size w wr) (fun x _ _ => (intOf x).toNat)
  case atStart => exact ⟨20, k, [], rfl, rfl, by omega, by omega, by omega, by simp, rfl, Below.refl _ _⟩
  case round =>
    obtain ⟨m, y, out, rfl, rfl, h0, h1, h2, h3, h4, hb⟩ := hrel
    have HB := Lib.hid hb
    have H4 := Lib.hid h4
    have H2 := Lib.hid h2
    clear hb h4 h2
    by_cases hy : 0 < y
    · have hr : 0 ≤ y % 10 ∧ y % 10 ≤ 9 := by omega
      have hcv := conv1 wr (48 + y % 10)
      go_wp2
      go_roundw
      case rel =>
        cases m with
        | zero => exfalso; have := H2.out; omega
        | succ m =>
          have h2 := H2.out
          rw [Int.pow_succ] at h2
          refine ⟨m, y / 10, UInt8.ofNat (48 + y % 10).toNat :: out, rfl, ?_, by omega, by omega, by omega, by simp only [List.length_cons]; omega, ?_, HB.out.alloc (by have := HB.out.size; omega) _⟩
          · first
            | rfl
            | (congr 1; done)
            | (congr 1; apply ByteArray.ext; simp; done)
          · have h4 := H4.out
            rw [mgo, if_neg (by omega)] at h4
            exact h4
      case measure => simp [intOf]; omega
    · obtain rfl : y = 0 := by omega
      have HE : Hid (mtext k = ⟨(109 :: out).toArray⟩) := by
        have h4 := H4.out
        unfold Hid mtext
        rw [← h4]
        cases m <;> simp [mgo]
      go_wp2
      go_ret
      refine ⟨?_, HB.out⟩
      rw [HE.out]
      first
      | rfl
      | (congr 2; done)
      | (congr 2; apply ByteArray.ext; simp; done)
end Go.Proofs.Ytbclgmabidjegaa
