/- The contracts of the laws' comparison and marks on lists of strings. -/
import Derived.Test.YtlmplfpdmelcjaaSlim
import Derived.Test.YtlmplfpdmelcjaaMids
import Derived.Test.YtlmplfpdmelcjaaMark
import Derived.Deep.RegionWith
import Derived.Test.YtlmplfpdmelcjaaEq
import Derived.Test.YtlmplfpdmelcjaaStrs
namespace Go.Proofs.Ytlmplfpdmelcjaa
open Go.RowKit
set_option linter.unusedVariables false
set_option linter.unusedSimpArgs false
/-- the texts of marks -/
def mtexts : Int → Nat → List ByteArray
  | _, 0 => []
  | k, n + 1 => mtext k :: mtexts (k + 1) n
theorem mtexts_length : ∀ (n : Nat) (k : Int), (mtexts k n).length = n
  | 0, _ => rfl
  | n + 1, k => by simp [mtexts, mtexts_length n (k + 1)]
theorem mtexts_get : ∀ (n : Nat) (k : Int) (i : Nat) (h : i < (mtexts k n).length), (mtexts k n)[i] = mtext (k + i)
  | 0, _, _, h => by simp [mtexts] at h
  | n + 1, k, 0, _ => by simp [mtexts]
  | n + 1, k, i + 1, h => by
    have h' : i < (mtexts (k + 1) n).length := by simpa [mtexts] using h
    have := mtexts_get n (k + 1) i h'
    simp only [mtexts, List.getElem_cons_succ]
    rw [this]
    congr 1
    omega
set_option maxRecDepth 100000 in
set_option maxHeartbeats 400000 in
theorem eqStringS_any (l : List ByteArray) (v u : Value) (w : World) (hv : StrRow w v l) (hu : StrRow w u l) :
    Calls Try.prog 61 #[v, u] w fun e w' => e = .returned (.bool true) ∧ Below w.heap.size w w' := by
  obtain ⟨a, cap, rfl, hcap, hmax, hl⟩ := hv
  obtain ⟨a2, cap2, rfl, hcap2, hmax2, hl2⟩ := hu
  unfold maxLen at hmax hmax2
  have HL := Lib.hid hl
  have HL2 := Lib.hid hl2
  clear hl hl2
  have hne : ((l.length : Int) != (l.length : Int)) = false := by simp
  go_enter Try.func61, Try.ntmps61
  go_wp2_with fail
  go_loopw [5] (fun i wr => ∃ j : Nat, j ≤ l.length ∧ i = .int .i64 j ∧ Below w.heap.size w wr) (fun i _ => l.length - (intOf i).toNat)
  case atStart => exact ⟨0, Nat.zero_le _, rfl, Below.refl _ _⟩
  case round =>
    obtain ⟨j, hj, rfl, hb⟩ := hrel
    by_cases hlt : j < l.length
    · rcases HL.out with h0 | ⟨b, off, rfl, hrow⟩
      · exfalso; rw [h0] at hlt; simp at hlt
      · rcases HL2.out with h0 | ⟨b2, off2, rfl, hrow2⟩
        · exfalso; rw [h0] at hlt; simp at hlt
        · have hc : wr.cell? ⟨b, off + j, none⟩ = some (.string l[j]) := cell_later' hb (hrow j hlt)
          have hc2 : wr.cell? ⟨b2, off2 + j, none⟩ = some (.string l[j]) := cell_later' hb (hrow2 j hlt)
          have HB := Lib.hid hb
          have hx : (l[j].toList != l[j].toList) = false := by simp
          clear hrow hrow2 hb
          go_wp2_with fail
          go_quiet (fail)
          go_wp2_with fail
          go_roundw
          case rel => exact ⟨j + 1, by omega, by go_num, below_drewN HB.out _⟩
          case measure => simp [intOf]; omega
    · obtain rfl : j = l.length := by omega
      have HB := Lib.hid hb
      clear hb
      go_wp2_with fail
      go_ret
      exact ⟨rfl, HB.out⟩
/-- a row of strings, its first j marked -/
def HalfS (w : World) (b off : Nat) (l : List ByteArray) (k : Int) (j : Nat) : Prop :=
  ∀ i, (h : i < l.length) → w.cell? ⟨b, off + i, none⟩ = some (.string (if i < j then mtext (k + i) else l[i])) ∧ w.frozen? ⟨b, off + i, none⟩ = false
theorem HalfS.step {w : World} {b off : Nat} {l : List ByteArray} {k : Int} {j : Nat} (h : HalfS w b off l k j) (hj : j < l.length) : HalfS (w.setCell ⟨b, off + j, none⟩ (.string (mtext (k + j)))) b off l k (j + 1) := by
  intro i hi
  obtain ⟨h1, h2⟩ := h i hi
  refine ⟨?_, by rw [World.frozen?_setCell]; exact h2⟩
  by_cases e : i = j
  · subst e
    rw [World.cell?_setCell_same _ _ _ h1, if_pos (by omega)]
  · rw [World.cell?_setCell_other _ _ _ _ (addr_ne (by omega)), h1]
    by_cases hl : i < j
    · rw [if_pos hl, if_pos (by omega)]
    · rw [if_neg hl, if_neg (by omega)]
theorem HalfS.later {w w' : World} {b off : Nat} {l : List ByteArray} {k : Int} {j : Nat} (h : HalfS w b off l k j) (hb : Below w.heap.size w w') : HalfS w' b off l k j := fun i hi =>
  ⟨cell_later' hb (h i hi).1, (hb.frozen (p := ⟨b, off + i, none⟩) (cell_lt (h i hi).1)).trans (h i hi).2⟩
set_option maxRecDepth 100000 in
set_option maxHeartbeats 400000 in
theorem markStringS_any (l : List ByteArray) (v : Value) (bs : List Nat) (k : Int) (w : World) (hv : StrOwn w v l bs) (hk : 1 ≤ k) (hk2 : k + l.length ≤ 1099511627776) :
    Calls Try.prog 63 #[v, .int .i64 k] w
      fun e w' => e = .returned (.int .i64 (k + l.length)) ∧ StrOwn w' v (mtexts k l.length) bs ∧ Only bs w w' := by
  obtain ⟨a, cap, rfl, hcap, hmax, hl⟩ := hv
  have HCAP := Lib.hid hcap
  have HMAX := Lib.hid hmax
  unfold maxLen at hmax
  have hp : ∃ b off, (l ≠ [] → a = some ⟨b, off, none⟩ ∧ bs = [b]) ∧ HalfS w b off l k 0 ∧ (l = [] → (bs = [] ∨ ∃ b' off', a = some ⟨b', off', none⟩ ∧ bs = [b'])) := by
    rcases hl with ⟨rfl, rfl⟩ | ⟨b, off, h1, h2, h3⟩
    · exact ⟨0, 0, fun h => absurd rfl h, fun i hi => by simp at hi, fun _ => .inl rfl⟩
    · exact ⟨b, off, fun _ => ⟨h1, h2⟩, fun i hi => by simpa using h3 i hi, fun _ => .inr ⟨b, off, h1, h2⟩⟩
  obtain ⟨b, off, hne, hhalf, hem⟩ := hp
  have HNE := Lib.hid hne
  have HEM := Lib.hid hem
  have HHF := Lib.hid hhalf
  clear hne hhalf hem hl
  go_enter Try.func63, Try.ntmps63
  go_wp2_with fail
  go_loopw [1, 5] (fun m i wr => ∃ j : Nat, j ≤ l.length ∧ i = .int .i64 j ∧ m = .int .i64 (k + j) ∧ HalfS wr b off l k j ∧ Only bs w wr) (fun _ i _ => l.length - (intOf i).toNat)
  case atStart => exact ⟨0, Nat.zero_le _, rfl, by simp, HHF.out, Only.refl _ _⟩
  case round =>
    obtain ⟨j, hj, rfl, rfl, hh, ho⟩ := hrel
    have HH := Lib.hid hh
    have HO := Lib.hid ho
    clear hh ho
    by_cases hlt : j < l.length
    · obtain ⟨rfl, hbs⟩ := HNE.out (by intro e; rw [e] at hlt; simp at hlt)
      have HBS := Lib.hid hbs
      clear hbs
      go_wp2_with fail
      refine (markText_any (k + j) wr (by omega) (by omega)).mono ?_
      rintro e w1 ⟨rfl, hb1⟩
      have HH1 := Lib.hid (HH.out.later hb1)
      have HO1 : Hid (Only bs w w1) := HO.out.trans (Only.of_below hb1)
      obtain ⟨hc, hf⟩ := HH1.out j hlt
      clear hb1
      go_wp2_with fail
      go_roundw
      case rel => exact ⟨j + 1, by omega, by go_num, by go_num, HH1.out.step hlt, HO1.out.setCell _ _ _ (by rw [HBS.out]; simp)⟩
      case measure => simp [intOf]; omega
    · obtain rfl : j = l.length := by omega
      go_wp2_with fail
      go_ret
      refine ⟨rfl, ⟨a, cap, by rw [mtexts_length], by rw [mtexts_length]; exact HCAP.out, HMAX.out, ?_⟩, HO.out⟩
      by_cases h0 : l = []
      · rcases HEM.out h0 with h1 | ⟨b', off', h1, h2⟩
        · exact .inl ⟨by rw [h0]; rfl, h1⟩
        · exact .inr ⟨b', off', h1, h2, fun i hi => by rw [mtexts_length, h0] at hi; simp at hi⟩
      · obtain ⟨h1, h2⟩ := HNE.out h0
        refine .inr ⟨b, off, h1, h2, fun i hi => ?_⟩
        have hi' : i < l.length := by rw [mtexts_length] at hi; exact hi
        have := HH.out i hi'
        rw [if_pos hi'] at this
        rw [mtexts_get]
        exact this
set_option maxRecDepth 100000 in
set_option maxHeartbeats 400000 in
theorem heldStringS_any (n : Nat) (v : Value) (k : Int) (w : World) (hv : StrRow w v (mtexts k n)) (hk : 1 ≤ k) (hk2 : k + n ≤ 1099511627776) :
    Calls Try.prog 64 #[v, .int .i64 k] w
      fun e w' => e = .returned (.int .i64 (k + n)) ∧ Below w.heap.size w w' := by
  obtain ⟨a, cap, rfl, hcap, hmax, hl⟩ := hv
  unfold maxLen at hmax
  have HL : Hid (mtexts k n = [] ∨ ∃ b off, a = some ⟨b, off, none⟩ ∧ ∀ i, (h : i < n) → w.cell? ⟨b, off + i, none⟩ = some (.string (mtext (k + i)))) := by
    rcases hl with h | ⟨b, off, h1, h3⟩
    · exact .inl h
    · exact .inr ⟨b, off, h1, fun i hi => by have := h3 i (by rw [mtexts_length]; exact hi); rw [mtexts_get] at this; exact this⟩
  clear hl
  rw [mtexts_length] at hcap ⊢
  go_enter Try.func64, Try.ntmps64
  go_wp2_with fail
  go_loopw [1, 5] (fun m i wr => ∃ j : Nat, j ≤ n ∧ i = .int .i64 j ∧ m = .int .i64 (k + j) ∧ Below w.heap.size w wr) (fun _ i _ => n - (intOf i).toNat)
  case atStart => exact ⟨0, Nat.zero_le _, rfl, by simp, Below.refl _ _⟩
  case round =>
    obtain ⟨j, hj, rfl, rfl, hb⟩ := hrel
    by_cases hlt : j < n
    · rcases HL.out with h0 | ⟨b, off, rfl, hrow⟩
      · exfalso; have := mtexts_length n k; rw [h0] at this; simp at this; omega
      · have hc := cell_later' hb (hrow j hlt)
        have HB := Lib.hid hb
        have hx : ((mtext (k + j)).toList != (mtext (k + j)).toList) = false := by simp
        clear hrow hb
        go_wp2_with fail
        have hbl : b < wr.heap.size := cell_lt hc
        go_region_with (go_at_call 83; refine (markText_any (k + j) wr.drew (by omega) (by omega)).mono ?_; rintro e w1 ⟨rfl, hb1⟩; have hb1' : Below wr.heap.size wr w1 := ((Below.refl wr.heap.size wr).drew).trans hb1; have d1 := cell_later' hb1' hc; have HB1 : Hid (Below w.heap.size w w1) := HB.out.trans (hb1'.mono HB.out.size); clear hb1 hb1')
        all_goals
          clear hc d1
          go_wp2_with fail
          go_roundw
          case rel => exact ⟨j + 1, by omega, by go_num, by go_num, HB1.out⟩
          case measure => simp [intOf]; omega
    · obtain rfl : j = n := by omega
      have HB := Lib.hid hb
      clear hb
      go_wp2_with fail
      go_ret
      exact ⟨rfl, HB.out⟩
end Go.Proofs.Ytlmplfpdmelcjaa
