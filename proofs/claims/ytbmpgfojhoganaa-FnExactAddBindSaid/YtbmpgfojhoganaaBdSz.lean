/- The contracts of the laws' sizes of bindings. -/
import Derived.Test.YtbmpgfojhoganaaBd
import Derived.Test.YtbmpgfojhoganaaData
import Derived.Test.YtbmpgfojhoganaaSz
namespace Go.Proofs.Ytbmpgfojhoganaa
open Go.RowKit
set_option linter.unusedVariables false
set_option linter.unusedSimpArgs false
def Bd.sz (x : Bd) : Nat := x.name.size + x.scopes.length
def szBds : List Bd → Nat
  | [] => 0
  | x :: r => x.sz + szBds r
theorem szBds_take_succ : ∀ (l : List Bd) (j : Nat) (h : j < l.length), szBds (l.take (j + 1)) = szBds (l.take j) + l[j].sz
  | x :: r, 0, _ => by simp [szBds]
  | x :: r, j + 1, h => by
    have := szBds_take_succ r j (by simpa using h)
    simp only [List.take_succ_cons, szBds, List.getElem_cons_succ]
    omega
theorem szBds_take_le : ∀ (l : List Bd) (j : Nat), szBds (l.take j) ≤ szBds l
  | [], j => by simp
  | x :: r, 0 => by simp [szBds]
  | x :: r, j + 1 => by
    have := szBds_take_le r j
    simp only [List.take_succ_cons, szBds]
    omega
set_option maxRecDepth 100000 in
set_option maxHeartbeats 400000 in
theorem szBind_any (x : Bd) (sa : Option Addr) (scap : Nat) (l : Int) (w : World) (hl : 0 ≤ l ∧ l ≤ 1048576) (hn : x.name.size ≤ maxLen) (hm : x.scopes.length ≤ maxLen) :
    Calls Try.prog 62 #[.agg #[.string x.name, .slice sa x.scopes.length scap, .int .i64 x.id], .int .i64 l] w fun e w' => e = .returned (.int .i64 (leftOf l x.sz)) ∧ Below w.heap.size w w' := by
  obtain ⟨hl0, hl1⟩ := hl
  have HM := Lib.hid hm
  have HBW : Hid (Below w.heap.size w (w.alloc (.cells #[.string x.name, .slice sa x.scopes.length scap, .int .i64 x.id] 78))) := below_alloc w _
  unfold maxLen at hn
  clear hm
  by_cases h1 : (x.name.size : Int) ≤ l
  · have hp : 0 ≤ l - x.name.size := by omega
    go_enter Try.func62, Try.ntmps62
    go_wp2_with fail
    refine (szIntS_any sa x.scopes.length scap (l - x.name.size) _ ⟨by omega, by omega⟩ HM.out).mono ?_
    rintro e w1 ⟨rfl, rfl⟩
    by_cases h2 : (x.scopes.length : Int) ≤ l - x.name.size
    · have hE : leftOf (l - x.name.size) x.scopes.length = l - x.name.size - x.scopes.length := if_pos h2
      have HF : Hid (l - x.name.size - x.scopes.length = leftOf l x.sz) := by unfold Hid leftOf Bd.sz; rw [if_pos (by omega)]; omega
      rw [hE]
      clear hE
      go_wp2_with fail
      go_ret
      exact ⟨ret_int HF.out, HBW.out⟩
    · have hE : leftOf (l - x.name.size) x.scopes.length = -1 := if_neg h2
      have HF : Hid (-1 = leftOf l x.sz) := by unfold Hid leftOf Bd.sz; rw [if_neg (by omega)]
      rw [hE]
      clear hE
      go_wp2_with fail
      go_ret
      exact ⟨ret_int HF.out, HBW.out⟩
  · have HF : Hid (-1 = leftOf l x.sz) := by unfold Hid leftOf Bd.sz; rw [if_neg (by omega)]
    go_enter Try.func62, Try.ntmps62
    go_wp2_with fail
    go_ret
    exact ⟨ret_int HF.out, HBW.out⟩
set_option maxRecDepth 100000 in
set_option maxHeartbeats 400000 in
theorem szBindS_any (B : Nat) (l : List Bd) (v : Value) (n : Int) (w : World) (hB : B ≤ w.heap.size) (hv : BdRow (· < B) w v l) (hn : 0 ≤ n ∧ n ≤ 1048576) :
    Calls Try.prog 29 #[v, .int .i64 n] w fun e w' => e = .returned (.int .i64 (leftOf n (l.length + szBds l))) ∧ Below w.heap.size w w' := by
  obtain ⟨a, cap, rfl, hcap, hmax, hwf, hl⟩ := hv
  obtain ⟨hn0, hn1⟩ := hn
  unfold maxLen at hmax
  have HL := Lib.hid hl
  have HWF := Lib.hid hwf
  clear hl hwf
  by_cases h1 : (l.length : Int) ≤ n
  · go_enter Try.func29, Try.ntmps29
    have hp : 0 ≤ n - l.length := by omega
    go_wp2_with fail
    go_loopw [1, 5] (fun m i wr => ∃ (j s : Nat), j ≤ l.length ∧ i = .int .i64 j ∧ s = szBds (l.take j) ∧ m = .int .i64 (n - l.length - s) ∧ 0 ≤ n - l.length - s ∧ Below w.heap.size w wr) (fun _ i _ => l.length - (intOf i).toNat)
    case atStart => exact ⟨0, 0, Nat.zero_le _, rfl, by simp [szBds], by simp, by simp; omega, Below.refl _ _⟩
    case round =>
      obtain ⟨j, s, hj, rfl, hs, rfl, hpos, hb⟩ := hrel
      have HS := Lib.hid hs
      have HB := Lib.hid hb
      have hsw := hb.size
      clear hs hb
      by_cases hlt : j < l.length
      · rcases HL.out with h0 | ⟨b, off, rfl, hbB, hrow⟩
        · exfalso; rw [h0] at hlt; simp at hlt
        · obtain ⟨sa, scap, p0, p1, p2, hr⟩ := (hrow j hlt).later hbB (same_below (HB.out.mono hB))
          have hsc : l[j].scopes.length ≤ maxLen := by
            obtain ⟨_, _, e, h3, h4, _⟩ := hr
            omega
          have HSC := Lib.hid hsc
          have HNM := Lib.hid (HWF.out l[j] (List.getElem_mem hlt)).1
          have HTS := Lib.hid (szBds_take_succ l j hlt)
          have HLE := Lib.hid (szBds_take_le l (j + 1))
          clear hrow hr hsc
          go_wp2_with fail
          refine (szBind_any l[j] sa scap (n - l.length - s) wr ⟨hpos, by omega⟩ HNM.out HSC.out).mono ?_
          rintro e w1 ⟨rfl, hb1⟩
          have HB1 : Hid (Below w.heap.size w w1) := HB.out.trans (hb1.mono hsw)
          clear hb1 p0 p1 p2
          by_cases h2 : (l[j].sz : Int) ≤ n - l.length - s
          · have hE : leftOf (n - l.length - s) l[j].sz = n - l.length - s - l[j].sz := if_pos h2
            have h3 : 0 ≤ n - l.length - s - l[j].sz := by omega
            rw [hE]
            clear hE
            go_wp2_with fail
            go_roundw
            case rel => exact ⟨j + 1, s + l[j].sz, by omega, by go_num, by rw [HTS.out, ← HS.out], by go_num, by omega, HB1.out⟩
            case measure => simp [intOf]; omega
          · have hE : leftOf (n - l.length - s) l[j].sz = -1 := if_neg h2
            have HF : Hid (-1 = leftOf n (l.length + szBds l)) := by
              have h4 := HTS.out
              have h5 := HLE.out
              have h6 := HS.out
              unfold Hid leftOf
              rw [if_neg (by omega)]
            rw [hE]
            clear hE
            go_wp2_with fail
            go_ret
            exact ⟨ret_int HF.out, HB1.out⟩
      · obtain rfl : j = l.length := by omega
        have HF : Hid (n - l.length - s = leftOf n (l.length + szBds l)) := by
          have h6 := HS.out
          rw [List.take_length] at h6
          unfold Hid leftOf
          rw [if_pos (by omega)]
          omega
        go_wp2_with fail
        go_ret
        exact ⟨ret_int HF.out, HB.out⟩
  · have HF : Hid (-1 = leftOf n (l.length + szBds l)) := by unfold Hid leftOf; rw [if_neg (by omega)]
    go_enter Try.func29, Try.ntmps29
    go_wp2_with fail
    go_ret
    exact ⟨ret_int HF.out, Below.refl _ _⟩
end Go.Proofs.Ytbmpgfojhoganaa
