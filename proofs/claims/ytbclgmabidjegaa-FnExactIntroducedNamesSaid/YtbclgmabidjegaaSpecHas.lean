/- The contracts of the model's sets of numbers: has, take, put. -/
import Derived.Test.YtbclgmabidjegaaMids
import Derived.Test.YtbclgmabidjegaaChecked
namespace Go.Proofs.Ytbclgmabidjegaa
open Go.RowKit
set_option linter.unusedVariables false
set_option linter.unusedSimpArgs false
/-- whether a list has a number -/
def hasB (l : List Int) (n : Int) : Bool := l.any (· == n)
theorem hasB_take_succ (l : List Int) (n : Int) (j : Nat) (h : j < l.length) : hasB (l.take (j + 1)) n = (hasB (l.take j) n || l[j] == n) := by
  unfold hasB
  rw [List.take_succ_eq_append_getElem h, List.any_append]
  simp
set_option maxRecDepth 100000 in
set_option maxHeartbeats 400000 in
theorem l2Has_any (φ : Nat → Prop) (l : List Int) (v : Value) (n : Int) (w : World) (hv : IntRow φ w v l) :
    Calls Try.prog 130 #[v, .int .i64 n] w fun e w' => e = .returned (.bool (hasB l n)) ∧ w' = w := by
  obtain ⟨a, cap, rfl, hcap, hmax, hwf, hrow⟩ := hv
  unfold maxLen at hmax
  go_enter Try.func130, Try.ntmps130
  have HROW := Lib.hid hrow
  clear hrow
  go_wp2_with fail
  go_loop [5] (fun i => ∃ j : Nat, j ≤ l.length ∧ i = .int .i64 j ∧ hasB (l.take j) n = false) (fun i => l.length - (intOf i).toNat)
  case atStart => exact ⟨0, Nat.zero_le _, rfl, by simp [hasB]⟩
  case round =>
    obtain ⟨j, hj, rfl, hno⟩ := hrel
    by_cases hlt : j < l.length
    · rcases HROW.out with h0 | ⟨b, off, rfl, _, hcells⟩
      · exfalso; rw [h0] at hlt; simp at hlt
      · have hc := hcells j hlt
        have HNX := Lib.hid (hasB_take_succ l n j hlt)
        have HNO := Lib.hid hno
        have HIN := Lib.hid (List.getElem_mem hlt)
        clear hcells hno
        by_cases hx : l[j] = n
        · have HY : Hid (hasB l n = true) := by unfold Hid hasB; rw [List.any_eq_true]; exact ⟨l[j], HIN.out, by simp [hx]⟩
          go_wp2_with fail
          go_ret
          exact ⟨ret_bool HY.out.symm, rfl⟩
        · have HY : Hid (hasB (l.take (j + 1)) n = false) := by unfold Hid; rw [HNX.out, HNO.out]; simp [hx]
          go_wp2_with fail
          go_round
          case rel => exact ⟨j + 1, by omega, by go_num, HY.out⟩
          case measure => simp [intOf]; omega
    · obtain rfl : j = l.length := by omega
      rw [List.take_length] at hno
      have HNO := Lib.hid hno
      clear hno
      go_wp2_with fail
      go_ret
      exact ⟨ret_bool HNO.out.symm, rfl⟩
end Go.Proofs.Ytbclgmabidjegaa
