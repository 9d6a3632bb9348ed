/- The contract of the model's look for a text in a list. -/
import Derived.Test.YtlmplfpdmelcjaaSlim
import Derived.Test.YtlmplfpdmelcjaaMids
import Derived.Maps.AppendAt
import Derived.Test.YtlmplfpdmelcjaaStrs
namespace Go.Proofs.Ytlmplfpdmelcjaa
open Go.RowKit
set_option linter.unusedVariables false
set_option linter.unusedSimpArgs false
set_option maxRecDepth 100000 in
set_option maxHeartbeats 400000 in
theorem l1In_any (l : List ByteArray) (v : Value) (s : ByteArray) (w : World) (hv : StrRow w v l) :
    Calls Try.prog 169 #[v, .string s] w fun e w' => e = .returned (.bool (inB l s)) ∧ w' = w := by
  obtain ⟨a, cap, rfl, hcap, hmax, hrow⟩ := hv
  unfold maxLen at hmax
  go_enter Try.func169, Try.ntmps169
  have HROW := Lib.hid hrow
  clear hrow
  go_wp2_with fail
  go_loop [5] (fun i => ∃ j : Nat, j ≤ l.length ∧ i = .int .i64 j ∧ inB (l.take j) s = false) (fun i => l.length - (intOf i).toNat)
  case atStart => exact ⟨0, Nat.zero_le _, rfl, by simp [inB]⟩
  case round =>
    obtain ⟨j, hj, rfl, hno⟩ := hrel
    by_cases hlt : j < l.length
    · rcases HROW.out with h0 | ⟨b, off, rfl, hcells⟩
      · exfalso; rw [h0] at hlt; simp at hlt
      · have hc := hcells j hlt
        have HNX := Lib.hid (inB_take_succ l s j hlt)
        have HNO := Lib.hid hno
        have HIN := Lib.hid (List.getElem_mem hlt)
        clear hcells hno
        cases hx : (l[j].toList == s.toList) with
        | true =>
          have HY : Hid (inB l s = true) := by unfold Hid inB; rw [List.any_eq_true]; exact ⟨l[j], HIN.out, hx⟩
          go_wp2_with fail
          go_ret
          exact ⟨ret_bool HY.out.symm, rfl⟩
        | false =>
          have HY : Hid (inB (l.take (j + 1)) s = false) := by unfold Hid; rw [HNX.out, HNO.out, hx]; rfl
          go_wp2_with fail
          go_round
          case rel => exact ⟨j + 1, by omega, by go_num, HY.out⟩
          case measure => simp [intOf]; omega
    · obtain rfl : j = l.length := by omega
      rw [List.take_length] at hno
      have HNO := Lib.hid hno
      clear hno
      go_wp2_with fail
      go_ret
      exact ⟨ret_bool HNO.out.symm, rfl⟩
end Go.Proofs.Ytlmplfpdmelcjaa
