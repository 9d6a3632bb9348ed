/- The contract of the model's ScopesWithin. -/
import Derived.Test.YtaihblfabaijoaaSpecHas
namespace Go.Proofs.Ytaihblfabaijoaa
open Go.RowKit
set_option linter.unusedVariables false
set_option linter.unusedSimpArgs false
set_option maxRecDepth 100000 in
set_option maxHeartbeats 400000 in
theorem specWithin_any (φ : Nat → Prop) (l m : List Int) (v u : Value) (w : World) (hv : IntRow φ w v l) (hu : IntRow φ w u m) :
    Calls Try.prog 17 #[v, u] w fun e w' => e = .returned (.bool (l.all fun x => hasB m x)) ∧ w' = w := by
  obtain ⟨a, cap, rfl, hcap, hmax, hwf, hrow⟩ := hv
  unfold maxLen at hmax
  have HROW := Lib.hid hrow
  have HU := Lib.hid hu
  clear hrow hu
  go_enter Try.func17, Try.ntmps17
  go_wp2_with fail
  go_loop [5] (fun i => ∃ j : Nat, j ≤ l.length ∧ i = .int .i64 j ∧ (l.take j).all (fun x => hasB m x) = true) (fun i => l.length - (intOf i).toNat)
  case atStart => exact ⟨0, Nat.zero_le _, rfl, by simp⟩
  case round =>
    obtain ⟨j, hj, rfl, hno⟩ := hrel
    by_cases hlt : j < l.length
    · rcases HROW.out with h0 | ⟨b, off, rfl, _, hcells⟩
      · exfalso; rw [h0] at hlt; simp at hlt
      · have hc := hcells j hlt
        have HNX : Hid ((l.take (j + 1)).all (fun x => hasB m x) = hasB m l[j]) := by
          unfold Hid
          rw [List.take_succ_eq_append_getElem hlt, List.all_append, hno]
          simp
        have HIN := Lib.hid (List.getElem_mem hlt)
        clear hcells hno
        go_wp2_with fail
        refine (l2Has_any φ m u l[j] w HU.out).mono ?_
        rintro e w' ⟨rfl, rfl⟩
        by_cases hx : hasB m l[j] = true
        · have HX := Lib.hid hx
          rw [hx]
          clear hx
          go_wp2_with fail
          go_round
          case rel => exact ⟨j + 1, by omega, by go_num, by rw [HNX.out]; exact HX.out⟩
          case measure => simp [intOf]; omega
        · have HY : Hid ((l.all fun x => hasB m x) = false) := by
            unfold Hid
            rw [← Bool.not_eq_true, List.all_eq_true]
            intro h
            exact hx (h _ HIN.out)
          rw [Bool.not_eq_true] at hx
          rw [hx]
          clear hx
          go_wp2_with fail
          go_ret
          exact ⟨ret_bool HY.out.symm, rfl⟩
    · obtain rfl : j = l.length := by omega
      rw [List.take_length] at hno
      have HNO := Lib.hid hno
      clear hno
      go_wp2_with fail
      go_ret
      exact ⟨ret_bool HNO.out.symm, rfl⟩
end Go.Proofs.Ytaihblfabaijoaa
