/- The contracts of the model's comparison of lists of numbers. -/
import Derived.Test.YtbclgmabidjegaaData
namespace Go.Proofs.Ytbclgmabidjegaa
open Go.RowKit
set_option linter.unusedVariables false
set_option maxRecDepth 100000 in
set_option maxHeartbeats 400000 in
theorem l1Ints_any (φ ψ : Nat → Prop) (l m : List Int) (v u : Value) (w : World) (hv : IntRow φ w v l) (hu : IntRow ψ w u m) :
    Calls Try.prog 73 #[v, u] w fun e w' => e = .returned (.bool (l == m)) ∧ Below w.heap.size w w' := by
  obtain ⟨a, cap, rfl, hcap, hmax, hwf, hl⟩ := hv
  obtain ⟨a2, cap2, rfl, hcap2, hmax2, hwf2, hl2⟩ := hu
  unfold maxLen at hmax hmax2
  have HL := Lib.hid hl
  have HL2 := Lib.hid hl2
  clear hl hl2 hwf hwf2
  by_cases hlen : l.length = m.length
  · have hne : ((l.length : Int) != (m.length : Int)) = false := by rw [bne_eq_false_iff_eq]; omega
    have HLEN := Lib.hid hlen
    have h1 : l.length ≤ m.length := by omega
    have h2 : m.length ≤ l.length := by omega
    clear hlen
    go_enter Try.func73, Try.ntmps73
    go_wp2_with fail
    go_loopw [5] (fun i wr => ∃ j : Nat, j ≤ l.length ∧ i = .int .i64 j ∧ (l.take j == m.take j) = true ∧ Below w.heap.size w wr) (fun i _ => l.length - (intOf i).toNat)
    case atStart => exact ⟨0, Nat.zero_le _, rfl, by simp, Below.refl _ _⟩
    case round =>
      obtain ⟨j, hj, rfl, hr, hb⟩ := hrel
      have HR := Lib.hid hr
      clear hr
      by_cases hlt : j < l.length
      · have hlt2 : j < m.length := by omega
        rcases HL.out with h0 | ⟨b, off, rfl, _, hrow⟩
        · exfalso; rw [h0] at hlt; simp at hlt
        · rcases HL2.out with h0 | ⟨b2, off2, rfl, _, hrow2⟩
          · exfalso; rw [h0] at hlt2; simp at hlt2
          · have hc : wr.cell? ⟨b, off + j, none⟩ = some (.int .i64 l[j]) := cell_later' hb (hrow j hlt)
            have hc2 : wr.cell? ⟨b2, off2 + j, none⟩ = some (.int .i64 m[j]) := cell_later' hb (hrow2 j hlt2)
            have HT := Lib.hid (take_beq_succ l m j hlt hlt2)
            have HB := Lib.hid hb
            clear hrow hrow2 hb
            cases he : (l[j] != m[j]) with
            | false =>
              have HE := Lib.hid he
              go_wp2_with fail
              go_quiet (fail)
              go_wp2_with fail
              go_roundw
              case rel => exact ⟨j + 1, by omega, by go_num, by rw [HT.out, HR.out, Bool.true_and]; have := HE.out; rw [bne_eq_false_iff_eq] at this; rw [this]; simp, below_drewN HB.out _⟩
              case measure => simp [intOf]; omega
            | true =>
              have HE : Hid ((l == m) = false) := beq_no l m (j + 1) (by rw [HT.out, HR.out, Bool.true_and]; rw [bne_iff_ne] at he; rw [beq_eq_false_iff_ne]; exact he)
              go_wp2_with fail
              go_quiet (fail)
              go_wp2_with fail
              go_ret
              exact ⟨ret_bool HE.out.symm, below_drewN HB.out _⟩
      · obtain rfl : j = l.length := by omega
        have HE : Hid ((l == m) = true) := by
          have := HR.out
          rw [List.take_length, HLEN.out, List.take_length] at this
          exact this
        have HB := Lib.hid hb
        clear hb
        go_wp2_with fail
        go_ret
        exact ⟨ret_bool HE.out.symm, HB.out⟩
  · have hne : ((l.length : Int) != (m.length : Int)) = true := by rw [bne_iff_ne]; omega
    have HE : Hid ((l == m) = false) := by unfold Hid; rw [beq_eq_false_iff_ne]; intro e; exact hlen (by rw [e])
    clear hlen
    go_enter Try.func73, Try.ntmps73
    go_wp2_with fail
    go_ret
    exact ⟨ret_bool HE.out.symm, Below.refl _ _⟩
end Go.Proofs.Ytbclgmabidjegaa
