/- Contracts on sets of scopes, of both sides. -/
import Derived.Test.YtilbjlngnpmhcaaChecked
import Derived.Test.YtilbjlngnpmhcaaFm
import Derived.Test.YtilbjlngnpmhcaaMaSc
import Derived.Deep.QuietTactic
import Derived.BigQuiet
namespace Go.Proofs.Ytilbjlngnpmhcaa
open Go.RowKit
set_option maxRecDepth 100000 in
set_option maxHeartbeats 400000 in
theorem implScopes_any (φ : Nat → Prop) (l : List Int) (v : Value) (w : World) (hv : IntRow φ w v l) :
    Calls Try.prog 93 #[v] w fun e w' => e = .returned (.bool (scopesB l)) ∧ Below w.heap.size w w' := by
  obtain ⟨a, cap, rfl, hcap, hmax, hwf, hl⟩ := hv
  unfold maxLen at hmax
  by_cases h24 : 24 < l.length
  · have HN := Lib.hid (scopesB_size l h24)
    go_enter Try.func93, Try.ntmps93
    go_wp2
    go_ret
    exact ⟨ret_bool HN.out.symm, Below.refl _ _⟩
  · have h24' : l.length ≤ 24 := by omega
    clear h24
    go_enter Try.func93, Try.ntmps93
    go_wp2
    go_loop [3, 11] (fun x i => ∃ k : Nat, k ≤ l.length ∧ i = .int .i64 k ∧ x = .int .i64 (lastAt 0 l k) ∧ ascB 0 (l.take k) = true) (fun _ i => l.length - (intOf i).toNat)
    case atStart => exact ⟨0, Nat.zero_le _, rfl, rfl, rfl⟩
    case round =>
      obtain ⟨k, hk, rfl, rfl, hr⟩ := hrel
      have HR := Lib.hid hr
      clear hr
      by_cases hlt : k < l.length
      · rcases hl with rfl | ⟨b, off, rfl, _, hrow⟩
        · simp at hlt
        · have hc : w.cell? ⟨b, off + k, none⟩ = some (.int .i64 l[k]) := hrow k hlt
          have HS : Hid (ascB 0 (l.take (k + 1)) = (decide (lastAt 0 l k < l[k]) && decide (l[k] ≤ 99))) := by
            unfold Hid; rw [ascB_take_succ l 0 k hlt, HR.out, Bool.true_and]
          have HT : Hid (lastAt 0 l (k + 1) = l[k]) := by
            unfold Hid lastAt; simp [hlt]
          have HW := Lib.hid hwf
          clear hrow hwf
          by_cases h1 : lastAt 0 l k < l[k]
          · by_cases h2 : l[k] ≤ 99
            · go_wp2
              go_round
              case rel => exact ⟨k + 1, by omega, by go_num, by rw [HT.out], by rw [HS.out, decide_eq_true h1, decide_eq_true h2]; rfl⟩
              case measure => simp [intOf]; omega
            · have HN := Lib.hid (scopesB_no l (k + 1) (by rw [HS.out, decide_eq_false h2, Bool.and_false]))
              go_wp2
              all_goals
                go_ret
                exact ⟨ret_bool HN.out.symm, Below.refl _ _⟩
          · have HN := Lib.hid (scopesB_no l (k + 1) (by rw [HS.out, decide_eq_false h1, Bool.false_and]))
            go_wp2
            all_goals
              go_ret
              exact ⟨ret_bool HN.out.symm, Below.refl _ _⟩
      · have HN := Lib.hid (scopesB_yes l h24' (by have := HR.out; rw [show k = l.length from by omega, List.take_length] at this; exact this))
        go_wp2
        go_ret
        exact ⟨ret_bool HN.out.symm, Below.refl _ _⟩
set_option maxRecDepth 100000 in
set_option maxHeartbeats 1000000 in
theorem specScopes_any (φ : Nat → Prop) (l : List Int) (v : Value) (w : World) (hv : IntRow φ w v l) :
    Calls Try.prog 80 #[v] w fun e w' => e = .returned (.bool (scopesB l)) ∧ Below w.heap.size w w' := by
  obtain ⟨a, cap, rfl, hcap, hmax, hwf, hl⟩ := hv
  unfold maxLen at hmax
  go_enter Try.func80, Try.ntmps80
  go_wp2
  go_loopw [3] (fun i wr => ∃ k : Nat, k ≤ l.length ∧ k ≤ 25 ∧ i = .int .i64 k ∧ ascB 0 (l.take k) = true ∧ Below w.heap.size w wr) (fun i _ => l.length - (intOf i).toNat)
  case atStart => exact ⟨0, Nat.zero_le _, by omega, rfl, rfl, Below.refl _ _⟩
  case round =>
    obtain ⟨k, hk, hk2, rfl, hr, hb⟩ := hrel
    have HR := Lib.hid hr
    clear hr
    by_cases hlt : k < l.length ∧ k ≤ 24
    · obtain ⟨hlt, hle⟩ := hlt
      rcases hl with rfl | ⟨b, off, rfl, _, hrow⟩
      · simp at hlt
      · have hc : wr.cell? ⟨b, off + k, none⟩ = some (.int .i64 l[k]) := cell_later' hb (hrow k hlt)
        have hpos := fun h : 1 ≤ k => ascB_pos l 0 (k - 1) (by omega) (by omega) (by rw [show k - 1 + 1 = k from by omega]; exact HR.out)
        have HS : Hid (ascB 0 (l.take (k + 1)) = (decide (lastAt 0 l k < l[k]) && decide (l[k] ≤ 99))) := by
          unfold Hid; rw [ascB_take_succ l 0 k hlt, HR.out, Bool.true_and]
        have HB := Lib.hid hb
        have HRW := Lib.hid hrow
        have hbr := fun (h : 1 ≤ k) => (cell_later' hb (hrow (k - 1) (by omega)) : wr.cell? ⟨b, off + (k - 1), none⟩ = some (.int .i64 l[k - 1]))
        have HCR := Lib.hid hbr
        have HPO := Lib.hid hpos
        have HWF := Lib.hid hwf
        have hka : (k : Int) ≤ 24 := by omega
        clear hb hrow hbr hpos hwf
        by_cases h1 : l[k] < 1
        · have HN : Hid (scopesB l = false) := scopesB_no l (k + 1) (by
            rw [HS.out]
            cases k with
            | zero => rw [decide_eq_false (by simp [lastAt]; omega), Bool.false_and]
            | succ k => have := HPO.out (by omega); rw [decide_eq_false (by simp only [Nat.add_sub_cancel] at this; simp [lastAt, show k < l.length from by omega]; omega), Bool.false_and])
          go_wp2
          go_quiet (fail)
          go_wp2
          go_ret
          exact ⟨ret_bool HN.out.symm, below_drewN HB.out _⟩
        · have d1 : decide (l[k] < 1) = false := decide_eq_false h1
          by_cases h2 : 99 < l[k]
          · have d2 : decide (99 < l[k]) = true := decide_eq_true h2
            have HN : Hid (scopesB l = false) := scopesB_no l (k + 1) (by rw [HS.out, decide_eq_false (show ¬ l[k] ≤ 99 from by omega), Bool.and_false])
            go_wp2
            go_quiet (fail)
            go_wp2
            go_ret
            exact ⟨ret_bool HN.out.symm, below_drewN HB.out _⟩
          · have d2 : decide (99 < l[k]) = false := decide_eq_false h2
            by_cases hk0 : 1 ≤ k
            · have d3 : decide (0 < k) = true := decide_eq_true (by omega)
              have hc2 := HCR.out hk0
              have e1 : lastAt 0 l k = l[k - 1] := by
                cases k with
                | zero => omega
                | succ k => simp [lastAt, show k < l.length from by omega]
              have E1 := Lib.hid e1
              clear e1
              by_cases h3 : l[k] ≤ l[k - 1]
              · have HN : Hid (scopesB l = false) := scopesB_no l (k + 1) (by rw [HS.out, E1.out, decide_eq_false (by omega), Bool.false_and])
                go_wp2
                go_quiet (fail)
                go_wp2
                go_ret
                exact ⟨ret_bool HN.out.symm, below_drewN HB.out _⟩
              · go_wp2
                go_quiet (fail)
                go_wp2
                go_roundw
                case rel => exact ⟨k + 1, by omega, by omega, by go_num, by rw [HS.out, E1.out, decide_eq_true (by omega), decide_eq_true (by omega)]; rfl, below_drewN HB.out _⟩
                case measure => simp [intOf]; omega
            · have d3 : decide (0 < k) = false := decide_eq_false (by omega)
              go_wp2
              go_quiet (fail)
              go_wp2
              go_roundw
              case rel => exact ⟨k + 1, by omega, by omega, by go_num, by rw [HS.out, decide_eq_true (show lastAt 0 l k < l[k] from by rw [show lastAt 0 l k = 0 from by rw [show k = 0 from by omega]; rfl]; omega), decide_eq_true (by omega)]; rfl, below_drewN HB.out _⟩
              case measure => simp [intOf]; omega
    · have HB := Lib.hid hb
      clear hb hl
      by_cases h24 : 24 < l.length
      · have HN := Lib.hid (scopesB_size l h24)
        have hk3 : 24 < k := by omega
        by_cases hlt' : k < l.length
        all_goals
          go_wp2
          go_ret
          exact ⟨ret_bool (by rw [HN.out]; simp; omega), HB.out⟩
      · have hk3 : ¬ k < l.length := by omega
        have HN := Lib.hid (scopesB_yes l (by omega) (by have := HR.out; rw [show k = l.length from by omega, List.take_length] at this; exact this))
        go_wp2
        go_ret
        exact ⟨ret_bool (by rw [HN.out]; simp; omega), HB.out⟩
end Go.Proofs.Ytilbjlngnpmhcaa
