/- The contracts of the counter of nodes. -/
import Derived.Test.YtilbjlngnpmhcaaChecked
import Derived.Test.YtilbjlngnpmhcaaKept
import Derived.Deep.QuietTactic
import Derived.BigQuiet
import Derived.Defers
namespace Go.Proofs.Ytilbjlngnpmhcaa
open Go.RowKit
set_option maxRecDepth 100000 in
set_option maxHeartbeats 400000 in
theorem enter_any (b o n d : Nat) (w : World) (hr : RoomAt w b o n d) (hn : n ≤ 1000000) (hd : d ≤ 1000000) :
    Calls Try.prog 116 #[.pointer (some ⟨b, o, none⟩)] w
      fun e w' => e = .returned (.bool (decide (n + 1 ≤ 400) && decide (d + 1 ≤ 40))) ∧ RoomAt w' b o (n + 1) (d + 1) ∧ Kept b o (o + 2) w w' := by
  have HR := Lib.hid hr
  obtain ⟨h1, h2, h3, h4⟩ := hr
  go_enter Try.func116, Try.ntmps116
  go_wp2
  all_goals
    go_ret
    refine ⟨ret_bool (by rw [Bool.eq_iff_iff]; simp; try omega), HR.out.set (by omega) (by omega), ((Kept.refl _ _ _ _).setCell _ _ (Nat.le_refl _) (by omega)).setCell _ _ (by omega) (by omega)⟩
set_option maxRecDepth 100000 in
set_option maxHeartbeats 400000 in
theorem leave_any (b o n d : Nat) (w : World) (hr : RoomAt w b o n (d + 1)) (hd : d ≤ 1000000) :
    Calls Try.prog 117 #[.pointer (some ⟨b, o, none⟩)] w
      fun e w' => e = .returned (.tuple #[]) ∧ RoomAt w' b o n d ∧ Kept b o (o + 2) w w' := by
  have HR := Lib.hid hr
  obtain ⟨h1, h2, h3, h4⟩ := hr
  go_enter Try.func117, Try.ntmps117
  go_wp2
  go_end0
  exact ⟨rfl, HR.out.setDepth (by omega), (Kept.refl _ _ _ _).setCell _ _ (by omega) (by omega)⟩
set_option maxRecDepth 100000 in
set_option maxHeartbeats 400000 in
theorem leave_deferred (b o n d : Nat) (u : FrameMode) (w : World) (hr : RoomAt w b o n (d + 1)) (hd : d ≤ 1000000) :
    CallsD Try.prog 117 #[.pointer (some ⟨b, o, none⟩)] u w
      fun e u' w' => u' = u ∧ (e = .returned (.tuple #[]) ∧ RoomAt w' b o n d ∧ Kept b o (o + 2) w w') := by
  have HR := Lib.hid hr
  obtain ⟨h1, h2, h3, h4⟩ := hr
  go_enter_d Try.func117, Try.ntmps117
  go_wp2
  go_end0
  exact ⟨rfl, HR.out.setDepth (by omega), (Kept.refl _ _ _ _).setCell _ _ (by omega) (by omega)⟩
end Go.Proofs.Ytilbjlngnpmhcaa
