/- The contracts of the laws' comparison of bindings, at the same ones. -/
import Derived.Test.YtlmplfpdmelcjaaEq
import Derived.Test.YtlmplfpdmelcjaaBdDat
import Derived.Test.YtlmplfpdmelcjaaData
namespace Go.Proofs.Ytlmplfpdmelcjaa
open Go.RowKit
set_option linter.unusedVariables false
set_option linter.unusedSimpArgs false
set_option maxRecDepth 100000 in
set_option maxHeartbeats 400000 in
theorem eqBind_any (B : Nat) (x : Bd) (sa sb : Option Addr) (scap sbcap : Nat) (w : World) (hB : B ≤ w.heap.size) (hr : IntRow (· < B) w (.slice sa x.scopes.length scap) x.scopes) (hr2 : IntRow (· < B) w (.slice sb x.scopes.length sbcap) x.scopes) :
    Calls Try.prog 170 #[.agg #[.string x.name, .slice sa x.scopes.length scap, .int .i64 x.id], .agg #[.string x.name, .slice sb x.scopes.length sbcap, .int .i64 x.id]] w fun e w' => e = .returned (.bool true) ∧ Below w.heap.size w w' := by
  have hx : (x.name.toList != x.name.toList) = false := by simp
  have hs : (x.scopes == x.scopes) = true := by simp
  have HR := Lib.hid hr
  have HR2 := Lib.hid hr2
  have HS := Lib.hid hs
  clear hr hr2 hs
  go_enter Try.func170, Try.ntmps170
  obtain ⟨W, hW⟩ : ∃ W, W = ((w.alloc (.cells #[.string x.name, .slice sa x.scopes.length scap, .int .i64 x.id] 148)).alloc (.cells #[.string x.name, .slice sb x.scopes.length sbcap, .int .i64 x.id] 148)) := ⟨_, rfl⟩
  have hbW : Below w.heap.size w W := by rw [hW]; exact (below_alloc w _).alloc (by simp) _
  have c2 : W.cell? ⟨w.heap.size, 2, none⟩ = some (.int .i64 x.id) := by rw [hW]; exact cell_later' (below_alloc _ _) (World.cell?_alloc_at _ _ _ _ rfl)
  have d2 : W.cell? ⟨w.heap.size + 1, 2, none⟩ = some (.int .i64 x.id) := by rw [hW]; exact World.cell?_alloc_at _ _ _ _ (by simp)
  have HW := Lib.hid hW
  have HBW := Lib.hid hbW
  clear hW hbW
  go_wp2_with fail
  have hW := HW.out
  rw [← hW]
  clear hW
  refine (eqIntS_any (· < B) (· < B) x.scopes x.scopes _ _ W (HR.out.later (same_below (HBW.out.mono hB))) (HR2.out.later (same_below (HBW.out.mono hB)))).mono ?_
  rintro e w1 ⟨rfl, hb1⟩
  rw [HS.out]
  have e2 := cell_later' hb1 c2
  have f2 := cell_later' hb1 d2
  have HB1 : Hid (Below w.heap.size w w1) := HBW.out.trans (hb1.mono HBW.out.size)
  clear hb1 c2 d2
  go_wp2_with fail
  go_ret
  exact ⟨rfl, HB1.out⟩
set_option maxRecDepth 100000 in
set_option maxHeartbeats 400000 in
theorem eqBindS_any (B : Nat) (l : List Bd) (v u : Value) (w : World) (hB : B ≤ w.heap.size) (hv : BdRow (· < B) w v l) (hu : BdRow (· < B) w u l) :
    Calls Try.prog 122 #[v, u] w fun e w' => e = .returned (.bool true) ∧ Below w.heap.size w w' := by
  obtain ⟨a, cap, rfl, hcap, hmax, hwf, hl⟩ := hv
  obtain ⟨a2, cap2, rfl, hcap2, hmax2, _, hl2⟩ := hu
  unfold maxLen at hmax hmax2
  have HL := Lib.hid hl
  have HL2 := Lib.hid hl2
  clear hl hl2 hwf
  have hne : ((l.length : Int) != (l.length : Int)) = false := by simp
  go_enter Try.func122, Try.ntmps122
  go_wp2_with fail
  go_loopw [5] (fun i wr => ∃ j : Nat, j ≤ l.length ∧ i = .int .i64 j ∧ Below w.heap.size w wr) (fun i _ => l.length - (intOf i).toNat)
  case atStart => exact ⟨0, Nat.zero_le _, rfl, Below.refl _ _⟩
  case round =>
    obtain ⟨j, hj, rfl, hb⟩ := hrel
    have HB := Lib.hid hb
    have hsw := hb.size
    clear hb
    by_cases hlt : j < l.length
    · rcases HL.out with h0 | ⟨b, off, rfl, hbB, hrow⟩
      · exfalso; rw [h0] at hlt; simp at hlt
      · rcases HL2.out with h0 | ⟨b2, off2, rfl, hbB2, hrow2⟩
        · exfalso; rw [h0] at hlt; simp at hlt
        · obtain ⟨sa, scap, p0, p1, p2, hr⟩ := (hrow j hlt).later hbB (same_below (HB.out.mono hB))
          obtain ⟨sb, sbcap, q0, q1, q2, hr2⟩ := (hrow2 j hlt).later hbB2 (same_below (HB.out.mono hB))
          have HR := Lib.hid hr
          have HR2 := Lib.hid hr2
          clear hrow hrow2 hr hr2
          go_wp2_with fail
          go_still_tail 8, (by kernel_rfl)
          change wpList _ _ _ _ _ wr.drew
          go_wp2_with fail
          refine (eqBind_any B l[j] sa sb scap sbcap wr.drew (by show B ≤ wr.heap.size; omega) (HR.out.later (fun _ _ => rfl)) (HR2.out.later (fun _ _ => rfl))).mono ?_
          rintro e w3 ⟨rfl, hb3⟩
          have hb3' := below_drew hb3
          have HB3 : Hid (Below w.heap.size w w3) := HB.out.trans (hb3'.mono hsw)
          clear hb3 hb3' p0 p1 p2 q0 q1 q2
          go_wp2_with fail
          go_roundw
          case rel => exact ⟨j + 1, by omega, by go_num, HB3.out⟩
          case measure => simp [intOf]; omega
    · obtain rfl : j = l.length := by omega
      go_wp2_with fail
      go_ret
      exact ⟨rfl, HB.out⟩
end Go.Proofs.Ytlmplfpdmelcjaa
