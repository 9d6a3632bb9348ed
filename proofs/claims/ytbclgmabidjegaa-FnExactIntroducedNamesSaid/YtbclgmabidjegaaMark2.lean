/- Marks of forms that are held. -/
import Derived.Test.YtbclgmabidjegaaMarkF
import Derived.Deep.RegionWith
import Derived.StillTailTactics
namespace Go.Proofs.Ytbclgmabidjegaa
open Go.RowKit
set_option linter.unusedVariables false
set_option linter.unusedSimpArgs false
/-- the contract of the look at the marks of a list of forms -/
def HeldSaid (ks : List Fm) : Prop := ∀ (B : Nat) (a : Option Addr) (cap : Nat) (k : Int) (w : World), B ≤ w.heap.size → ks.length ≤ cap → cap ≤ maxLen →
  (markedAll ks k = [] ∨ ∃ b off, a = some ⟨b, off, none⟩ ∧ b < B ∧ RowIn (· < B) w b off (markedAll ks k)) → 1 ≤ k → k + marksAll ks ≤ 1099511627776 →
  Calls Try.prog 38 #[.slice a ks.length cap, .int .i64 k] w
    fun e w' => e = .returned (.int .i64 (k + marksAll ks)) ∧ Below w.heap.size w w'
set_option maxRecDepth 100000 in
set_option maxHeartbeats 1000000 in
theorem heldFormS_of (ks : List Fm) (ih : ∀ g ∈ ks, HeldSaid g.kids) : HeldSaid ks := by
  intro B a cap k w hB hcap hmax hrow hk hk2
  unfold maxLen at hmax
  have HIH := Lib.hid ih
  have HROW := Lib.hid hrow
  clear ih hrow
  go_enter Try.func38, Try.ntmps38
  go_wp2
  go_loopw [1, 5] (fun m i wr => ∃ j : Nat, j ≤ ks.length ∧ i = .int .i64 j ∧ m = .int .i64 (k + marksAll (ks.take j)) ∧ Below w.heap.size w wr) (fun _ i _ => ks.length - (intOf i).toNat)
  case atStart => exact ⟨0, Nat.zero_le _, rfl, by simp [marksAll], Below.refl _ _⟩
  case round =>
    obtain ⟨j, hj, rfl, rfl, hb⟩ := hrel
    have HB := Lib.hid hb
    have hsz := hb.size
    clear hb
    have hml := marksAll_take_le ks j
    by_cases hlt : j < ks.length
    · rcases HROW.out with h0 | ⟨b, off, rfl, hbB, hrow⟩
      · exfalso; have := markedAll_length ks k; rw [h0] at this; simp at this; omega
      · obtain ⟨sa, scap, ka, kcap, c0, c1, c2, c3, c4, hsc, hkl, hkm, hkids⟩ := (hrow.later (same_below (HB.out.mono hB)) b hbB).markedCells j hlt
        have hts := marksAll_take_succ ks j hlt
        have hml2 := marksAll_take_le ks (j + 1)
        have hme := marks_eq ks[j]
        have hB' : k + marksAll (ks.take j) + 1 + 1 + 1 + ks[j].scopes.length + marksAll ks[j].kids ≤ 1099511627776 := by omega
        have HTS : Hid (k + marksAll (ks.take (j + 1)) = k + marksAll (ks.take j) + 1 + 1 + 1 + ks[j].scopes.length + marksAll ks[j].kids) := by unfold Hid; omega
        have HSC := Lib.hid hsc
        have HKL := Lib.hid hkl
        have HKM := Lib.hid hkm
        have HKI := Lib.hid hkids
        have hbl : b < wr.heap.size := by omega
        clear hts hme hml2 hsc hkl hkm hkids hrow
        go_wp2_with fail
        go_region_with (go_at_call 86; refine (markText_any (k + marksAll (ks.take j) + 1) wr.drew (by omega) (by omega)).mono ?_; rintro e w1 ⟨rfl, hb1⟩; have hb1' : Below wr.heap.size wr w1 := ((Below.refl wr.heap.size wr).drew).trans hb1; have d1 := cell_later' hb1' c1; have d2 := cell_later' hb1' c2; have d3 := cell_later' hb1' c3; have d4 := cell_later' hb1' c4; have hs1 : wr.heap.size ≤ w1.heap.size := hb1'.size; have HB1 := Lib.hid hb1'; clear hb1 hb1')
        all_goals
          clear c0 c1 c2 c3 c4 d1
          go_wp2_with fail
          refine (heldIntS_any (· < B) ks[j].scopes.length _ _ _ (HSC.out.later (same_below (HB1.out.mono (by omega)))) (by omega) (by omega)).mono ?_
          rintro e w' ⟨rfl, rfl⟩
          have hpos : 0 ≤ k + marksAll (ks.take j) + 1 + 1 + 1 + ks[j].scopes.length := by omega
          have hpos2 : 0 ≤ k + marksAll (ks.take j) + 1 + 1 + 1 + ks[j].scopes.length + marksAll ks[j].kids := by omega
          go_wp2_with fail
          refine (HIH.out ks[j] (List.getElem_mem hlt) B _ _ _ _ (by omega) HKL.out HKM.out ?_ (by omega) hB').mono ?_
          · rcases HKI.out with h | ⟨kb, koff, h1, h2, h3⟩
            · exact .inl h
            · exact .inr ⟨kb, koff, h1, h2, h3.later (same_below (HB1.out.mono (by omega))) kb h2⟩
          rintro e w2 ⟨rfl, hb2⟩
          have HB2 : Hid (Below w.heap.size w w2) := (HB.out.trans (HB1.out.mono (by omega))).trans (hb2.mono (by omega))
          clear hb2 d2 d3 d4
          go_wp2_with fail
          go_roundw
          case rel => exact ⟨j + 1, by omega, by go_num, by rw [HTS.out], HB2.out⟩
          case measure => simp [intOf]; omega
    · obtain rfl : j = ks.length := by omega
      have HZ := Lib.hid (List.take_length (l := ks))
      go_wp2_with fail
      go_ret
      exact ⟨by first | rfl | (rw [HZ.out]; rfl), HB.out⟩
theorem heldForms_any (f : Fm) : HeldSaid f.kids := by
  induction f using Fm.ind with
  | h k nm x sc ks ih => exact heldFormS_of ks ih
theorem heldFormS_any (ks : List Fm) : HeldSaid ks := heldFormS_of ks fun g _ => heldForms_any g
set_option maxRecDepth 100000 in
set_option maxHeartbeats 400000 in
theorem heldForm_any (B : Nat) (f : Fm) (v : Value) (k : Int) (w : World) (hB : B ≤ w.heap.size) (hv : InV (· < B) w (f.marked k) v) (hk : 1 ≤ k) (hk2 : k + f.marks ≤ 1099511627776) :
    Calls Try.prog 171 #[v, .int .i64 k] w
      fun e w' => e = .returned (.int .i64 (k + f.marks)) ∧ Below w.heap.size w w' := by
  obtain ⟨sa, scap, a, cap, rfl, hsc, hkl, hkm, hkids⟩ := hv.markedParts
  have hme := marks_eq f
  have hb1 : k + f.scopes.length + marksAll f.kids ≤ 1099511627776 := by omega
  have HSC := Lib.hid hsc
  have HKL := Lib.hid hkl
  have HKM := Lib.hid hkm
  have HKI := Lib.hid hkids
  have HME := Lib.hid hme
  clear hsc hkl hkm hkids hv hk2 hme
  go_enter Try.func171, Try.ntmps171
  go_wp2_with fail
  refine (heldIntS_any (· < B) f.scopes.length _ _ _ (HSC.out.later (same_below ((Below.refl B w).alloc hB _))) hk (by omega)).mono ?_
  rintro e w' ⟨rfl, rfl⟩
  have hpos : 0 ≤ k + f.scopes.length := by omega
  have hpos2 : 0 ≤ k + f.scopes.length + marksAll f.kids := by omega
  go_wp2_with fail
  refine (heldFormS_any f.kids B _ _ _ _ (by simp; omega) HKL.out HKM.out ?_ (by omega) hb1).mono ?_
  · rcases HKI.out with h | ⟨kb, koff, h1, h2, h3⟩
    · exact .inl h
    · exact .inr ⟨kb, koff, h1, h2, h3.later (same_below ((Below.refl B w).alloc hB _)) kb h2⟩
  rintro e w2 ⟨rfl, hb2⟩
  have HB2 : Hid (Below w.heap.size w w2) := ((Below.refl _ w).alloc (Nat.le_refl _) _).trans (hb2.mono (by simp))
  clear hb2
  go_wp2_with fail
  go_ret
  exact ⟨ret_int (by rw [HME.out]; omega), HB2.out⟩
end Go.Proofs.Ytbclgmabidjegaa
