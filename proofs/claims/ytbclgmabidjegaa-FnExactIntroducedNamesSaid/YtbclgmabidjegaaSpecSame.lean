/- The contract of the specification's comparison of forms. -/
import Derived.Test.YtbclgmabidjegaaSame
import Derived.Test.YtbclgmabidjegaaInts
namespace Go.Proofs.Ytbclgmabidjegaa
open Go.RowKit
set_option linter.unusedVariables false
/-- the contract of the comparison of two forms -/
def SpecSame (B : Nat) (f : Fm) : Prop := ∀ (g : Fm) (v u : Value) (w : World), B ≤ w.heap.size → InV (· < B) w f v → InV (· < B) w g u →
    Calls Try.prog 74 #[v, u] w fun e w' => e = .returned (.bool (sameB f g)) ∧ Below w.heap.size w w'
set_option maxRecDepth 100000 in
set_option maxHeartbeats 2000000 in
theorem specSame_any (B : Nat) (f : Fm) : SpecSame B f := by
  induction f using Fm.ind with
  | h k nm x sc ks ih =>
  intro g v u w hB hv hu
  cases g with
  | mk k' nm' x' sc' ks' =>
  unfold InV at hv hu
  obtain ⟨vs, a, cap, rfl, _, _, hnm, hvs, hcap, hmax, hks⟩ := hv
  obtain ⟨vs', a', cap', rfl, _, _, hnm', hvs', hcap', hmax', hks'⟩ := hu
  have HVS := Lib.hid hvs
  have HVS' := Lib.hid hvs'
  obtain ⟨sa, scap, rfl, _⟩ := hvs
  obtain ⟨sa', scap', rfl, _⟩ := hvs'
  have HKS := Lib.hid hks
  have HLS := Lib.hid hks'
  have HIH := Lib.hid ih
  clear hks hks' ih
  unfold maxLen at hmax hmax'
  have HN : Hid ((nm.toList == nm'.toList) = (nm.data.toList == nm'.data.toList)) := by unfold Hid; rw [Lib.toList_data, Lib.toList_data]
  have hA2 : ∀ O O', Below w.heap.size w ((w.alloc O).alloc O') := fun O O' => ((Below.refl _ w).alloc (Nat.le_refl _) _).alloc (by simp) _
  have HA2 := Lib.hid hA2
  clear hA2
  by_cases hk : k = k'
  · subst hk
    have hk1 : (k != k) = false := by simp
    by_cases hn : nm.data.toList = nm'.data.toList
    · have hnm1 : (nm.toList == nm'.toList) = true := by rw [HN.out, hn]; simp
      have hnm2 : (nm.toList != nm'.toList) = false := by unfold bne; rw [hnm1]; rfl
      have HNM := Lib.hid hn
      clear hn
      by_cases hx : x = x'
      · subst hx
        have hx1 : (x != x) = false := by simp
        go_enter Try.func74, Try.ntmps74
        go_wp2_with fail
        refine (l1Ints_any (· < B) (· < B) sc sc' _ _ _ (HVS.out.later (same_below ((HA2.out _ _).mono hB))) (HVS'.out.later (same_below ((HA2.out _ _).mono hB)))).mono ?_
        rintro e w1 ⟨rfl, hb1⟩
        have hs1 : w.heap.size + 2 ≤ w1.heap.size := by have := hb1.size; simpa using this
        have cA : w1.cell? ⟨w.heap.size, 4, none⟩ = some (.slice a ks.length cap) := (hb1.cell (p := ⟨w.heap.size, 4, none⟩) (by simp; omega)).trans (by simp)
        have cB : w1.cell? ⟨w.heap.size + 1, 4, none⟩ = some (.slice a' ks'.length cap') := (hb1.cell (p := ⟨w.heap.size + 1, 4, none⟩) (by simp)).trans (by simp)
        have HB1 : Hid (Below w.heap.size w w1) := (HA2.out _ _).trans (hb1.mono (by simp; omega))
        clear hb1
        cases hsc : (sc == sc') with
        | true =>
          have HE : Hid (sameB (.mk k nm x sc ks) (.mk k nm' x sc' ks') = sameAll ks ks') := by
            unfold Hid; simp only [sameB]; rw [hsc, HNM.out]; simp
          by_cases hl : ks.length = ks'.length
          · have hl1 : ((ks.length : Int) != (ks'.length : Int)) = false := by rw [bne_eq_false_iff_eq]; omega
            have HLEN := Lib.hid hl
            have h1 : ks.length ≤ ks'.length := by omega
            have h2 : ks'.length ≤ ks.length := by omega
            clear hl
            go_wp2_with fail
            go_loopw [5] (fun i wr => ∃ j : Nat, j ≤ ks.length ∧ i = .int .i64 j ∧ sameAll (ks.take j) (ks'.take j) = true ∧ wr.cell? ⟨w.heap.size, 4, none⟩ = some (.slice a ks.length cap) ∧
              wr.cell? ⟨w.heap.size + 1, 4, none⟩ = some (.slice a' ks'.length cap') ∧ Below w.heap.size w wr ∧ w.heap.size + 2 ≤ wr.heap.size) (fun i _ => ks.length - (intOf i).toNat)
            case atStart => exact ⟨0, Nat.zero_le _, rfl, by simp [sameAll], cA, cB, HB1.out, hs1⟩
            case round =>
              obtain ⟨j, hj, rfl, hr, cA', cB', hb, hsz⟩ := hrel
              have HR := Lib.hid hr
              have HB := Lib.hid hb
              clear hr hb cA cB
              by_cases hlt : j < ks.length
              · have hlt2 : j < ks'.length := by omega
                rcases HKS.out with h0 | ⟨b, off, rfl, hb1, hrow⟩
                · exfalso; rw [h0] at hlt; simp at hlt
                · rcases HLS.out with h0 | ⟨b2, off2, rfl, hb2, hrow2⟩
                  · exfalso; rw [h0] at hlt2; simp at hlt2
                  · obtain ⟨ga, gcap, ka, kcap, p0, p1, p2, p3, p4, hin⟩ := (hrow.later (same_below (HB.out.mono hB)) b hb1).at' j hlt
                    obtain ⟨ga2, gcap2, ka2, kcap2, q0, q1, q2, q3, q4, hin2⟩ := (hrow2.later (same_below (HB.out.mono hB)) b2 hb2).at' j hlt2
                    have HIN := Lib.hid hin
                    have HIN2 := Lib.hid hin2
                    have HIHJ := Lib.hid (HIH.out ks[j] (List.getElem_mem hlt))
                    have HT := Lib.hid (sameAll_take_succ ks ks' j hlt hlt2)
                    clear hin hin2 hrow hrow2
                    go_wp2_with fail
                    go_still_tail 10, (by kernel_rfl)
                    change wpList _ _ _ _ _ wr.drew
                    go_wp2_with fail
                    refine (HIHJ.out ks'[j] _ _ wr.drew (by show B ≤ wr.heap.size; omega) (InV.later (w := wr) (w' := wr.drew) (fun _ _ => rfl) _ _ HIN.out) (InV.later (w := wr) (w' := wr.drew) (fun _ _ => rfl) _ _ HIN2.out)).mono ?_
                    rintro e w3 ⟨rfl, hb3⟩
                    have hb3' : Below wr.heap.size wr w3 := ((Below.refl wr.heap.size wr).drew).trans hb3
                    have dA := cell_later' hb3' cA'
                    have dB := cell_later' hb3' cB'
                    have hs3 : wr.heap.size ≤ w3.heap.size := hb3'.size
                    have HB3 : Hid (Below w.heap.size w w3) := HB.out.trans (hb3'.mono (by omega))
                    clear hb3 hb3' cA' cB'
                    cases he : sameB ks[j] ks'[j] with
                    | true =>
                      have HE := Lib.hid he
                      clear he
                      go_wp2_with fail
                      go_roundw
                      case rel => exact ⟨j + 1, by omega, by go_num, by rw [HT.out, HR.out, HE.out]; rfl, dA, dB, HB3.out, by omega⟩
                      case measure => simp [intOf]; omega
                    | false =>
                      have HE : Hid (sameB (.mk k nm x sc ks) (.mk k nm' x sc' ks') = false) := by unfold Hid; rw [HE.out]; exact sameAll_no (j + 1) (by rw [HT.out, HR.out, he]; rfl)
                      clear he
                      go_wp2_with fail
                      go_ret
                      exact ⟨ret_bool HE.out.symm, HB3.out⟩
              · obtain rfl : j = ks.length := by omega
                have HE : Hid (sameB (.mk k nm x sc ks) (.mk k nm' x sc' ks') = true) := by
                  have := HR.out
                  rw [List.take_length, HLEN.out, List.take_length] at this
                  unfold Hid; rw [HE.out]
                  exact this
                go_wp2_with fail
                go_ret
                exact ⟨ret_bool HE.out.symm, HB.out⟩
          · have hl1 : ((ks.length : Int) != (ks'.length : Int)) = true := by rw [bne_iff_ne]; omega
            have HE : Hid (sameB (.mk k nm x sc ks) (.mk k nm' x sc' ks') = false) := by
              unfold Hid; rw [HE.out]
              cases hs : sameAll ks ks' with
              | false => rfl
              | true => exact absurd (sameAll_length hs) hl
            clear hl
            go_wp2_with fail
            go_ret
            exact ⟨ret_bool HE.out.symm, HB1.out⟩
        | false =>
          have HE : Hid (sameB (.mk k nm x sc ks) (.mk k nm' x sc' ks') = false) := by
            unfold Hid; simp only [sameB]; rw [hsc]; simp
          go_wp2_with fail
          go_ret
          exact ⟨ret_bool HE.out.symm, HB1.out⟩
      · have hx1 : (x != x') = true := by rw [bne_iff_ne]; exact hx
        have HE : Hid (sameB (.mk k nm x sc ks) (.mk k nm' x' sc' ks') = false) := by
          unfold Hid; simp only [sameB]; rw [beq_eq_false_iff_ne.2 hx]; simp
        clear hx
        go_enter Try.func74, Try.ntmps74
        go_wp2_with fail
        go_ret
        exact ⟨ret_bool HE.out.symm, HA2.out _ _⟩
    · have hnm1 : (nm.toList == nm'.toList) = false := by rw [HN.out]; rw [beq_eq_false_iff_ne]; exact hn
      have hnm2 : (nm.toList != nm'.toList) = true := by unfold bne; rw [hnm1]; rfl
      have HE : Hid (sameB (.mk k nm x sc ks) (.mk k nm' x' sc' ks') = false) := by
        unfold Hid; simp only [sameB]; rw [beq_eq_false_iff_ne.2 hn]; simp
      clear hn
      go_enter Try.func74, Try.ntmps74
      go_wp2_with fail
      go_ret
      exact ⟨ret_bool HE.out.symm, HA2.out _ _⟩
  · have hk1 : (k != k') = true := by rw [bne_iff_ne]; exact hk
    have HE : Hid (sameB (.mk k nm x sc ks) (.mk k' nm' x' sc' ks') = false) := by
      unfold Hid; simp only [sameB]; rw [beq_eq_false_iff_ne.2 hk]; rfl
    clear hk
    go_enter Try.func74, Try.ntmps74
    go_wp2_with fail
    go_ret
    exact ⟨ret_bool HE.out.symm, HA2.out _ _⟩
end Go.Proofs.Ytbclgmabidjegaa
