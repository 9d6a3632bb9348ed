/- The contract of the model's comparison of core programs. -/
import Derived.Test.YtlmplfpdmelcjaaSameDataC
import Derived.Test.YtlmplfpdmelcjaaSpecSame
namespace Go.Proofs.Ytlmplfpdmelcjaa
open Go.RowKit
set_option linter.unusedVariables false
set_option linter.unusedSimpArgs false
def SpecSameC (B : Nat) (f : Ck) : Prop := ∀ (g : Ck) (v u : Value) (w : World), B ≤ w.heap.size → InC (· < B) w f v → InC (· < B) w g u →
    Calls Try.prog 55 #[v, u] w fun e w' => e = .returned (.bool (sameC f g)) ∧ Below w.heap.size w w'
set_option maxRecDepth 100000 in
set_option maxHeartbeats 8000000 in
theorem specCoreSame_any (B : Nat) (f : Ck) : SpecSameC B f := by
  induction f using Ck.ind with
  | h k id nm n ids d ks ih =>
  intro g v u w hB hv hu
  cases g with
  | mk k' id' nm' n' ids' d' ks' =>
  unfold InC at hv hu
  obtain ⟨i1, j1, s1, t1, k1, l1, a, cap, rfl, _, _, _, hnm, hvs, hd, hcap, hmax, hks⟩ := hv
  obtain ⟨i1b, j1b, s1b, t1b, k1b, l1b, ab, capb, rfl, _, _, _, hnmb, hvsb, hdb, hcapb, hmaxb, hksb⟩ := hu
  have HVS := Lib.hid hvs
  have HVSB := Lib.hid hvsb
  have HD := Lib.hid hd
  have HDB := Lib.hid hdb
  have HKS := Lib.hid hks
  have HLS := Lib.hid hksb
  have HIH := Lib.hid ih
  clear hks hksb ih hvs hvsb hd hdb
  unfold maxLen at hmax hmaxb
  have HN : Hid ((nm.toList == nm'.toList) = (nm.data.toList == nm'.data.toList)) := by unfold Hid; rw [Lib.toList_data, Lib.toList_data]
  have hA2 : ∀ O O', Below w.heap.size w ((w.alloc O).alloc O') := fun O O' => ((Below.refl _ w).alloc (Nat.le_refl _) _).alloc (by simp) _
  have HA2 := Lib.hid hA2
  clear hA2
  by_cases hk : k = k'
  rotate_left
  · have hk1 : (k != k') = true := by rw [bne_iff_ne]; exact hk
    have HE : Hid (sameC (.mk k id nm n ids d ks) (.mk k' id' nm' n' ids' d' ks') = false) := by
      unfold Hid; simp only [sameC]; rw [beq_eq_false_iff_ne.2 hk]; simp
    clear hk
    go_enter Try.func55, Try.ntmps55
    go_wp2_with fail
    go_ret
    exact ⟨ret_bool HE.out.symm, HA2.out _ _⟩
  subst hk
  have hk1 : (k != k) = false := by simp
  by_cases hi : id = id'
  rotate_left
  · have hi1 : (id != id') = true := by rw [bne_iff_ne]; exact hi
    have HE : Hid (sameC (.mk k id nm n ids d ks) (.mk k id' nm' n' ids' d' ks') = false) := by
      unfold Hid; simp only [sameC]; rw [beq_eq_false_iff_ne.2 hi]; simp
    clear hi
    go_enter Try.func55, Try.ntmps55
    go_wp2_with fail
    go_ret
    exact ⟨ret_bool HE.out.symm, HA2.out _ _⟩
  subst hi
  have hi1 : (id != id) = false := by simp
  by_cases hn : nm.data.toList = nm'.data.toList
  rotate_left
  · have hnm1 : (nm.toList == nm'.toList) = false := by rw [HN.out]; rw [beq_eq_false_iff_ne]; exact hn
    have hnm2 : (nm.toList != nm'.toList) = true := by unfold bne; rw [hnm1]; rfl
    have HE : Hid (sameC (.mk k id nm n ids d ks) (.mk k id nm' n' ids' d' ks') = false) := by
      unfold Hid; simp only [sameC]; rw [beq_eq_false_iff_ne.2 hn]; simp
    clear hn
    go_enter Try.func55, Try.ntmps55
    go_wp2_with fail
    go_ret
    exact ⟨ret_bool HE.out.symm, HA2.out _ _⟩
  have hnm1 : (nm.toList == nm'.toList) = true := by rw [HN.out, hn]; simp
  have hnm2 : (nm.toList != nm'.toList) = false := by unfold bne; rw [hnm1]; rfl
  have HNM := Lib.hid hn
  clear hn
  by_cases hx : n = n'
  rotate_left
  · have hx1 : (n != n') = true := by rw [bne_iff_ne]; exact hx
    have HE : Hid (sameC (.mk k id nm n ids d ks) (.mk k id nm' n' ids' d' ks') = false) := by
      unfold Hid; simp only [sameC]; rw [beq_eq_false_iff_ne.2 hx]; simp
    clear hx
    go_enter Try.func55, Try.ntmps55
    go_wp2_with fail
    go_ret
    exact ⟨ret_bool HE.out.symm, HA2.out _ _⟩
  subst hx
  have hx1 : (n != n) = false := by simp
  go_enter Try.func55, Try.ntmps55
  go_wp2_with fail
  refine (l1Ints_any (· < B) (· < B) ids ids' _ _ _ (HVS.out.later (same_below ((HA2.out _ _).mono hB))) (HVSB.out.later (same_below ((HA2.out _ _).mono hB)))).mono ?_
  rintro e w1 ⟨rfl, hb1⟩
  have hs1 : w.heap.size + 2 ≤ w1.heap.size := by have := hb1.size; simpa using this
  have cA5 : w1.cell? ⟨w.heap.size, 5, none⟩ = some (.int .i64 d.kind) := (hb1.cell (p := ⟨w.heap.size, 5, none⟩) (by simp; omega)).trans (by simp)
  have cA6 : w1.cell? ⟨w.heap.size, 6, none⟩ = some (.string d.name) := (hb1.cell (p := ⟨w.heap.size, 6, none⟩) (by simp; omega)).trans (by simp)
  have cA7 : w1.cell? ⟨w.heap.size, 7, none⟩ = some (.int .i64 d.n) := (hb1.cell (p := ⟨w.heap.size, 7, none⟩) (by simp; omega)).trans (by simp)
  have cA8 : w1.cell? ⟨w.heap.size, 8, none⟩ = some (.slice s1 d.scopes.length t1) := (hb1.cell (p := ⟨w.heap.size, 8, none⟩) (by simp; omega)).trans (by simp)
  have cA9 : w1.cell? ⟨w.heap.size, 9, none⟩ = some (.slice k1 d.kids.length l1) := (hb1.cell (p := ⟨w.heap.size, 9, none⟩) (by simp; omega)).trans (by simp)
  have cA10 : w1.cell? ⟨w.heap.size, 10, none⟩ = some (.slice a ks.length cap) := (hb1.cell (p := ⟨w.heap.size, 10, none⟩) (by simp; omega)).trans (by simp)
  have cB5 : w1.cell? ⟨w.heap.size + 1, 5, none⟩ = some (.int .i64 d'.kind) := (hb1.cell (p := ⟨w.heap.size + 1, 5, none⟩) (by simp)).trans (by simp)
  have cB6 : w1.cell? ⟨w.heap.size + 1, 6, none⟩ = some (.string d'.name) := (hb1.cell (p := ⟨w.heap.size + 1, 6, none⟩) (by simp)).trans (by simp)
  have cB7 : w1.cell? ⟨w.heap.size + 1, 7, none⟩ = some (.int .i64 d'.n) := (hb1.cell (p := ⟨w.heap.size + 1, 7, none⟩) (by simp)).trans (by simp)
  have cB8 : w1.cell? ⟨w.heap.size + 1, 8, none⟩ = some (.slice s1b d'.scopes.length t1b) := (hb1.cell (p := ⟨w.heap.size + 1, 8, none⟩) (by simp)).trans (by simp)
  have cB9 : w1.cell? ⟨w.heap.size + 1, 9, none⟩ = some (.slice k1b d'.kids.length l1b) := (hb1.cell (p := ⟨w.heap.size + 1, 9, none⟩) (by simp)).trans (by simp)
  have cB10 : w1.cell? ⟨w.heap.size + 1, 10, none⟩ = some (.slice ab ks'.length capb) := (hb1.cell (p := ⟨w.heap.size + 1, 10, none⟩) (by simp)).trans (by simp)
  have HB1 : Hid (Below w.heap.size w w1) := (HA2.out _ _).trans (hb1.mono (by simp; omega))
  clear hb1
  cases hsc : (ids == ids') with
  | false =>
    have HE : Hid (sameC (.mk k id nm n ids d ks) (.mk k id nm' n ids' d' ks') = false) := by
      unfold Hid; simp only [sameC]; rw [hsc]; simp
    go_wp2_with fail
    go_ret
    exact ⟨ret_bool HE.out.symm, HB1.out⟩
  | true =>
    have HSC := Lib.hid hsc
    clear hsc
    go_wp2_with fail
    refine (specSame_any B d d' _ _ w1 (by omega) (InV.later (same_below (HB1.out.mono hB)) _ _ HD.out) (InV.later (same_below (HB1.out.mono hB)) _ _ HDB.out)).mono ?_
    rintro e w2 ⟨rfl, hb2⟩
    have hs2 := hb2.size
    have dA := cell_later' hb2 cA10
    have dB := cell_later' hb2 cB10
    have HB2 : Hid (Below w.heap.size w w2) := HB1.out.trans (hb2.mono (by omega))
    clear hb2 cA5 cA6 cA7 cA8 cA9 cA10 cB5 cB6 cB7 cB8 cB9 cB10
    cases hdd : sameB d d' with
    | false =>
      have HE : Hid (sameC (.mk k id nm n ids d ks) (.mk k id nm' n ids' d' ks') = false) := by unfold Hid; simp only [sameC]; rw [hdd]; simp
      clear hdd
      go_wp2_with fail
      go_ret
      exact ⟨ret_bool HE.out.symm, HB2.out⟩
    | true =>
      have HE : Hid (sameC (.mk k id nm n ids d ks) (.mk k id nm' n ids' d' ks') = sameCs ks ks') := by
        unfold Hid; simp only [sameC]; rw [HSC.out, HNM.out, hdd]; simp
      clear hdd
      by_cases hl : ks.length = ks'.length
      · have hl1 : ((ks.length : Int) != (ks'.length : Int)) = false := by rw [bne_eq_false_iff_eq]; omega
        have HLEN := Lib.hid hl
        have h1 : ks.length ≤ ks'.length := by omega
        have h2 : ks'.length ≤ ks.length := by omega
        clear hl
        go_wp2_with fail
        go_loopw [5] (fun i wr => ∃ j : Nat, j ≤ ks.length ∧ i = .int .i64 j ∧ sameCs (ks.take j) (ks'.take j) = true ∧ wr.cell? ⟨w.heap.size, 10, none⟩ = some (.slice a ks.length cap) ∧
          wr.cell? ⟨w.heap.size + 1, 10, none⟩ = some (.slice ab ks'.length capb) ∧ Below w.heap.size w wr ∧ w.heap.size + 2 ≤ wr.heap.size) (fun i _ => ks.length - (intOf i).toNat)
        case atStart => exact ⟨0, Nat.zero_le _, rfl, by simp [sameCs], dA, dB, HB2.out, by omega⟩
        case round =>
          obtain ⟨j, hj, rfl, hr, cA', cB', hb, hsz⟩ := hrel
          have HR := Lib.hid hr
          have HB := Lib.hid hb
          clear hr hb
          by_cases hlt : j < ks.length
          · have hlt2 : j < ks'.length := by omega
            rcases HKS.out with h0 | ⟨b, off, rfl, hb1, hrow⟩
            · exfalso; rw [h0] at hlt; simp at hlt
            · rcases HLS.out with h0 | ⟨b2, off2, rfl, hb2, hrow2⟩
              · exfalso; rw [h0] at hlt2; simp at hlt2
              · obtain ⟨g1, g2, g3, g4, g5, g6, g7, g8, p0, p1, p2, p3, p4, p5, p6, p7, p8, p9, p10, hin⟩ := (hrow.later (same_below (HB.out.mono hB)) b hb1).at' j hlt
                obtain ⟨r1, r2, r3, r4, r5, r6, r7, r8, q0, q1, q2, q3, q4, q5, q6, q7, q8, q9, q10, hin2⟩ := (hrow2.later (same_below (HB.out.mono hB)) b2 hb2).at' j hlt2
                have HIN := Lib.hid hin
                have HIN2 := Lib.hid hin2
                have HIHJ := Lib.hid (HIH.out ks[j] (List.getElem_mem hlt))
                have HT := Lib.hid (sameCs_take_succ ks ks' j hlt hlt2)
                clear hin hin2 hrow hrow2
                go_wp2_with fail
                go_still_tail 10, (by kernel_rfl)
                change wpList _ _ _ _ _ wr.drew
                go_wp2_with fail
                refine (HIHJ.out ks'[j] _ _ wr.drew (by show B ≤ wr.heap.size; omega) (InC.later (w := wr) (w' := wr.drew) (fun _ _ => rfl) _ _ HIN.out) (InC.later (w := wr) (w' := wr.drew) (fun _ _ => rfl) _ _ HIN2.out)).mono ?_
                rintro e w3 ⟨rfl, hb3⟩
                have hb3' : Below wr.heap.size wr w3 := ((Below.refl wr.heap.size wr).drew).trans hb3
                have dA' := cell_later' hb3' cA'
                have dB' := cell_later' hb3' cB'
                have hs3 : wr.heap.size ≤ w3.heap.size := hb3'.size
                have HB3 : Hid (Below w.heap.size w w3) := HB.out.trans (hb3'.mono (by omega))
                clear hb3 hb3' cA' cB'
                cases he : sameC ks[j] ks'[j] with
                | true =>
                  have HE := Lib.hid he
                  clear he
                  go_wp2_with fail
                  go_roundw
                  case rel => exact ⟨j + 1, by omega, by go_num, by rw [HT.out, HR.out, HE.out]; rfl, dA', dB', HB3.out, by omega⟩
                  case measure => simp [intOf]; omega
                | false =>
                  have HE : Hid (sameC (.mk k id nm n ids d ks) (.mk k id nm' n ids' d' ks') = false) := by unfold Hid; rw [HE.out]; exact sameCs_no (j + 1) (by rw [HT.out, HR.out, he]; rfl)
                  clear he
                  go_wp2_with fail
                  go_ret
                  exact ⟨ret_bool HE.out.symm, HB3.out⟩
          · obtain rfl : j = ks.length := by omega
            have HE : Hid (sameC (.mk k id nm n ids d ks) (.mk k id nm' n ids' d' ks') = true) := by
              have := HR.out
              rw [List.take_length, HLEN.out, List.take_length] at this
              unfold Hid; rw [HE.out]
              exact this
            go_wp2_with fail
            go_ret
            exact ⟨ret_bool HE.out.symm, HB.out⟩
      · have hl1 : ((ks.length : Int) != (ks'.length : Int)) = true := by rw [bne_iff_ne]; omega
        have HE : Hid (sameC (.mk k id nm n ids d ks) (.mk k id nm' n ids' d' ks') = false) := by
          unfold Hid; rw [HE.out]
          cases hs : sameCs ks ks' with
          | false => rfl
          | true => exact absurd (sameCs_length hs) hl
        clear hl
        go_wp2_with fail
        go_ret
        exact ⟨ret_bool HE.out.symm, HB2.out⟩
end Go.Proofs.Ytlmplfpdmelcjaa
