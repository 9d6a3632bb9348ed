/- The contracts of the comparisons of the laws' own. -/
import Derived.Test.YtbclgmabidjegaaData
namespace Go.Proofs.Ytbclgmabidjegaa
open Go.RowKit
set_option linter.unusedVariables false
set_option maxRecDepth 100000 in
set_option maxHeartbeats 400000 in
theorem eqIntS_any (φ ψ : Nat → Prop) (l m : List Int) (v u : Value) (w : World) (hv : IntRow φ w v l) (hu : IntRow ψ w u m) :
    Calls Try.prog 71 #[v, u] w fun e w' => e = .returned (.bool (l == m)) ∧ Below w.heap.size w w' := by
  obtain ⟨a, cap, rfl, hcap, hmax, hwf, hl⟩ := hv
  obtain ⟨a2, cap2, rfl, hcap2, hmax2, hwf2, hl2⟩ := hu
  unfold maxLen at hmax hmax2
  have HL := Lib.hid hl
  have HL2 := Lib.hid hl2
  clear hl hl2 hwf hwf2
  by_cases hlen : l.length = m.length
  · have hne : ((l.length : Int) != (m.length : Int)) = false := by rw [bne_eq_false_iff_eq]; omega
    have HLEN := Lib.hid hlen
    have h1 : l.length ≤ m.length := by omega
    have h2 : m.length ≤ l.length := by omega
    clear hlen
    go_enter Try.func71, Try.ntmps71
    go_wp2_with fail
    go_loopw [5] (fun i wr => ∃ j : Nat, j ≤ l.length ∧ i = .int .i64 j ∧ (l.take j == m.take j) = true ∧ Below w.heap.size w wr) (fun i _ => l.length - (intOf i).toNat)
    case atStart => exact ⟨0, Nat.zero_le _, rfl, by simp, Below.refl _ _⟩
    case round =>
      obtain ⟨j, hj, rfl, hr, hb⟩ := hrel
      have HR := Lib.hid hr
      clear hr
      by_cases hlt : j < l.length
      · have hlt2 : j < m.length := by omega
        rcases HL.out with h0 | ⟨b, off, rfl, _, hrow⟩
        · exfalso; rw [h0] at hlt; simp at hlt
        · rcases HL2.out with h0 | ⟨b2, off2, rfl, _, hrow2⟩
          · exfalso; rw [h0] at hlt2; simp at hlt2
          · have hc : wr.cell? ⟨b, off + j, none⟩ = some (.int .i64 l[j]) := cell_later' hb (hrow j hlt)
            have hc2 : wr.cell? ⟨b2, off2 + j, none⟩ = some (.int .i64 m[j]) := cell_later' hb (hrow2 j hlt2)
            have HT := Lib.hid (take_beq_succ l m j hlt hlt2)
            have HB := Lib.hid hb
            clear hrow hrow2 hb
            cases he : (l[j] != m[j]) with
            | false =>
              have HE := Lib.hid he
              go_wp2_with fail
              go_quiet (fail)
              go_wp2_with fail
              go_roundw
              case rel => exact ⟨j + 1, by omega, by go_num, by rw [HT.out, HR.out, Bool.true_and]; have := HE.out; rw [bne_eq_false_iff_eq] at this; rw [this]; simp, below_drewN HB.out _⟩
              case measure => simp [intOf]; omega
            | true =>
              have HE : Hid ((l == m) = false) := beq_no l m (j + 1) (by rw [HT.out, HR.out, Bool.true_and]; rw [bne_iff_ne] at he; rw [beq_eq_false_iff_ne]; exact he)
              go_wp2_with fail
              go_quiet (fail)
              go_wp2_with fail
              go_ret
              exact ⟨ret_bool HE.out.symm, below_drewN HB.out _⟩
      · obtain rfl : j = l.length := by omega
        have HE : Hid ((l == m) = true) := by
          have := HR.out
          rw [List.take_length, HLEN.out, List.take_length] at this
          exact this
        have HB := Lib.hid hb
        clear hb
        go_wp2_with fail
        go_ret
        exact ⟨ret_bool HE.out.symm, HB.out⟩
  · have hne : ((l.length : Int) != (m.length : Int)) = true := by rw [bne_iff_ne]; omega
    have HE : Hid ((l == m) = false) := by unfold Hid; rw [beq_eq_false_iff_ne]; intro e; exact hlen (by rw [e])
    clear hlen
    go_enter Try.func71, Try.ntmps71
    go_wp2_with fail
    go_ret
    exact ⟨ret_bool HE.out.symm, Below.refl _ _⟩
/-- the contract of the comparison of two forms -/
def EqSaid (B : Nat) (f : Fm) : Prop := ∀ (g : Fm) (v u : Value) (w : World), B ≤ w.heap.size → InV (· < B) w f v → InV (· < B) w g u →
    Calls Try.prog 35 #[v, u] w fun e w' => e = .returned (.bool (sameB f g)) ∧ Below w.heap.size w w'
set_option maxRecDepth 100000 in
set_option maxHeartbeats 400000 in
theorem eqFormS_of (B : Nat) (ks ls : List Fm) (ih : ∀ g ∈ ks, EqSaid B g) (a a2 : Option Addr) (cap cap2 : Nat) (w : World) (hB : B ≤ w.heap.size) (hcap : ks.length ≤ cap) (hmax : cap ≤ maxLen)
    (hcap2 : ls.length ≤ cap2) (hmax2 : cap2 ≤ maxLen)
    (hks : ks = [] ∨ ∃ kb off, a = some ⟨kb, off, none⟩ ∧ kb < B ∧ RowIn (· < B) w kb off ks) (hls : ls = [] ∨ ∃ kb off, a2 = some ⟨kb, off, none⟩ ∧ kb < B ∧ RowIn (· < B) w kb off ls) :
    Calls Try.prog 34 #[.slice a ks.length cap, .slice a2 ls.length cap2] w fun e w' => e = .returned (.bool (sameAll ks ls)) ∧ Below w.heap.size w w' := by
  unfold maxLen at hmax hmax2
  have HIH := Lib.hid ih
  have HKS := Lib.hid hks
  have HLS := Lib.hid hls
  clear ih hks hls
  by_cases hlen : ks.length = ls.length
  · have hne : ((ks.length : Int) != (ls.length : Int)) = false := by rw [bne_eq_false_iff_eq]; omega
    have HLEN := Lib.hid hlen
    have h1 : ks.length ≤ ls.length := by omega
    have h2 : ls.length ≤ ks.length := by omega
    clear hlen
    go_enter Try.func34, Try.ntmps34
    go_wp2_with fail
    go_loopw [5] (fun i wr => ∃ j : Nat, j ≤ ks.length ∧ i = .int .i64 j ∧ sameAll (ks.take j) (ls.take j) = true ∧ Below w.heap.size w wr) (fun i _ => ks.length - (intOf i).toNat)
    case atStart => exact ⟨0, Nat.zero_le _, rfl, by simp [sameAll], Below.refl _ _⟩
    case round =>
      obtain ⟨j, hj, rfl, hr, hb⟩ := hrel
      have HR := Lib.hid hr
      have HB := Lib.hid hb
      clear hr hb
      by_cases hlt : j < ks.length
      · have hlt2 : j < ls.length := by omega
        rcases HKS.out with h0 | ⟨b, off, rfl, hb1, hrow⟩
        · exfalso; rw [h0] at hlt; simp at hlt
        · rcases HLS.out with h0 | ⟨b2, off2, rfl, hb2, hrow2⟩
          · exfalso; rw [h0] at hlt2; simp at hlt2
          · obtain ⟨ga, gcap, ka, kcap, p0, p1, p2, p3, p4, hin⟩ := (hrow.later (same_below (HB.out.mono hB)) b hb1).at' j hlt
            obtain ⟨ga2, gcap2, ka2, kcap2, q0, q1, q2, q3, q4, hin2⟩ := (hrow2.later (same_below (HB.out.mono hB)) b2 hb2).at' j hlt2
            have HIN := Lib.hid hin
            have HIN2 := Lib.hid hin2
            have HIHJ := Lib.hid (HIH.out ks[j] (List.getElem_mem hlt))
            have HT := Lib.hid (sameAll_take_succ ks ls j hlt hlt2)
            have hszw := HB.out.size
            clear hin hin2 hrow hrow2
            go_wp2_with fail
            go_still_tail 8, (by kernel_rfl)
            change wpList _ _ _ _ _ wr.drew
            go_wp2_with fail
            refine (HIHJ.out ls[j] _ _ wr.drew (by show B ≤ wr.heap.size; omega) (InV.later (w := wr) (w' := wr.drew) (fun _ _ => rfl) _ _ HIN.out) (InV.later (w := wr) (w' := wr.drew) (fun _ _ => rfl) _ _ HIN2.out)).mono ?_
            rintro e w3 ⟨rfl, hb3⟩
            have HB3 : Hid (Below w.heap.size w w3) := HB.out.drew.trans (hb3.mono (by show w.heap.size ≤ wr.heap.size; omega))
            clear hb3
            cases he : sameB ks[j] ls[j] with
            | true =>
              have HE := Lib.hid he
              clear he
              go_wp2_with fail
              go_roundw
              case rel => exact ⟨j + 1, by omega, by go_num, by rw [HT.out, HR.out, HE.out]; rfl, HB3.out⟩
              case measure => simp [intOf]; omega
            | false =>
              have HE : Hid (sameAll ks ls = false) := sameAll_no (j + 1) (by rw [HT.out, HR.out, he]; rfl)
              clear he
              go_wp2_with fail
              go_ret
              exact ⟨ret_bool HE.out.symm, HB3.out⟩
      · obtain rfl : j = ks.length := by omega
        have HE : Hid (sameAll ks ls = true) := by
          have := HR.out
          rw [List.take_length, HLEN.out, List.take_length] at this
          exact this
        go_wp2_with fail
        go_ret
        exact ⟨ret_bool HE.out.symm, HB.out⟩
  · have hne : ((ks.length : Int) != (ls.length : Int)) = true := by rw [bne_iff_ne]; omega
    have HE : Hid (sameAll ks ls = false) := by
      unfold Hid
      cases hs : sameAll ks ls with
      | false => rfl
      | true => exact absurd (sameAll_length hs) hlen
    clear hlen
    go_enter Try.func34, Try.ntmps34
    go_wp2_with fail
    go_ret
    exact ⟨ret_bool HE.out.symm, Below.refl _ _⟩
set_option maxRecDepth 100000 in
set_option maxHeartbeats 400000 in
theorem eqForm_any (B : Nat) (f : Fm) : EqSaid B f := by
  induction f using Fm.ind with
  | h k nm x sc ks ih =>
    intro g v u w hB hv hu
    cases g with
    | mk k' nm' x' sc' ks' =>
      unfold InV at hv hu
      obtain ⟨vs, a, cap, rfl, _, _, hnm, hvs, hcap, hmax, hks⟩ := hv
      obtain ⟨vs', a', cap', rfl, _, _, hnm', hvs', hcap', hmax', hks'⟩ := hu
      have HVS := Lib.hid hvs
      have HVS' := Lib.hid hvs'
      obtain ⟨sa, scap, rfl, _⟩ := hvs
      obtain ⟨sa', scap', rfl, _⟩ := hvs'
      have HF := Lib.hid (eqFormS_of B ks ks' ih a a' cap cap')
      have HKK := Lib.hid hks
      have HKK' := Lib.hid hks'
      clear hks hks' ih
      have HN : Hid ((nm.toList == nm'.toList) = (nm.data.toList == nm'.data.toList)) := by unfold Hid; rw [Lib.toList_data, Lib.toList_data]
      have hA2 : ∀ O O', Below w.heap.size w ((w.alloc O).alloc O') := fun O O' => ((Below.refl _ w).alloc (Nat.le_refl _) _).alloc (by simp) _
      have HA2 := Lib.hid hA2
      clear hA2
      by_cases hk : k = k'
      · subst hk
        have hk1 : (k != k) = false := by simp
        by_cases hn : nm.data.toList = nm'.data.toList
        · have hnm1 : (nm.toList == nm'.toList) = true := by rw [HN.out, hn]; simp
          have hnm2 : (nm.toList != nm'.toList) = false := by unfold bne; rw [hnm1]; rfl
          have HNM := Lib.hid hn
          clear hn
          by_cases hx : x = x'
          · subst hx
            have hx1 : (x != x) = false := by simp
            go_enter Try.func35, Try.ntmps35
            go_wp2_with fail
            refine (eqIntS_any (· < B) (· < B) sc sc' _ _ _ (HVS.out.later (same_below ((HA2.out _ _).mono hB))) (HVS'.out.later (same_below ((HA2.out _ _).mono hB)))).mono ?_
            rintro e w1 ⟨rfl, hb1⟩
            have hs1 : w.heap.size + 2 ≤ w1.heap.size := by have := hb1.size; simpa using this
            have cA : w1.cell? ⟨w.heap.size, 4, none⟩ = some (.slice a ks.length cap) := (hb1.cell (p := ⟨w.heap.size, 4, none⟩) (by simp; omega)).trans (by simp)
            have cB : w1.cell? ⟨w.heap.size + 1, 4, none⟩ = some (.slice a' ks'.length cap') := (hb1.cell (p := ⟨w.heap.size + 1, 4, none⟩) (by simp)).trans (by simp)
            have HB1 : Hid (Below w.heap.size w w1) := (HA2.out _ _).trans (hb1.mono (by simp; omega))
            clear hb1
            cases hsc : (sc == sc') with
            | true =>
              have HSC := Lib.hid hsc
              go_wp2_with fail
              refine (HF.out _ (by omega) hcap hmax hcap' hmax' ?_ ?_).mono ?_
              · rcases HKK.out with h0 | ⟨kb, off, h0, hkb, hrow⟩
                · exact .inl h0
                · exact .inr ⟨kb, off, h0, hkb, hrow.later (same_below (HB1.out.mono hB)) kb hkb⟩
              · rcases HKK'.out with h0 | ⟨kb, off, h0, hkb, hrow⟩
                · exact .inl h0
                · exact .inr ⟨kb, off, h0, hkb, hrow.later (same_below (HB1.out.mono hB)) kb hkb⟩
              rintro e w2 ⟨rfl, hb2⟩
              have HB2 : Hid (Below w.heap.size w w2) := HB1.out.trans (hb2.mono (by omega))
              clear hb2
              have HE : Hid (sameB (.mk k nm x sc ks) (.mk k nm' x sc' ks') = sameAll ks ks') := by
                unfold Hid; simp only [sameB]; rw [HSC.out, HNM.out]; simp
              cases hfin : sameAll ks ks' with
              | true =>
                have HE : Hid (sameB (.mk k nm x sc ks) (.mk k nm' x sc' ks') = true) := HE.out.trans hfin
                go_wp2_with fail
                go_ret
                exact ⟨ret_bool HE.out.symm, HB2.out⟩
              | false =>
                have HE : Hid (sameB (.mk k nm x sc ks) (.mk k nm' x sc' ks') = false) := HE.out.trans hfin
                go_wp2_with fail
                go_ret
                exact ⟨ret_bool HE.out.symm, HB2.out⟩
            | false =>
              have HE : Hid (sameB (.mk k nm x sc ks) (.mk k nm' x sc' ks') = false) := by
                unfold Hid; simp only [sameB]; rw [hsc]; simp
              go_wp2_with fail
              go_ret
              exact ⟨ret_bool HE.out.symm, HB1.out⟩
          · have hx1 : (x != x') = true := by rw [bne_iff_ne]; exact hx
            have HE : Hid (sameB (.mk k nm x sc ks) (.mk k nm' x' sc' ks') = false) := by
              unfold Hid; simp only [sameB]; rw [beq_eq_false_iff_ne.2 hx]; simp
            clear hx
            go_enter Try.func35, Try.ntmps35
            go_wp2_with fail
            go_ret
            exact ⟨ret_bool HE.out.symm, HA2.out _ _⟩
        · have hnm1 : (nm.toList == nm'.toList) = false := by rw [HN.out]; rw [beq_eq_false_iff_ne]; exact hn
          have hnm2 : (nm.toList != nm'.toList) = true := by unfold bne; rw [hnm1]; rfl
          have HE : Hid (sameB (.mk k nm x sc ks) (.mk k nm' x' sc' ks') = false) := by
            unfold Hid; simp only [sameB]; rw [beq_eq_false_iff_ne.2 hn]; simp
          clear hn
          go_enter Try.func35, Try.ntmps35
          go_wp2_with fail
          go_ret
          exact ⟨ret_bool HE.out.symm, HA2.out _ _⟩
      · have hk1 : (k != k') = true := by rw [bne_iff_ne]; exact hk
        have HE : Hid (sameB (.mk k nm x sc ks) (.mk k' nm' x' sc' ks') = false) := by
          unfold Hid; simp only [sameB]; rw [beq_eq_false_iff_ne.2 hk]; rfl
        clear hk
        go_enter Try.func35, Try.ntmps35
        go_wp2_with fail
        go_ret
        exact ⟨ret_bool HE.out.symm, HA2.out _ _⟩
end Go.Proofs.Ytbclgmabidjegaa
