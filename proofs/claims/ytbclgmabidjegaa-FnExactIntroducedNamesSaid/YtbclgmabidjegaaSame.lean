/- The contracts of the comparisons of forms, of both sides, node by node. -/
import Derived.Test.YtbclgmabidjegaaData
import Derived.Test.YtbclgmabidjegaaData
namespace Go.Proofs.Ytbclgmabidjegaa
open Go.RowKit
set_option linter.unusedVariables false
/-- equal but for what the forms within are -/
def nodeSame (f g : Fm) : Bool := f.kind == g.kind && (f.name.data.toList == g.name.data.toList) && f.n == g.n && f.scopes == g.scopes && f.kids.length == g.kids.length
theorem sameB_node (f g : Fm) : sameB f g = (nodeSame f g && sameAll f.kids g.kids) := by
  cases f with
  | mk k nm n sc ks =>
    cases g with
    | mk k' nm' n' sc' ks' =>
      simp only [sameB, nodeSame, Fm.kind, Fm.name, Fm.n, Fm.scopes, Fm.kids]
      cases hs : sameAll ks ks' with
      | false => simp
      | true => rw [sameAll_length hs]; simp
set_option maxRecDepth 100000 in
set_option maxHeartbeats 400000 in
theorem slicesEqual_any (φ ψ : Nat → Prop) (l m : List Int) (v u : Value) (w : World) (hv : IntRow φ w v l) (hu : IntRow ψ w u m) :
    Calls Try.prog 136 #[v, u] w fun e w' => e = .returned (.bool (l == m)) ∧ Below w.heap.size w w' := by
  obtain ⟨a, cap, rfl, hcap, hmax, hwf, hl⟩ := hv
  obtain ⟨a2, cap2, rfl, hcap2, hmax2, hwf2, hl2⟩ := hu
  unfold maxLen at hmax hmax2
  have HL := Lib.hid hl
  have HL2 := Lib.hid hl2
  clear hl hl2 hwf hwf2
  by_cases hlen : l.length = m.length
  · have hne : ((l.length : Int) != (m.length : Int)) = false := by rw [bne_eq_false_iff_eq]; omega
    have HLEN := Lib.hid hlen
    have h1 : l.length ≤ m.length := by omega
    have h2 : m.length ≤ l.length := by omega
    clear hlen
    go_enter Try.func136, Try.ntmps136
    go_wp2_with fail
    go_loopw [13] (fun i wr => ∃ j : Nat, j ≤ l.length ∧ i = .int .i64 j ∧ (l.take j == m.take j) = true ∧ Below w.heap.size w wr) (fun i _ => l.length - (intOf i).toNat)
    case atStart => exact ⟨0, Nat.zero_le _, rfl, by simp, Below.refl _ _⟩
    case round =>
      obtain ⟨j, hj, rfl, hr, hb⟩ := hrel
      have HR := Lib.hid hr
      clear hr
      by_cases hlt : j < l.length
      · have hlt2 : j < m.length := by omega
        rcases HL.out with h0 | ⟨b, off, rfl, _, hrow⟩
        · exfalso; rw [h0] at hlt; simp at hlt
        · rcases HL2.out with h0 | ⟨b2, off2, rfl, _, hrow2⟩
          · exfalso; rw [h0] at hlt2; simp at hlt2
          · have hc : wr.cell? ⟨b, off + j, none⟩ = some (.int .i64 l[j]) := cell_later' hb (hrow j hlt)
            have hc2 : wr.cell? ⟨b2, off2 + j, none⟩ = some (.int .i64 m[j]) := cell_later' hb (hrow2 j hlt2)
            have HT := Lib.hid (take_beq_succ l m j hlt hlt2)
            have HB := Lib.hid hb
            clear hrow hrow2 hb
            cases he : (l[j] != m[j]) with
            | false =>
              have HE := Lib.hid he
              go_wp2_with fail
              go_quiet (fail)
              go_wp2_with fail
              go_roundw
              case rel => exact ⟨j + 1, by omega, by go_num, by rw [HT.out, HR.out, Bool.true_and]; have := HE.out; rw [bne_eq_false_iff_eq] at this; rw [this]; simp, below_drewN HB.out _⟩
              case measure => simp [intOf]; omega
            | true =>
              have HE : Hid ((l == m) = false) := beq_no l m (j + 1) (by rw [HT.out, HR.out, Bool.true_and]; rw [bne_iff_ne] at he; rw [beq_eq_false_iff_ne]; exact he)
              go_wp2_with fail
              go_quiet (fail)
              go_wp2_with fail
              go_ret
              exact ⟨ret_bool HE.out.symm, below_drewN HB.out _⟩
      · obtain rfl : j = l.length := by omega
        have HE : Hid ((l == m) = true) := by
          have := HR.out
          rw [List.take_length, HLEN.out, List.take_length] at this
          exact this
        have HB := Lib.hid hb
        clear hb
        go_wp2_with fail
        go_ret
        exact ⟨ret_bool HE.out.symm, HB.out⟩
  · have hne : ((l.length : Int) != (m.length : Int)) = true := by rw [bne_iff_ne]; omega
    have HE : Hid ((l == m) = false) := by unfold Hid; rw [beq_eq_false_iff_ne]; intro e; exact hlen (by rw [e])
    clear hlen
    go_enter Try.func136, Try.ntmps136
    go_wp2_with fail
    go_ret
    exact ⟨ret_bool HE.out.symm, Below.refl _ _⟩
set_option maxRecDepth 100000 in
set_option maxHeartbeats 1000000 in
theorem sameNode_any (B : Nat) (f g : Fm) (v u : Value) (w : World) (hB : B ≤ w.heap.size) (hv : InV (· < B) w f v) (hu : InV (· < B) w g u) :
    Calls Try.prog 191 #[v, u] w fun e w' => e = .returned (.bool (nodeSame f g)) ∧ Below w.heap.size w w' := by
  cases f with
  | mk k nm x sc ks =>
  cases g with
  | mk k' nm' x' sc' ks' =>
  unfold InV at hv hu
  obtain ⟨vs, a, cap, rfl, _, _, hnm, hvs, hcap, hmax, hks⟩ := hv
  obtain ⟨vs', a', cap', rfl, _, _, hnm', hvs', hcap', hmax', hks'⟩ := hu
  have HVS := Lib.hid hvs
  have HVS' := Lib.hid hvs'
  obtain ⟨sa, scap, rfl, _⟩ := hvs
  obtain ⟨sa', scap', rfl, _⟩ := hvs'
  clear hks hks'
  have HN : Hid ((nm.toList == nm'.toList) = (nm.data.toList == nm'.data.toList)) := by unfold Hid; rw [Lib.toList_data, Lib.toList_data]
  have hA2 : ∀ O O', Below w.heap.size w ((w.alloc O).alloc O') := fun O O' => ((Below.refl _ w).alloc (Nat.le_refl _) _).alloc (by simp) _
  have HA2 := Lib.hid hA2
  clear hA2
  by_cases hk : k = k'
  · subst hk
    have hk1 : (k == k) = true := by simp
    by_cases hn : nm.data.toList = nm'.data.toList
    · have hnm1 : (nm.toList == nm'.toList) = true := by rw [HN.out, hn]; simp
      have HNM := Lib.hid hn
      clear hn
      by_cases hx : x = x'
      · subst hx
        have hx1 : (x == x) = true := by simp
        go_enter Try.func191, Try.ntmps191
        go_wp2_with fail
        refine (slicesEqual_any (· < B) (· < B) sc sc' _ _ _ (HVS.out.later (same_below ((HA2.out _ _).mono hB))) (HVS'.out.later (same_below ((HA2.out _ _).mono hB)))).mono ?_
        rintro e w1 ⟨rfl, hb1⟩
        have hs1 : w.heap.size + 2 ≤ w1.heap.size := by have := hb1.size; simpa using this
        have cA : w1.cell? ⟨w.heap.size, 4, none⟩ = some (.slice a ks.length cap) := (hb1.cell (p := ⟨w.heap.size, 4, none⟩) (by simp; omega)).trans (by simp)
        have cB : w1.cell? ⟨w.heap.size + 1, 4, none⟩ = some (.slice a' ks'.length cap') := (hb1.cell (p := ⟨w.heap.size + 1, 4, none⟩) (by simp)).trans (by simp)
        have HB1 : Hid (Below w.heap.size w w1) := (HA2.out _ _).trans (hb1.mono (by simp; omega))
        clear hb1
        cases hsc : (sc == sc') with
        | true =>
          have HE : Hid (nodeSame (.mk k nm x sc ks) (.mk k nm' x sc' ks') = (ks.length == ks'.length)) := by
            unfold Hid nodeSame; simp only [Fm.kind, Fm.name, Fm.n, Fm.scopes, Fm.kids]; rw [hsc, HNM.out]; simp
          by_cases hl : ks.length = ks'.length
          · have hl1 : ((ks.length : Int) == (ks'.length : Int)) = true := by rw [beq_iff_eq]; omega
            have HE : Hid (nodeSame (.mk k nm x sc ks) (.mk k nm' x sc' ks') = true) := by unfold Hid; rw [HE.out, beq_iff_eq]; exact hl
            clear hl
            go_wp2_with fail
            go_ret
            exact ⟨ret_bool HE.out.symm, HB1.out⟩
          · have hl1 : ((ks.length : Int) == (ks'.length : Int)) = false := by rw [beq_eq_false_iff_ne]; omega
            have HE : Hid (nodeSame (.mk k nm x sc ks) (.mk k nm' x sc' ks') = false) := by unfold Hid; rw [HE.out, beq_eq_false_iff_ne]; exact hl
            clear hl
            go_wp2_with fail
            go_ret
            exact ⟨ret_bool HE.out.symm, HB1.out⟩
        | false =>
          have HE : Hid (nodeSame (.mk k nm x sc ks) (.mk k nm' x sc' ks') = false) := by
            unfold Hid nodeSame; simp only [Fm.kind, Fm.name, Fm.n, Fm.scopes, Fm.kids]; rw [hsc]; simp
          go_wp2_with fail
          go_ret
          exact ⟨ret_bool HE.out.symm, HB1.out⟩
      · have hx1 : (x == x') = false := by rw [beq_eq_false_iff_ne]; exact hx
        have HE : Hid (nodeSame (.mk k nm x sc ks) (.mk k nm' x' sc' ks') = false) := by
          unfold Hid nodeSame; simp only [Fm.kind, Fm.name, Fm.n, Fm.scopes, Fm.kids]; rw [hx1]; simp
        clear hx
        go_enter Try.func191, Try.ntmps191
        go_wp2_with fail
        go_ret
        exact ⟨ret_bool HE.out.symm, HA2.out _ _⟩
    · have hnm1 : (nm.toList == nm'.toList) = false := by rw [HN.out]; rw [beq_eq_false_iff_ne]; exact hn
      have HE : Hid (nodeSame (.mk k nm x sc ks) (.mk k nm' x' sc' ks') = false) := by
        unfold Hid nodeSame; simp only [Fm.kind, Fm.name, Fm.n, Fm.scopes, Fm.kids]; rw [beq_eq_false_iff_ne.2 hn]; simp
      clear hn
      go_enter Try.func191, Try.ntmps191
      go_wp2_with fail
      go_ret
      exact ⟨ret_bool HE.out.symm, HA2.out _ _⟩
  · have hk1 : (k == k') = false := by rw [beq_eq_false_iff_ne]; exact hk
    have HE : Hid (nodeSame (.mk k nm x sc ks) (.mk k' nm' x' sc' ks') = false) := by
      unfold Hid nodeSame; simp only [Fm.kind, Fm.name, Fm.n, Fm.scopes, Fm.kids]; rw [hk1]; rfl
    clear hk
    go_enter Try.func191, Try.ntmps191
    go_wp2_with fail
    go_ret
    exact ⟨ret_bool HE.out.symm, HA2.out _ _⟩
end Go.Proofs.Ytbclgmabidjegaa
