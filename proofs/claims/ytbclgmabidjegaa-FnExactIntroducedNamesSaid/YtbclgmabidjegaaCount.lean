/- The contract of the count of nodes. -/
import Derived.Test.YtbclgmabidjegaaChecked
import Derived.Test.YtbclgmabidjegaaFirst
namespace Go.Proofs.Ytbclgmabidjegaa
open Go.RowKit
set_option maxRecDepth 100000 in
set_option maxHeartbeats 400000 in
theorem l1Count_any (B : Nat) (f : Fm) : ∀ (v : Value) (w : World), B ≤ w.heap.size → InV (· < B) w f v → f.count ≤ 4611686018427387904 →
    Calls Try.prog 158 #[v] w fun e w' => e = .returned (.int .i64 f.count) ∧ Below w.heap.size w w' := by
  induction f using Fm.ind with
  | h k nm n sc ks ih =>
    intro v w hB hv hc
    unfold InV at hv
    obtain ⟨vs, a, cap, rfl, _, _, hnm, hvs, hcap, hmax, hks⟩ := hv
    unfold maxLen at hmax
    have hcnt : countAll ks + 1 ≤ 4611686018427387904 := by unfold Fm.count at hc; exact hc
    clear hc
    go_enter Try.func158, Try.ntmps158
    go_wp2
    go_loopw [3, 4] (fun n i wr => ∃ j : Nat, j ≤ ks.length ∧ i = .int .i64 j ∧ n = .int .i64 (countAll (ks.take j) + 1 : Nat) ∧
        wr.cell? ⟨w.heap.size, 4, none⟩ = some (.slice a ks.length cap) ∧ Below w.heap.size w wr ∧ w.heap.size < wr.heap.size) (fun _ i _ => ks.length - (intOf i).toNat)
    case atStart => exact ⟨0, Nat.zero_le _, rfl, by simp [countAll], by simp, (Below.refl _ _).alloc (Nat.le_refl _) _, by simp⟩
    case round =>
      obtain ⟨j, hj, rfl, rfl, hcell, hb, hsz⟩ := hrel
      have hle := countAll_take_le ks j
      by_cases hlt : j < ks.length
      · rcases hks with rfl | ⟨b, off, rfl, hbB, hrow⟩
        · simp at hlt
        · have hts := countAll_take_succ ks j hlt
          have hle2 := countAll_take_le ks (j + 1)
          have HIH := Lib.hid (ih ks[j] (List.getElem_mem hlt))
          have HB := Lib.hid hb
          obtain ⟨c0, c1, c2, c3, c4, h0, h1, h2, h3, h4, hin⟩ := (hrow.later (same_below (hb.mono hB)) b hbB).at j hlt
          have HTS := Lib.hid hts
          have HIN := Lib.hid hin
          clear hts hin ih hb hrow
          go_wp2_with fail
          refine (HIH.out _ _ (by omega) HIN.out (by have := HTS.out; omega)).mono ?_
          rintro e w1 ⟨rfl, hb1⟩
          have hcell1 := cell_later' hb1 hcell
          have hsz1 := hb1.size
          have HB1 := Lib.hid ((HB.out).trans (hb1.mono (by omega)))
          have hle3 : countAll (List.take j ks) + 1 + ks[j].count ≤ 4611686018427387904 := by have := HTS.out; omega
          clear hb1 hcell
          go_wp2_with fail
          go_roundw
          case rel => exact ⟨j + 1, by omega, by go_num, by have := HTS.out; rw [this]; go_num, hcell1, HB1.out, by omega⟩
          case measure => simp [intOf]; omega
      · have hk : j = ks.length := by omega
        have HK : Hid ((countAll (ks.take j) + 1 : Nat) = (Fm.mk k nm n sc ks).count) := by unfold Fm.count; rw [hk, List.take_length]; rfl
        have HB := Lib.hid hb
        clear hk hb
        go_wp2_with fail
        go_ret
        exact ⟨ret_int (by rw [HK.out]), HB.out⟩
end Go.Proofs.Ytbclgmabidjegaa
