/- The contract of the model's count of the nodes of a core program. -/
import Derived.Test.YtbclgmabidjegaaChecked
import Derived.Test.YtbclgmabidjegaaCoreData
import Derived.Test.YtbclgmabidjegaaData
namespace Go.Proofs.Ytbclgmabidjegaa
open Go.RowKit
set_option linter.unusedVariables false
set_option maxRecDepth 100000 in
set_option maxHeartbeats 1000000 in
theorem l6Count_any (B : Nat) (f : Ck) : ∀ (v : Value) (w : World), B ≤ w.heap.size → InC (· < B) w f v → f.count ≤ 4611686018427387904 →
    Calls Try.prog 67 #[v] w fun e w' => e = .returned (.int .i64 f.count) ∧ Below w.heap.size w w' := by
  induction f using Ck.ind with
  | h k id nm n ids d ks ih =>
    intro v w hB hv hc
    unfold InC at hv
    obtain ⟨i1, j1, s1, t1, k1, l1, a, cap, rfl, _, _, _, hnm, hr, hd, hcap, hmax, hks⟩ := hv
    unfold maxLen at hmax
    clear hr hd
    have hcnt : countCs ks + 1 ≤ 4611686018427387904 := by unfold Ck.count at hc; exact hc
    clear hc
    go_enter Try.func67, Try.ntmps67
    go_wp2
    go_loopw [3, 4] (fun n i wr => ∃ j : Nat, j ≤ ks.length ∧ i = .int .i64 j ∧ n = .int .i64 (countCs (ks.take j) + 1 : Nat) ∧
        wr.cell? ⟨w.heap.size, 10, none⟩ = some (.slice a ks.length cap) ∧ Below w.heap.size w wr ∧ w.heap.size < wr.heap.size) (fun _ i _ => ks.length - (intOf i).toNat)
    case atStart => exact ⟨0, Nat.zero_le _, rfl, by simp [countCs], by simp, (Below.refl _ _).alloc (Nat.le_refl _) _, by simp⟩
    case round =>
      obtain ⟨j, hj, rfl, rfl, hcell, hb, hsz⟩ := hrel
      have hle := countCs_take_le ks j
      by_cases hlt : j < ks.length
      · rcases hks with rfl | ⟨b, off, rfl, hbB, hrow⟩
        · simp at hlt
        · have hts := countCs_take_succ ks j hlt
          have hle2 := countCs_take_le ks (j + 1)
          have HIH := Lib.hid (ih ks[j] (List.getElem_mem hlt))
          have HB := Lib.hid hb
          obtain ⟨c0, c1, c2, c3, c4, c5, c6, c7, c8, c9, c10, h0, h1, h2, h3, h4, h5, h6, h7, h8, h9, h10, hin⟩ := (hrow.later (same_below (hb.mono hB)) b hbB).at j hlt
          have HTS := Lib.hid hts
          have HIN := Lib.hid hin
          clear hts hin ih hb hrow
          go_wp2_with fail
          refine (HIH.out _ _ (by omega) HIN.out (by have := HTS.out; omega)).mono ?_
          rintro e w1 ⟨rfl, hb1⟩
          have hcell1 := cell_later' hb1 hcell
          have hsz1 := hb1.size
          have HB1 := Lib.hid ((HB.out).trans (hb1.mono (by omega)))
          have hle3 : countCs (List.take j ks) + 1 + ks[j].count ≤ 4611686018427387904 := by have := HTS.out; omega
          clear hb1 hcell
          go_wp2_with fail
          go_roundw
          case rel => exact ⟨j + 1, by omega, by go_num, by have := HTS.out; rw [this]; go_num, hcell1, HB1.out, by omega⟩
          case measure => simp [intOf]; omega
      · have hk : j = ks.length := by omega
        have HK : Hid ((countCs (ks.take j) + 1 : Nat) = (Ck.mk k id nm n ids d ks).count) := by unfold Ck.count; rw [hk, List.take_length]; rfl
        have HB := Lib.hid hb
        clear hk hb
        go_wp2_with fail
        go_ret
        exact ⟨ret_int (by rw [HK.out]), HB.out⟩
end Go.Proofs.Ytbclgmabidjegaa
