/- Two hits that are the same as data are found equal. -/
import Derived.Test.YtlmplfpdmelcjaaHitData
import Derived.Test.YtlmplfpdmelcjaaEq
import Derived.Test.YtlmplfpdmelcjaaData
namespace Go.Proofs.Ytlmplfpdmelcjaa
open Go.RowKit
set_option linter.unusedVariables false
def EqSaidH (B : Nat) (f : Ht) : Prop := ∀ (v u : Value) (w : World), B ≤ w.heap.size → InH (· < B) w f v → InH (· < B) w f u →
    Calls Try.prog 24 #[v, u] w fun e w' => e = .returned (.bool true) ∧ Below w.heap.size w w'
set_option maxRecDepth 100000 in
set_option maxHeartbeats 1000000 in
theorem eqHitS_of (B : Nat) (ks : List Ht) (ih : ∀ g ∈ ks, EqSaidH B g) (a a2 : Option Addr) (cap cap2 : Nat) (w : World) (hB : B ≤ w.heap.size) (hv : HitsIn (· < B) w a cap ks) (hu : HitsIn (· < B) w a2 cap2 ks) :
    Calls Try.prog 19 #[.slice a ks.length cap, .slice a2 ks.length cap2] w fun e w' => e = .returned (.bool true) ∧ Below w.heap.size w w' := by
  obtain ⟨hcap, hmax, hks⟩ := hv
  obtain ⟨hcap2, hmax2, hls⟩ := hu
  unfold maxLen at hmax hmax2
  have HIH := Lib.hid ih
  have HKS := Lib.hid hks
  have HLS := Lib.hid hls
  clear ih hks hls
  have hne : ((ks.length : Int) != (ks.length : Int)) = false := by simp
  go_enter Try.func19, Try.ntmps19
  go_wp2_with fail
  go_loopw [5] (fun i wr => ∃ j : Nat, j ≤ ks.length ∧ i = .int .i64 j ∧ Below w.heap.size w wr) (fun i _ => ks.length - (intOf i).toNat)
  case atStart => exact ⟨0, Nat.zero_le _, rfl, Below.refl _ _⟩
  case round =>
    obtain ⟨j, hj, rfl, hb⟩ := hrel
    have HB := Lib.hid hb
    clear hb
    by_cases hlt : j < ks.length
    · rcases HKS.out with h0 | ⟨b, off, rfl, hb1, hrow⟩
      · exfalso; rw [h0] at hlt; simp at hlt
      · rcases HLS.out with h0 | ⟨b2, off2, rfl, hb2, hrow2⟩
        · exfalso; rw [h0] at hlt; simp at hlt
        · obtain ⟨s1, t1, k1, l1, s2, t2, k2, l2, ga, gcap, p0, p1, p2, p3, p4, p5, p6, p7, p8, p9, p10, p11, hin⟩ := (hrow.later (same_below (HB.out.mono hB)) b hb1).at' j hlt
          obtain ⟨s1b, t1b, k1b, l1b, s2b, t2b, k2b, l2b, gab, gcapb, q0, q1, q2, q3, q4, q5, q6, q7, q8, q9, q10, q11, hin2⟩ := (hrow2.later (same_below (HB.out.mono hB)) b2 hb2).at' j hlt
          have HIN := Lib.hid hin
          have HIN2 := Lib.hid hin2
          have HIHJ := Lib.hid (HIH.out ks[j] (List.getElem_mem hlt))
          have hszw := HB.out.size
          clear hin hin2 hrow hrow2
          go_wp2_with fail
          go_still_tail 8, (by kernel_rfl)
          change wpList _ _ _ _ _ wr.drew
          go_wp2_with fail
          refine (HIHJ.out _ _ wr.drew (by show B ≤ wr.heap.size; omega) (InH.later (w := wr) (w' := wr.drew) (fun _ _ => rfl) _ _ HIN.out) (InH.later (w := wr) (w' := wr.drew) (fun _ _ => rfl) _ _ HIN2.out)).mono ?_
          rintro e w3 ⟨rfl, hb3⟩
          have HB3 : Hid (Below w.heap.size w w3) := HB.out.drew.trans (hb3.mono (by show w.heap.size ≤ wr.heap.size; omega))
          clear hb3
          go_wp2_with fail
          go_roundw
          case rel => exact ⟨j + 1, by omega, by go_num, HB3.out⟩
          case measure => simp [intOf]; omega
    · obtain rfl : j = ks.length := by omega
      go_wp2_with fail
      go_ret
      exact ⟨rfl, HB.out⟩
set_option maxRecDepth 100000 in
set_option maxHeartbeats 2000000 in
theorem eqHit_any (B : Nat) (f : Ht) : EqSaidH B f := by
  induction f using Ht.ind with
  | h nm d one many ih =>
    intro v u w hB hv hu
    unfold InH at hv hu
    obtain ⟨s1, t1, k1, l1, s2, t2, k2, l2, a, cap, rfl, hd, hn, ho, hks⟩ := hv
    obtain ⟨s1b, t1b, k1b, l1b, s2b, t2b, k2b, l2b, ab, capb, rfl, _, hnb, hob, hksb⟩ := hu
    have HN := Lib.hid hn
    have HO := Lib.hid ho
    have HK : Hid (HitsIn (· < B) w a cap many) := hks
    have HNB := Lib.hid hnb
    have HOB := Lib.hid hob
    have HKB : Hid (HitsIn (· < B) w ab capb many) := hksb
    have HF := Lib.hid (eqHitS_of B many ih a ab cap capb)
    clear hn ho hks hnb hob hksb ih
    have hd1 : (d != d) = false := by simp
    have hA2 : ∀ O O', Below w.heap.size w ((w.alloc O).alloc O') := fun O O' => ((Below.refl _ w).alloc (Nat.le_refl _) _).alloc (by simp) _
    have HA2 := Lib.hid hA2
    clear hA2
    go_enter Try.func24, Try.ntmps24
    go_wp2_with fail
    refine (eqForm_any B nm nm _ _ _ (by simp; omega) (InV.later (same_below ((HA2.out _ _).mono hB)) _ _ HN.out) (InV.later (same_below ((HA2.out _ _).mono hB)) _ _ HNB.out)).mono ?_
    rintro e w1 ⟨rfl, hb1⟩
    rw [sameB_refl]
    have hs1 : w.heap.size + 2 ≤ w1.heap.size := by have := hb1.size; simpa using this
    have xA5 : w1.cell? ⟨w.heap.size, 5, none⟩ = some (.int .i64 d) := (hb1.cell (p := ⟨w.heap.size, 5, none⟩) (by simp; omega)).trans (by simp)
    have xA6 : w1.cell? ⟨w.heap.size, 6, none⟩ = some (.int .i64 one.kind) := (hb1.cell (p := ⟨w.heap.size, 6, none⟩) (by simp; omega)).trans (by simp)
    have xA7 : w1.cell? ⟨w.heap.size, 7, none⟩ = some (.string one.name) := (hb1.cell (p := ⟨w.heap.size, 7, none⟩) (by simp; omega)).trans (by simp)
    have xA8 : w1.cell? ⟨w.heap.size, 8, none⟩ = some (.int .i64 one.n) := (hb1.cell (p := ⟨w.heap.size, 8, none⟩) (by simp; omega)).trans (by simp)
    have xA9 : w1.cell? ⟨w.heap.size, 9, none⟩ = some (.slice s2 one.scopes.length t2) := (hb1.cell (p := ⟨w.heap.size, 9, none⟩) (by simp; omega)).trans (by simp)
    have xA10 : w1.cell? ⟨w.heap.size, 10, none⟩ = some (.slice k2 one.kids.length l2) := (hb1.cell (p := ⟨w.heap.size, 10, none⟩) (by simp; omega)).trans (by simp)
    have xA11 : w1.cell? ⟨w.heap.size, 11, none⟩ = some (.slice a many.length cap) := (hb1.cell (p := ⟨w.heap.size, 11, none⟩) (by simp; omega)).trans (by simp)
    have xB5 : w1.cell? ⟨w.heap.size + 1, 5, none⟩ = some (.int .i64 d) := (hb1.cell (p := ⟨w.heap.size + 1, 5, none⟩) (by simp)).trans (by simp)
    have xB6 : w1.cell? ⟨w.heap.size + 1, 6, none⟩ = some (.int .i64 one.kind) := (hb1.cell (p := ⟨w.heap.size + 1, 6, none⟩) (by simp)).trans (by simp)
    have xB7 : w1.cell? ⟨w.heap.size + 1, 7, none⟩ = some (.string one.name) := (hb1.cell (p := ⟨w.heap.size + 1, 7, none⟩) (by simp)).trans (by simp)
    have xB8 : w1.cell? ⟨w.heap.size + 1, 8, none⟩ = some (.int .i64 one.n) := (hb1.cell (p := ⟨w.heap.size + 1, 8, none⟩) (by simp)).trans (by simp)
    have xB9 : w1.cell? ⟨w.heap.size + 1, 9, none⟩ = some (.slice s2b one.scopes.length t2b) := (hb1.cell (p := ⟨w.heap.size + 1, 9, none⟩) (by simp)).trans (by simp)
    have xB10 : w1.cell? ⟨w.heap.size + 1, 10, none⟩ = some (.slice k2b one.kids.length l2b) := (hb1.cell (p := ⟨w.heap.size + 1, 10, none⟩) (by simp)).trans (by simp)
    have xB11 : w1.cell? ⟨w.heap.size + 1, 11, none⟩ = some (.slice ab many.length capb) := (hb1.cell (p := ⟨w.heap.size + 1, 11, none⟩) (by simp)).trans (by simp)
    have HB1 : Hid (Below w.heap.size w w1) := (HA2.out _ _).trans (hb1.mono (by simp; omega))
    clear hb1
    go_wp2_with fail
    refine (eqForm_any B one one _ _ _ (by omega) (InV.later (same_below (HB1.out.mono hB)) _ _ HO.out) (InV.later (same_below (HB1.out.mono hB)) _ _ HOB.out)).mono ?_
    rintro e w2 ⟨rfl, hb2⟩
    rw [sameB_refl]
    have hs2 := hb2.size
    have zA := cell_later' hb2 xA11
    have zB := cell_later' hb2 xB11
    have HB2 : Hid (Below w.heap.size w w2) := HB1.out.trans (hb2.mono (by omega))
    clear hb2 xA5 xA6 xA7 xA8 xA9 xA10 xA11 xB5 xB6 xB7 xB8 xB9 xB10 xB11
    go_wp2_with fail
    refine (HF.out w2 (by omega) (HK.out.later (same_below (HB2.out.mono hB))) (HKB.out.later (same_below (HB2.out.mono hB)))).mono ?_
    rintro e w3 ⟨rfl, hb3⟩
    have HB3 : Hid (Below w.heap.size w w3) := HB2.out.trans (hb3.mono (by omega))
    clear hb3
    go_wp2_with fail
    go_ret
    exact ⟨rfl, HB3.out⟩
theorem eqHitS_row (B : Nat) (l : List Ht) (a a2 : Option Addr) (cap cap2 : Nat) (w : World) (hB : B ≤ w.heap.size) (hv : HitsIn (· < B) w a cap l) (hu : HitsIn (· < B) w a2 cap2 l) :
    Calls Try.prog 19 #[.slice a l.length cap, .slice a2 l.length cap2] w fun e w' => e = .returned (.bool true) ∧ Below w.heap.size w w' :=
  eqHitS_of B l (fun g _ => eqHit_any B g) a a2 cap cap2 w hB hv hu
end Go.Proofs.Ytlmplfpdmelcjaa
