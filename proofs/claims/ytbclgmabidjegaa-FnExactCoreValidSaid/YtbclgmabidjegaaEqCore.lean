/- Two core programs that are the same as data are found equal. -/
import Derived.Test.YtbclgmabidjegaaCoreData
import Derived.Test.YtbclgmabidjegaaEq
import Derived.Test.YtbclgmabidjegaaData
namespace Go.Proofs.Ytbclgmabidjegaa
open Go.RowKit
set_option linter.unusedVariables false
def EqSaidC (B : Nat) (f : Ck) : Prop := ∀ (v u : Value) (w : World), B ≤ w.heap.size → InC (· < B) w f v → InC (· < B) w f u →
    Calls Try.prog 17 #[v, u] w fun e w' => e = .returned (.bool true) ∧ Below w.heap.size w w'
set_option maxRecDepth 100000 in
set_option maxHeartbeats 1000000 in
theorem eqCoreS_of (B : Nat) (ks : List Ck) (ih : ∀ g ∈ ks, EqSaidC B g) (a a2 : Option Addr) (cap cap2 : Nat) (w : World) (hB : B ≤ w.heap.size) (hv : CoresIn (· < B) w a cap ks) (hu : CoresIn (· < B) w a2 cap2 ks) :
    Calls Try.prog 72 #[.slice a ks.length cap, .slice a2 ks.length cap2] w fun e w' => e = .returned (.bool true) ∧ Below w.heap.size w w' := by
  obtain ⟨hcap, hmax, hks⟩ := hv
  obtain ⟨hcap2, hmax2, hls⟩ := hu
  unfold maxLen at hmax hmax2
  have HIH := Lib.hid ih
  have HKS := Lib.hid hks
  have HLS := Lib.hid hls
  clear ih hks hls
  have hne : ((ks.length : Int) != (ks.length : Int)) = false := by simp
  go_enter Try.func72, Try.ntmps72
  go_wp2_with fail
  go_loopw [5] (fun i wr => ∃ j : Nat, j ≤ ks.length ∧ i = .int .i64 j ∧ Below w.heap.size w wr) (fun i _ => ks.length - (intOf i).toNat)
  case atStart => exact ⟨0, Nat.zero_le _, rfl, Below.refl _ _⟩
  case round =>
    obtain ⟨j, hj, rfl, hb⟩ := hrel
    have HB := Lib.hid hb
    clear hb
    by_cases hlt : j < ks.length
    · rcases HKS.out with h0 | ⟨b, off, rfl, hb1, hrow⟩
      · exfalso; rw [h0] at hlt; simp at hlt
      · rcases HLS.out with h0 | ⟨b2, off2, rfl, hb2, hrow2⟩
        · exfalso; rw [h0] at hlt; simp at hlt
        · obtain ⟨i1, j1, s1, t1, k1, l1, ga, gcap, p0, p1, p2, p3, p4, p5, p6, p7, p8, p9, p10, hin⟩ := (hrow.later (same_below (HB.out.mono hB)) b hb1).at' j hlt
          obtain ⟨i1b, j1b, s1b, t1b, k1b, l1b, gab, gcapb, q0, q1, q2, q3, q4, q5, q6, q7, q8, q9, q10, hin2⟩ := (hrow2.later (same_below (HB.out.mono hB)) b2 hb2).at' j hlt
          have HIN := Lib.hid hin
          have HIN2 := Lib.hid hin2
          have HIHJ := Lib.hid (HIH.out ks[j] (List.getElem_mem hlt))
          have hszw := HB.out.size
          clear hin hin2 hrow hrow2
          go_wp2_with fail
          go_still_tail 8, (by kernel_rfl)
          change wpList _ _ _ _ _ wr.drew
          go_wp2_with fail
          refine (HIHJ.out _ _ wr.drew (by show B ≤ wr.heap.size; omega) (InC.later (w := wr) (w' := wr.drew) (fun _ _ => rfl) _ _ HIN.out) (InC.later (w := wr) (w' := wr.drew) (fun _ _ => rfl) _ _ HIN2.out)).mono ?_
          rintro e w3 ⟨rfl, hb3⟩
          have HB3 : Hid (Below w.heap.size w w3) := HB.out.drew.trans (hb3.mono (by show w.heap.size ≤ wr.heap.size; omega))
          clear hb3
          go_wp2_with fail
          go_roundw
          case rel => exact ⟨j + 1, by omega, by go_num, HB3.out⟩
          case measure => simp [intOf]; omega
    · obtain rfl : j = ks.length := by omega
      go_wp2_with fail
      go_ret
      exact ⟨rfl, HB.out⟩
set_option maxRecDepth 100000 in
set_option maxHeartbeats 4000000 in
theorem eqCore_any (B : Nat) (f : Ck) : EqSaidC B f := by
  induction f using Ck.ind with
  | h k id nm n ids d ks ih =>
    intro v u w hB hv hu
    unfold InC at hv hu
    obtain ⟨i1, j1, s1, t1, k1, l1, a, cap, rfl, hk, hi, hn, hnm, hr, hd, hks⟩ := hv
    obtain ⟨i1b, j1b, s1b, t1b, k1b, l1b, ab, capb, rfl, _, _, _, _, hrb, hdb, hksb⟩ := hu
    have HR := Lib.hid hr
    have HRB := Lib.hid hrb
    have HN := Lib.hid hd
    have HNB := Lib.hid hdb
    have HK : Hid (CoresIn (· < B) w a cap ks) := hks
    have HKB : Hid (CoresIn (· < B) w ab capb ks) := hksb
    have HF := Lib.hid (eqCoreS_of B ks ih a ab cap capb)
    clear hr hrb hd hdb hks hksb ih
    have x1 : (k != k) = false := by simp
    have x2 : (id != id) = false := by simp
    have x3 : (nm.toList == nm.toList) = true := by simp
    have x3' : (nm.toList != nm.toList) = false := by simp
    have x4 : (n != n) = false := by simp
    have hA2 : ∀ O O', Below w.heap.size w ((w.alloc O).alloc O') := fun O O' => ((Below.refl _ w).alloc (Nat.le_refl _) _).alloc (by simp) _
    have HA2 := Lib.hid hA2
    clear hA2
    go_enter Try.func17, Try.ntmps17
    go_wp2_with fail
    refine (eqIntS_any (· < B) (· < B) ids ids _ _ _ (HR.out.later (same_below ((HA2.out _ _).mono hB))) (HRB.out.later (same_below ((HA2.out _ _).mono hB)))).mono ?_
    rintro e w1 ⟨rfl, hb1⟩
    rw [show (ids == ids) = true from by simp]
    have hs1 : w.heap.size + 2 ≤ w1.heap.size := by have := hb1.size; simpa using this
    have xA5 : w1.cell? ⟨w.heap.size, 5, none⟩ = some (.int .i64 d.kind) := (hb1.cell (p := ⟨w.heap.size, 5, none⟩) (by simp; omega)).trans (by simp)
    have xA6 : w1.cell? ⟨w.heap.size, 6, none⟩ = some (.string d.name) := (hb1.cell (p := ⟨w.heap.size, 6, none⟩) (by simp; omega)).trans (by simp)
    have xA7 : w1.cell? ⟨w.heap.size, 7, none⟩ = some (.int .i64 d.n) := (hb1.cell (p := ⟨w.heap.size, 7, none⟩) (by simp; omega)).trans (by simp)
    have xA8 : w1.cell? ⟨w.heap.size, 8, none⟩ = some (.slice s1 d.scopes.length t1) := (hb1.cell (p := ⟨w.heap.size, 8, none⟩) (by simp; omega)).trans (by simp)
    have xA9 : w1.cell? ⟨w.heap.size, 9, none⟩ = some (.slice k1 d.kids.length l1) := (hb1.cell (p := ⟨w.heap.size, 9, none⟩) (by simp; omega)).trans (by simp)
    have xA10 : w1.cell? ⟨w.heap.size, 10, none⟩ = some (.slice a ks.length cap) := (hb1.cell (p := ⟨w.heap.size, 10, none⟩) (by simp; omega)).trans (by simp)
    have xB5 : w1.cell? ⟨w.heap.size + 1, 5, none⟩ = some (.int .i64 d.kind) := (hb1.cell (p := ⟨w.heap.size + 1, 5, none⟩) (by simp)).trans (by simp)
    have xB6 : w1.cell? ⟨w.heap.size + 1, 6, none⟩ = some (.string d.name) := (hb1.cell (p := ⟨w.heap.size + 1, 6, none⟩) (by simp)).trans (by simp)
    have xB7 : w1.cell? ⟨w.heap.size + 1, 7, none⟩ = some (.int .i64 d.n) := (hb1.cell (p := ⟨w.heap.size + 1, 7, none⟩) (by simp)).trans (by simp)
    have xB8 : w1.cell? ⟨w.heap.size + 1, 8, none⟩ = some (.slice s1b d.scopes.length t1b) := (hb1.cell (p := ⟨w.heap.size + 1, 8, none⟩) (by simp)).trans (by simp)
    have xB9 : w1.cell? ⟨w.heap.size + 1, 9, none⟩ = some (.slice k1b d.kids.length l1b) := (hb1.cell (p := ⟨w.heap.size + 1, 9, none⟩) (by simp)).trans (by simp)
    have xB10 : w1.cell? ⟨w.heap.size + 1, 10, none⟩ = some (.slice ab ks.length capb) := (hb1.cell (p := ⟨w.heap.size + 1, 10, none⟩) (by simp)).trans (by simp)
    have HB1 : Hid (Below w.heap.size w w1) := (HA2.out _ _).trans (hb1.mono (by simp; omega))
    clear hb1
    go_wp2_with fail
    refine (eqForm_any B d d _ _ _ (by omega) (InV.later (same_below (HB1.out.mono hB)) _ _ HN.out) (InV.later (same_below (HB1.out.mono hB)) _ _ HNB.out)).mono ?_
    rintro e w2 ⟨rfl, hb2⟩
    rw [sameB_refl]
    have hs2 := hb2.size
    have zA := cell_later' hb2 xA10
    have zB := cell_later' hb2 xB10
    have HB2 : Hid (Below w.heap.size w w2) := HB1.out.trans (hb2.mono (by omega))
    clear hb2 xA5 xA6 xA7 xA8 xA9 xA10 xB5 xB6 xB7 xB8 xB9 xB10
    go_wp2_with fail
    refine (HF.out w2 (by omega) (HK.out.later (same_below (HB2.out.mono hB))) (HKB.out.later (same_below (HB2.out.mono hB)))).mono ?_
    rintro e w3 ⟨rfl, hb3⟩
    have HB3 : Hid (Below w.heap.size w w3) := HB2.out.trans (hb3.mono (by omega))
    clear hb3
    go_wp2_with fail
    go_ret
    exact ⟨rfl, HB3.out⟩
theorem eqCoreS_row (B : Nat) (l : List Ck) (a a2 : Option Addr) (cap cap2 : Nat) (w : World) (hB : B ≤ w.heap.size) (hv : CoresIn (· < B) w a cap l) (hu : CoresIn (· < B) w a2 cap2 l) :
    Calls Try.prog 72 #[.slice a l.length cap, .slice a2 l.length cap2] w fun e w' => e = .returned (.bool true) ∧ Below w.heap.size w w' :=
  eqCoreS_of B l (fun g _ => eqCore_any B g) a a2 cap cap2 w hB hv hu
end Go.Proofs.Ytbclgmabidjegaa
