/- The contract of the model's HitsValid. -/
import Derived.Test.YtnogpaflibghhaaSpecHit
import Derived.StillTailTactics
namespace Go.Proofs.Ytnogpaflibghhaa
open Go.RowKit
set_option linter.unusedVariables false
set_option linter.unusedSimpArgs false
/-- none of these hits has that name -/
def apartB (l : List Ht) (x : Fm) : Bool := l.all fun y => !sameB y.name x
theorem apartB_take_succ (l : List Ht) (x : Fm) (m : Nat) (h : m < l.length) : apartB (l.take (m + 1)) x = (apartB (l.take m) x && !sameB l[m].name x) := by
  unfold apartB
  rw [List.take_succ_eq_append_getElem h, List.all_append]
  simp
theorem apartB_no {l : List Ht} {x : Fm} (m : Nat) (h : apartB (l.take m) x = false) : apartB l x = false := by
  unfold apartB at *
  rw [← List.take_append_drop m l, List.all_append, h]
  rfl
/-- the first hits are well-formed, their names apart -/
def hvTo (l : List Ht) : Nat → Bool
  | 0 => true
  | n + 1 => hvTo l n && (match l[n]? with
    | some x => hitB x x.depth && apartB (l.take n) x.name
    | none => true)
theorem hvTo_succ {l : List Ht} {n : Nat} (h : n < l.length) : hvTo l (n + 1) = (hvTo l n && (hitB l[n] l[n].depth && apartB (l.take n) l[n].name)) := by
  simp [hvTo, List.getElem?_eq_getElem h]
theorem hvTo_no {l : List Ht} {j : Nat} (h : hvTo l j = false) : ∀ m, j ≤ m → hvTo l m = false
  | 0, hm => by rw [show j = 0 from by omega] at h; exact h
  | m + 1, hm => by
    by_cases e : j = m + 1
    · rw [← e]; exact h
    · have := hvTo_no h m (by omega)
      simp [hvTo, this]
def hitsValidB (l : List Ht) : Bool := decide (l.length ≤ 20) && hvTo l l.length
theorem hitsValidB_no {l : List Ht} {j : Nat} (hj : j < l.length) (h : hvTo l (j + 1) = false) : hitsValidB l = false := by
  unfold hitsValidB
  rw [hvTo_no h l.length (by omega)]
  simp
set_option maxRecDepth 100000 in
set_option maxHeartbeats 8000000 in
theorem specHitsValid_any (B : Nat) (l : List Ht) (a : Option Addr) (cap : Nat) (w : World) (hB : B ≤ w.heap.size) (hl : HitsIn (· < B) w a cap l) (hsz : szHs l ≤ 1048576) :
    Calls Try.prog 75 #[.slice a l.length cap] w fun e w' => e = .returned (.bool (hitsValidB l)) ∧ Below w.heap.size w w' := by
  obtain ⟨hcap, hmax, hrow⟩ := hl
  unfold maxLen at hmax
  have HROW := Lib.hid hrow
  clear hrow
  go_enter Try.func75, Try.ntmps75
  go_wp2_with fail
  go_loopw [3, 4] (fun i u wr => ∃ j : Nat, j ≤ l.length ∧ j ≤ 21 ∧ i = .int .i64 j ∧ hvTo l j = true ∧ Below w.heap.size w wr) (fun i _ _ => 21 - (intOf i).toNat)
  case atStart => exact ⟨0, Nat.zero_le _, by omega, rfl, rfl, Below.refl _ _⟩
  case round =>
    obtain ⟨j, hj, hj2, rfl, hr, hb⟩ := hrel
    have HR := Lib.hid hr
    have HB := Lib.hid hb
    clear hr hb
    by_cases hlt : j < l.length
    · by_cases h20 : j ≤ 20
      · rcases HROW.out with h0 | ⟨b, off, rfl, hb1, hrow⟩
        · exfalso; rw [h0] at hlt; simp at hlt
        obtain ⟨p1, p2, p3, p4, p5, p6, p7, p8, pa, pc, x0, x1, x2, x3, x4, x5, x6, x7, x8, x9, x10, x11, hin⟩ := (hrow.later (same_below (HB.out.mono hB)) b hb1).at' j hlt
        have HIN := Lib.hid hin
        have HRW := Lib.hid hrow
        have HSU := Lib.hid (hvTo_succ hlt)
        have hszj : l[j].sz ≤ 1048576 := by
          have g1 := szHin_take_succ l j hlt
          have g2 := szHin_take_le l (j + 1)
          have g3 := szHs_length l
          have g4 : szHs l = l.length + szHin l := by unfold szHin; omega
          omega
        have hdb : -9223372036854775808 ≤ l[j].depth ∧ l[j].depth ≤ 9223372036854775807 := by
          obtain ⟨_, _, _, _, _, _, _, _, _, _, _, hd, _⟩ := hin.form
          exact hd
        have hszw := HB.out.size
        have hnc := l[j].name.count_le
        clear hin hrow
        go_wp2_with fail
        go_still_tail 9, (by kernel_rfl)
        change wpList _ _ _ _ _ wr.drew
        go_wp2_with fail
        refine (l4Hit_any B l[j] l[j].depth _ wr.drew (by show B ≤ wr.heap.size; omega) (InH.later (w := wr) (w' := wr.drew) (fun _ _ => rfl) _ _ HIN.out) hszj hdb).mono ?_
        rintro e w2 ⟨rfl, hb2⟩
        have HB2 : Hid (Below w.heap.size w w2) := HB.out.drew.trans (hb2.mono (by show w.heap.size ≤ wr.heap.size; omega))
        clear hb2 x0 x1 x2 x3 x4 x5 x6 x7 x8 x9 x10 x11
        cases h8 : hitB l[j] l[j].depth with
        | false =>
          have HF : Hid (false = hitsValidB l) := (hitsValidB_no hlt (by rw [HSU.out, HR.out, h8]; rfl)).symm
          go_wp2_with fail
          go_ret
          exact ⟨ret_bool HF.out, HB2.out⟩
        | true =>
          have H8 := Lib.hid h8
          clear h8
          go_wp2_with fail
          go_loopw [4] (fun k wr2 => ∃ m : Nat, m ≤ j ∧ k = .int .i64 m ∧ apartB (l.take m) l[j].name = true ∧ Below w.heap.size w wr2) (fun k _ => j - (intOf k).toNat)
          case atStart => exact ⟨0, Nat.zero_le _, rfl, by simp [apartB], HB2.out⟩
          case round =>
            obtain ⟨m, hm, rfl, hap, hb⟩ := hrel
            have HAP := Lib.hid hap
            have HB3 := Lib.hid hb
            clear hap hb
            by_cases hml : m < j
            · have hmlen : m < l.length := by omega
              obtain ⟨p1, p2, p3, p4, p5, p6, p7, p8, pa, pc, x0, x1, x2, x3, x4, x5, x6, x7, x8, x9, x10, x11, hin⟩ := (HRW.out.later (same_below (HB3.out.mono hB)) b hb1).at' m hmlen
              obtain ⟨q1, q2, q3, q4, q5, q6, q7, q8, qa, qc, y0, y1, y2, y3, y4, y5, y6, y7, y8, y9, y10, y11, hin2⟩ := (HRW.out.later (same_below (HB3.out.mono hB)) b hb1).at' j hlt
              have HN1 := Lib.hid hin.namePart
              have HN2 := Lib.hid hin2.namePart
              have HT := Lib.hid (apartB_take_succ l l[j].name m hmlen)
              have hszw3 := HB3.out.size
              clear hin hin2
              go_wp2_with fail
              go_still_tail 10, (by kernel_rfl)
              change wpList _ _ _ _ _ wr.drew
              go_wp2_with fail
              refine (specSame_any B l[m].name l[j].name _ _ wr.drew (by show B ≤ wr.heap.size; omega) (InV.later (w := wr) (w' := wr.drew) (fun _ _ => rfl) _ _ HN1.out) (InV.later (w := wr) (w' := wr.drew) (fun _ _ => rfl) _ _ HN2.out)).mono ?_
              rintro e w4 ⟨rfl, hb4⟩
              have HB4 : Hid (Below w.heap.size w w4) := HB3.out.drew.trans (hb4.mono (by show w.heap.size ≤ wr.heap.size; omega))
              clear hb4 x0 x1 x2 x3 x4 x5 x6 x7 x8 x9 x10 x11 y0 y1 y2 y3 y4 y5 y6 y7 y8 y9 y10 y11
              cases h9 : sameB l[m].name l[j].name with
              | true =>
                have HF : Hid (false = hitsValidB l) := (hitsValidB_no hlt (by
                  rw [HSU.out, show apartB (l.take j) l[j].name = false from by
                    have := apartB_no (l := l.take j) (x := l[j].name) (m + 1) (by rw [List.take_take, Nat.min_eq_left (by omega), HT.out, h9]; simp)
                    exact this]
                  simp)).symm
                go_wp2_with fail
                go_ret
                exact ⟨ret_bool HF.out, HB4.out⟩
              | false =>
                have HY : Hid (apartB (l.take (m + 1)) l[j].name = true) := by unfold Hid; rw [HT.out, HAP.out, h9]; rfl
                go_wp2_with fail
                go_roundw
                case rel => exact ⟨m + 1, by omega, by go_num, HY.out, HB4.out⟩
                case measure => simp [intOf]; omega
            · obtain rfl : m = j := by omega
              have HY : Hid (hvTo l (m + 1) = true) := by unfold Hid; rw [HSU.out, HR.out, H8.out, HAP.out]; rfl
              go_wp2_with fail
              go_roundw
              case rel => exact ⟨m + 1, by omega, by omega, by go_num, HY.out, HB3.out⟩
              case measure => simp [intOf]; omega
      · have hbig : 20 < l.length := by omega
        have hd : decide ((l.length : Int) ≤ 20) = false := decide_eq_false (by omega)
        have HF : Hid (false = hitsValidB l) := by unfold Hid hitsValidB; rw [decide_eq_false (by omega : ¬ l.length ≤ 20)]; rfl
        have hj20 : ¬ ((j : Int) ≤ 20) := by omega
        go_wp2_with fail
        go_ret
        exact ⟨ret_bool HF.out, HB.out⟩
    · obtain rfl : j = l.length := by omega
      have HF : Hid (decide ((l.length : Int) ≤ 20) = hitsValidB l) := by
        unfold Hid hitsValidB
        rw [HR.out, Bool.and_true, Bool.eq_iff_iff, decide_eq_true_eq, decide_eq_true_eq]
        omega
      go_wp2_with fail
      go_ret
      exact ⟨ret_bool HF.out, HB.out⟩
end Go.Proofs.Ytnogpaflibghhaa
