/- Searches in lists of hits. -/
import Derived.Test.YtnogpaflibghhaaHoldH
namespace Go.Proofs.Ytnogpaflibghhaa
open Go.RowKit
set_option linter.unusedVariables false
set_option linter.unusedSimpArgs false
/-- what is asked of a function that tells hits -/
structure PredH (gf : Nat) (lb : Array Value) (P : Ht → Bool) (ks : List Ht) (Ok : World → Prop) : Prop where
  eg : ∀ args w, (callFunc gf args).run Try.prog w = .ok (.enter gf args) w
  still : ∀ W W', Ok W → Below W.heap.size W W' → Ok W'
  calls : ∀ g ∈ ks, ∀ (v : Value) (W : World), InH (Pl W.heap.size W) W g v → g.sz ≤ 1048576 → Ok W → Calls Try.prog gf (#[v] ++ lb) W fun e W' => e = .returned (.bool (P g)) ∧ Below W.heap.size W W'
/-- where the first one is -/
def IdxH (P : Ht → Bool) (ks : List Ht) (r : Int) : Prop := (r = -1 ∧ ks.any P = false) ∨ ∃ (j : Nat) (h : j < ks.length), r = j ∧ P ks[j] = true ∧ (ks.take j).any P = false
theorem any_take_succH (P : Ht → Bool) (ks : List Ht) (j : Nat) (h : j < ks.length) : (ks.take (j + 1)).any P = ((ks.take j).any P || P ks[j]) := by
  rw [List.take_succ_eq_append_getElem h, List.any_append]
  simp
theorem IdxH.some {P : Ht → Bool} {ks : List Ht} {r : Int} (h : IdxH P ks r) : decide (r ≥ 0) = ks.any P := by
  rcases h with ⟨rfl, h⟩ | ⟨j, hj, rfl, h, _⟩
  · rw [h]; rfl
  · have h1 : ks.any P = true := List.any_eq_true.2 ⟨ks[j], List.getElem_mem hj, h⟩
    rw [h1, decide_eq_true (by omega)]
set_option maxRecDepth 100000 in
set_option maxHeartbeats 1000000 in
theorem indexFuncH_any (gf : Nat) (lb : Array Value) (P : Ht → Bool) (ks : List Ht) (Ok : World → Prop) (hp : PredH gf lb P ks Ok) (a : Option Addr) (cap : Nat) (w : World) (hl : HitsIn (Pl w.heap.size w) w a cap ks) (hsz : szHs ks ≤ 1048577) (hok : Ok w) :
    Calls Try.prog 203 #[.slice a ks.length cap, .func (.func gf) #[] lb] w fun e w' => (∃ r, e = .returned (.int .i64 r) ∧ IdxH P ks r) ∧ Below w.heap.size w w' := by
  obtain ⟨hlen, hmax, hrow⟩ := hl
  unfold maxLen at hmax
  have HROW := Lib.hid hrow
  have HP := Lib.hid hp
  have HOK := Lib.hid hok
  have heg := hp.eg
  clear hrow hp hok
  go_enter Try.func203, Try.ntmps203
  go_wp2_with fail
  go_loopw [8, 5] (fun i u wr => ∃ j : Nat, j ≤ ks.length ∧ i = .int .i64 j ∧ (ks.take j).any P = false ∧ Below w.heap.size w wr) (fun i _ _ => ks.length - (intOf i).toNat)
  case atStart => exact ⟨0, Nat.zero_le _, rfl, by simp, Below.refl _ _⟩
  case round =>
    obtain ⟨j, hj, rfl, hno, hb⟩ := hrel
    have HNO := Lib.hid hno
    have HB := Lib.hid hb
    have hsz := hb.size
    clear hno hb
    by_cases hlt : j < ks.length
    · rcases HROW.out with h0 | ⟨b, off, rfl, hbB, hr⟩
      · exfalso; rw [h0] at hlt; simp at hlt
      · obtain ⟨p1, p2, p3, p4, p5, p6, p7, p8, pa, pc, c0, c1, c2, c3, c4, c5, c6, c7, c8, c9, c10, c11, hin⟩ := hr.at' j hlt
        have hcx : ∀ i, wr.cell? ⟨b, i, none⟩ = w.cell? ⟨b, i, none⟩ := fun i => HB.out.cell (p := ⟨b, i, none⟩) hbB.1
        have c0 := (hcx _).trans c0
        have c1 := (hcx _).trans c1
        have c2 := (hcx _).trans c2
        have c3 := (hcx _).trans c3
        have c4 := (hcx _).trans c4
        have c5 := (hcx _).trans c5
        have c6 := (hcx _).trans c6
        have c7 := (hcx _).trans c7
        have c8 := (hcx _).trans c8
        have c9 := (hcx _).trans c9
        have c10 := (hcx _).trans c10
        have c11 := (hcx _).trans c11
        have hszj : ks[j].sz ≤ 1048576 := by
          have g1 := szHin_take_succ ks j hlt
          have g2 := szHin_take_le ks (j + 1)
          have g3 := szHs_length ks
          have g4 : szHs ks = ks.length + szHin ks := by unfold szHin; omega
          omega
        have HIN := Lib.hid hin
        have HNX := Lib.hid (any_take_succH P ks j hlt)
        have HMEM := Lib.hid (List.getElem_mem hlt)
        have hji : (0 : Int) ≤ (j : Int) := by omega
        have hjl : (j : Int) < (ks.length : Int) := by omega
        clear hin hr hcx
        go_wp2_with fail
        refine (HP.out.calls ks[j] HMEM.out _ wr (InH.pl HB.out HIN.out) hszj (HP.out.still _ _ HOK.out HB.out)).mono ?_
        rintro e w1 ⟨rfl, hb1⟩
        have HB1 : Hid (Below w.heap.size w w1) := HB.out.trans (hb1.mono hsz)
        clear hb1 c0 c1 c2 c3 c4 c5 c6 c7 c8 c9 c10 c11
        cases hx : P ks[j] with
        | true =>
          have HY : Hid (IdxH P ks j) := .inr ⟨j, hlt, rfl, hx, HNO.out⟩
          go_wp2_with fail
          go_ret
          exact ⟨⟨_, rfl, HY.out⟩, HB1.out⟩
        | false =>
          have HY : Hid ((ks.take (j + 1)).any P = false) := by unfold Hid; rw [HNX.out, HNO.out, hx]; rfl
          go_wp2_with fail
          go_roundw
          case rel => exact ⟨j + 1, by omega, by go_num, HY.out, HB1.out⟩
          case measure => simp [intOf]; omega
    · obtain rfl : j = ks.length := by omega
      have HY : Hid (IdxH P ks (-1)) := .inl ⟨rfl, by have := HNO.out; rw [List.take_length] at this; exact this⟩
      go_wp2_with fail
      go_ret
      exact ⟨⟨_, rfl, HY.out⟩, HB.out⟩
set_option maxRecDepth 100000 in
set_option maxHeartbeats 1000000 in
theorem containsFuncH_any (gf : Nat) (lb : Array Value) (P : Ht → Bool) (ks : List Ht) (Ok : World → Prop) (hp : PredH gf lb P ks Ok) (a : Option Addr) (cap : Nat) (w : World) (hl : HitsIn (Pl w.heap.size w) w a cap ks) (hsz : szHs ks ≤ 1048577) (hok : Ok w) :
    Calls Try.prog 150 #[.slice a ks.length cap, .func (.func gf) #[] lb] w fun e w' => e = .returned (.bool (ks.any P)) ∧ Below w.heap.size w w' := by
  have HP := Lib.hid hp
  have HL := Lib.hid hl
  have HOK := Lib.hid hok
  clear hp hl hok
  go_enter Try.func150, Try.ntmps150
  go_wp2_with fail
  refine (indexFuncH_any gf lb P ks Ok HP.out a cap w HL.out hsz HOK.out).mono ?_
  rintro e w1 ⟨⟨r, rfl, hi⟩, hb1⟩
  have HI := Lib.hid hi.some
  have HB1 := Lib.hid hb1
  clear hi hb1
  go_wp2_with fail
  go_ret
  exact ⟨ret_bool HI.out, HB1.out⟩
end Go.Proofs.Ytnogpaflibghhaa
