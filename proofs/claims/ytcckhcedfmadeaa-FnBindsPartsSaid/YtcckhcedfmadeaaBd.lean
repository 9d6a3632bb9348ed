/- Bindings as data, and the contract of the model's BindsValid. -/
import Derived.Test.YtcckhcedfmadeaaInts
import Derived.Test.YtcckhcedfmadeaaStrs
namespace Go.Proofs.Ytcckhcedfmadeaa
open Go.RowKit
set_option linter.unusedVariables false
set_option linter.unusedSimpArgs false
/-- a binding, as data -/
structure Bd where
  name : ByteArray
  scopes : List Int
  id : Int
/-- the cells of a binding -/
def BdAt (φ : Nat → Prop) (w : World) (b o : Nat) (x : Bd) : Prop :=
  ∃ sa scap, w.cell? ⟨b, o, none⟩ = some (.string x.name) ∧ w.cell? ⟨b, o + 1, none⟩ = some (.slice sa x.scopes.length scap) ∧ w.cell? ⟨b, o + 2, none⟩ = some (.int .i64 x.id) ∧ IntRow φ w (.slice sa x.scopes.length scap) x.scopes
theorem BdAt.later {φ : Nat → Prop} {w w' : World} {b o : Nat} {x : Bd} (h : BdAt φ w b o x) (hb : φ b) (hs : Same φ w w') : BdAt φ w' b o x := by
  obtain ⟨sa, scap, c0, c1, c2, hr⟩ := h
  exact ⟨sa, scap, (World.cell?_of_block (a := ⟨b, o, none⟩) (hs b hb)).trans c0, (World.cell?_of_block (a := ⟨b, o + 1, none⟩) (hs b hb)).trans c1, (World.cell?_of_block (a := ⟨b, o + 2, none⟩) (hs b hb)).trans c2, hr.later hs⟩
/-- a value of type []Bind that reads as bindings -/
def BdRow (φ : Nat → Prop) (w : World) (v : Value) (l : List Bd) : Prop :=
  ∃ a cap, v = .slice a l.length cap ∧ l.length ≤ cap ∧ cap ≤ maxLen ∧ (∀ x ∈ l, x.name.size ≤ maxLen ∧ -9223372036854775808 ≤ x.id ∧ x.id ≤ 9223372036854775807) ∧
    (l = [] ∨ ∃ b off, a = some ⟨b, off, none⟩ ∧ φ b ∧ ∀ i, (h : i < l.length) → BdAt φ w b (off + i * 3) l[i])
theorem BdRow.later {φ : Nat → Prop} {w w' : World} {v : Value} {l : List Bd} (h : BdRow φ w v l) (hs : Same φ w w') : BdRow φ w' v l := by
  obtain ⟨a, cap, rfl, h1, h2, h3, h4⟩ := h
  refine ⟨a, cap, rfl, h1, h2, h3, ?_⟩
  rcases h4 with h4 | ⟨b, off, rfl, hb, h5⟩
  · exact .inl h4
  · exact .inr ⟨b, off, rfl, hb, fun i hi => (h5 i hi).later hb hs⟩
def Bd.same (x y : Bd) : Bool := (x.name.toList == y.name.toList) && (x.scopes == y.scopes)
def Bd.ok (x : Bd) : Bool := nameB x.name.data.toList && (scopesB x.scopes && (decide (1 ≤ x.id) && decide (x.id ≤ 999)))
/-- the bindings in front of place j are valid, and no two of them the same -/
def bindsUp (l : List Bd) (j : Nat) : Bool := (List.range j).all fun i => match l[i]? with
  | some x => x.ok && (l.take i).all fun y => !y.same x
  | none => true
def bindsB (l : List Bd) : Bool := decide (l.length ≤ 60) && bindsUp l l.length
theorem bindsUp_succ (l : List Bd) (j : Nat) (h : j < l.length) : bindsUp l (j + 1) = (bindsUp l j && (l[j].ok && (l.take j).all fun y => !y.same l[j])) := by
  unfold bindsUp
  rw [List.range_succ, List.all_append]
  simp [List.getElem?_eq_getElem h]
theorem bindsUp_no (l : List Bd) (j : Nat) (h : j ≤ l.length) (hn : bindsUp l j = false) : bindsB l = false := by
  unfold bindsB
  have : bindsUp l l.length = false := by
    unfold bindsUp at *
    rw [List.all_eq_false] at *
    obtain ⟨i, hi, h2⟩ := hn
    exact ⟨i, List.mem_range.2 (by have := List.mem_range.1 hi; omega), h2⟩
  rw [this, Bool.and_false]
theorem bd_take_succ (l : List Bd) (x : Bd) (k : Nat) (h : k < l.length) : ((l.take (k + 1)).all fun y => !y.same x) = (((l.take k).all fun y => !y.same x) && !l[k].same x) := by
  rw [List.take_succ_eq_append_getElem h, List.all_append]
  simp
set_option maxRecDepth 100000 in
set_option maxHeartbeats 1000000 in
theorem specBindsValid_any (B : Nat) (l : List Bd) (v : Value) (w : World) (hB : B ≤ w.heap.size) (hv : BdRow (· < B) w v l) :
    Calls Try.prog 25 #[v] w fun e w' => e = .returned (.bool (bindsB l)) ∧ Below w.heap.size w w' := by
  obtain ⟨a, cap, rfl, hcap, hmax, hwf, hrow⟩ := hv
  have HROW := Lib.hid hrow
  clear hrow
  unfold maxLen at hmax
  have HWF := Lib.hid hwf
  clear hwf
  go_enter Try.func25, Try.ntmps25
  go_wp2_with fail
  go_loopw [3] (fun i wr => ∃ j : Nat, j ≤ l.length ∧ j ≤ 61 ∧ i = .int .i64 j ∧ bindsUp l j = true ∧ Below w.heap.size w wr) (fun i _ => l.length - (intOf i).toNat)
  case atStart => exact ⟨0, Nat.zero_le _, by omega, rfl, by simp [bindsUp], Below.refl _ _⟩
  case round =>
    obtain ⟨j, hj, hj61, rfl, hup, hb⟩ := hrel
    have HUP := Lib.hid hup
    have HB := Lib.hid hb
    have hsw := hb.size
    clear hup hb
    by_cases hlt : j < l.length
    · by_cases h60 : j ≤ 60
      · rcases HROW.out with h0 | ⟨b, off, rfl, hbB, hcells⟩
        · exfalso; rw [h0] at hlt; simp at hlt
        · obtain ⟨sa, scap, c0, c1, c2, hr⟩ := (hcells j hlt).later hbB (same_below (HB.out.mono hB))
          have HR := Lib.hid hr
          have HC := Lib.hid hcells
          have HSU := Lib.hid (bindsUp_succ l j hlt)
          have hnm := (HWF.out l[j] (List.getElem_mem hlt)).1
          have HNO : Hid ((l[j].ok && (l.take j).all fun y => !y.same l[j]) = false → bindsB l = false) := fun h => bindsUp_no l (j + 1) (by omega) (by rw [HSU.out, h, Bool.and_false])
          clear hr hcells
          go_wp2_with fail
          refine (specNameValid_any l[j].name wr hnm).mono ?_
          rintro e w1 ⟨rfl, rfl⟩
          cases h1 : nameB l[j].name.data.toList with
          | false =>
            have HE : Hid (bindsB l = false) := HNO.out (by unfold Bd.ok; rw [h1]; rfl)
            clear h1
            go_wp2_with fail
            go_ret
            exact ⟨ret_bool HE.out.symm, HB.out⟩
          | true =>
            go_wp2_with fail
            refine (specScopes_any (· < B) l[j].scopes _ wr HR.out).mono ?_
            rintro e w1 ⟨rfl, hb1⟩
            have d0 := cell_later' hb1 c0
            have d1 := cell_later' hb1 c1
            have d2 := cell_later' hb1 c2
            have hs1 := hb1.size
            have HB1 : Hid (Below w.heap.size w w1) := HB.out.trans (hb1.mono hsw)
            cases h2 : scopesB l[j].scopes with
            | false =>
              have HE : Hid (bindsB l = false) := HNO.out (by unfold Bd.ok; rw [h2]; simp)
              clear h1 h2
              go_wp2_with fail
              go_ret
              exact ⟨ret_bool HE.out.symm, HB1.out⟩
            | true =>
              by_cases h3 : l[j].id < 1
              · have HE : Hid (bindsB l = false) := HNO.out (by unfold Bd.ok; rw [decide_eq_false (show ¬ 1 ≤ l[j].id by omega)]; simp)
                clear h1 h2 hb1 c0 c1 c2
                go_wp2_with fail
                go_ret
                exact ⟨ret_bool HE.out.symm, HB1.out⟩
              · by_cases h4 : l[j].id > 999
                · have HE : Hid (bindsB l = false) := HNO.out (by unfold Bd.ok; rw [decide_eq_false (show ¬ l[j].id ≤ 999 by omega)]; simp)
                  clear h1 h2 hb1 c0 c1 c2
                  go_wp2_with fail
                  go_ret
                  exact ⟨ret_bool HE.out.symm, HB1.out⟩
                · have HOK : Hid (l[j].ok = true) := by unfold Hid Bd.ok; rw [h1, h2, decide_eq_true (show 1 ≤ l[j].id by omega), decide_eq_true (show l[j].id ≤ 999 by omega)]; rfl
                  clear h1 h2 hb1 c0 c1 c2
                  go_wp2_with fail
                  go_loopw [4] (fun i wq => ∃ k : Nat, k ≤ j ∧ i = .int .i64 k ∧ ((l.take k).all fun y => !y.same l[j]) = true ∧ Below w.heap.size w wq) (fun i _ => j - (intOf i).toNat)
                  case atStart => exact ⟨0, Nat.zero_le _, rfl, by simp, HB1.out⟩
                  case round =>
                    clear d0 d1 d2 hs1
                    obtain ⟨k, hk, rfl, hall, hbq⟩ := hrel
                    have HALL := Lib.hid hall
                    have HBQ := Lib.hid hbq
                    have hsq := hbq.size
                    clear hall hbq
                    by_cases hkj : k < j
                    · have hkl : k < l.length := by omega
                      obtain ⟨sa1, scap1, p0, p1, p2, hr1⟩ := (HC.out k hkl).later hbB (same_below (HBQ.out.mono hB))
                      obtain ⟨sa2, scap2, q0, q1, q2, hr2⟩ := (HC.out j hlt).later hbB (same_below (HBQ.out.mono hB))
                      have HR1 := Lib.hid hr1
                      have HR2 := Lib.hid hr2
                      have HTS := Lib.hid (bd_take_succ l l[j] k hkl)
                      clear hr1 hr2
                      cases hn : (l[k].name.toList == l[j].name.toList) with
                      | false =>
                        have HSM : Hid (l[k].same l[j] = false) := by unfold Hid Bd.same; rw [hn]; rfl
                        go_wp2_with fail
                        go_quiet (fail)
                        go_wp2_with fail
                        go_roundw
                        case rel => exact ⟨k + 1, by omega, by go_num, by rw [HTS.out, HALL.out, HSM.out]; rfl, below_drewN HBQ.out _⟩
                        case measure => simp [intOf]; omega
                      | true =>
                        go_wp2_with fail
                        go_still_tail 22, (by kernel_rfl)
                        change wpList _ _ _ _ _ wr.drew
                        go_wp2_with fail
                        refine (l1Ints_any (· < B) (· < B) l[k].scopes l[j].scopes _ _ wr.drew (HR1.out.later (fun _ _ => rfl)) (HR2.out.later (fun _ _ => rfl))).mono ?_
                        rintro e w3 ⟨rfl, hb3⟩
                        have hb3' := below_drew hb3
                        have HB3 : Hid (Below w.heap.size w w3) := HBQ.out.trans (hb3'.mono hsq)
                        clear hb3 hb3' p0 p1 p2 q0 q1 q2
                        cases hs : (l[k].scopes == l[j].scopes) with
                        | true =>
                          have HE : Hid (bindsB l = false) := HNO.out (by
                            rw [HOK.out, Bool.true_and, List.all_eq_false]
                            exact ⟨l[k], by rw [List.mem_iff_getElem]; exact ⟨k, by rw [List.length_take]; omega, by rw [List.getElem_take]⟩, by unfold Bd.same; rw [hn, hs]; simp⟩)
                          clear hs hn
                          go_wp2_with fail
                          go_ret
                          exact ⟨ret_bool HE.out.symm, HB3.out⟩
                        | false =>
                          have HSM : Hid (l[k].same l[j] = false) := by unfold Hid Bd.same; rw [hn, hs]; rfl
                          clear hs
                          go_wp2_with fail
                          go_roundw
                          case rel => exact ⟨k + 1, by omega, by go_num, by rw [HTS.out, HALL.out, HSM.out]; rfl, HB3.out⟩
                          case measure => simp [intOf]; omega
                    · obtain rfl : k = j := by omega
                      have HN : Hid (bindsUp l (k + 1) = true) := by unfold Hid; rw [bindsUp_succ l k hlt, HUP.out, HOK.out, HALL.out]; rfl
                      go_wp2_with fail
                      go_roundw
                      case rel => exact ⟨k + 1, by omega, by omega, by go_num, HN.out, HBQ.out⟩
                      case measure => simp [intOf]; omega
      · have HE : Hid (bindsB l = false) := by unfold Hid bindsB; rw [decide_eq_false (show ¬ l.length ≤ 60 by omega)]; rfl
        have h6 : ¬ l.length ≤ 60 := by omega
        go_wp2_with fail
        go_ret
        exact ⟨ret_bool ((decide_eq_false (by omega)).trans HE.out.symm), HB.out⟩
    · obtain rfl : j = l.length := by omega
      have HE : Hid (bindsB l = decide (l.length ≤ 60)) := by unfold Hid bindsB; rw [HUP.out, Bool.and_true]
      go_wp2_with fail
      go_ret
      exact ⟨ret_bool ((decide_eq_decide.2 (by omega)).trans HE.out.symm), HB.out⟩
end Go.Proofs.Ytcckhcedfmadeaa
