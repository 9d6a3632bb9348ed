/- The contracts of the measures of hits. -/
import Derived.Test.YtlmplfpdmelcjaaHitData
import Derived.Test.YtlmplfpdmelcjaaSz
import Derived.Test.YtlmplfpdmelcjaaData
namespace Go.Proofs.Ytlmplfpdmelcjaa
open Go.RowKit
set_option linter.unusedVariables false
/-- the contract of the measure of a hit -/
def SzSaidH (B : Nat) (f : Ht) : Prop := ∀ (v : Value) (w : World) (l : Int), B ≤ w.heap.size → InH (· < B) w f v → 0 ≤ l ∧ l ≤ 1048576 →
    Calls Try.prog 30 #[v, .int .i64 l] w fun e w' => e = .returned (.int .i64 (leftOf l f.sz)) ∧ Below w.heap.size w w'
set_option maxRecDepth 100000 in
set_option maxHeartbeats 400000 in
theorem szHitS_of (B : Nat) (ks : List Ht) (ih : ∀ g ∈ ks, SzSaidH B g) (a : Option Addr) (cap : Nat) (w : World) (l : Int) (hB : B ≤ w.heap.size) (hcap : ks.length ≤ cap) (hmax : cap ≤ maxLen)
    (hks : ks = [] ∨ ∃ kb off, a = some ⟨kb, off, none⟩ ∧ kb < B ∧ RowH (· < B) w kb off ks) (hl : 0 ≤ l ∧ l ≤ 1048576) :
    Calls Try.prog 15 #[.slice a ks.length cap, .int .i64 l] w fun e w' => e = .returned (.int .i64 (leftOf l (szHs ks))) ∧ Below w.heap.size w w' := by
  unfold maxLen at hmax
  obtain ⟨hl0, hl1⟩ := hl
  have HIH := Lib.hid ih
  have HKS := Lib.hid hks
  have hal := szHs_length ks
  clear ih hks
  by_cases hlen : (ks.length : Int) ≤ l
  · have hd : decide (l - (ks.length : Int) < 0) = false := decide_eq_false (by omega)
    have hsi : szHs ks = ks.length + szHin ks := by unfold szHin; omega
    go_enter Try.func15, Try.ntmps15
    have HSI := Lib.hid hsi
    clear hsi
    go_wp2_with fail
    go_loopw [1, 5] (fun x i wr => ∃ j : Nat, j ≤ ks.length ∧ i = .int .i64 j ∧ x = .int .i64 (l - ks.length - szHin (ks.take j)) ∧ (szHin (ks.take j) : Int) ≤ l - ks.length ∧ Below w.heap.size w wr) (fun _ i _ => ks.length - (intOf i).toNat)
    case atStart => exact ⟨0, Nat.zero_le _, rfl, by simp [szHin, szHs], by simp [szHin, szHs]; omega, Below.refl _ _⟩
    case round =>
      obtain ⟨j, hj, rfl, rfl, hle, hbj⟩ := hrel
      have HBJ := Lib.hid hbj
      clear hbj
      by_cases hlt : j < ks.length
      · rcases HKS.out with h0 | ⟨kb, off, rfl, hkb, hrow⟩
        · exfalso; rw [h0] at hlt; simp at hlt
        · obtain ⟨s1, t1, k1, l1, s2, t2, k2, l2, ga, gcap, h0, h1, h2, h3, h4, h5, h6, h7, h8, h9, h10, h11, hin⟩ := (hrow.later (same_below (HBJ.out.mono hB)) kb hkb).at' j hlt
          have HIN := Lib.hid hin
          have HIHJ := Lib.hid (HIH.out ks[j] (List.getElem_mem hlt))
          have HTS := Lib.hid (szHin_take_succ ks j hlt)
          have hsz1 := HBJ.out.size
          clear hin hrow
          go_wp2_with fail
          refine (HIHJ.out _ _ (l - ks.length - szHin (ks.take j)) (by omega) HIN.out (by omega)).mono ?_
          rintro e w3 ⟨rfl, hb3⟩
          clear h0 h1 h2 h3 h4 h5 h6 h7 h8 h9 h10 h11
          have HB3 : Hid (Below w.heap.size w w3) := HBJ.out.trans (hb3.mono (by omega))
          clear hb3
          by_cases hg : (ks[j].sz : Int) ≤ l - ks.length - szHin (ks.take j)
          · have HG : Hid (leftOf (l - ks.length - szHin (ks.take j)) ks[j].sz = l - ks.length - szHin (ks.take (j + 1))) := by
              unfold Hid leftOf; rw [if_pos hg, HTS.out]; omega
            rw [HG.out]
            have hge : (szHin (ks.take (j + 1)) : Int) ≤ l - ks.length := by have := HTS.out; omega
            clear hg
            go_wp2_with fail
            go_roundw
            case rel => exact ⟨j + 1, by omega, by go_num, rfl, hge, HB3.out⟩
            case measure => simp [intOf]; omega
          · have HG : Hid (leftOf (l - ks.length - szHin (ks.take j)) ks[j].sz = -1) := by
              unfold Hid leftOf; rw [if_neg hg]
            rw [HG.out]
            have HE : Hid (leftOf l (szHs ks) = -1) := by
              unfold Hid leftOf
              have := HTS.out; have := szHin_take_le ks (j + 1); have := HSI.out
              rw [if_neg (by omega)]
            clear hg
            go_wp2_with fail
            go_ret
            exact ⟨ret_int HE.out.symm, HB3.out⟩
      · obtain rfl : j = ks.length := by omega
        have HE : Hid (leftOf l (szHs ks) = l - ks.length - szHin (ks.take ks.length)) := by
          unfold Hid leftOf
          rw [List.take_length] at hle ⊢
          have := HSI.out
          rw [if_pos (by omega)]; omega
        go_wp2_with fail
        go_ret
        exact ⟨ret_int HE.out.symm, HBJ.out⟩
  · have H := Lib.hid hlen
    have hlen' : l < ks.length := by omega
    go_enter Try.func15, Try.ntmps15
    go_wp2_with fail
    go_ret
    exact ⟨ret_int (by unfold leftOf; rw [if_neg (by have := H.out; omega)]), Below.refl _ _⟩
set_option maxRecDepth 100000 in
set_option maxHeartbeats 1000000 in
theorem szHit_any (B : Nat) (f : Ht) : SzSaidH B f := by
  induction f using Ht.ind with
  | h nm d one many ih =>
    intro v w l hB hv hl
    unfold InH at hv
    obtain ⟨s1, t1, k1, l1, s2, t2, k2, l2, a, cap, rfl, hd, hn, ho, hcap, hmax, hks⟩ := hv
    have HN := Lib.hid hn
    have HO := Lib.hid ho
    have HKS := Lib.hid (szHitS_of B many ih a cap)
    have HKK := Lib.hid hks
    have HSZ : Hid ((Ht.mk nm d one many).sz = nm.sz + one.sz + szHs many) := by unfold Hid Ht.sz; rfl
    obtain ⟨hl0, hl1⟩ := hl
    clear hks ih hn ho
    go_enter Try.func30, Try.ntmps30
    go_wp2_with fail
    refine (szForm_any B nm _ _ l (by simp; omega) (InV.later (same_below ((below_alloc w _).mono hB)) _ _ HN.out) (by omega)).mono ?_
    rintro e w1 ⟨rfl, hb1⟩
    have hs1 := hb1.size
    rw [size_alloc'] at hs1
    have y6 : w1.cell? ⟨w.heap.size, 6, none⟩ = some (.int .i64 one.kind) := cell_later' hb1 (by rw [cell_of_row _ _ 6 _ _ _ (heap_alloc_new w _)]; rfl)
    have y7 : w1.cell? ⟨w.heap.size, 7, none⟩ = some (.string one.name) := cell_later' hb1 (by rw [cell_of_row _ _ 7 _ _ _ (heap_alloc_new w _)]; rfl)
    have y8 : w1.cell? ⟨w.heap.size, 8, none⟩ = some (.int .i64 one.n) := cell_later' hb1 (by rw [cell_of_row _ _ 8 _ _ _ (heap_alloc_new w _)]; rfl)
    have y9 : w1.cell? ⟨w.heap.size, 9, none⟩ = some (.slice s2 one.scopes.length t2) := cell_later' hb1 (by rw [cell_of_row _ _ 9 _ _ _ (heap_alloc_new w _)]; rfl)
    have y10 : w1.cell? ⟨w.heap.size, 10, none⟩ = some (.slice k2 one.kids.length l2) := cell_later' hb1 (by rw [cell_of_row _ _ 10 _ _ _ (heap_alloc_new w _)]; rfl)
    have y11 : w1.cell? ⟨w.heap.size, 11, none⟩ = some (.slice a many.length cap) := cell_later' hb1 (by rw [cell_of_row _ _ 11 _ _ _ (heap_alloc_new w _)]; rfl)
    have HB1 : Hid (Below w.heap.size w w1) := (below_alloc w _).trans (hb1.mono (by simp))
    clear hb1
    by_cases h1 : (nm.sz : Int) ≤ l
    · have hg : leftOf l nm.sz = l - nm.sz := by unfold leftOf; rw [if_pos h1]
      rw [hg]
      clear hg
      go_wp2_with fail
      refine (szForm_any B one _ _ (l - nm.sz) (by omega) (InV.later (same_below (HB1.out.mono hB)) _ _ HO.out) (by omega)).mono ?_
      rintro e w2 ⟨rfl, hb2⟩
      have hs2 := hb2.size
      have z11 := cell_later' hb2 y11
      have HB2 : Hid (Below w.heap.size w w2) := HB1.out.trans (hb2.mono (by omega))
      clear hb2 y6 y7 y8 y9 y10 y11
      by_cases h2 : (one.sz : Int) ≤ l - nm.sz
      · have hg : leftOf (l - nm.sz) one.sz = l - nm.sz - one.sz := by unfold leftOf; rw [if_pos h2]
        rw [hg]
        clear hg
        go_wp2_with fail
        refine (HKS.out _ (l - nm.sz - one.sz) (by omega) hcap hmax ?_ (by omega)).mono ?_
        · rcases HKK.out with h0 | ⟨kb, off, h0, hkb, hrow⟩
          · exact .inl h0
          · exact .inr ⟨kb, off, h0, hkb, hrow.later (same_below (HB2.out.mono hB)) kb hkb⟩
        rintro e w3 ⟨rfl, hb3⟩
        have HB3 : Hid (Below w.heap.size w w3) := HB2.out.trans (hb3.mono (by omega))
        clear hb3
        by_cases h3 : (szHs many : Int) ≤ l - nm.sz - one.sz
        · have hg : leftOf (l - nm.sz - one.sz) (szHs many) = l - nm.sz - one.sz - szHs many := by unfold leftOf; rw [if_pos h3]
          rw [hg]
          clear hg
          go_wp2_with fail
          go_ret
          exact ⟨ret_int (by rw [HSZ.out]; unfold leftOf; rw [if_pos (by omega)]; omega), HB3.out⟩
        · have hg : leftOf (l - nm.sz - one.sz) (szHs many) = -1 := by unfold leftOf; rw [if_neg h3]
          rw [hg]
          clear hg
          go_wp2_with fail
          go_ret
          exact ⟨ret_int (by rw [HSZ.out]; unfold leftOf; rw [if_neg (by omega)]), HB3.out⟩
      · have hg : leftOf (l - nm.sz) one.sz = -1 := by unfold leftOf; rw [if_neg h2]
        rw [hg]
        clear hg
        go_wp2_with fail
        go_ret
        exact ⟨ret_int (by rw [HSZ.out]; unfold leftOf; rw [if_neg (by omega)]), HB2.out⟩
    · have hg : leftOf l nm.sz = -1 := by unfold leftOf; rw [if_neg h1]
      rw [hg]
      clear hg
      go_wp2_with fail
      go_ret
      exact ⟨ret_int (by rw [HSZ.out]; unfold leftOf; rw [if_neg (by omega)]), HB1.out⟩
theorem szHitS_row (B : Nat) (l : List Ht) (a : Option Addr) (cap : Nat) (w : World) (m : Int) (hB : B ≤ w.heap.size) (hv : HitsIn (· < B) w a cap l) (hm : 0 ≤ m ∧ m ≤ 1048576) :
    Calls Try.prog 15 #[.slice a l.length cap, .int .i64 m] w fun e w' => e = .returned (.int .i64 (leftOf m (szHs l))) ∧ Below w.heap.size w w' :=
  szHitS_of B l (fun g _ => szHit_any B g) a cap w m hB hv.1 hv.2.1 hv.2.2 hm
end Go.Proofs.Ytlmplfpdmelcjaa
