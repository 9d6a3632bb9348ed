/- The contracts of the copies of arguments. -/
import Derived.Test.YtbclgmabidjegaaMids
namespace Go.Proofs.Ytbclgmabidjegaa
open Go.RowKit
set_option linter.unusedVariables false
set_option maxRecDepth 100000 in
set_option maxHeartbeats 400000 in
theorem toIntS_any (φ : Nat → Prop) (l : List Int) (v : Value) (w : World) (hφ : ∀ k, φ k → k < w.heap.size) (hv : IntRow φ w v l) (hlen : l.length ≤ 1048576) :
    Calls Try.prog 68 #[v] w fun e w' => ∃ cap' b', e = .returned (.slice b' l.length cap') ∧
      (∃ bs, IntOwn w' (.slice b' l.length cap') l bs ∧ NewBs bs w.heap.size w'.heap.size ∧ AllPlain w' bs) ∧ Below w.heap.size w w' := by
  obtain ⟨a, cap, rfl, hcap, hmax, hwf, hl⟩ := hv
  unfold maxLen at hmax
  have HWF := Lib.hid hwf
  have HL := Lib.hid hl
  have hmk := fun w => make_ints l.length hlen w
  have hmc : ∀ i, i < l.length → ∃ v, (w.alloc (.cells (madeCells #[.int .i64 0] l.length) 3)).cell? ⟨w.heap.size, i, none⟩ = some v := fun i hi => made_cell w _ _ _ i hi
  have hmf : ∀ i, (w.alloc (.cells (madeCells #[.int .i64 0] l.length) 3)).frozen? ⟨w.heap.size, i, none⟩ = false := fun i => made_free w _ _ _ i
  have HMC := Lib.hid hmc
  have HMF := Lib.hid hmf
  clear hwf hl hmc hmf
  go_enter Try.func68, Try.ntmps68
  go_wp2_with fail
  go_loopw [4] (fun i wr => ∃ j : Nat, j ≤ l.length ∧ i = .int .i64 j ∧ Below w.heap.size w wr ∧ w.heap.size < wr.heap.size ∧
    (∀ i, (h : i < l.length) → i < j → wr.cell? ⟨w.heap.size, i, none⟩ = some (.int .i64 l[i])) ∧ (∀ i, i < l.length → ∃ v, wr.cell? ⟨w.heap.size, i, none⟩ = some v) ∧
    (∀ i, wr.frozen? ⟨w.heap.size, i, none⟩ = false) ∧ Plain wr w.heap.size) (fun i _ => l.length - (intOf i).toNat)
  case atStart => exact ⟨0, Nat.zero_le _, rfl, (Below.refl _ _).alloc (Nat.le_refl _) _, by simp, fun i _ h => by omega, HMC.out, HMF.out, Plain.fresh _ _ _⟩
  case round =>
    obtain ⟨j, hj, rfl, hb, hsz, hdone, hthere, hfree, hpl⟩ := hrel
    have HP := Lib.hid hpl
    have HB := Lib.hid hb
    have HD := Lib.hid hdone
    have HT := Lib.hid hthere
    have HF := Lib.hid hfree
    clear hb hdone hthere hfree hpl
    by_cases hlt : j < l.length
    · rcases HL.out with h0 | ⟨kb, off, rfl, hkb, hrow⟩
      · exfalso; rw [h0] at hlt; simp at hlt
      · have hc : wr.cell? ⟨kb, off + j, none⟩ = some (.int .i64 l[j]) := by
          rw [HB.out.cell (p := ⟨kb, off + j, none⟩) (hφ kb hkb)]; exact hrow j hlt
        obtain ⟨v0, hv0⟩ := HT.out j hlt
        have hf0 := HF.out j
        clear hrow
        go_wp2_with fail
        go_roundw
        case rel =>
          refine ⟨j + 1, by omega, by go_num, HB.out.setCell (Nat.le_refl _) _, by simpa [World.setCell] using hsz, fun i hi hij => ?_, fun i hi => ?_, fun i => by rw [World.frozen?_setCell]; exact HF.out i, HP.out.setCell _ _ _⟩
          · by_cases e : i = j
            · subst e; exact World.cell?_setCell_same _ _ _ hv0
            · rw [World.cell?_setCell_other _ _ _ _ (by intro h; injection h with _ h2; exact e h2.symm)]
              exact HD.out i hi (by omega)
          · by_cases e : i = j
            · subst e; exact ⟨_, World.cell?_setCell_same _ _ _ hv0⟩
            · rw [World.cell?_setCell_other _ _ _ _ (by intro h; injection h with _ h2; exact e h2.symm)]
              exact HT.out i hi
        case measure => simp [intOf]; omega
    · obtain rfl : j = l.length := by omega
      go_wp2_with fail
      go_ret
      refine ⟨_, _, rfl, ?_, HB.out⟩
      by_cases h0 : l = []
      · exact ⟨[], ⟨_, _, rfl, Nat.le_refl _, by unfold maxLen; omega, HWF.out, .inl ⟨h0, rfl⟩⟩, NewBs.nil _ _, AllPlain.nil _⟩
      · exact ⟨[w.heap.size], ⟨_, _, rfl, Nat.le_refl _, by unfold maxLen; omega, HWF.out, .inr ⟨_, 0, rfl, rfl, fun i hi => by rw [Nat.zero_add]; exact ⟨HD.out i hi hi, HF.out i⟩⟩⟩,
          (NewBs.nil _ _).cons (Nat.le_refl _) hsz, (AllPlain.nil _).cons HP.out⟩
/-- a form, copied into blocks of its own -/
def ToSaid (B : Nat) (f : Fm) : Prop := ∀ (v : Value) (w : World), B ≤ w.heap.size → InV (· < B) w f v → f.sz ≤ 1048576 →
    Calls Try.prog 31 #[v] w (ToPost f w)
set_option maxRecDepth 100000 in
set_option maxHeartbeats 400000 in
theorem toFormS_of (B : Nat) (ks : List Fm) (ih : ∀ g ∈ ks, ToSaid B g) (a : Option Addr) (cap : Nat) (w : World) (hB : B ≤ w.heap.size) (hcap : ks.length ≤ cap) (hmax : cap ≤ maxLen)
    (hks : ks = [] ∨ ∃ kb off, a = some ⟨kb, off, none⟩ ∧ kb < B ∧ RowIn (· < B) w kb off ks) (hsz : szAll ks ≤ 1048576) :
    Calls Try.prog 32 #[.slice a ks.length cap] w fun e w' => ∃ a' cap', e = .returned (.slice a' ks.length cap') ∧ ks.length ≤ cap' ∧ cap' ≤ maxLen ∧ 
      (∃ bs, ((ks = [] ∧ bs = []) ∨ ∃ b off bs3, a' = some ⟨b, off, none⟩ ∧ bs = b :: bs3 ∧ RowOwn w' b off ks bs3) ∧ NewBs bs w.heap.size w'.heap.size ∧ AllPlain w' bs) ∧ Below w.heap.size w w' := by
  unfold maxLen at hmax
  have hlen : ks.length ≤ 1048576 := by have := szAll_length ks; omega
  have HIH := Lib.hid ih
  have HKS := Lib.hid hks
  have hmk := fun w => make_forms ks.length hlen w
  have HF0 : Hid (FillAt w (w.alloc (.cells (madeCells zeroFm (ks.length * 5)) 33)) ks 0 []) :=
    ⟨(Below.refl _ _).alloc (Nat.le_refl _) _, by simp, by unfold RowOwn; rfl, NewBs.nil _ _, fun i hi => made_cell w _ _ _ i hi, fun i => made_free w _ _ _ i, Plain.fresh _ _ _, AllPlain.nil _⟩
  clear ih hks
  go_enter Try.func32, Try.ntmps32
  go_wp2_with fail
  go_loopw [4] (fun i wr => ∃ (j : Nat) (bs : List Nat), j ≤ ks.length ∧ i = .int .i64 j ∧ FillAt w wr ks j bs) (fun i _ => ks.length - (intOf i).toNat)
  case atStart => exact ⟨0, [], Nat.zero_le _, rfl, HF0.out⟩
  case round =>
    obtain ⟨j, bs, hj, rfl, hfill⟩ := hrel
    have HF := Lib.hid hfill
    clear hfill
    by_cases hlt : j < ks.length
    · rcases HKS.out with h0 | ⟨kb, off, rfl, hkb, hrow⟩
      · exfalso; rw [h0] at hlt; simp at hlt
      · obtain ⟨ga, gcap, ka, kcap, h0, h1, h2, h3, h4, hin⟩ := (hrow.later (same_below (HF.out.below.mono hB)) kb hkb).at' j hlt
        have HIN := Lib.hid hin
        have HIHJ := Lib.hid (HIH.out ks[j] (List.getElem_mem hlt))
        have hs1 := HF.out.size
        clear hin hrow
        have hszj : ks[j].sz ≤ 1048576 := by
          have g1 := szIn_take_succ ks j hlt
          have g2 := szIn_take_le ks (j + 1)
          have g3 := szAll_length ks
          have g4 : szAll ks = ks.length + szIn ks := by unfold szIn; omega
          omega
        go_wp2_with fail
        refine (HIHJ.out _ _ (by omega) HIN.out hszj).mono ?_
        rintro e w3 ⟨sa, scap, a', cap', bs', rfl, hown, hnew, hpl, hb3⟩
        have HPL := Lib.hid hpl
        have hth : ∀ i, i < 5 → ∃ v, w3.cell? ⟨w.heap.size, j * 5 + i, none⟩ = some v := fun i hi => by
          obtain ⟨v, hv⟩ := HF.out.there (j * 5 + i) (by omega)
          exact ⟨v, cell_later' hb3 hv⟩
        have hfr : ∀ i, w3.frozen? ⟨w.heap.size, i, none⟩ = false := fun i => by
          rw [hb3.frozen (p := ⟨w.heap.size, i, none⟩) hs1]; exact HF.out.free i
        obtain ⟨v0, g0⟩ := hth 0 (by omega)
        obtain ⟨v1, g1⟩ := hth 1 (by omega)
        obtain ⟨v2, g2⟩ := hth 2 (by omega)
        obtain ⟨v3, g3⟩ := hth 3 (by omega)
        obtain ⟨v4, g4⟩ := hth 4 (by omega)
        rw [Nat.add_zero] at g0
        have f0 := hfr (j * 5)
        have f1 := hfr (j * 5 + 1)
        have f2 := hfr (j * 5 + 2)
        have f3 := hfr (j * 5 + 3)
        have f4 := hfr (j * 5 + 4)
        have HO := Lib.hid hown
        have HN := Lib.hid hnew
        have HB3 := Lib.hid hb3
        have HFR := Lib.hid hfr
        clear hown hnew hpl hb3 hth hfr
        go_wp2_with fail
        go_roundw
        case rel => exact ⟨j + 1, bs ++ bs', by omega, by go_num, HF.out.step hlt HB3.out HO.out HN.out HPL.out⟩
        case measure => simp [intOf]; omega
    · obtain rfl : j = ks.length := by omega
      go_wp2_with fail
      go_ret
      refine ⟨_, _, rfl, Nat.le_refl _, by unfold maxLen; omega, ?_, HF.out.below⟩
      by_cases h0 : ks = []
      · exact ⟨[], .inl ⟨h0, rfl⟩, NewBs.nil _ _, AllPlain.nil _⟩
      · refine ⟨w.heap.size :: bs, .inr ⟨_, 0, bs, rfl, rfl, ?_⟩, HF.out.news.cons (Nat.le_refl _) HF.out.size, HF.out.plains.cons HF.out.plain⟩
        have := HF.out.row
        rw [List.take_length] at this
        exact this
set_option maxRecDepth 100000 in
set_option maxHeartbeats 400000 in
theorem toForm_any (B : Nat) (f : Fm) : ToSaid B f := by
  induction f using Fm.ind with
  | h k nm x sc ks ih =>
    intro v w hB hv hsz
    have hsz1 : nm.size + sc.length + szAll ks ≤ 1048576 := by have := hsz; unfold Fm.sz at this; exact this
    unfold InV at hv
    obtain ⟨vs, a, cap, rfl, hkb, hnb, hnm, hvs, hcap, hmax, hks⟩ := hv
    have HVS := Lib.hid hvs
    obtain ⟨sa, scap, rfl, hs1, hs2, _⟩ := hvs
    have HKS := Lib.hid (toFormS_of B ks ih a cap)
    have HKK := Lib.hid hks
    clear hks ih hsz
    go_enter Try.func31, Try.ntmps31
    go_wp2_with fail
    refine (toIntS_any (· < B) sc _ _ (fun k hk => by simp; omega) (HVS.out.later (same_below ((((Below.refl B w).alloc hB _).alloc (by simp; omega) _).alloc (by simp; omega) _))) (by omega)).mono ?_
    rintro e w1 ⟨cap1, a1, rfl, ⟨bs1, ho1, hn1, hp1⟩, hb1⟩
    have HP1 := Lib.hid hp1
    clear hp1
    have cA4 : w1.cell? ⟨w.heap.size, 4, none⟩ = some (.slice a ks.length cap) := (hb1.cell (p := ⟨w.heap.size, 4, none⟩) (by simp; omega)).trans (a3_cell0 _ _ _ _ _ _)
    have cR0 : w1.cell? ⟨w.heap.size + 1, 0, none⟩ = some (.int .i64 0) := (hb1.cell (p := ⟨w.heap.size + 1, 0, none⟩) (by simp)).trans (a3_cell1 _ _ _ _ _ _)
    have fR0 : w1.frozen? ⟨w.heap.size + 1, 0, none⟩ = false := (hb1.frozen (p := ⟨w.heap.size + 1, 0, none⟩) (by simp)).trans (a3_free1 _ _ _ _ _ _)
    have cO0 : w1.cell? ⟨w.heap.size + 1 + 1, 0, none⟩ = some (.int .i64 k) := (hb1.cell (p := ⟨w.heap.size + 1 + 1, 0, none⟩) (by simp)).trans (a3_cell2 _ _ _ _ _ _)
    have fO0 : w1.frozen? ⟨w.heap.size + 1 + 1, 0, none⟩ = false := (hb1.frozen (p := ⟨w.heap.size + 1 + 1, 0, none⟩) (by simp)).trans (a3_free2 _ _ _ _ _ _)
    have cR1 : w1.cell? ⟨w.heap.size + 1, 1, none⟩ = some (.string ByteArray.empty) := (hb1.cell (p := ⟨w.heap.size + 1, 1, none⟩) (by simp)).trans (a3_cell1 _ _ _ _ _ _)
    have fR1 : w1.frozen? ⟨w.heap.size + 1, 1, none⟩ = false := (hb1.frozen (p := ⟨w.heap.size + 1, 1, none⟩) (by simp)).trans (a3_free1 _ _ _ _ _ _)
    have cO1 : w1.cell? ⟨w.heap.size + 1 + 1, 1, none⟩ = some (.string nm) := (hb1.cell (p := ⟨w.heap.size + 1 + 1, 1, none⟩) (by simp)).trans (a3_cell2 _ _ _ _ _ _)
    have fO1 : w1.frozen? ⟨w.heap.size + 1 + 1, 1, none⟩ = false := (hb1.frozen (p := ⟨w.heap.size + 1 + 1, 1, none⟩) (by simp)).trans (a3_free2 _ _ _ _ _ _)
    have cR2 : w1.cell? ⟨w.heap.size + 1, 2, none⟩ = some (.int .i64 0) := (hb1.cell (p := ⟨w.heap.size + 1, 2, none⟩) (by simp)).trans (a3_cell1 _ _ _ _ _ _)
    have fR2 : w1.frozen? ⟨w.heap.size + 1, 2, none⟩ = false := (hb1.frozen (p := ⟨w.heap.size + 1, 2, none⟩) (by simp)).trans (a3_free1 _ _ _ _ _ _)
    have cO2 : w1.cell? ⟨w.heap.size + 1 + 1, 2, none⟩ = some (.int .i64 x) := (hb1.cell (p := ⟨w.heap.size + 1 + 1, 2, none⟩) (by simp)).trans (a3_cell2 _ _ _ _ _ _)
    have fO2 : w1.frozen? ⟨w.heap.size + 1 + 1, 2, none⟩ = false := (hb1.frozen (p := ⟨w.heap.size + 1 + 1, 2, none⟩) (by simp)).trans (a3_free2 _ _ _ _ _ _)
    have cR3 : w1.cell? ⟨w.heap.size + 1, 3, none⟩ = some (.slice none 0 0) := (hb1.cell (p := ⟨w.heap.size + 1, 3, none⟩) (by simp)).trans (a3_cell1 _ _ _ _ _ _)
    have fR3 : w1.frozen? ⟨w.heap.size + 1, 3, none⟩ = false := (hb1.frozen (p := ⟨w.heap.size + 1, 3, none⟩) (by simp)).trans (a3_free1 _ _ _ _ _ _)
    have cO3 : w1.cell? ⟨w.heap.size + 1 + 1, 3, none⟩ = some (.slice none 0 0) := (hb1.cell (p := ⟨w.heap.size + 1 + 1, 3, none⟩) (by simp)).trans (a3_cell2 _ _ _ _ _ _)
    have fO3 : w1.frozen? ⟨w.heap.size + 1 + 1, 3, none⟩ = false := (hb1.frozen (p := ⟨w.heap.size + 1 + 1, 3, none⟩) (by simp)).trans (a3_free2 _ _ _ _ _ _)
    have cR4 : w1.cell? ⟨w.heap.size + 1, 4, none⟩ = some (.slice none 0 0) := (hb1.cell (p := ⟨w.heap.size + 1, 4, none⟩) (by simp)).trans (a3_cell1 _ _ _ _ _ _)
    have fR4 : w1.frozen? ⟨w.heap.size + 1, 4, none⟩ = false := (hb1.frozen (p := ⟨w.heap.size + 1, 4, none⟩) (by simp)).trans (a3_free1 _ _ _ _ _ _)
    have cO4 : w1.cell? ⟨w.heap.size + 1 + 1, 4, none⟩ = some (.slice none 0 0) := (hb1.cell (p := ⟨w.heap.size + 1 + 1, 4, none⟩) (by simp)).trans (a3_cell2 _ _ _ _ _ _)
    have fO4 : w1.frozen? ⟨w.heap.size + 1 + 1, 4, none⟩ = false := (hb1.frozen (p := ⟨w.heap.size + 1 + 1, 4, none⟩) (by simp)).trans (a3_free2 _ _ _ _ _ _)
    have HO1 := Lib.hid ho1
    have HN1 : Hid (NewBs bs1 (w.heap.size + 3) w1.heap.size) := hn1.mono (by simp) (Nat.le_refl _)
    have hsz2 : w.heap.size + 3 ≤ w1.heap.size := by have := hb1.size; simpa using this
    have HB1 : Hid (Below w.heap.size w w1) := ((((Below.refl _ w).alloc (Nat.le_refl _) _).alloc (by simp) _).alloc (by simp; omega) _).trans (hb1.mono (by simp; omega))
    clear ho1 hn1 hb1
    go_wp2_with fail
    refine (HKS.out _ (by simp [World.setCell]; omega) hcap hmax ?_ (by omega)).mono ?_
    · rcases HKK.out with h0 | ⟨kb, off, h0, hkb, hrow⟩
      · exact .inl h0
      · exact .inr ⟨kb, off, h0, hkb, hrow.later (same_below ((HB1.out.mono hB).setCell (p := ⟨w.heap.size + 1 + 1, 3, none⟩) (by simp; omega) _)) kb hkb⟩
    rintro e w2 ⟨a2, cap2, rfl, hc1, hc2, ⟨bs2, ho2, hn2, hp2⟩, hb2⟩
    have HP2 := Lib.hid hp2
    clear hp2
    have hsw : (w1.setCell ⟨w.heap.size + 1 + 1, 3, none⟩ (.slice a1 sc.length cap1)).heap.size = w1.heap.size := by simp [World.setCell]
    have HO2 := Lib.hid ho2
    have HN2 : Hid (NewBs bs2 w1.heap.size w2.heap.size) := by rw [hsw] at hn2; exact hn2
    have HS2 : Hid (w1.heap.size ≤ w2.heap.size) := by have := hb2.size; rw [hsw] at this; exact this
    rw [hsw] at hb2
    have dR0 : w2.cell? ⟨w.heap.size + 1, 0, none⟩ = some (.int .i64 0) := (hb2.cell (p := ⟨w.heap.size + 1, 0, none⟩) (by show w.heap.size + 1 < _; omega)).trans ((World.cell?_setCell_other _ _ _ _ (by intro e; injection e with e1 _; omega)).trans cR0)
    have gR0 : w2.frozen? ⟨w.heap.size + 1, 0, none⟩ = false := (hb2.frozen (p := ⟨w.heap.size + 1, 0, none⟩) (by show w.heap.size + 1 < _; omega)).trans ((World.frozen?_setCell _ _ _ _).trans fR0)
    have dO0 : w2.cell? ⟨w.heap.size + 1 + 1, 0, none⟩ = some (.int .i64 k) := (hb2.cell (p := ⟨w.heap.size + 1 + 1, 0, none⟩) (by show w.heap.size + 1 + 1 < _; omega)).trans ((World.cell?_setCell_other _ _ _ _ (addr_ne (by omega))).trans cO0)
    have gO0 : w2.frozen? ⟨w.heap.size + 1 + 1, 0, none⟩ = false := (hb2.frozen (p := ⟨w.heap.size + 1 + 1, 0, none⟩) (by show w.heap.size + 1 + 1 < _; omega)).trans ((World.frozen?_setCell _ _ _ _).trans fO0)
    have dR1 : w2.cell? ⟨w.heap.size + 1, 1, none⟩ = some (.string ByteArray.empty) := (hb2.cell (p := ⟨w.heap.size + 1, 1, none⟩) (by show w.heap.size + 1 < _; omega)).trans ((World.cell?_setCell_other _ _ _ _ (by intro e; injection e with e1 _; omega)).trans cR1)
    have gR1 : w2.frozen? ⟨w.heap.size + 1, 1, none⟩ = false := (hb2.frozen (p := ⟨w.heap.size + 1, 1, none⟩) (by show w.heap.size + 1 < _; omega)).trans ((World.frozen?_setCell _ _ _ _).trans fR1)
    have dO1 : w2.cell? ⟨w.heap.size + 1 + 1, 1, none⟩ = some (.string nm) := (hb2.cell (p := ⟨w.heap.size + 1 + 1, 1, none⟩) (by show w.heap.size + 1 + 1 < _; omega)).trans ((World.cell?_setCell_other _ _ _ _ (addr_ne (by omega))).trans cO1)
    have gO1 : w2.frozen? ⟨w.heap.size + 1 + 1, 1, none⟩ = false := (hb2.frozen (p := ⟨w.heap.size + 1 + 1, 1, none⟩) (by show w.heap.size + 1 + 1 < _; omega)).trans ((World.frozen?_setCell _ _ _ _).trans fO1)
    have dR2 : w2.cell? ⟨w.heap.size + 1, 2, none⟩ = some (.int .i64 0) := (hb2.cell (p := ⟨w.heap.size + 1, 2, none⟩) (by show w.heap.size + 1 < _; omega)).trans ((World.cell?_setCell_other _ _ _ _ (by intro e; injection e with e1 _; omega)).trans cR2)
    have gR2 : w2.frozen? ⟨w.heap.size + 1, 2, none⟩ = false := (hb2.frozen (p := ⟨w.heap.size + 1, 2, none⟩) (by show w.heap.size + 1 < _; omega)).trans ((World.frozen?_setCell _ _ _ _).trans fR2)
    have dO2 : w2.cell? ⟨w.heap.size + 1 + 1, 2, none⟩ = some (.int .i64 x) := (hb2.cell (p := ⟨w.heap.size + 1 + 1, 2, none⟩) (by show w.heap.size + 1 + 1 < _; omega)).trans ((World.cell?_setCell_other _ _ _ _ (addr_ne (by omega))).trans cO2)
    have gO2 : w2.frozen? ⟨w.heap.size + 1 + 1, 2, none⟩ = false := (hb2.frozen (p := ⟨w.heap.size + 1 + 1, 2, none⟩) (by show w.heap.size + 1 + 1 < _; omega)).trans ((World.frozen?_setCell _ _ _ _).trans fO2)
    have dR3 : w2.cell? ⟨w.heap.size + 1, 3, none⟩ = some (.slice none 0 0) := (hb2.cell (p := ⟨w.heap.size + 1, 3, none⟩) (by show w.heap.size + 1 < _; omega)).trans ((World.cell?_setCell_other _ _ _ _ (by intro e; injection e with e1 _; omega)).trans cR3)
    have gR3 : w2.frozen? ⟨w.heap.size + 1, 3, none⟩ = false := (hb2.frozen (p := ⟨w.heap.size + 1, 3, none⟩) (by show w.heap.size + 1 < _; omega)).trans ((World.frozen?_setCell _ _ _ _).trans fR3)
    have dO3 : w2.cell? ⟨w.heap.size + 1 + 1, 3, none⟩ = some (.slice a1 sc.length cap1) := (hb2.cell (p := ⟨w.heap.size + 1 + 1, 3, none⟩) (by show w.heap.size + 1 + 1 < _; omega)).trans (World.cell?_setCell_same _ _ _ cO3)
    have gO3 : w2.frozen? ⟨w.heap.size + 1 + 1, 3, none⟩ = false := (hb2.frozen (p := ⟨w.heap.size + 1 + 1, 3, none⟩) (by show w.heap.size + 1 + 1 < _; omega)).trans ((World.frozen?_setCell _ _ _ _).trans fO3)
    have dR4 : w2.cell? ⟨w.heap.size + 1, 4, none⟩ = some (.slice none 0 0) := (hb2.cell (p := ⟨w.heap.size + 1, 4, none⟩) (by show w.heap.size + 1 < _; omega)).trans ((World.cell?_setCell_other _ _ _ _ (by intro e; injection e with e1 _; omega)).trans cR4)
    have gR4 : w2.frozen? ⟨w.heap.size + 1, 4, none⟩ = false := (hb2.frozen (p := ⟨w.heap.size + 1, 4, none⟩) (by show w.heap.size + 1 < _; omega)).trans ((World.frozen?_setCell _ _ _ _).trans fR4)
    have dO4 : w2.cell? ⟨w.heap.size + 1 + 1, 4, none⟩ = some (.slice none 0 0) := (hb2.cell (p := ⟨w.heap.size + 1 + 1, 4, none⟩) (by show w.heap.size + 1 + 1 < _; omega)).trans ((World.cell?_setCell_other _ _ _ _ (addr_ne (by omega))).trans cO4)
    have gO4 : w2.frozen? ⟨w.heap.size + 1 + 1, 4, none⟩ = false := (hb2.frozen (p := ⟨w.heap.size + 1 + 1, 4, none⟩) (by show w.heap.size + 1 + 1 < _; omega)).trans ((World.frozen?_setCell _ _ _ _).trans fO4)
    have HB2 := Lib.hid hb2
    clear ho2 hn2 hb2 hsw cA4 cR0 fR0 cO0 fO0 cR1 fR1 cO1 fO1 cR2 fR2 cO2 fO2 cR3 fR3 cO3 fO3 cR4 fR4 cO4 fO4
    go_wp2_with fail
    have hin := set5_in (w2.setCell ⟨w.heap.size + 1 + 1, 4, none⟩ (.slice a2 ks.length cap2)) (w.heap.size + 1) 0 (.int .i64 k) (.string nm) (.int .i64 x) (.slice a1 sc.length cap1) (.slice a2 ks.length cap2)
      (fun j hj => by
        rw [Nat.zero_add, World.cell?_setCell_other _ _ _ _ (by intro e; injection e with e1 _; omega)]
        match j, hj with
        | 0, _ => exact ⟨_, dR0⟩
        | 1, _ => exact ⟨_, dR1⟩
        | 2, _ => exact ⟨_, dR2⟩
        | 3, _ => exact ⟨_, dR3⟩
        | 4, _ => exact ⟨_, dR4⟩)
    obtain ⟨q0, q1, q2, q3, q4⟩ := hin
    unfold set5 at q0 q1 q2 q3 q4
    simp only [Nat.zero_add] at q0 q1 q2 q3 q4
    refine bodyPost_ret (v := .agg #[.int .i64 k, .string nm, .int .i64 x, .slice a1 sc.length cap1, .slice a2 ks.length cap2]) (by simp [results, Try.results31, go_sem, q0, q1, q2, q3, q4]) rfl ?_
    have hF : ∀ b, b ≠ w.heap.size + 1 → b ≠ w.heap.size + 1 + 1 → (set5 (w2.setCell ⟨w.heap.size + 1 + 1, 4, none⟩ (.slice a2 ks.length cap2)) (w.heap.size + 1) 0 (.int .i64 k) (.string nm) (.int .i64 x) (.slice a1 sc.length cap1) (.slice a2 ks.length cap2)).heap[b]? = w2.heap[b]? :=
      fun b h1 h2 => by rw [set5_block _ _ _ _ _ _ _ _ h1, Below.heap_setCell _ _ _ _ h2]
    have hn1 := HN1.out
    have hn2 := HN2.out
    have hs2 := HS2.out
    have s1 : SameOn bs1 w1 (set5 (w2.setCell ⟨w.heap.size + 1 + 1, 4, none⟩ (.slice a2 ks.length cap2)) (w.heap.size + 1) 0 (.int .i64 k) (.string nm) (.int .i64 x) (.slice a1 sc.length cap1) (.slice a2 ks.length cap2)) := fun b hb => by
      have := hn1.2 b hb
      rw [hF b (by omega) (by omega), HB2.out.block b (by omega), Below.heap_setCell _ _ _ _ (show b ≠ w.heap.size + 1 + 1 from by omega)]
    have s2 : SameOn bs2 w2 (set5 (w2.setCell ⟨w.heap.size + 1 + 1, 4, none⟩ (.slice a2 ks.length cap2)) (w.heap.size + 1) 0 (.int .i64 k) (.string nm) (.int .i64 x) (.slice a1 sc.length cap1) (.slice a2 ks.length cap2)) := fun b hb => by
      have := hn2.2 b hb
      exact hF b (by omega) (by omega)
    have hz : (set5 (w2.setCell ⟨w.heap.size + 1 + 1, 4, none⟩ (.slice a2 ks.length cap2)) (w.heap.size + 1) 0 (.int .i64 k) (.string nm) (.int .i64 x) (.slice a1 sc.length cap1) (.slice a2 ks.length cap2)).heap.size = w2.heap.size := by
      rw [set5_size]; simp [World.setCell]
    refine ⟨a1, cap1, a2, cap2, bs1 ++ bs2, rfl, ?_, ?_, (HP1.out.same s1).append (HP2.out.same s2), ?_⟩
    · show OwnV (set5 (w2.setCell ⟨w.heap.size + 1 + 1, 4, none⟩ (.slice a2 ks.length cap2)) (w.heap.size + 1) 0 (.int .i64 k) (.string nm) (.int .i64 x) (.slice a1 sc.length cap1) (.slice a2 ks.length cap2)) _ _ _
      unfold OwnV
      refine ⟨.slice a1 sc.length cap1, a2, cap2, bs1, bs2, rfl, hkb, hnb, hnm, HO1.out.later s1, hc1, hc2, rfl, ?_⟩
      rcases HO2.out with h | ⟨b, off, bs3, h1, rfl, h3⟩
      · exact .inl h
      · exact .inr ⟨b, off, bs3, h1, rfl, RowOwn.later b off ks bs3 s2 h3⟩
    · show NewBs _ _ (set5 (w2.setCell ⟨w.heap.size + 1 + 1, 4, none⟩ (.slice a2 ks.length cap2)) (w.heap.size + 1) 0 (.int .i64 k) (.string nm) (.int .i64 x) (.slice a1 sc.length cap1) (.slice a2 ks.length cap2)).heap.size
      rw [hz]
      exact (hn1.append hn2 (by omega) (by omega)).mono (by omega) (Nat.le_refl _)
    · exact set5_below (((HB1.out.setCell (p := ⟨w.heap.size + 1 + 1, 3, none⟩) (by simp; omega) _).trans (HB2.out.mono (by omega))).setCell (p := ⟨w.heap.size + 1 + 1, 4, none⟩) (by simp; omega) _) (by omega) 0 _ _ _ _ _
end Go.Proofs.Ytbclgmabidjegaa
