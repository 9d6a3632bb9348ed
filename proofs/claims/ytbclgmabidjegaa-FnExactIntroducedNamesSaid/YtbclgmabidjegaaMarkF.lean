/- Marks of forms. -/
import Derived.Test.YtbclgmabidjegaaMark
import Derived.Deep.RegionWith
import Derived.StillTailTactics
namespace Go.Proofs.Ytbclgmabidjegaa
open Go.RowKit
set_option linter.unusedVariables false
/-- the contract of the marks of a list of forms -/
def MarkSaid (ks : List Fm) : Prop := ∀ (a : Option Addr) (cap : Nat) (bs : List Nat) (k : Int) (w : World), KidsOwn w a cap ks bs → bs.Nodup → (∀ c ∈ bs, c < w.heap.size) → 1 ≤ k → k + marksAll ks ≤ 1099511627776 →
  Calls Try.prog 37 #[.slice a ks.length cap, .int .i64 k] w
    fun e w' => e = .returned (.int .i64 (k + marksAll ks)) ∧ KidsOwn w' a cap (markedAll ks k) bs ∧ Only bs w w'
set_option maxRecDepth 100000 in
set_option maxHeartbeats 1000000 in
theorem markFormS_of (ks : List Fm) (ih : ∀ g ∈ ks, MarkSaid g.kids) : MarkSaid ks := by
  intro a cap bs k w hv hnd hlt hk hk2
  by_cases hne : ks = []
  · subst hne
    have HV := Lib.hid hv
    obtain ⟨hcap, hmax, _⟩ := hv
    unfold maxLen at hmax
    go_enter Try.func37, Try.ntmps37
    go_wp2
    go_loopw [1, 5] (fun m i wr => m = .int .i64 k ∧ i = .int .i64 0 ∧ wr = w) (fun _ _ _ => 0)
    case atStart => exact ⟨rfl, rfl, rfl⟩
    case round =>
      obtain ⟨rfl, rfl, rfl⟩ := hrel
      go_wp2
      go_ret
      exact ⟨ret_int (by simp [marksAll]), by unfold markedAll; exact HV.out, Only.refl _ _⟩
  · obtain ⟨hcap, hmax, hrow⟩ := hv
    obtain ⟨b, off, bs3, rfl, rfl, hrow1⟩ : ∃ b off bs3, a = some ⟨b, off, none⟩ ∧ bs = b :: bs3 ∧ RowOwn w b off ks bs3 := by
      rcases hrow with h | h
      · exact absurd h.1 hne
      · exact h
    have HCAP := Lib.hid hcap
    have HMAX := Lib.hid hmax
    unfold maxLen at hmax
    have HIH := Lib.hid ih
    have HND := Lib.hid hnd
    have HLT := Lib.hid hlt
    have HST := Lib.hid (MarkMid.start (k := k) hrow1)
    have HK2 := Lib.hid hk2
    clear ih hnd hlt hrow hrow1 hne
    go_enter Try.func37, Try.ntmps37
    go_wp2
    go_loopw [1, 5] (fun m i wr => ∃ j : Nat, j ≤ ks.length ∧ i = .int .i64 j ∧ m = .int .i64 (k + marksAll (ks.take j)) ∧ MarkMid w wr b off ks k j bs3) (fun _ i _ => ks.length - (intOf i).toNat)
    case atStart => exact ⟨0, Nat.zero_le _, rfl, by simp [marksAll], HST.out⟩
    case round =>
      obtain ⟨j, hj, rfl, rfl, hm⟩ := hrel
      have HM := Lib.hid hm
      clear hm
      have hml := marksAll_take_le ks j
      by_cases hlt : j < ks.length
      · obtain ⟨sa, scap, a, kcap, bsc, bsk, c0, c1, c2, c3, c4, hf, hbl, nb1, nb2, l1, l2, hn, hall⟩ := HM.out.step hlt HND.out HLT.out hk hk2
        have HALL := Lib.hid hall
        have hf0 := hf 0 (by omega)
        have hf1 := hf 1 (by omega)
        have hf2 := hf 2 (by omega)
        rw [Nat.add_zero] at hf0
        have hts := marksAll_take_succ ks j hlt
        have hml2 := marksAll_take_le ks (j + 1)
        have hme := marks_eq ks[j]
        have hB' : k + marksAll (ks.take j) + 1 + 1 + 1 + ks[j].scopes.length + marksAll ks[j].kids ≤ 1099511627776 := by omega
        have HTS : Hid (k + marksAll (ks.take (j + 1)) = k + marksAll (ks.take j) + 1 + 1 + 1 + ks[j].scopes.length + marksAll ks[j].kids) := by unfold Hid; omega
        clear hall hf hts hme hml2
        have NB1 := Lib.hid nb1
        have NB2 := Lib.hid nb2
        have L1 := Lib.hid l1
        have L2 := Lib.hid l2
        have HN := Lib.hid hn
        clear nb1 nb2 l1 l2 hn
        go_wp2_with fail
        refine (markText_any (k + marksAll (ks.take j) + 1) _ (by omega) (by omega)).mono ?_
        rintro e W2 ⟨rfl, hb2⟩
        rw [show (wr.setCell ⟨b, off + j * 5, none⟩ (.int .i64 (k + marksAll (ks.take j)))).heap.size = wr.heap.size from by simp [World.setCell]] at hb2
        have d1 := (hb2.cell (p := ⟨b, off + j * 5 + 1, none⟩) hbl).trans ((World.cell?_setCell_other _ _ _ _ (addr_ne (by omega))).trans c1)
        have d2 := (hb2.cell (p := ⟨b, off + j * 5 + 2, none⟩) hbl).trans ((World.cell?_setCell_other _ _ _ _ (addr_ne (by omega))).trans c2)
        have d3 := (hb2.cell (p := ⟨b, off + j * 5 + 3, none⟩) hbl).trans ((World.cell?_setCell_other _ _ _ _ (addr_ne (by omega))).trans c3)
        have e1 := (hb2.frozen (p := ⟨b, off + j * 5 + 1, none⟩) hbl).trans ((World.frozen?_setCell _ _ _ _).trans hf1)
        have e2 := (hb2.frozen (p := ⟨b, off + j * 5 + 2, none⟩) hbl).trans ((World.frozen?_setCell _ _ _ _).trans hf2)
        have HA2 := Lib.hid (HALL.out (mtext (k + marksAll (ks.take j) + 1)) W2 hb2)
        have HB2 := Lib.hid hb2
        clear hb2 c0 c1 c2 c3 c4 hf0 hf1 hf2
        go_wp2_with fail
        obtain ⟨hI3, hall4⟩ := HA2.out
        have HA4 := Lib.hid hall4
        clear hall4
        refine (markIntS_any _ _ _ _ _ hI3 (by omega) (by omega)).mono ?_
        rintro e W4 ⟨rfl, hI4, hO4⟩
        obtain ⟨hK4, f4, hl4, hall5⟩ := HA4.out W4 hO4 hI4
        have HA5 := Lib.hid hall5
        have HK4 := Lib.hid hK4
        have HL4 := Lib.hid hl4
        clear hall5 hI3 hI4 hO4 hK4 hl4 d1 d2 d3 e1 e2
        go_wp2_with fail
        refine (HIH.out ks[j] (List.getElem_mem hlt) _ _ _ _ _ HK4.out HN.out HL4.out (by omega) hB').mono ?_
        rintro e W5 ⟨rfl, hK5, hO5⟩
        have HM5 := Lib.hid (HA5.out trivial W5 hO5 hK5)
        clear hK5 hO5 f4
        go_wp2_with fail
        go_roundw
        case rel => exact ⟨j + 1, by omega, by go_num, by rw [HTS.out], HM5.out⟩
        case measure => simp [intOf]; omega
      · obtain rfl : j = ks.length := by omega
        have HE := Lib.hid HM.out.ends
        have HZ := Lib.hid (List.take_length (l := ks))
        go_wp2
        go_ret
        refine ⟨by first | rfl | (rw [HZ.out]; rfl), ⟨by rw [markedAll_length]; exact HCAP.out, HMAX.out, .inr ⟨b, off, bs3, rfl, rfl, HE.out⟩⟩, HM.out.only⟩
theorem markForms_any (f : Fm) : MarkSaid f.kids := by
  induction f using Fm.ind with
  | h k nm x sc ks ih => exact markFormS_of ks ih
theorem markFormS_any (ks : List Fm) : MarkSaid ks := markFormS_of ks fun g _ => markForms_any g
set_option maxRecDepth 100000 in
set_option maxHeartbeats 400000 in
theorem markForm_any (f : Fm) (v : Value) (bs : List Nat) (k : Int) (w : World) (hv : OwnV w f v bs) (hnd : bs.Nodup) (hlt : ∀ c ∈ bs, c < w.heap.size) (hk : 1 ≤ k) (hk2 : k + f.marks ≤ 1099511627776) :
    Calls Try.prog 36 #[v, .int .i64 k] w
      fun e w' => e = .returned (.int .i64 (k + f.marks)) ∧ OwnV w' (f.marked k) v bs ∧ Only bs w w' := by
  obtain ⟨sa, scap, a, cap, bs1, bs2, rfl, hkd, hn, hnm, hsc, hkids, rfl⟩ := hv.kids
  have hsc' : ∀ O, IntOwn (w.alloc O) (.slice sa f.scopes.length scap) f.scopes bs1 := fun O => hsc.later (SameOn.of_below ((Below.refl _ w).alloc (Nat.le_refl _) _) fun b hb => hlt b (List.mem_append_left _ hb))
  have hkids' : ∀ O, KidsOwn (w.alloc O) a cap f.kids bs2 := fun O => hkids.later (SameOn.of_below ((Below.refl _ w).alloc (Nat.le_refl _) _) fun b hb => hlt b (List.mem_append_right _ hb))
  have hme := marks_eq f
  have HKD := Lib.hid hkd
  have HN := Lib.hid hn
  have HNM := Lib.hid hnm
  have HSC := Lib.hid hsc'
  have HKI := Lib.hid hkids'
  obtain ⟨nd1, nd2, nd3⟩ := List.nodup_append.1 hnd
  have ND2 := Lib.hid nd2
  have ND3 := Lib.hid nd3
  have HLT := Lib.hid hlt
  have HME := Lib.hid hme
  have hb1 : k + f.scopes.length + marksAll f.kids ≤ 1099511627776 := by omega
  clear hkd hn hnm hsc hkids hsc' hkids' nd1 nd2 nd3 hnd hlt hv hk2 hme
  go_enter Try.func36, Try.ntmps36
  go_wp2_with fail
  refine (markIntS_any _ _ _ _ _ (HSC.out _) hk (by omega)).mono ?_
  rintro e W1 ⟨rfl, hI1, hO1⟩
  have h4 : W1.cell? ⟨w.heap.size, 4, none⟩ = some (.slice a f.kids.length cap) := by
    rw [World.cell?_of_block (a := ⟨w.heap.size, 4, none⟩) (hO1.block w.heap.size (by simp) (fun hm => by have := HLT.out _ (List.mem_append_left bs2 hm); omega))]
    simp
  have HI1 := Lib.hid hI1
  have HO1 := Lib.hid hO1
  have HK1 : Hid (KidsOwn W1 a cap f.kids bs2) := (HKI.out _).later (hO1.sameOn fun c hc => ⟨by have := HLT.out c (List.mem_append_right bs1 hc); simp; omega, fun hm => ND3.out c hm c hc rfl⟩)
  clear hI1 hO1
  go_wp2_with fail
  refine (markFormS_any f.kids _ _ _ _ _ HK1.out ND2.out (fun c hc => Nat.lt_of_lt_of_le (HLT.out c (List.mem_append_right bs1 hc)) (by have := HO1.out.size; simp at this; omega)) (by omega) hb1).mono ?_
  rintro e W2 ⟨rfl, hK2, hO2⟩
  have HK2 := Lib.hid hK2
  have HO2 := Lib.hid hO2
  clear hK2 hO2
  go_wp2_with fail
  go_ret
  refine ⟨ret_int (by rw [HME.out]; omega), OwnV.markedMk HKD.out HN.out HNM.out (HI1.out.later (HO2.out.sameOn fun c hc => ⟨Nat.lt_of_lt_of_le (HLT.out c (List.mem_append_left bs2 hc)) (by have := HO1.out.size; simp at this; omega), fun hm => ND3.out c hc c hm rfl⟩)) HK2.out, ?_⟩
  exact (((Only.refl _ w).alloc _).trans (HO1.out.mono fun b hb => List.mem_append_left _ hb)).trans (HO2.out.mono fun b hb => List.mem_append_right _ hb)
end Go.Proofs.Ytbclgmabidjegaa
