/- Marks of hits that are held. -/
import Derived.Test.YtkfolefeehggcaaMarkHit
import Derived.Test.YtkfolefeehggcaaMark2
namespace Go.Proofs.Ytkfolefeehggcaa
open Go.RowKit
set_option linter.unusedVariables false
set_option linter.unusedSimpArgs false
theorem InV.markedAtParts {φ : Nat → Prop} {w : World} {f : Fm} {k : Int} {sa a : Option Addr} {scap cap : Nat} (h : InV φ w (markedAt f k) (.agg #[.int .i64 k, .string (mtext (k + 1)), .int .i64 (k + 1 + 1), .slice sa f.scopes.length scap, .slice a f.kids.length cap])) :
    IntRow φ w (.slice sa f.scopes.length scap) (ramp (k + 1 + 1 + 1) f.scopes.length) ∧ f.kids.length ≤ cap ∧ cap ≤ maxLen ∧ (markedAll f.kids (k + 1 + 1 + 1 + f.scopes.length) = [] ∨ ∃ kb ko, a = some ⟨kb, ko, none⟩ ∧ φ kb ∧ RowIn φ w kb ko (markedAll f.kids (k + 1 + 1 + 1 + f.scopes.length))) := by
  unfold markedAt InV at h
  obtain ⟨vs, a', cap', e, _, _, _, hsc, hl, hm, hks⟩ := h
  injection e with e
  injection e with e
  simp only [List.cons.injEq, and_true, Value.slice.injEq] at e
  obtain ⟨_, _, _, rfl, rfl, _, rfl⟩ := e
  rw [markedAll_length] at hl
  exact ⟨hsc, hl, hm, hks⟩
theorem InH.markedAtParts {φ : Nat → Prop} {w : World} {x : Ht} {k : Int} {s1 k1 s2 k2 a : Option Addr} {t1 l1 t2 l2 cap : Nat} (h : InH φ w (markedHAt x k) (.agg #[.int .i64 (k), .string (mtext (k + 1)), .int .i64 (k + 1 + 1), .slice s1 x.name.scopes.length t1, .slice k1 x.name.kids.length l1, .int .i64 (k + 1 + 1 + 1 + x.name.scopes.length + marksAll x.name.kids), .int .i64 (k + 1 + 1 + 1 + x.name.scopes.length + marksAll x.name.kids + 1), .string (mtext (k + 1 + 1 + 1 + x.name.scopes.length + marksAll x.name.kids + 1 + 1)), .int .i64 (k + 1 + 1 + 1 + x.name.scopes.length + marksAll x.name.kids + 1 + 1 + 1), .slice s2 x.one.scopes.length t2, .slice k2 x.one.kids.length l2, .slice a x.many.length cap])) :
    IntRow φ w (.slice s1 x.name.scopes.length t1) (ramp (k + 1 + 1 + 1) x.name.scopes.length) ∧ (x.name.kids.length ≤ l1 ∧ l1 ≤ maxLen ∧ (markedAll x.name.kids (k + 1 + 1 + 1 + x.name.scopes.length) = [] ∨ ∃ kb ko, k1 = some ⟨kb, ko, none⟩ ∧ φ kb ∧ RowIn φ w kb ko (markedAll x.name.kids (k + 1 + 1 + 1 + x.name.scopes.length)))) ∧
    IntRow φ w (.slice s2 x.one.scopes.length t2) (ramp (k + 1 + 1 + 1 + x.name.scopes.length + marksAll x.name.kids + 1 + 1 + 1 + 1) x.one.scopes.length) ∧ (x.one.kids.length ≤ l2 ∧ l2 ≤ maxLen ∧ (markedAll x.one.kids (k + 1 + 1 + 1 + x.name.scopes.length + marksAll x.name.kids + 1 + 1 + 1 + 1 + x.one.scopes.length) = [] ∨ ∃ kb ko, k2 = some ⟨kb, ko, none⟩ ∧ φ kb ∧ RowIn φ w kb ko (markedAll x.one.kids (k + 1 + 1 + 1 + x.name.scopes.length + marksAll x.name.kids + 1 + 1 + 1 + 1 + x.one.scopes.length)))) ∧
    (x.many.length ≤ cap ∧ cap ≤ maxLen ∧ (markedHs x.many (k + 1 + 1 + 1 + x.name.scopes.length + marksAll x.name.kids + 1 + 1 + 1 + 1 + x.one.scopes.length + marksAll x.one.kids) = [] ∨ ∃ kb ko, a = some ⟨kb, ko, none⟩ ∧ φ kb ∧ RowH φ w kb ko (markedHs x.many (k + 1 + 1 + 1 + x.name.scopes.length + marksAll x.name.kids + 1 + 1 + 1 + 1 + x.one.scopes.length + marksAll x.one.kids)))) := by
  obtain ⟨s1', t1', k1', l1', s2', t2', k2', l2', a', cap', e, _, hn, ho, hl, hm, hr⟩ := h.form
  have e1 : (markedHAt x k).name.scopes.length = x.name.scopes.length := ramp_length _ _
  have e2 : (markedHAt x k).name.kids.length = x.name.kids.length := markedAll_length _ _
  have e3 : (markedHAt x k).one.scopes.length = x.one.scopes.length := ramp_length _ _
  have e4 : (markedHAt x k).one.kids.length = x.one.kids.length := markedAll_length _ _
  have e5 : (markedHAt x k).many.length = x.many.length := markedHs_length _ _
  rw [e1, e2] at hn
  rw [e3, e4] at ho
  rw [e5] at hl
  injection e with e
  injection e with e
  simp only [List.cons.injEq, and_true, Value.slice.injEq] at e
  obtain ⟨_, _, _, ⟨rfl, _, rfl⟩, ⟨rfl, _, rfl⟩, _, _, _, _, ⟨rfl, _, rfl⟩, ⟨rfl, _, rfl⟩, ⟨rfl, _, rfl⟩⟩ := e
  obtain ⟨n1, n2, n3, n4⟩ := InV.markedAtParts (f := x.name) (k := k) hn
  obtain ⟨o1, o2, o3, o4⟩ := InV.markedAtParts (f := x.one) (k := k + 1 + 1 + 1 + x.name.scopes.length + marksAll x.name.kids + 1) ho
  exact ⟨n1, ⟨n2, n3, n4⟩, o1, ⟨o2, o3, o4⟩, ⟨hl, hm, hr⟩⟩
theorem RowH.markedCells {φ : Nat → Prop} {w : World} {b off : Nat} {ks : List Ht} {k : Int} (h : RowH φ w b off (markedHs ks k)) (j : Nat) (hj : j < ks.length) :
    ∃ s1 t1 k1 l1 s2 t2 k2 l2 a cap, w.cell? ⟨b, off + j * 12, none⟩ = some (.int .i64 (k + marksHs (ks.take j))) ∧ w.cell? ⟨b, off + j * 12 + 1, none⟩ = some (.string (mtext (k + marksHs (ks.take j) + 1))) ∧ w.cell? ⟨b, off + j * 12 + 2, none⟩ = some (.int .i64 (k + marksHs (ks.take j) + 1 + 1)) ∧ w.cell? ⟨b, off + j * 12 + 3, none⟩ = some (.slice s1 ks[j].name.scopes.length t1) ∧ w.cell? ⟨b, off + j * 12 + 4, none⟩ = some (.slice k1 ks[j].name.kids.length l1) ∧ w.cell? ⟨b, off + j * 12 + 5, none⟩ = some (.int .i64 (k + marksHs (ks.take j) + 1 + 1 + 1 + ks[j].name.scopes.length + marksAll ks[j].name.kids)) ∧ w.cell? ⟨b, off + j * 12 + 6, none⟩ = some (.int .i64 (k + marksHs (ks.take j) + 1 + 1 + 1 + ks[j].name.scopes.length + marksAll ks[j].name.kids + 1)) ∧ w.cell? ⟨b, off + j * 12 + 7, none⟩ = some (.string (mtext (k + marksHs (ks.take j) + 1 + 1 + 1 + ks[j].name.scopes.length + marksAll ks[j].name.kids + 1 + 1))) ∧ w.cell? ⟨b, off + j * 12 + 8, none⟩ = some (.int .i64 (k + marksHs (ks.take j) + 1 + 1 + 1 + ks[j].name.scopes.length + marksAll ks[j].name.kids + 1 + 1 + 1)) ∧ w.cell? ⟨b, off + j * 12 + 9, none⟩ = some (.slice s2 ks[j].one.scopes.length t2) ∧ w.cell? ⟨b, off + j * 12 + 10, none⟩ = some (.slice k2 ks[j].one.kids.length l2) ∧ w.cell? ⟨b, off + j * 12 + 11, none⟩ = some (.slice a ks[j].many.length cap) ∧ InH φ w (markedHAt ks[j] (k + marksHs (ks.take j))) (.agg #[.int .i64 (k + marksHs (ks.take j)), .string (mtext (k + marksHs (ks.take j) + 1)), .int .i64 (k + marksHs (ks.take j) + 1 + 1), .slice s1 ks[j].name.scopes.length t1, .slice k1 ks[j].name.kids.length l1, .int .i64 (k + marksHs (ks.take j) + 1 + 1 + 1 + ks[j].name.scopes.length + marksAll ks[j].name.kids), .int .i64 (k + marksHs (ks.take j) + 1 + 1 + 1 + ks[j].name.scopes.length + marksAll ks[j].name.kids + 1), .string (mtext (k + marksHs (ks.take j) + 1 + 1 + 1 + ks[j].name.scopes.length + marksAll ks[j].name.kids + 1 + 1)), .int .i64 (k + marksHs (ks.take j) + 1 + 1 + 1 + ks[j].name.scopes.length + marksAll ks[j].name.kids + 1 + 1 + 1), .slice s2 ks[j].one.scopes.length t2, .slice k2 ks[j].one.kids.length l2, .slice a ks[j].many.length cap]) := by
  obtain ⟨s1, t1, k1, l1, s2, t2, k2, l2, a, cap, c0, c1, c2, c3, c4, c5, c6, c7, c8, c9, c10, c11, hin⟩ := h.at' j (by rw [markedHs_length]; exact hj)
  rw [markedHs_get ks k j hj] at c0 c1 c2 c3 c4 c5 c6 c7 c8 c9 c10 c11 hin
  have e1 : (markedHAt ks[j] (k + marksHs (ks.take j))).name.scopes.length = ks[j].name.scopes.length := ramp_length _ _
  have e2 : (markedHAt ks[j] (k + marksHs (ks.take j))).name.kids.length = ks[j].name.kids.length := markedAll_length _ _
  have e3 : (markedHAt ks[j] (k + marksHs (ks.take j))).one.scopes.length = ks[j].one.scopes.length := ramp_length _ _
  have e4 : (markedHAt ks[j] (k + marksHs (ks.take j))).one.kids.length = ks[j].one.kids.length := markedAll_length _ _
  have e5 : (markedHAt ks[j] (k + marksHs (ks.take j))).many.length = ks[j].many.length := markedHs_length _ _
  rw [e1, e2, e3, e4, e5] at hin
  rw [e1] at c3
  rw [e2] at c4
  rw [e3] at c9
  rw [e4] at c10
  rw [e5] at c11
  exact ⟨s1, t1, k1, l1, s2, t2, k2, l2, a, cap, c0, c1, c2, c3, c4, c5, c6, c7, c8, c9, c10, c11, hin⟩
/-- the contract of the look at the marks of a list of hits -/
def HeldSaidH (ks : List Ht) : Prop := ∀ (B : Nat) (a : Option Addr) (cap : Nat) (k : Int) (w : World), B ≤ w.heap.size → ks.length ≤ cap → cap ≤ maxLen →
  (markedHs ks k = [] ∨ ∃ b off, a = some ⟨b, off, none⟩ ∧ b < B ∧ RowH (· < B) w b off (markedHs ks k)) → 1 ≤ k → k + marksHs ks ≤ 1099511627776 →
  Calls Try.prog 87 #[.slice a ks.length cap, .int .i64 k] w fun e w' => e = .returned (.int .i64 (k + marksHs ks)) ∧ Below w.heap.size w w'
set_option maxRecDepth 100000 in
set_option maxHeartbeats 8000000 in
theorem heldHitS_of (ks : List Ht) (ih : ∀ g ∈ ks, HeldSaidH g.many) : HeldSaidH ks := by
  intro B a cap k w hB hcap hmax hrow hk hk2
  unfold maxLen at hmax
  have HIH := Lib.hid ih
  have HROW := Lib.hid hrow
  clear ih hrow
  go_enter Try.func87, Try.ntmps87
  go_wp2
  go_loopw [1, 5] (fun m i wr => ∃ j : Nat, j ≤ ks.length ∧ i = .int .i64 j ∧ m = .int .i64 (k + marksHs (ks.take j)) ∧ Below w.heap.size w wr) (fun _ i _ => ks.length - (intOf i).toNat)
  case atStart => exact ⟨0, Nat.zero_le _, rfl, by simp [marksHs], Below.refl _ _⟩
  case round =>
    obtain ⟨j, hj, rfl, rfl, hb⟩ := hrel
    have HB := Lib.hid hb
    have hsz := hb.size
    clear hb
    have hml := marksHs_take_le ks j
    by_cases hlt : j < ks.length
    · rcases HROW.out with h0 | ⟨b, off, rfl, hbB, hrow⟩
      · exfalso; have := markedHs_length ks k; rw [h0] at this; simp at this; omega
      · obtain ⟨s1, t1, k1, l1, s2, t2, k2, l2, a, cap, c0, c1, c2, c3, c4, c5, c6, c7, c8, c9, c10, c11, hin⟩ := (hrow.later (same_below (HB.out.mono hB)) b hbB).markedCells j hlt
        obtain ⟨hI1, hK1, hI2, hK2, hM⟩ := InH.markedAtParts hin
        have hts := marksHs_take_succ ks j hlt
        have hml2 := marksHs_take_le ks (j + 1)
        have hme := Ht.marks_eq ks[j]
        have hmd := marks_eq ks[j].name
        have hmo := marks_eq ks[j].one
        have hB' : k + marksHs (ks.take j) + 1 + 1 + 1 + ks[j].name.scopes.length + marksAll ks[j].name.kids + 1 + 1 + 1 + 1 + ks[j].one.scopes.length + marksAll ks[j].one.kids + marksHs ks[j].many ≤ 1099511627776 := by omega
        have HTS : Hid (k + marksHs (ks.take (j + 1)) = k + marksHs (ks.take j) + 1 + 1 + 1 + ks[j].name.scopes.length + marksAll ks[j].name.kids + 1 + 1 + 1 + 1 + ks[j].one.scopes.length + marksAll ks[j].one.kids + marksHs ks[j].many) := by unfold Hid; omega
        have HI1 := Lib.hid hI1
        have HK1 := Lib.hid hK1
        have HI2 := Lib.hid hI2
        have HK2 := Lib.hid hK2
        have HM := Lib.hid hM
        have hbl : b < wr.heap.size := by omega
        have hj0 : (0 : Int) ≤ (j : Int) := by omega
        have hj1 : (j : Int) < (ks.length : Int) := by omega
        clear hts hme hmd hmo hml2 hI1 hK1 hI2 hK2 hM hrow hin
        go_wp2_with fail
        refine upto_begin (fun W => W.cell? ⟨b, off + j * 12, none⟩ = some (.int .i64 (k + marksHs (ks.take j))) ∧ W.cell? ⟨b, off + j * 12 + 1, none⟩ = some (.string (mtext (k + marksHs (ks.take j) + 1))) ∧ W.cell? ⟨b, off + j * 12 + 2, none⟩ = some (.int .i64 (k + marksHs (ks.take j) + 1 + 1)) ∧ W.cell? ⟨b, off + j * 12 + 3, none⟩ = some (.slice s1 ks[j].name.scopes.length t1) ∧ W.cell? ⟨b, off + j * 12 + 4, none⟩ = some (.slice k1 ks[j].name.kids.length l1) ∧ W.cell? ⟨b, off + j * 12 + 5, none⟩ = some (.int .i64 (k + marksHs (ks.take j) + 1 + 1 + 1 + ks[j].name.scopes.length + marksAll ks[j].name.kids)) ∧ W.cell? ⟨b, off + j * 12 + 6, none⟩ = some (.int .i64 (k + marksHs (ks.take j) + 1 + 1 + 1 + ks[j].name.scopes.length + marksAll ks[j].name.kids + 1)) ∧ W.cell? ⟨b, off + j * 12 + 7, none⟩ = some (.string (mtext (k + marksHs (ks.take j) + 1 + 1 + 1 + ks[j].name.scopes.length + marksAll ks[j].name.kids + 1 + 1))) ∧ W.cell? ⟨b, off + j * 12 + 8, none⟩ = some (.int .i64 (k + marksHs (ks.take j) + 1 + 1 + 1 + ks[j].name.scopes.length + marksAll ks[j].name.kids + 1 + 1 + 1)) ∧ W.cell? ⟨b, off + j * 12 + 9, none⟩ = some (.slice s2 ks[j].one.scopes.length t2) ∧ W.cell? ⟨b, off + j * 12 + 10, none⟩ = some (.slice k2 ks[j].one.kids.length l2) ∧ W.cell? ⟨b, off + j * 12 + 11, none⟩ = some (.slice a ks[j].many.length cap)) 9 (by kernel_rfl) ?_
        obtain ⟨u, hu⟩ : ∃ u, u = wr.drew := ⟨_, rfl⟩
        rw [← hu]
        have hb : Below wr.heap.size wr u := by rw [hu]; exact (Below.refl _ _).drew
        have hsu : wr.heap.size ≤ u.heap.size := hb.size
        have hS0 : (fun W => W.cell? ⟨b, off + j * 12, none⟩ = some (.int .i64 (k + marksHs (ks.take j))) ∧ W.cell? ⟨b, off + j * 12 + 1, none⟩ = some (.string (mtext (k + marksHs (ks.take j) + 1))) ∧ W.cell? ⟨b, off + j * 12 + 2, none⟩ = some (.int .i64 (k + marksHs (ks.take j) + 1 + 1)) ∧ W.cell? ⟨b, off + j * 12 + 3, none⟩ = some (.slice s1 ks[j].name.scopes.length t1) ∧ W.cell? ⟨b, off + j * 12 + 4, none⟩ = some (.slice k1 ks[j].name.kids.length l1) ∧ W.cell? ⟨b, off + j * 12 + 5, none⟩ = some (.int .i64 (k + marksHs (ks.take j) + 1 + 1 + 1 + ks[j].name.scopes.length + marksAll ks[j].name.kids)) ∧ W.cell? ⟨b, off + j * 12 + 6, none⟩ = some (.int .i64 (k + marksHs (ks.take j) + 1 + 1 + 1 + ks[j].name.scopes.length + marksAll ks[j].name.kids + 1)) ∧ W.cell? ⟨b, off + j * 12 + 7, none⟩ = some (.string (mtext (k + marksHs (ks.take j) + 1 + 1 + 1 + ks[j].name.scopes.length + marksAll ks[j].name.kids + 1 + 1))) ∧ W.cell? ⟨b, off + j * 12 + 8, none⟩ = some (.int .i64 (k + marksHs (ks.take j) + 1 + 1 + 1 + ks[j].name.scopes.length + marksAll ks[j].name.kids + 1 + 1 + 1)) ∧ W.cell? ⟨b, off + j * 12 + 9, none⟩ = some (.slice s2 ks[j].one.scopes.length t2) ∧ W.cell? ⟨b, off + j * 12 + 10, none⟩ = some (.slice k2 ks[j].one.kids.length l2) ∧ W.cell? ⟨b, off + j * 12 + 11, none⟩ = some (.slice a ks[j].many.length cap)) u := ⟨cell_later' hb c0, cell_later' hb c1, cell_later' hb c2, cell_later' hb c3, cell_later' hb c4, cell_later' hb c5, cell_later' hb c6, cell_later' hb c7, cell_later' hb c8, cell_later' hb c9, cell_later' hb c10, cell_later' hb c11⟩
        have HBU : Hid (Below wr.heap.size wr u) := (Below.refl wr.heap.size wr).trans (hb.mono (by omega))
        clear hb hu c0 c1 c2 c3 c4 c5 c6 c7 c8 c9 c10 c11
        refine upto_take (i := 0) (d := some 22) (v := ?_) rfl rfl (by kernel_rfl) (by kernel_rfl) (by kernel_rfl) (by kernel_rfl) (fun _ _ _ h => h) (Or.inl ⟨by rfl, ?_⟩) hS0 ?_
        rotate_left
        · (intro wS hSw; obtain ⟨_, _, _, _, _, _, _, _, _, _, _, _⟩ := hSw; go_simp; try with_reducible rfl)
        try simp only [Act.put, List.setIfInBounds_toArray, List.set_cons_zero, List.set_cons_succ]
        refine upto_take (i := 1) (d := some 23) (v := ?_) rfl rfl (by kernel_rfl) (by kernel_rfl) (by kernel_rfl) (by kernel_rfl) (fun _ _ _ h => h) (Or.inl ⟨by rfl, ?_⟩) hS0 ?_
        rotate_left
        · (intro wS hSw; obtain ⟨_, _, _, _, _, _, _, _, _, _, _, _⟩ := hSw; go_simp; try with_reducible rfl)
        try simp only [Act.put, List.setIfInBounds_toArray, List.set_cons_zero, List.set_cons_succ]
        refine upto_take (i := 2) (d := some 24) (v := ?_) rfl rfl (by kernel_rfl) (by kernel_rfl) (by kernel_rfl) (by kernel_rfl) (fun _ _ _ h => h) (Or.inl ⟨by rfl, ?_⟩) hS0 ?_
        rotate_left
        · (intro wS hSw; obtain ⟨_, _, _, _, _, _, _, _, _, _, _, _⟩ := hSw; go_simp; try with_reducible rfl)
        try simp only [Act.put, List.setIfInBounds_toArray, List.set_cons_zero, List.set_cons_succ]
        refine upto_take (i := 3) (d := some 25) (v := ?_) rfl rfl (by kernel_rfl) (by kernel_rfl) (by kernel_rfl) (by kernel_rfl) (fun _ _ _ h => h) (Or.inl ⟨by rfl, ?_⟩) hS0 ?_
        rotate_left
        · (intro wS hSw; obtain ⟨_, _, _, _, _, _, _, _, _, _, _, _⟩ := hSw; go_simp; try with_reducible rfl)
        try simp only [Act.put, List.setIfInBounds_toArray, List.set_cons_zero, List.set_cons_succ]
        refine upto_take (i := 4) (d := some 26) (v := ?_) rfl rfl (by kernel_rfl) (by kernel_rfl) (by kernel_rfl) (by kernel_rfl) (fun _ _ _ h => h) (Or.inl ⟨by rfl, ?_⟩) hS0 ?_
        rotate_left
        · (intro wS hSw; obtain ⟨_, _, _, _, _, _, _, _, _, _, _, _⟩ := hSw; go_simp; try with_reducible rfl)
        try simp only [Act.put, List.setIfInBounds_toArray, List.set_cons_zero, List.set_cons_succ]
        refine upto_take (i := 5) (d := some 27) (v := ?_) rfl rfl (by kernel_rfl) (by kernel_rfl) (by kernel_rfl) (by kernel_rfl) (fun _ _ _ h => h) (Or.inl ⟨by rfl, ?_⟩) hS0 ?_
        rotate_left
        · (intro wS hSw; obtain ⟨_, _, _, _, _, _, _, _, _, _, _, _⟩ := hSw; go_simp; try with_reducible rfl)
        try simp only [Act.put, List.setIfInBounds_toArray, List.set_cons_zero, List.set_cons_succ]
        refine upto_take (i := 6) (d := some 28) (v := ?_) rfl rfl (by kernel_rfl) (by kernel_rfl) (by kernel_rfl) (by kernel_rfl) (fun _ _ _ h => h) (Or.inl ⟨by rfl, ?_⟩) hS0 ?_
        rotate_left
        · (intro wS hSw; obtain ⟨_, _, _, _, _, _, _, _, _, _, _, _⟩ := hSw; go_simp; try with_reducible rfl)
        try simp only [Act.put, List.setIfInBounds_toArray, List.set_cons_zero, List.set_cons_succ]
        refine upto_one (i := 7) (by kernel_rfl) rfl (fun K hK => ?_)
        go_simp
        refine (markText_any (k + marksHs (ks.take j) + 1) u (by omega) (by omega)).mono ?_
        rintro e w1 ⟨rfl, hb⟩
        have hs_w1 : u.heap.size ≤ w1.heap.size := hb.size
        obtain ⟨c0, c1, c2, c3, c4, c5, c6, c7, c8, c9, c10, c11⟩ := hS0
        have c0 := cell_later' hb c0
        have c1 := cell_later' hb c1
        have c2 := cell_later' hb c2
        have c3 := cell_later' hb c3
        have c4 := cell_later' hb c4
        have c5 := cell_later' hb c5
        have c6 := cell_later' hb c6
        have c7 := cell_later' hb c7
        have c8 := cell_later' hb c8
        have c9 := cell_later' hb c9
        have c10 := cell_later' hb c10
        have c11 := cell_later' hb c11
        have hS1 : (fun W => W.cell? ⟨b, off + j * 12, none⟩ = some (.int .i64 (k + marksHs (ks.take j))) ∧ W.cell? ⟨b, off + j * 12 + 1, none⟩ = some (.string (mtext (k + marksHs (ks.take j) + 1))) ∧ W.cell? ⟨b, off + j * 12 + 2, none⟩ = some (.int .i64 (k + marksHs (ks.take j) + 1 + 1)) ∧ W.cell? ⟨b, off + j * 12 + 3, none⟩ = some (.slice s1 ks[j].name.scopes.length t1) ∧ W.cell? ⟨b, off + j * 12 + 4, none⟩ = some (.slice k1 ks[j].name.kids.length l1) ∧ W.cell? ⟨b, off + j * 12 + 5, none⟩ = some (.int .i64 (k + marksHs (ks.take j) + 1 + 1 + 1 + ks[j].name.scopes.length + marksAll ks[j].name.kids)) ∧ W.cell? ⟨b, off + j * 12 + 6, none⟩ = some (.int .i64 (k + marksHs (ks.take j) + 1 + 1 + 1 + ks[j].name.scopes.length + marksAll ks[j].name.kids + 1)) ∧ W.cell? ⟨b, off + j * 12 + 7, none⟩ = some (.string (mtext (k + marksHs (ks.take j) + 1 + 1 + 1 + ks[j].name.scopes.length + marksAll ks[j].name.kids + 1 + 1))) ∧ W.cell? ⟨b, off + j * 12 + 8, none⟩ = some (.int .i64 (k + marksHs (ks.take j) + 1 + 1 + 1 + ks[j].name.scopes.length + marksAll ks[j].name.kids + 1 + 1 + 1)) ∧ W.cell? ⟨b, off + j * 12 + 9, none⟩ = some (.slice s2 ks[j].one.scopes.length t2) ∧ W.cell? ⟨b, off + j * 12 + 10, none⟩ = some (.slice k2 ks[j].one.kids.length l2) ∧ W.cell? ⟨b, off + j * 12 + 11, none⟩ = some (.slice a ks[j].many.length cap)) w1 := ⟨c0, c1, c2, c3, c4, c5, c6, c7, c8, c9, c10, c11⟩
        have HB_w1 : Hid (Below wr.heap.size wr w1) := HBU.out.trans (hb.mono (by omega))
        refine hK.out _ _ (.inr hS1) ?_
        clear hK K hb HBU
        refine upto_one (i := 8) (by kernel_rfl) rfl (fun K hK => ?_)
        go_simp
        refine hK.out _ _ (.inr hS1) ?_
        clear hK K hS1
        refine upto_done (by kernel_rfl) ?_ _
        have hbl : b < w1.heap.size := by omega
        go_wp2_with fail
        refine (heldIntS_any (· < B) ks[j].name.scopes.length _ _ w1 (HI1.out.later (same_below (HB_w1.out.mono (by omega)))) (by omega) (by omega)).mono ?_
        rintro e w' ⟨rfl, rfl⟩
        have hpos_i1 : 0 ≤ k + marksHs (ks.take j) + 1 + 1 + 1 + ks[j].name.scopes.length := by omega
        go_wp2_with fail
        refine (heldFormS_any ks[j].name.kids B _ _ _ w1 (by omega) HK1.out.1 HK1.out.2.1 ?_ (by omega) (by omega)).mono ?_
        · rcases HK1.out.2.2 with h | ⟨kb, ko, h1, h2, h3⟩
          · exact .inl h
          · exact .inr ⟨kb, ko, h1, h2, h3.later (same_below (HB_w1.out.mono (by omega))) kb h2⟩
        rintro e w2 ⟨rfl, hb⟩
        have hs_w2 : w1.heap.size ≤ w2.heap.size := hb.size
        have c0 := cell_later' hb c0
        have c1 := cell_later' hb c1
        have c2 := cell_later' hb c2
        have c3 := cell_later' hb c3
        have c4 := cell_later' hb c4
        have c5 := cell_later' hb c5
        have c6 := cell_later' hb c6
        have c7 := cell_later' hb c7
        have c8 := cell_later' hb c8
        have c9 := cell_later' hb c9
        have c10 := cell_later' hb c10
        have c11 := cell_later' hb c11
        have HB_w2 : Hid (Below wr.heap.size wr w2) := HB_w1.out.trans (hb.mono (by omega))
        clear hb
        have hpos_k1 : 0 ≤ k + marksHs (ks.take j) + 1 + 1 + 1 + ks[j].name.scopes.length + marksAll ks[j].name.kids := by omega
        have hbl : b < w2.heap.size := by omega
        go_wp2_with fail
        refine upto_begin (fun W => W.cell? ⟨b, off + j * 12, none⟩ = some (.int .i64 (k + marksHs (ks.take j))) ∧ W.cell? ⟨b, off + j * 12 + 1, none⟩ = some (.string (mtext (k + marksHs (ks.take j) + 1))) ∧ W.cell? ⟨b, off + j * 12 + 2, none⟩ = some (.int .i64 (k + marksHs (ks.take j) + 1 + 1)) ∧ W.cell? ⟨b, off + j * 12 + 3, none⟩ = some (.slice s1 ks[j].name.scopes.length t1) ∧ W.cell? ⟨b, off + j * 12 + 4, none⟩ = some (.slice k1 ks[j].name.kids.length l1) ∧ W.cell? ⟨b, off + j * 12 + 5, none⟩ = some (.int .i64 (k + marksHs (ks.take j) + 1 + 1 + 1 + ks[j].name.scopes.length + marksAll ks[j].name.kids)) ∧ W.cell? ⟨b, off + j * 12 + 6, none⟩ = some (.int .i64 (k + marksHs (ks.take j) + 1 + 1 + 1 + ks[j].name.scopes.length + marksAll ks[j].name.kids + 1)) ∧ W.cell? ⟨b, off + j * 12 + 7, none⟩ = some (.string (mtext (k + marksHs (ks.take j) + 1 + 1 + 1 + ks[j].name.scopes.length + marksAll ks[j].name.kids + 1 + 1))) ∧ W.cell? ⟨b, off + j * 12 + 8, none⟩ = some (.int .i64 (k + marksHs (ks.take j) + 1 + 1 + 1 + ks[j].name.scopes.length + marksAll ks[j].name.kids + 1 + 1 + 1)) ∧ W.cell? ⟨b, off + j * 12 + 9, none⟩ = some (.slice s2 ks[j].one.scopes.length t2) ∧ W.cell? ⟨b, off + j * 12 + 10, none⟩ = some (.slice k2 ks[j].one.kids.length l2) ∧ W.cell? ⟨b, off + j * 12 + 11, none⟩ = some (.slice a ks[j].many.length cap)) 9 (by kernel_rfl) ?_
        obtain ⟨u, hu⟩ : ∃ u, u = w2.drew := ⟨_, rfl⟩
        rw [← hu]
        have hb : Below w2.heap.size w2 u := by rw [hu]; exact (Below.refl _ _).drew
        have hsu : w2.heap.size ≤ u.heap.size := hb.size
        have hS0 : (fun W => W.cell? ⟨b, off + j * 12, none⟩ = some (.int .i64 (k + marksHs (ks.take j))) ∧ W.cell? ⟨b, off + j * 12 + 1, none⟩ = some (.string (mtext (k + marksHs (ks.take j) + 1))) ∧ W.cell? ⟨b, off + j * 12 + 2, none⟩ = some (.int .i64 (k + marksHs (ks.take j) + 1 + 1)) ∧ W.cell? ⟨b, off + j * 12 + 3, none⟩ = some (.slice s1 ks[j].name.scopes.length t1) ∧ W.cell? ⟨b, off + j * 12 + 4, none⟩ = some (.slice k1 ks[j].name.kids.length l1) ∧ W.cell? ⟨b, off + j * 12 + 5, none⟩ = some (.int .i64 (k + marksHs (ks.take j) + 1 + 1 + 1 + ks[j].name.scopes.length + marksAll ks[j].name.kids)) ∧ W.cell? ⟨b, off + j * 12 + 6, none⟩ = some (.int .i64 (k + marksHs (ks.take j) + 1 + 1 + 1 + ks[j].name.scopes.length + marksAll ks[j].name.kids + 1)) ∧ W.cell? ⟨b, off + j * 12 + 7, none⟩ = some (.string (mtext (k + marksHs (ks.take j) + 1 + 1 + 1 + ks[j].name.scopes.length + marksAll ks[j].name.kids + 1 + 1))) ∧ W.cell? ⟨b, off + j * 12 + 8, none⟩ = some (.int .i64 (k + marksHs (ks.take j) + 1 + 1 + 1 + ks[j].name.scopes.length + marksAll ks[j].name.kids + 1 + 1 + 1)) ∧ W.cell? ⟨b, off + j * 12 + 9, none⟩ = some (.slice s2 ks[j].one.scopes.length t2) ∧ W.cell? ⟨b, off + j * 12 + 10, none⟩ = some (.slice k2 ks[j].one.kids.length l2) ∧ W.cell? ⟨b, off + j * 12 + 11, none⟩ = some (.slice a ks[j].many.length cap)) u := ⟨cell_later' hb c0, cell_later' hb c1, cell_later' hb c2, cell_later' hb c3, cell_later' hb c4, cell_later' hb c5, cell_later' hb c6, cell_later' hb c7, cell_later' hb c8, cell_later' hb c9, cell_later' hb c10, cell_later' hb c11⟩
        have HBU : Hid (Below wr.heap.size wr u) := HB_w2.out.trans (hb.mono (by omega))
        clear hb hu c0 c1 c2 c3 c4 c5 c6 c7 c8 c9 c10 c11
        refine upto_take (i := 0) (d := some 82) (v := ?_) rfl rfl (by kernel_rfl) (by kernel_rfl) (by kernel_rfl) (by kernel_rfl) (fun _ _ _ h => h) (Or.inl ⟨by rfl, ?_⟩) hS0 ?_
        rotate_left
        · (intro wS hSw; obtain ⟨_, _, _, _, _, _, _, _, _, _, _, _⟩ := hSw; go_simp; try with_reducible rfl)
        try simp only [Act.put, List.setIfInBounds_toArray, List.set_cons_zero, List.set_cons_succ]
        refine upto_take (i := 1) (d := some 83) (v := ?_) rfl rfl (by kernel_rfl) (by kernel_rfl) (by kernel_rfl) (by kernel_rfl) (fun _ _ _ h => h) (Or.inl ⟨by rfl, ?_⟩) hS0 ?_
        rotate_left
        · (intro wS hSw; obtain ⟨_, _, _, _, _, _, _, _, _, _, _, _⟩ := hSw; go_simp; try with_reducible rfl)
        try simp only [Act.put, List.setIfInBounds_toArray, List.set_cons_zero, List.set_cons_succ]
        refine upto_take (i := 2) (d := some 84) (v := ?_) rfl rfl (by kernel_rfl) (by kernel_rfl) (by kernel_rfl) (by kernel_rfl) (fun _ _ _ h => h) (Or.inl ⟨by rfl, ?_⟩) hS0 ?_
        rotate_left
        · (intro wS hSw; obtain ⟨_, _, _, _, _, _, _, _, _, _, _, _⟩ := hSw; go_simp; try with_reducible rfl)
        try simp only [Act.put, List.setIfInBounds_toArray, List.set_cons_zero, List.set_cons_succ]
        refine upto_take (i := 3) (d := some 85) (v := ?_) rfl rfl (by kernel_rfl) (by kernel_rfl) (by kernel_rfl) (by kernel_rfl) (fun _ _ _ h => h) (Or.inl ⟨by rfl, ?_⟩) hS0 ?_
        rotate_left
        · (intro wS hSw; obtain ⟨_, _, _, _, _, _, _, _, _, _, _, _⟩ := hSw; go_simp; try with_reducible rfl)
        try simp only [Act.put, List.setIfInBounds_toArray, List.set_cons_zero, List.set_cons_succ]
        refine upto_take (i := 4) (d := some 86) (v := ?_) rfl rfl (by kernel_rfl) (by kernel_rfl) (by kernel_rfl) (by kernel_rfl) (fun _ _ _ h => h) (Or.inl ⟨by rfl, ?_⟩) hS0 ?_
        rotate_left
        · (intro wS hSw; obtain ⟨_, _, _, _, _, _, _, _, _, _, _, _⟩ := hSw; go_simp; try with_reducible rfl)
        try simp only [Act.put, List.setIfInBounds_toArray, List.set_cons_zero, List.set_cons_succ]
        refine upto_take (i := 5) (d := some 87) (v := ?_) rfl rfl (by kernel_rfl) (by kernel_rfl) (by kernel_rfl) (by kernel_rfl) (fun _ _ _ h => h) (Or.inl ⟨by rfl, ?_⟩) hS0 ?_
        rotate_left
        · (intro wS hSw; obtain ⟨_, _, _, _, _, _, _, _, _, _, _, _⟩ := hSw; go_simp; try with_reducible rfl)
        try simp only [Act.put, List.setIfInBounds_toArray, List.set_cons_zero, List.set_cons_succ]
        refine upto_take (i := 6) (d := some 88) (v := ?_) rfl rfl (by kernel_rfl) (by kernel_rfl) (by kernel_rfl) (by kernel_rfl) (fun _ _ _ h => h) (Or.inl ⟨by rfl, ?_⟩) hS0 ?_
        rotate_left
        · (intro wS hSw; obtain ⟨_, _, _, _, _, _, _, _, _, _, _, _⟩ := hSw; go_simp; try with_reducible rfl)
        try simp only [Act.put, List.setIfInBounds_toArray, List.set_cons_zero, List.set_cons_succ]
        refine upto_one (i := 7) (by kernel_rfl) rfl (fun K hK => ?_)
        go_simp
        refine (markText_any (k + marksHs (ks.take j) + 1 + 1 + 1 + ks[j].name.scopes.length + marksAll ks[j].name.kids + 1 + 1) u (by omega) (by omega)).mono ?_
        rintro e w3 ⟨rfl, hb⟩
        have hs_w3 : u.heap.size ≤ w3.heap.size := hb.size
        obtain ⟨c0, c1, c2, c3, c4, c5, c6, c7, c8, c9, c10, c11⟩ := hS0
        have c0 := cell_later' hb c0
        have c1 := cell_later' hb c1
        have c2 := cell_later' hb c2
        have c3 := cell_later' hb c3
        have c4 := cell_later' hb c4
        have c5 := cell_later' hb c5
        have c6 := cell_later' hb c6
        have c7 := cell_later' hb c7
        have c8 := cell_later' hb c8
        have c9 := cell_later' hb c9
        have c10 := cell_later' hb c10
        have c11 := cell_later' hb c11
        have hS1 : (fun W => W.cell? ⟨b, off + j * 12, none⟩ = some (.int .i64 (k + marksHs (ks.take j))) ∧ W.cell? ⟨b, off + j * 12 + 1, none⟩ = some (.string (mtext (k + marksHs (ks.take j) + 1))) ∧ W.cell? ⟨b, off + j * 12 + 2, none⟩ = some (.int .i64 (k + marksHs (ks.take j) + 1 + 1)) ∧ W.cell? ⟨b, off + j * 12 + 3, none⟩ = some (.slice s1 ks[j].name.scopes.length t1) ∧ W.cell? ⟨b, off + j * 12 + 4, none⟩ = some (.slice k1 ks[j].name.kids.length l1) ∧ W.cell? ⟨b, off + j * 12 + 5, none⟩ = some (.int .i64 (k + marksHs (ks.take j) + 1 + 1 + 1 + ks[j].name.scopes.length + marksAll ks[j].name.kids)) ∧ W.cell? ⟨b, off + j * 12 + 6, none⟩ = some (.int .i64 (k + marksHs (ks.take j) + 1 + 1 + 1 + ks[j].name.scopes.length + marksAll ks[j].name.kids + 1)) ∧ W.cell? ⟨b, off + j * 12 + 7, none⟩ = some (.string (mtext (k + marksHs (ks.take j) + 1 + 1 + 1 + ks[j].name.scopes.length + marksAll ks[j].name.kids + 1 + 1))) ∧ W.cell? ⟨b, off + j * 12 + 8, none⟩ = some (.int .i64 (k + marksHs (ks.take j) + 1 + 1 + 1 + ks[j].name.scopes.length + marksAll ks[j].name.kids + 1 + 1 + 1)) ∧ W.cell? ⟨b, off + j * 12 + 9, none⟩ = some (.slice s2 ks[j].one.scopes.length t2) ∧ W.cell? ⟨b, off + j * 12 + 10, none⟩ = some (.slice k2 ks[j].one.kids.length l2) ∧ W.cell? ⟨b, off + j * 12 + 11, none⟩ = some (.slice a ks[j].many.length cap)) w3 := ⟨c0, c1, c2, c3, c4, c5, c6, c7, c8, c9, c10, c11⟩
        have HB_w3 : Hid (Below wr.heap.size wr w3) := HBU.out.trans (hb.mono (by omega))
        refine hK.out _ _ (.inr hS1) ?_
        clear hK K hb HBU
        refine upto_one (i := 8) (by kernel_rfl) rfl (fun K hK => ?_)
        go_simp
        refine hK.out _ _ (.inr hS1) ?_
        clear hK K hS1
        refine upto_done (by kernel_rfl) ?_ _
        have hbl : b < w3.heap.size := by omega
        go_wp2_with fail
        refine (heldIntS_any (· < B) ks[j].one.scopes.length _ _ w3 (HI2.out.later (same_below (HB_w3.out.mono (by omega)))) (by omega) (by omega)).mono ?_
        rintro e w' ⟨rfl, rfl⟩
        have hpos_i2 : 0 ≤ k + marksHs (ks.take j) + 1 + 1 + 1 + ks[j].name.scopes.length + marksAll ks[j].name.kids + 1 + 1 + 1 + 1 + ks[j].one.scopes.length := by omega
        go_wp2_with fail
        refine (heldFormS_any ks[j].one.kids B _ _ _ w3 (by omega) HK2.out.1 HK2.out.2.1 ?_ (by omega) (by omega)).mono ?_
        · rcases HK2.out.2.2 with h | ⟨kb, ko, h1, h2, h3⟩
          · exact .inl h
          · exact .inr ⟨kb, ko, h1, h2, h3.later (same_below (HB_w3.out.mono (by omega))) kb h2⟩
        rintro e w4 ⟨rfl, hb⟩
        have hs_w4 : w3.heap.size ≤ w4.heap.size := hb.size
        have c0 := cell_later' hb c0
        have c1 := cell_later' hb c1
        have c2 := cell_later' hb c2
        have c3 := cell_later' hb c3
        have c4 := cell_later' hb c4
        have c5 := cell_later' hb c5
        have c6 := cell_later' hb c6
        have c7 := cell_later' hb c7
        have c8 := cell_later' hb c8
        have c9 := cell_later' hb c9
        have c10 := cell_later' hb c10
        have c11 := cell_later' hb c11
        have HB_w4 : Hid (Below wr.heap.size wr w4) := HB_w3.out.trans (hb.mono (by omega))
        clear hb
        have hpos_k2 : 0 ≤ k + marksHs (ks.take j) + 1 + 1 + 1 + ks[j].name.scopes.length + marksAll ks[j].name.kids + 1 + 1 + 1 + 1 + ks[j].one.scopes.length + marksAll ks[j].one.kids := by omega
        have hbl : b < w4.heap.size := by omega
        go_wp2_with fail
        refine (HIH.out ks[j] (List.getElem_mem hlt) B _ _ _ w4 (by omega) HM.out.1 HM.out.2.1 ?_ (by omega) hB').mono ?_
        · rcases HM.out.2.2 with h | ⟨kb, ko, h1, h2, h3⟩
          · exact .inl h
          · exact .inr ⟨kb, ko, h1, h2, h3.later (same_below (HB_w4.out.mono (by omega))) kb h2⟩
        rintro e w5 ⟨rfl, hb⟩
        have HB5 : Hid (Below w.heap.size w w5) := (HB.out.trans (HB_w4.out.mono (by omega))).trans (hb.mono (by omega))
        have hpos_m : 0 ≤ k + marksHs (ks.take j) + 1 + 1 + 1 + ks[j].name.scopes.length + marksAll ks[j].name.kids + 1 + 1 + 1 + 1 + ks[j].one.scopes.length + marksAll ks[j].one.kids + marksHs ks[j].many := by omega
        clear hb c0 c1 c2 c3 c4 c5 c6 c7 c8 c9 c10 c11
        go_wp2_with fail
        go_roundw
        case rel => exact ⟨j + 1, by omega, by go_num, by rw [HTS.out], HB5.out⟩
        case measure => simp [intOf]; omega
    · obtain rfl : j = ks.length := by omega
      have HZ := Lib.hid (List.take_length (l := ks))
      go_wp2_with fail
      go_ret
      exact ⟨by first | rfl | (rw [HZ.out]; rfl), HB.out⟩
theorem heldHits_any (f : Ht) : HeldSaidH f.many := by
  induction f using Ht.ind with
  | h n d o m ih => exact heldHitS_of m ih
theorem heldHitS_any (ks : List Ht) : HeldSaidH ks := heldHitS_of ks fun g _ => heldHits_any g
set_option maxRecDepth 100000 in
set_option maxHeartbeats 2000000 in
theorem heldHit_any (B : Nat) (x : Ht) (v : Value) (k : Int) (w : World) (hB : B ≤ w.heap.size) (hv : InH (· < B) w (x.marked k) v) (hk : 1 ≤ k) (hk2 : k + x.marks ≤ 1099511627776) :
    Calls Try.prog 29 #[v, .int .i64 k] w fun e w' => e = .returned (.int .i64 (k + x.marks)) ∧ Below w.heap.size w w' := by
  cases x with
  | mk nm d one many =>
  have hme : (Ht.mk nm d one many).marks = nm.marks + one.marks + marksHs many := by unfold Ht.marks; rfl
  have HME := Lib.hid hme
  unfold Ht.marked InH at hv
  obtain ⟨s1, t1, k1, l1, s2, t2, k2, l2, a, cap, rfl, _, hn, ho, hcap, hmax, hr⟩ := hv
  rw [markedHs_length] at hcap ⊢
  have hkn : 0 ≤ k + nm.marks := by omega
  have hko : 0 ≤ k + nm.marks + one.marks := by omega
  have hb1 : k + nm.marks + one.marks + marksHs many ≤ 1099511627776 := by omega
  have hkm : 0 ≤ k + nm.marks + one.marks + marksHs many := by omega
  have HN := Lib.hid hn
  have HO := Lib.hid ho
  have HR := Lib.hid hr
  have hB0 : ∀ c t, Below B w (w.alloc (.cells c t)) := fun c t => (Below.refl _ w).alloc hB _
  have HB0 := Lib.hid hB0
  clear hn ho hr hme hB0
  go_enter Try.func29, Try.ntmps29
  obtain ⟨w0, hw0⟩ : ∃ w0, w0 = w.alloc (.cells #[.int .i64 (nm.marked k).kind, .string (nm.marked k).name, .int .i64 (nm.marked k).n, .slice s1 (nm.marked k).scopes.length t1, .slice k1 (nm.marked k).kids.length l1, .int .i64 d, .int .i64 (one.marked (k + nm.marks)).kind, .string (one.marked (k + nm.marks)).name, .int .i64 (one.marked (k + nm.marks)).n, .slice s2 (one.marked (k + nm.marks)).scopes.length t2, .slice k2 (one.marked (k + nm.marks)).kids.length l2, .slice a many.length cap] 38) := ⟨_, rfl⟩
  have hb0 : Below w.heap.size w w0 := by rw [hw0]; exact below_alloc w _
  have hs0 : w0.heap.size = w.heap.size + 1 := by rw [hw0]; simp
  have y0 : w0.cell? ⟨w.heap.size, 0, none⟩ = some (.int .i64 (nm.marked k).kind) := by rw [hw0]; exact World.cell?_alloc_at _ _ _ _ rfl
  have y1 : w0.cell? ⟨w.heap.size, 1, none⟩ = some (.string (nm.marked k).name) := by rw [hw0]; exact World.cell?_alloc_at _ _ _ _ rfl
  have y2 : w0.cell? ⟨w.heap.size, 2, none⟩ = some (.int .i64 (nm.marked k).n) := by rw [hw0]; exact World.cell?_alloc_at _ _ _ _ rfl
  have y3 : w0.cell? ⟨w.heap.size, 3, none⟩ = some (.slice s1 (nm.marked k).scopes.length t1) := by rw [hw0]; exact World.cell?_alloc_at _ _ _ _ rfl
  have y4 : w0.cell? ⟨w.heap.size, 4, none⟩ = some (.slice k1 (nm.marked k).kids.length l1) := by rw [hw0]; exact World.cell?_alloc_at _ _ _ _ rfl
  have y5 : w0.cell? ⟨w.heap.size, 5, none⟩ = some (.int .i64 d) := by rw [hw0]; exact World.cell?_alloc_at _ _ _ _ rfl
  have y6 : w0.cell? ⟨w.heap.size, 6, none⟩ = some (.int .i64 (one.marked (k + nm.marks)).kind) := by rw [hw0]; exact World.cell?_alloc_at _ _ _ _ rfl
  have y7 : w0.cell? ⟨w.heap.size, 7, none⟩ = some (.string (one.marked (k + nm.marks)).name) := by rw [hw0]; exact World.cell?_alloc_at _ _ _ _ rfl
  have y8 : w0.cell? ⟨w.heap.size, 8, none⟩ = some (.int .i64 (one.marked (k + nm.marks)).n) := by rw [hw0]; exact World.cell?_alloc_at _ _ _ _ rfl
  have y9 : w0.cell? ⟨w.heap.size, 9, none⟩ = some (.slice s2 (one.marked (k + nm.marks)).scopes.length t2) := by rw [hw0]; exact World.cell?_alloc_at _ _ _ _ rfl
  have y10 : w0.cell? ⟨w.heap.size, 10, none⟩ = some (.slice k2 (one.marked (k + nm.marks)).kids.length l2) := by rw [hw0]; exact World.cell?_alloc_at _ _ _ _ rfl
  have y11 : w0.cell? ⟨w.heap.size, 11, none⟩ = some (.slice a many.length cap) := by rw [hw0]; exact World.cell?_alloc_at _ _ _ _ rfl
  have HW0 := Lib.hid hw0
  have HBB := Lib.hid hb0
  clear hw0 hb0
  go_wp2_with fail
  rw [← HW0.out]
  clear HW0
  refine (heldForm_any B nm _ k w0 (by omega) (InV.later (same_below (HBB.out.mono hB)) _ _ HN.out) hk (by omega)).mono ?_
  rintro e w1 ⟨rfl, hb⟩
  have hs1 : w0.heap.size ≤ w1.heap.size := hb.size
  have y0 := cell_later' hb y0
  have y1 := cell_later' hb y1
  have y2 := cell_later' hb y2
  have y3 := cell_later' hb y3
  have y4 := cell_later' hb y4
  have y5 := cell_later' hb y5
  have y6 := cell_later' hb y6
  have y7 := cell_later' hb y7
  have y8 := cell_later' hb y8
  have y9 := cell_later' hb y9
  have y10 := cell_later' hb y10
  have y11 := cell_later' hb y11
  have HB1 : Hid (Below w.heap.size w w1) := HBB.out.trans (hb.mono (by omega))
  clear hb
  go_wp2_with fail
  refine (heldForm_any B one _ _ w1 (by omega) (InV.later (same_below (HB1.out.mono hB)) _ _ HO.out) (by omega) (by omega)).mono ?_
  rintro e w2 ⟨rfl, hb⟩
  have hs2 : w1.heap.size ≤ w2.heap.size := hb.size
  have y0 := cell_later' hb y0
  have y1 := cell_later' hb y1
  have y2 := cell_later' hb y2
  have y3 := cell_later' hb y3
  have y4 := cell_later' hb y4
  have y5 := cell_later' hb y5
  have y6 := cell_later' hb y6
  have y7 := cell_later' hb y7
  have y8 := cell_later' hb y8
  have y9 := cell_later' hb y9
  have y10 := cell_later' hb y10
  have y11 := cell_later' hb y11
  have HB2 : Hid (Below w.heap.size w w2) := HB1.out.trans (hb.mono (by omega))
  clear hb
  go_wp2_with fail
  refine (heldHitS_any many B _ _ _ w2 (by omega) hcap hmax ?_ (by omega) hb1).mono ?_
  · rcases HR.out with h | ⟨kb, ko, h1, h2, h3⟩
    · exact .inl h
    · exact .inr ⟨kb, ko, h1, h2, h3.later (same_below (HB2.out.mono hB)) kb h2⟩
  rintro e w3 ⟨rfl, hb⟩
  have HB3 : Hid (Below w.heap.size w w3) := HB2.out.trans (hb.mono (by omega))
  clear hb
  go_wp2_with fail
  go_ret
  exact ⟨ret_int (by rw [HME.out]; omega), HB3.out⟩
end Go.Proofs.Ytkfolefeehggcaa
