/- The contracts of CountName, the program's and the model's. -/
import Derived.Test.YtnogpaflibghhaaVisits
import Derived.Test.YtnogpaflibghhaaCount
import Derived.Test.YtnogpaflibghhaaSlim
namespace Go.Proofs.Ytnogpaflibghhaa
open Go.RowKit
set_option linter.unusedVariables false
set_option linter.unusedSimpArgs false
/-- whether a node is a name with this text -/
def hitN (s : ByteArray) (f : Fm) : Bool := if (f.kind == 1) = true then f.name.toList == s.toList else false
/-- how many of the nodes are -/
def cntL (s : ByteArray) : List Fm → Nat
  | [] => 0
  | f :: r => (if hitN s f = true then 1 else 0) + cntL s r
theorem cntL_append (s : ByteArray) : ∀ (l m : List Fm), cntL s (l ++ m) = cntL s l + cntL s m
  | [], m => by simp [cntL]
  | f :: r, m => by simp only [List.cons_append, cntL, cntL_append s r m]; omega
theorem cntL_le (s : ByteArray) : ∀ (l : List Fm), cntL s l ≤ l.length
  | [] => by simp [cntL]
  | f :: r => by have := cntL_le s r; simp only [cntL, List.length_cons]; split <;> omega
mutual
def cntF (s : ByteArray) : Fm → Nat
  | .mk k nm n sc ks => (if hitN s (.mk k nm n sc ks) = true then 1 else 0) + cntAll s ks
def cntAll (s : ByteArray) : List Fm → Nat
  | [] => 0
  | f :: r => cntF s f + cntAll s r
end
mutual
theorem cntF_pre (s : ByteArray) : ∀ f : Fm, cntL s f.pre = cntF s f
  | .mk k nm n sc ks => by simp only [Fm.pre, cntL, cntF, cntAll_pre s ks]
theorem cntAll_pre (s : ByteArray) : ∀ ks : List Fm, cntL s (preAll ks) = cntAll s ks
  | [] => by simp [preAll, cntL, cntAll]
  | f :: r => by simp only [preAll, cntL_append, cntAll, cntF_pre s f, cntAll_pre s r]
end
mutual
theorem cntF_le (s : ByteArray) : ∀ f : Fm, cntF s f ≤ f.count
  | .mk k nm n sc ks => by have := cntAll_le s ks; simp only [cntF, Fm.count]; split <;> omega
theorem cntAll_le (s : ByteArray) : ∀ ks : List Fm, cntAll s ks ≤ countAll ks
  | [] => by simp [cntAll, countAll]
  | f :: r => by have h1 := cntF_le s f; have h2 := cntAll_le s r; simp only [cntAll, countAll]; omega
end
theorem cntAll_take_succ (s : ByteArray) : ∀ (ks : List Fm) (j : Nat) (h : j < ks.length), cntAll s (ks.take (j + 1)) = cntAll s (ks.take j) + cntF s ks[j]
  | f :: r, 0, _ => by simp [cntAll]
  | f :: r, j + 1, h => by
    have := cntAll_take_succ s r j (by simpa using h)
    simp only [List.take_succ_cons, cntAll, this, List.getElem_cons_succ]
    omega
theorem cntAll_take_le (s : ByteArray) : ∀ (ks : List Fm) (j : Nat), cntAll s (ks.take j) ≤ cntAll s ks
  | [], j => by simp
  | f :: r, 0 => by simp [cntAll]
  | f :: r, j + 1 => by have := cntAll_take_le s r j; simp only [List.take_succ_cons, cntAll]; omega
set_option maxRecDepth 100000 in
set_option maxHeartbeats 1000000 in
theorem countVisitor (s : ByteArray) (B nb cb : Nat) (hB : B ≤ nb) (hBc : B ≤ cb) (hne : nb ≠ cb) : Visitor (fun _ => True) B 133 #[.pointer (some ⟨nb, 0, none⟩), .pointer (some ⟨cb, 0, none⟩)]
    (fun pre E W => (∀ k, E k ↔ k = nb ∨ k = cb) ∧ W.cell? ⟨nb, 0, none⟩ = some (.string s) ∧ W.cell? ⟨cb, 0, none⟩ = some (.int .i64 (cntL s pre : Int)) ∧ W.frozen? ⟨cb, 0, none⟩ = false) := by
  refine ⟨enters_of Try.func133 (by kernel_rfl) rfl, ?_, ?_⟩
  · rintro pre E W W' ⟨h1, h2, h3, h4⟩ _ _ _ _ hs _
    have e := hs nb ((h1 nb).2 (.inl rfl))
    have e' := hs cb ((h1 cb).2 (.inr rfl))
    exact ⟨h1, (World.cell?_of_block (a := ⟨nb, 0, none⟩) e).trans h2, (World.cell?_of_block (a := ⟨cb, 0, none⟩) e').trans h3, (World.frozen?_of_block (a := ⟨cb, 0, none⟩) e').trans h4⟩
  · rintro pre E x W ⟨h1, h2, h3, h4⟩ hl _ hE hin
    have hln := cell_lt h2
    have hlc := cell_lt h3
    have hll : cntL s pre ≤ 1048577 := Nat.le_trans (cntL_le s pre) hl
    have hba := below_alloc W (.cells #[.int .i64 x.f.kind, .string x.f.name, .int .i64 x.f.n, .slice x.sa x.f.scopes.length x.scap, .slice x.a x.f.kids.length x.cap] 33)
    have h2a := cell_later' hba h2
    have h3a := cell_later' hba h3
    have h4a := (hba.frozen (p := ⟨cb, 0, none⟩) hlc).trans h4
    have hap := cntL_append s pre [x.f]
    have H1 := Lib.hid h1
    have HE := Lib.hid hE
    have HA := Lib.hid hap
    have HBA := Lib.hid hba
    have H2 := Lib.hid h2
    have H3 := Lib.hid h3
    have H4 := Lib.hid h4
    clear h1 hE hin hap h2 h3 h4 hba
    unfold Item.val
    show Calls Try.prog 133 #[.agg #[.int .i64 x.f.kind, .string x.f.name, .int .i64 x.f.n, .slice x.sa x.f.scopes.length x.scap, .slice x.a x.f.kids.length x.cap], .pointer (some ⟨nb, 0, none⟩), .pointer (some ⟨cb, 0, none⟩)] W _
    go_enter Try.func133, Try.ntmps133
    cases hk : (x.f.kind == 1) with
    | false =>
      have HN : Hid (cntL s (pre ++ [x.f]) = cntL s pre) := by unfold Hid; rw [HA.out]; simp [cntL, hitN, hk]
      go_wp2_with fail
      go_end0
      exact ⟨rfl, E, ⟨H1.out, h2a, by rw [HN.out]; exact h3a, h4a⟩, ⟨rfl, rfl, rfl, by simp, fun k hk hn => HBA.out.block k hk⟩, fun k hk => ⟨.inl hk, by have := (HE.out k hk).2; simp; omega⟩⟩
    | true =>
      cases hs : (x.f.name.toList == s.toList) with
      | false =>
        have HN : Hid (cntL s (pre ++ [x.f]) = cntL s pre) := by unfold Hid; rw [HA.out]; simp only [cntL, hitN, hk, hs]; simp
        go_wp2_with fail
        go_end0
        exact ⟨rfl, E, ⟨H1.out, h2a, by rw [HN.out]; exact h3a, h4a⟩, ⟨rfl, rfl, rfl, by simp, fun k hk hn => HBA.out.block k hk⟩, fun k hk => ⟨.inl hk, by have := (HE.out k hk).2; simp; omega⟩⟩
      | true =>
        have HN : Hid ((cntL s (pre ++ [x.f]) : Int) = (cntL s pre : Int) + 1) := by unfold Hid; rw [HA.out]; simp only [cntL, hitN, hk, hs]; simp
        go_wp2_with fail
        go_end0
        have hz : (W.setCell ⟨cb, 0, none⟩ (.int .i64 ((cntL s pre : Int) + 1))).heap.size = W.heap.size := by simp [World.setCell]
        refine ⟨rfl, E, ⟨H1.out, ?_, ?_, ?_⟩, ⟨rfl, rfl, rfl, by simp [World.setCell], fun k hk hn => ?_⟩, fun k hk => ⟨.inl hk, ?_⟩⟩
        · refine ((below_alloc _ _).cell (p := ⟨nb, 0, none⟩) (by rw [hz]; exact hln)).trans ?_
          rw [World.cell?_setCell_other _ _ _ _ (by intro e; injection e with e1 _; exact hne e1.symm)]
          exact H2.out
        · rw [HN.out]
          exact ((below_alloc _ _).cell (p := ⟨cb, 0, none⟩) (by rw [hz]; exact hlc)).trans (World.cell?_setCell_same _ _ _ H3.out)
        · rw [(below_alloc _ _).frozen (p := ⟨cb, 0, none⟩) (by rw [hz]; exact hlc), World.frozen?_setCell]
          exact H4.out
        · rw [(below_alloc _ _).block k (by rw [hz]; exact hk)]
          exact Below.heap_setCell _ _ _ _ (fun e => hn ((H1.out k).2 (.inr e)))
        · have := (HE.out k hk).2
          rw [size_alloc', hz]
          omega
set_option maxRecDepth 100000 in
set_option maxHeartbeats 1000000 in
theorem implCountName_any (s : ByteArray) (x : Item) (w : World) (hv : InV (· < w.heap.size) w x.f x.val) (hc : x.f.count ≤ 1048577) (hend : EndlessAt x.val w) :
    Calls Try.prog 68 #[x.val, .string s] w fun e w' => e = .returned (.int .i64 (cntF s x.f : Int)) ∧ Below w.heap.size w w' := by
  have HV := Lib.hid hv
  have HEND := Lib.hid hend
  clear hv hend
  unfold Item.val
  go_enter Try.func68, Try.ntmps68
  go_wp2_with fail
  obtain ⟨w2, hw2⟩ : ∃ w2, w2 = ((w.alloc (.cells #[.int .i64 x.f.kind, .string x.f.name, .int .i64 x.f.n, .slice x.sa x.f.scopes.length x.scap, .slice x.a x.f.kids.length x.cap] 33)).alloc (.cells #[.string s] 9)).alloc (.cells #[.int .i64 0] 3) := ⟨_, rfl⟩
  have hb2 : Below w.heap.size w w2 := by rw [hw2]; exact ((below_alloc w _).alloc (by simp) _).alloc (by simp; omega) _
  have hs2 : w2.heap.size = w.heap.size + 3 := by rw [hw2]; simp
  have hn2 : w2.cell? ⟨w.heap.size + 1, 0, none⟩ = some (.string s) := by rw [hw2, World.cell?_alloc_past _ _ _ (by simp)]; exact World.cell?_alloc_at _ _ _ _ (by simp)
  have hc2 : w2.cell? ⟨w.heap.size + 2, 0, none⟩ = some (.int .i64 0) := by rw [hw2]; exact World.cell?_alloc_at _ _ _ _ (by simp)
  have hf2 : w2.frozen? ⟨w.heap.size + 2, 0, none⟩ = false := by rw [hw2]; exact World.frozen?_alloc_at _ _ _ _ (by simp)
  rw [← hw2]
  refine (visit_any (fun _ => True) (fun _ _ _ _ => trivial) w.heap.size _ _ _ (countVisitor s w.heap.size (w.heap.size + 1) (w.heap.size + 2) (by omega) (by omega) (by omega)) x (fun k => k = w.heap.size + 1 ∨ k = w.heap.size + 2) w2 (by omega) (fun k hk => by omega) ⟨fun k => Iff.rfl, hn2, hc2, hf2⟩ (InV.later (same_below hb2) _ _ HV.out) hc (HEND.out.later hb2) trivial).mono ?_
  rintro e w3 ⟨rfl, E', ⟨h1, _, h2, h3⟩, ho, hE'⟩
  rw [cntF_pre] at h2
  have HB : Hid (Below w.heap.size w w3) := ⟨ho.os.trans hb2.os, ho.tape.trans hb2.tape, ho.output.trans hb2.output, by have := ho.size; omega, fun k hk => (ho.block k (by omega) (by omega)).trans (hb2.block k hk)⟩
  clear hw2 hb2 hn2 hc2 hf2 h1 ho hE'
  go_wp2_with fail
  go_ret
  exact ⟨rfl, HB.out⟩
set_option maxRecDepth 100000 in
set_option maxHeartbeats 1000000 in
theorem specCountName_any (B : Nat) (s : ByteArray) (f : Fm) : ∀ (v : Value) (w : World), B ≤ w.heap.size → InV (· < B) w f v → f.count ≤ 4611686018427387904 →
    Calls Try.prog 67 #[v, .string s] w fun e w' => e = .returned (.int .i64 (cntF s f : Int)) ∧ Below w.heap.size w w' := by
  induction f using Fm.ind with
  | h k nm n sc ks ih =>
    intro v w hB hv hc
    unfold InV at hv
    obtain ⟨vs, a, cap, rfl, _, _, hnm, hvs, hcap, hmax, hks⟩ := hv
    unfold maxLen at hmax
    have hcnt : countAll ks + 1 ≤ 4611686018427387904 := by unfold Fm.count at hc; exact hc
    have hle0 := cntAll_le s ks
    clear hc
    obtain ⟨q, hq⟩ : ∃ q : Nat, q = (if hitN s (.mk k nm n sc ks) = true then 1 else 0) := ⟨_, rfl⟩
    have hq1 : q ≤ 1 := by rw [hq]; split <;> omega
    have HQ : Hid (cntF s (.mk k nm n sc ks) = q + cntAll s ks) := by unfold Hid; rw [hq]; simp only [cntF]
    go_enter Try.func67, Try.ntmps67
    rcases Bool.eq_false_or_eq_true (k == 1) with hk | hk
    · rcases Bool.eq_false_or_eq_true (nm.toList == s.toList) with hs | hs
      · obtain rfl : q = 1 := by rw [hq]; simp only [hitN, Fm.kind, Fm.name, hk, hs]; simp
        clear hq
        go_wp2_with fail
        go_loopw [5, 6] (fun n i wr => ∃ j : Nat, j ≤ ks.length ∧ i = .int .i64 j ∧ n = .int .i64 (cntAll s (ks.take j) + 1 : Nat) ∧
            wr.cell? ⟨w.heap.size, 4, none⟩ = some (.slice a ks.length cap) ∧ Below w.heap.size w wr ∧ w.heap.size < wr.heap.size) (fun _ i _ => ks.length - (intOf i).toNat)
        case atStart => exact ⟨0, Nat.zero_le _, rfl, by simp [cntAll], by simp, (Below.refl _ _).alloc (Nat.le_refl _) _, by simp⟩
        case round =>
          obtain ⟨j, hj, rfl, rfl, hcell, hb, hsz⟩ := hrel
          have hle := cntAll_take_le s ks j
          by_cases hlt : j < ks.length
          · rcases hks with rfl | ⟨b, off, rfl, hbB, hrow⟩
            · simp at hlt
            · have hts := cntAll_take_succ s ks j hlt
              have hle2 := cntAll_take_le s ks (j + 1)
              have hcj := cntF_le s ks[j]
              have hct := countAll_take_succ ks j hlt
              have hcl := countAll_take_le ks (j + 1)
              have HIH := Lib.hid (ih ks[j] (List.getElem_mem hlt))
              have HB := Lib.hid hb
              obtain ⟨c0, c1, c2, c3, c4, h0, h1, h2, h3, h4, hin⟩ := (hrow.later (same_below (hb.mono hB)) b hbB).at j hlt
              have HTS := Lib.hid hts
              have HCT := Lib.hid hct
              have HIN := Lib.hid hin
              have hjl : (j : Int) < (ks.length : Int) := by omega
              clear hts hct hin ih hb hrow
              go_wp2_with fail
              refine (HIH.out _ _ (by omega) HIN.out (by have := HCT.out; omega)).mono ?_
              rintro e w1 ⟨rfl, hb1⟩
              have hcell1 := cell_later' hb1 hcell
              have hsz1 := hb1.size
              have HB1 := Lib.hid ((HB.out).trans (hb1.mono (by omega)))
              have hle3 : cntAll s (List.take j ks) + 1 + cntF s ks[j] ≤ 4611686018427387905 := by have := HTS.out; omega
              clear hb1 hcell
              go_wp2_with fail
              go_roundw
              case rel => exact ⟨j + 1, by omega, by go_num, by have := HTS.out; rw [this]; go_num, hcell1, HB1.out, by omega⟩
              case measure => simp [intOf]; omega
          · have hk : j = ks.length := by omega
            have HK : Hid ((cntAll s (ks.take j) + 1 : Nat) = cntF s (Fm.mk k nm n sc ks)) := by unfold Hid; rw [HQ.out, hk, List.take_length]; omega
            have HB := Lib.hid hb
            clear hk hb
            go_wp2_with fail
            go_ret
            exact ⟨ret_int (by rw [HK.out]), HB.out⟩
      · obtain rfl : q = 0 := by rw [hq]; simp only [hitN, Fm.kind, Fm.name, hk, hs]; simp
        clear hq
        go_wp2_with fail
        go_loopw [5, 6] (fun n i wr => ∃ j : Nat, j ≤ ks.length ∧ i = .int .i64 j ∧ n = .int .i64 (cntAll s (ks.take j) + 0 : Nat) ∧
            wr.cell? ⟨w.heap.size, 4, none⟩ = some (.slice a ks.length cap) ∧ Below w.heap.size w wr ∧ w.heap.size < wr.heap.size) (fun _ i _ => ks.length - (intOf i).toNat)
        case atStart => exact ⟨0, Nat.zero_le _, rfl, by simp [cntAll], by simp, (Below.refl _ _).alloc (Nat.le_refl _) _, by simp⟩
        case round =>
          obtain ⟨j, hj, rfl, rfl, hcell, hb, hsz⟩ := hrel
          have hle := cntAll_take_le s ks j
          by_cases hlt : j < ks.length
          · rcases hks with rfl | ⟨b, off, rfl, hbB, hrow⟩
            · simp at hlt
            · have hts := cntAll_take_succ s ks j hlt
              have hle2 := cntAll_take_le s ks (j + 1)
              have hcj := cntF_le s ks[j]
              have hct := countAll_take_succ ks j hlt
              have hcl := countAll_take_le ks (j + 1)
              have HIH := Lib.hid (ih ks[j] (List.getElem_mem hlt))
              have HB := Lib.hid hb
              obtain ⟨c0, c1, c2, c3, c4, h0, h1, h2, h3, h4, hin⟩ := (hrow.later (same_below (hb.mono hB)) b hbB).at j hlt
              have HTS := Lib.hid hts
              have HCT := Lib.hid hct
              have HIN := Lib.hid hin
              have hjl : (j : Int) < (ks.length : Int) := by omega
              clear hts hct hin ih hb hrow
              go_wp2_with fail
              refine (HIH.out _ _ (by omega) HIN.out (by have := HCT.out; omega)).mono ?_
              rintro e w1 ⟨rfl, hb1⟩
              have hcell1 := cell_later' hb1 hcell
              have hsz1 := hb1.size
              have HB1 := Lib.hid ((HB.out).trans (hb1.mono (by omega)))
              have hle3 : cntAll s (List.take j ks) + 0 + cntF s ks[j] ≤ 4611686018427387905 := by have := HTS.out; omega
              clear hb1 hcell
              go_wp2_with fail
              go_roundw
              case rel => exact ⟨j + 1, by omega, by go_num, by have := HTS.out; rw [this]; go_num, hcell1, HB1.out, by omega⟩
              case measure => simp [intOf]; omega
          · have hk : j = ks.length := by omega
            have HK : Hid ((cntAll s (ks.take j) + 0 : Nat) = cntF s (Fm.mk k nm n sc ks)) := by unfold Hid; rw [HQ.out, hk, List.take_length]; omega
            have HB := Lib.hid hb
            clear hk hb
            go_wp2_with fail
            go_ret
            exact ⟨ret_int (by rw [HK.out]), HB.out⟩
    · obtain rfl : q = 0 := by rw [hq]; simp only [hitN, Fm.kind, Fm.name, hk]; simp
      clear hq
      go_wp2_with fail
      go_loopw [5, 6] (fun n i wr => ∃ j : Nat, j ≤ ks.length ∧ i = .int .i64 j ∧ n = .int .i64 (cntAll s (ks.take j) + 0 : Nat) ∧
          wr.cell? ⟨w.heap.size, 4, none⟩ = some (.slice a ks.length cap) ∧ Below w.heap.size w wr ∧ w.heap.size < wr.heap.size) (fun _ i _ => ks.length - (intOf i).toNat)
      case atStart => exact ⟨0, Nat.zero_le _, rfl, by simp [cntAll], by simp, (Below.refl _ _).alloc (Nat.le_refl _) _, by simp⟩
      case round =>
        obtain ⟨j, hj, rfl, rfl, hcell, hb, hsz⟩ := hrel
        have hle := cntAll_take_le s ks j
        by_cases hlt : j < ks.length
        · rcases hks with rfl | ⟨b, off, rfl, hbB, hrow⟩
          · simp at hlt
          · have hts := cntAll_take_succ s ks j hlt
            have hle2 := cntAll_take_le s ks (j + 1)
            have hcj := cntF_le s ks[j]
            have hct := countAll_take_succ ks j hlt
            have hcl := countAll_take_le ks (j + 1)
            have HIH := Lib.hid (ih ks[j] (List.getElem_mem hlt))
            have HB := Lib.hid hb
            obtain ⟨c0, c1, c2, c3, c4, h0, h1, h2, h3, h4, hin⟩ := (hrow.later (same_below (hb.mono hB)) b hbB).at j hlt
            have HTS := Lib.hid hts
            have HCT := Lib.hid hct
            have HIN := Lib.hid hin
            have hjl : (j : Int) < (ks.length : Int) := by omega
            clear hts hct hin ih hb hrow
            go_wp2_with fail
            refine (HIH.out _ _ (by omega) HIN.out (by have := HCT.out; omega)).mono ?_
            rintro e w1 ⟨rfl, hb1⟩
            have hcell1 := cell_later' hb1 hcell
            have hsz1 := hb1.size
            have HB1 := Lib.hid ((HB.out).trans (hb1.mono (by omega)))
            have hle3 : cntAll s (List.take j ks) + 0 + cntF s ks[j] ≤ 4611686018427387905 := by have := HTS.out; omega
            clear hb1 hcell
            go_wp2_with fail
            go_roundw
            case rel => exact ⟨j + 1, by omega, by go_num, by have := HTS.out; rw [this]; go_num, hcell1, HB1.out, by omega⟩
            case measure => simp [intOf]; omega
        · have hk : j = ks.length := by omega
          have HK : Hid ((cntAll s (ks.take j) + 0 : Nat) = cntF s (Fm.mk k nm n sc ks)) := by unfold Hid; rw [HQ.out, hk, List.take_length]; omega
          have HB := Lib.hid hb
          clear hk hb
          go_wp2_with fail
          go_ret
          exact ⟨ret_int (by rw [HK.out]), HB.out⟩
end Go.Proofs.Ytnogpaflibghhaa
