/- The marks of core programs: how many, and that they are written into the program's own blocks. -/
import Derived.Test.YtlmplfpdmelcjaaOwnCore
import Derived.Test.YtlmplfpdmelcjaaMarkF
namespace Go.Proofs.Ytlmplfpdmelcjaa
open Go.RowKit
set_option linter.unusedVariables false
set_option linter.unusedSimpArgs false
mutual
/-- how many marks a core program bears behind its own numbers and texts -/
def Ck.marks : Ck → Nat
  | .mk _ _ _ _ ids d ks => ids.length + d.marks + marksCs ks
def marksCs : List Ck → Nat
  | [] => 0
  | x :: r => 7 + x.marks + marksCs r
end
theorem Ck.marks_eq (x : Ck) : x.marks = x.ids.length + x.data.marks + marksCs x.kids := by cases x; simp only [Ck.marks, Ck.ids, Ck.data, Ck.kids]
theorem marksCs_append : ∀ (l m : List Ck), marksCs (l ++ m) = marksCs l + marksCs m
  | [], m => by simp [marksCs]
  | x :: r, m => by simp only [List.cons_append, marksCs, marksCs_append r m]; omega
theorem marksCs_take_succ (l : List Ck) (j : Nat) (h : j < l.length) : marksCs (l.take (j + 1)) = marksCs (l.take j) + (7 + (l[j]).marks) := by
  rw [List.take_succ_eq_append_getElem h, marksCs_append]; simp [marksCs]
theorem marksCs_take_le (l : List Ck) (j : Nat) : marksCs (l.take j) ≤ marksCs l := by
  have := marksCs_append (l.take j) (l.drop j)
  rw [List.take_append_drop] at this
  omega
mutual
theorem marks_szM : ∀ f : Fm, f.marks ≤ 3 * f.sz
  | .mk _ _ _ sc ks => by
    have := marksAll_szM ks
    simp only [Fm.marks, Fm.sz] at *
    omega
theorem marksAll_szM : ∀ ks : List Fm, marksAll ks ≤ 3 * szAll ks
  | [] => by simp [marksAll, szAll]
  | f :: r => by
    have h1 := marks_szM f
    have h2 := marksAll_szM r
    cases f with
    | mk kd nm n sc ks =>
      simp only [marksAll, szAll, Fm.marks, Fm.sz] at *
      omega
end
mutual
theorem Ck.marks_sz : ∀ x : Ck, x.marks ≤ 7 * x.sz
  | .mk _ _ nm _ ids d ks => by
    have h1 := marksCs_sz ks
    have h2 := marks_szM d
    unfold Ck.marks Ck.sz
    omega
theorem marksCs_sz : ∀ l : List Ck, marksCs l ≤ 7 * szCs l
  | [] => by simp [marksCs, szCs]
  | x :: r => by have h1 := Ck.marks_sz x; have h2 := marksCs_sz r; unfold marksCs szCs; omega
end
/-- in one element of a row: the cells from 's' on are as they were; beside the row's block only 'M' has turned -/
structure MarkStep (wr W : World) (b o s : Nat) (M : List Nat) : Prop where
  only : Only (b :: M) wr W
  cells : ∀ i, s ≤ i → W.cell? ⟨b, o + i, none⟩ = wr.cell? ⟨b, o + i, none⟩
  frz : ∀ i, W.frozen? ⟨b, i, none⟩ = wr.frozen? ⟨b, i, none⟩
theorem MarkStep.start (wr : World) (b o : Nat) : MarkStep wr wr b o 0 [] := ⟨Only.refl _ _, fun _ _ => rfl, fun _ => rfl⟩
theorem Only.sets {bs : List Nat} {u w : World} (b : Nat) (hb : b ∈ bs) : ∀ (l : List Value) (o : Nat) {w : World}, Only bs u w → Only bs u (Go.Proofs.Ytlmplfpdmelcjaa.sets w b o l)
  | [], _, _, h => h
  | c :: r, o, w, h => by unfold Go.Proofs.Ytlmplfpdmelcjaa.sets; exact Only.sets (w := w) b hb r (o + 1) (h.setCell b o c hb)
theorem MarkStep.sets {wr W : World} {b o s : Nat} {M : List Nat} (h : MarkStep wr W b o s M) (l : List Value) (s' : Nat) (hs : s' = s + l.length) : MarkStep wr (Go.Proofs.Ytlmplfpdmelcjaa.sets W b (o + s) l) b o s' M :=
  ⟨Only.sets (w := W) b (by simp) l _ h.only, fun i hi => (sets_out b l W (o + s) (o + i) (by omega)).trans (h.cells i (by omega)), fun i => (sets_frozen b l W _ _).trans (h.frz i)⟩
theorem MarkStep.below {wr W W' : World} {b o s : Nat} {M : List Nat} (h : MarkStep wr W b o s M) (hb : Below W.heap.size W W') (hl : b < W.heap.size) : MarkStep wr W' b o s M :=
  ⟨h.only.trans (Only.of_below hb), fun i hi => (hb.cell (p := ⟨b, o + i, none⟩) hl).trans (h.cells i hi), fun i => (hb.frozen (p := ⟨b, i, none⟩) hl).trans (h.frz i)⟩
theorem MarkStep.mark {wr W W' : World} {b o s : Nat} {M bs : List Nat} (h : MarkStep wr W b o s M) (ho : Only bs W W') (hn : b ∉ bs) (hl : b < W.heap.size) : MarkStep wr W' b o s (M ++ bs) := by
  have hk := ho.block b hl hn
  refine ⟨(h.only.mono ?_).trans (ho.mono ?_), fun i hi => (World.cell?_of_block (a := ⟨b, o + i, none⟩) hk).trans (h.cells i hi), fun i => (World.frozen?_of_block (a := ⟨b, i, none⟩) hk).trans (h.frz i)⟩
  · intro c hc
    rcases List.mem_cons.1 hc with rfl | hc
    · exact List.mem_cons_self
    · exact List.mem_cons_of_mem _ (List.mem_append_left _ hc)
  · intro c hc
    exact List.mem_cons_of_mem _ (List.mem_append_right _ hc)
theorem MarkStep.same {wr W : World} {b o s : Nat} {M cs : List Nat} (h : MarkStep wr W b o s M) (hc : ∀ c ∈ cs, c < wr.heap.size ∧ c ≠ b ∧ c ∉ M) : SameOn cs wr W :=
  h.only.sameOn fun c hm => ⟨(hc c hm).1, by simp only [List.mem_cons, not_or]; exact (hc c hm).2⟩
/-- the first of a row, taken apart -/
theorem RowOwnC.first {w : World} {b o : Nat} {f : Ck} {r : List Ck} {bs : List Nat} (h : RowOwnC w b o (f :: r) bs) :
    ∃ i1 j1 s1 t1 k1 l1 a cap, ∃ b1 bsc bsk b3 c2, bs = (b1 ++ (bsc ++ bsk) ++ b3) ++ c2 ∧ w.cell? ⟨b, o, none⟩ = some (.int .i64 f.kind) ∧ w.cell? ⟨b, o + 1, none⟩ = some (.int .i64 f.id) ∧ w.cell? ⟨b, o + 2, none⟩ = some (.string f.name) ∧ w.cell? ⟨b, o + 3, none⟩ = some (.int .i64 f.n) ∧ w.cell? ⟨b, o + 4, none⟩ = some (.slice i1 f.ids.length j1) ∧ w.cell? ⟨b, o + 5, none⟩ = some (.int .i64 f.data.kind) ∧ w.cell? ⟨b, o + 6, none⟩ = some (.string f.data.name) ∧ w.cell? ⟨b, o + 7, none⟩ = some (.int .i64 f.data.n) ∧ w.cell? ⟨b, o + 8, none⟩ = some (.slice s1 f.data.scopes.length t1) ∧ w.cell? ⟨b, o + 9, none⟩ = some (.slice k1 f.data.kids.length l1) ∧ w.cell? ⟨b, o + 10, none⟩ = some (.slice a f.kids.length cap) ∧ (∀ j, j < 11 → w.frozen? ⟨b, o + j, none⟩ = false) ∧
      IntOwn w (.slice i1 f.ids.length j1) f.ids b1 ∧ IntOwn w (.slice s1 f.data.scopes.length t1) f.data.scopes bsc ∧ KidsOwn w k1 l1 f.data.kids bsk ∧ CoresOwn w a cap f.kids b3 ∧ RowOwnC w b (o + 11) r c2 := by
  unfold RowOwnC at h
  obtain ⟨bs1, bs2, rfl, ⟨c0, c1, c2, c3, c4, c5, c6, c7, c8, c9, c10, h0, h1, h2, h3, h4, h5, h6, h7, h8, h9, h10, hf, h12⟩, h13⟩ := h
  cases f with
  | mk k id nm n ids d ks =>
    unfold OwnC at h12
    obtain ⟨i1, j1, s1, t1, k1, l1, a, cap, b1, b2, b3, e, _, _, _, _, hr, hd, g1, g2, rfl, g3⟩ := h12
    obtain ⟨s2, t2, k2, l2, bsc, bsk, e2, _, _, _, hs, hk, rfl⟩ := hd.kids
    injection e with e
    injection e with e
    simp only [List.cons.injEq, and_true] at e
    obtain ⟨rfl, rfl, rfl, rfl, rfl, rfl, rfl, rfl, rfl, rfl, rfl⟩ := e
    injection e2 with e2
    injection e2 with e2
    simp only [List.cons.injEq, and_true, Value.slice.injEq, true_and] at e2
    obtain ⟨⟨rfl, rfl⟩, rfl, rfl⟩ := e2
    exact ⟨i1, j1, s1, t1, k1, l1, a, cap, b1, bsc, bsk, b3, bs2, rfl, h0, h1, h2, h3, h4, h5, h6, h7, h8, h9, h10, hf, hr, hs, hk, ⟨g1, g2, g3⟩, h13⟩
/-- the contract of the marks of a list of core programs -/
def MarkSaidC (ks : List Ck) : Prop := ∀ (a : Option Addr) (cap : Nat) (bs : List Nat) (k : Int) (w : World), CoresOwn w a cap ks bs → bs.Nodup → (∀ c ∈ bs, c < w.heap.size) → 1 ≤ k → k + marksCs ks ≤ 1099511627776 →
  Calls Try.prog 120 #[.slice a ks.length cap, .int .i64 k] w fun e w' => e = .returned (.int .i64 (k + marksCs ks)) ∧ Only bs w w'
theorem disj_of {b : Nat} {bs1 b1 bsc bsk b3 c2 : List Nat} (h : (b :: (bs1 ++ ((b1 ++ (bsc ++ bsk) ++ b3) ++ c2))).Nodup) :
    (b ∉ b1 ∧ b ∉ bsc ∧ b ∉ bsk ∧ b ∉ b3 ∧ b ∉ c2) ∧ (∀ c ∈ bsc, c ∉ b1) ∧ (∀ c ∈ bsk, c ∉ b1 ∧ c ∉ bsc) ∧ (∀ c ∈ b3, c ∉ b1 ∧ c ∉ bsc ∧ c ∉ bsk) ∧ (∀ c ∈ c2, c ∉ b1 ∧ c ∉ bsc ∧ c ∉ bsk ∧ c ∉ b3) ∧ bsk.Nodup ∧ b3.Nodup := by
  obtain ⟨h1, h2⟩ := List.nodup_cons.1 h
  simp only [List.mem_append, not_or] at h1
  obtain ⟨_, h3, _⟩ := List.nodup_append.1 h2
  obtain ⟨h4, _, h5⟩ := List.nodup_append.1 h3
  obtain ⟨h6, h7, h8⟩ := List.nodup_append.1 h4
  obtain ⟨_, h9, h10⟩ := List.nodup_append.1 h6
  obtain ⟨_, h11, h12⟩ := List.nodup_append.1 h9
  refine ⟨⟨h1.2.1.1.1, h1.2.1.1.2.1, h1.2.1.1.2.2, h1.2.1.2, h1.2.2⟩, fun c hc hm => h10 c hm c (by simp [hc]) rfl, fun c hc => ⟨fun hm => h10 c hm c (by simp [hc]) rfl, fun hm => h12 c hm c hc rfl⟩,
    fun c hc => ⟨fun hm => h8 c (by simp [hm]) c hc rfl, fun hm => h8 c (by simp [hm]) c hc rfl, fun hm => h8 c (by simp [hm]) c hc rfl⟩,
    fun c hc => ⟨fun hm => h5 c (by simp [hm]) c hc rfl, fun hm => h5 c (by simp [hm]) c hc rfl, fun hm => h5 c (by simp [hm]) c hc rfl, fun hm => h5 c (by simp [hm]) c hc rfl⟩, h11, h7⟩
set_option maxRecDepth 100000 in
set_option maxHeartbeats 8000000 in
theorem markCoreS_of (ks : List Ck) (ih : ∀ g ∈ ks, MarkSaidC g.kids) : MarkSaidC ks := by
  intro a cap bs k w hv hnd hlt hk hk2
  by_cases hne : ks = []
  · subst hne
    obtain ⟨hcap, hmax, _⟩ := hv
    unfold maxLen at hmax
    go_enter Try.func120, Try.ntmps120
    go_wp2
    go_loopw [1, 5] (fun m i wr => m = .int .i64 k ∧ i = .int .i64 0 ∧ wr = w) (fun _ _ _ => 0)
    case atStart => exact ⟨rfl, rfl, rfl⟩
    case round =>
      obtain ⟨rfl, rfl, rfl⟩ := hrel
      go_wp2
      go_ret
      exact ⟨ret_int (by simp [marksCs]), Only.refl _ _⟩
  · obtain ⟨hcap, hmax, hrow⟩ := hv
    obtain ⟨b, off, bs3, rfl, rfl, hrow1⟩ : ∃ b off bs3, a = some ⟨b, off, none⟩ ∧ bs = b :: bs3 ∧ RowOwnC w b off ks bs3 := by
      rcases hrow with h | h
      · exact absurd h.1 hne
      · exact h
    unfold maxLen at hmax
    have HIH := Lib.hid ih
    have HND := Lib.hid hnd
    have HLT := Lib.hid hlt
    have HK2 := Lib.hid hk2
    have HST : Hid (∃ bs1 bs2, bs3 = bs1 ++ bs2 ∧ Only (b :: bs3) w w ∧ RowOwnC w b (off + 0 * 11) (ks.drop 0) bs2) := ⟨[], bs3, rfl, Only.refl _ _, by simpa using hrow1⟩
    clear ih hnd hlt hrow hrow1 hne
    go_enter Try.func120, Try.ntmps120
    go_wp2
    go_loopw [1, 5] (fun m i wr => ∃ j : Nat, j ≤ ks.length ∧ i = .int .i64 j ∧ m = .int .i64 (k + marksCs (ks.take j)) ∧ ∃ bs1 bs2, bs3 = bs1 ++ bs2 ∧ Only (b :: bs3) w wr ∧ RowOwnC wr b (off + j * 11) (ks.drop j) bs2) (fun _ i _ => ks.length - (intOf i).toNat)
    case atStart => exact ⟨0, Nat.zero_le _, rfl, by simp [marksCs], HST.out⟩
    case round =>
      obtain ⟨j, hj, rfl, rfl, bs1, bs2, hbs, hO, hrow⟩ := hrel
      have hml := marksCs_take_le ks j
      by_cases hlt : j < ks.length
      · rw [List.drop_eq_getElem_cons hlt] at hrow
        obtain ⟨i1, j1, s1, t1, k1, l1, a, cap, b1, bsc, bsk, b3, c2, hbe, h0, h1, h2, h3, h4, h5, h6, h7, h8, h9, h10, hfz, hI, hSc, hKd, hCo, hrest⟩ := hrow.first
        subst hbe
        have hdj := disj_of (hbs ▸ HND.out)
        have HDJ := Lib.hid hdj
        have hltb : ∀ c ∈ (b1 ++ (bsc ++ bsk) ++ b3) ++ c2, c < wr.heap.size := fun c hc => Nat.lt_of_lt_of_le (HLT.out c (by rw [hbs]; exact List.mem_cons_of_mem _ (List.mem_append_right _ hc))) hO.size
        have HLTB := Lib.hid hltb
        have hbw : b < wr.heap.size := Nat.lt_of_lt_of_le (HLT.out b (by simp)) hO.size
        have HI := Lib.hid hI
        have HS := Lib.hid hSc
        have HKD := Lib.hid hKd
        have HCO := Lib.hid hCo
        have HRE := Lib.hid hrest
        have HFZ := Lib.hid hfz
        have HO := Lib.hid hO
        have HBS := Lib.hid hbs
        have hts := marksCs_take_succ ks j hlt
        have hml2 := marksCs_take_le ks (j + 1)
        have hme := Ck.marks_eq ks[j]
        have hmd := marks_eq ks[j].data
        have hB' : k + marksCs (ks.take j) + 1 + 1 + 1 + 1 + ks[j].ids.length + 1 + 1 + 1 + ks[j].data.scopes.length + marksAll ks[j].data.kids + marksCs ks[j].kids ≤ 1099511627776 := by omega
        have HTS : Hid (k + marksCs (ks.take (j + 1)) = k + marksCs (ks.take j) + 1 + 1 + 1 + 1 + ks[j].ids.length + 1 + 1 + 1 + ks[j].data.scopes.length + marksAll ks[j].data.kids + marksCs ks[j].kids) := by unfold Hid; omega
        have HC := Lib.hid (And.intro h0 (And.intro h1 (And.intro h2 (And.intro h3 (And.intro h4 (And.intro h5 (And.intro h6 (And.intro h7 (And.intro h8 (And.intro h9 h10))))))))))
        have f0 := hfz 0 (by omega)
        rw [Nat.add_zero] at f0
        have f1 := hfz 1 (by omega)
        have hkd : ks[j].kids.length ≤ cap ∧ cap ≤ maxLen := ⟨hCo.1, hCo.2.1⟩
        clear hI hSc hKd hCo hrest hfz hO hts hme hmd hml2 hdj hltb hrow hbs h2 h3 h4 h5 h6 h7 h8 h9 h10 hkd
        obtain ⟨V1, hV⟩ : ∃ V, V = ((wr.setCell ⟨b, off + j * 11, none⟩ (.int .i64 (k + marksCs (ks.take j)))).setCell ⟨b, off + j * 11 + 1, none⟩ (.int .i64 (k + marksCs (ks.take j) + 1))) := ⟨_, rfl⟩
        have E1 : Hid (V1 = sets wr b (off + j * 11 + 0) [.int .i64 (k + marksCs (ks.take j)), .int .i64 (k + marksCs (ks.take j) + 1)]) := by unfold Hid; rw [hV]; rfl
        have hS1 : MarkStep wr V1 b (off + j * 11) 2 [] := by rw [E1.out]; exact (MarkStep.start wr b (off + j * 11)).sets _ 2 rfl
        have hz1 : V1.heap.size = wr.heap.size := by rw [E1.out, sets_size]
        have HV1 := Lib.hid hV
        clear hV
        go_wp2_with fail
        rw [← HV1.out]
        clear HV1 h0 h1 f0 f1
        refine (markText_any (k + marksCs (ks.take j) + 1 + 1) V1 (by omega) (by omega)).mono ?_
        rintro e W2 ⟨rfl, hb⟩
        have hz2 : wr.heap.size ≤ W2.heap.size := by have := hb.size; omega
        have hS2 := hS1.below hb (by omega)
        have c2_ := (hS2.cells 2 (by omega)).trans HC.out.2.2.1
        have c3_ := (hS2.cells 3 (by omega)).trans HC.out.2.2.2.1
        have c4_ := (hS2.cells 4 (by omega)).trans HC.out.2.2.2.2.1
        have f2 := (hS2.frz _).trans (HFZ.out 2 (by omega))
        have f3 := (hS2.frz _).trans (HFZ.out 3 (by omega))
        have HS2 := Lib.hid hS2
        clear hb hS1 hS2
        obtain ⟨V2, hV⟩ : ∃ V, V = ((W2.setCell ⟨b, off + j * 11 + 2, none⟩ (.string (mtext (k + marksCs (ks.take j) + 1 + 1)))).setCell ⟨b, off + j * 11 + 3, none⟩ (.int .i64 (k + marksCs (ks.take j) + 1 + 1 + 1))) := ⟨_, rfl⟩
        have E2 : Hid (V2 = sets W2 b (off + j * 11 + 2) [.string (mtext (k + marksCs (ks.take j) + 1 + 1)), .int .i64 (k + marksCs (ks.take j) + 1 + 1 + 1)]) := by unfold Hid; rw [hV]; rfl
        have hS3 : MarkStep wr V2 b (off + j * 11) 4 [] := by rw [E2.out]; exact HS2.out.sets _ 4 rfl
        have hzv2 : V2.heap.size = W2.heap.size := by rw [E2.out, sets_size]
        have HI2 := Lib.hid (HI.out.later (hS3.same (fun c hc => ⟨HLTB.out c (by simp [hc]), fun e => HDJ.out.1.1 (e ▸ hc), by simp⟩)))
        have HS3 := Lib.hid hS3
        have HV2 := Lib.hid hV
        clear hV hS3 HS2
        go_wp2_with fail
        rw [← HV2.out]
        clear HV2 c2_ c3_ c4_ f2 f3
        refine (markIntS_any _ _ _ (k + marksCs (ks.take j) + 1 + 1 + 1 + 1) V2 HI2.out (by omega) (by omega)).mono ?_
        rintro e W3 ⟨rfl, _, ho⟩
        have hz3 : V2.heap.size ≤ W3.heap.size := ho.size
        have hS4 := HS3.out.mark ho HDJ.out.1.1 (by omega)
        have c5_ := (hS4.cells 5 (by omega)).trans HC.out.2.2.2.2.2.1
        have f5 := (hS4.frz _).trans (HFZ.out 5 (by omega))
        have HS4 := Lib.hid hS4
        clear ho hS4 HS3 HI2
        obtain ⟨V3, hV⟩ : ∃ V, V = (W3.setCell ⟨b, off + j * 11 + 5, none⟩ (.int .i64 (k + marksCs (ks.take j) + 1 + 1 + 1 + 1 + ks[j].ids.length))) := ⟨_, rfl⟩
        have E3 : Hid (V3 = sets W3 b (off + j * 11 + 5) [.int .i64 (k + marksCs (ks.take j) + 1 + 1 + 1 + 1 + ks[j].ids.length)]) := by unfold Hid; rw [hV]; rfl
        have hS5 : MarkStep wr V3 b (off + j * 11) 6 ([] ++ b1) := by rw [E3.out]; exact (MarkStep.mk HS4.out.only (fun i hi => HS4.out.cells i (by omega)) HS4.out.frz : MarkStep wr W3 b (off + j * 11) 5 ([] ++ b1)).sets _ 6 rfl
        have hzv3 : V3.heap.size = W3.heap.size := by rw [E3.out, sets_size]
        have HV3 := Lib.hid hV
        clear hV
        go_wp2_with fail
        rw [← HV3.out]
        clear HV3 c5_ f5
        refine (markText_any (k + marksCs (ks.take j) + 1 + 1 + 1 + 1 + ks[j].ids.length + 1) V3 (by omega) (by omega)).mono ?_
        rintro e W4 ⟨rfl, hb⟩
        have hz4 : V3.heap.size ≤ W4.heap.size := hb.size
        have hS6 := hS5.below hb (by omega)
        have c6_ := (hS6.cells 6 (by omega)).trans HC.out.2.2.2.2.2.2.1
        have c7_ := (hS6.cells 7 (by omega)).trans HC.out.2.2.2.2.2.2.2.1
        have c8_ := (hS6.cells 8 (by omega)).trans HC.out.2.2.2.2.2.2.2.2.1
        have f6 := (hS6.frz _).trans (HFZ.out 6 (by omega))
        have f7 := (hS6.frz _).trans (HFZ.out 7 (by omega))
        have HS6 := Lib.hid hS6
        clear hb hS5 hS6 HS4
        obtain ⟨V4, hV⟩ : ∃ V, V = ((W4.setCell ⟨b, off + j * 11 + 6, none⟩ (.string (mtext (k + marksCs (ks.take j) + 1 + 1 + 1 + 1 + ks[j].ids.length + 1)))).setCell ⟨b, off + j * 11 + 7, none⟩ (.int .i64 (k + marksCs (ks.take j) + 1 + 1 + 1 + 1 + ks[j].ids.length + 1 + 1))) := ⟨_, rfl⟩
        have E4 : Hid (V4 = sets W4 b (off + j * 11 + 6) [.string (mtext (k + marksCs (ks.take j) + 1 + 1 + 1 + 1 + ks[j].ids.length + 1)), .int .i64 (k + marksCs (ks.take j) + 1 + 1 + 1 + 1 + ks[j].ids.length + 1 + 1)]) := by unfold Hid; rw [hV]; rfl
        have hS7 : MarkStep wr V4 b (off + j * 11) 8 ([] ++ b1) := by rw [E4.out]; exact HS6.out.sets _ 8 rfl
        have hzv4 : V4.heap.size = W4.heap.size := by rw [E4.out, sets_size]
        have HS4_ := Lib.hid (HS.out.later (hS7.same (fun c hc => ⟨HLTB.out c (by simp [hc]), fun e => HDJ.out.1.2.1 (e ▸ hc), by simpa using HDJ.out.2.1 c hc⟩)))
        have HS7 := Lib.hid hS7
        have HV4 := Lib.hid hV
        clear hV hS7 HS6
        go_wp2_with fail
        rw [← HV4.out]
        clear HV4 c6_ c7_ c8_ f6 f7
        refine (markIntS_any _ _ _ (k + marksCs (ks.take j) + 1 + 1 + 1 + 1 + ks[j].ids.length + 1 + 1 + 1) V4 HS4_.out (by omega) (by omega)).mono ?_
        rintro e W5 ⟨rfl, _, ho⟩
        have hz5 : V4.heap.size ≤ W5.heap.size := ho.size
        have hS8 := HS7.out.mark ho HDJ.out.1.2.1 (by omega)
        have c9_ := (hS8.cells 9 (by omega)).trans HC.out.2.2.2.2.2.2.2.2.2.1
        have HKD5 := Lib.hid (HKD.out.later (hS8.same (fun c hc => ⟨HLTB.out c (by simp [hc]), fun e => HDJ.out.1.2.2.1 (e ▸ hc), by have := HDJ.out.2.2.1 c hc; simp only [List.nil_append, List.mem_append, not_or]; exact this⟩)))
        have HS8 := Lib.hid hS8
        clear ho hS8 HS7 HS4_
        go_wp2_with fail
        refine (markFormS_any ks[j].data.kids _ _ _ (k + marksCs (ks.take j) + 1 + 1 + 1 + 1 + ks[j].ids.length + 1 + 1 + 1 + ks[j].data.scopes.length) W5 HKD5.out HDJ.out.2.2.2.2.2.1 (fun c hc => by have := HLTB.out c (by simp [hc]); omega) (by omega) (by omega)).mono ?_
        rintro e W6 ⟨rfl, _, ho⟩
        have hz6 : W5.heap.size ≤ W6.heap.size := ho.size
        have hS9 := HS8.out.mark ho HDJ.out.1.2.2.1 (by omega)
        have c10_ := (hS9.cells 10 (by omega)).trans HC.out.2.2.2.2.2.2.2.2.2.2
        have HCO6 := Lib.hid (HCO.out.later (hS9.same (fun c hc => ⟨HLTB.out c (by simp [hc]), fun e => HDJ.out.1.2.2.2.1 (e ▸ hc), by have := HDJ.out.2.2.2.1 c hc; simp only [List.nil_append, List.mem_append, not_or]; exact ⟨⟨this.1, this.2.1⟩, this.2.2⟩⟩)))
        have HS9 := Lib.hid hS9
        clear ho hS9 HS8 HKD5 c9_
        go_wp2_with fail
        refine (HIH.out ks[j] (List.getElem_mem hlt) _ _ _ (k + marksCs (ks.take j) + 1 + 1 + 1 + 1 + ks[j].ids.length + 1 + 1 + 1 + ks[j].data.scopes.length + marksAll ks[j].data.kids) W6 HCO6.out HDJ.out.2.2.2.2.2.2 (fun c hc => by have := HLTB.out c (by simp [hc]); omega) (by omega) hB').mono ?_
        rintro e W7 ⟨rfl, ho⟩
        have hS10 := HS9.out.mark ho HDJ.out.1.2.2.2.1 (by omega)
        have HREL : Hid (∃ bs1' bs2', bs3 = bs1' ++ bs2' ∧ Only (b :: bs3) w W7 ∧ RowOwnC W7 b (off + (j + 1) * 11) (ks.drop (j + 1)) bs2') := by
          refine ⟨bs1 ++ (b1 ++ (bsc ++ bsk) ++ b3), c2, by rw [HBS.out]; simp only [List.append_assoc], HO.out.trans (hS10.only.mono ?_), ?_⟩
          · intro c hc
            rw [HBS.out]
            simp only [List.nil_append, List.mem_cons, List.mem_append] at hc ⊢
            rcases hc with h | ((h | h) | h) | h
            · exact .inl h
            · exact .inr (.inr (.inl (.inl (.inl h))))
            · exact .inr (.inr (.inl (.inl (.inr (.inl h)))))
            · exact .inr (.inr (.inl (.inl (.inr (.inr h)))))
            · exact .inr (.inr (.inl (.inr h)))
          · rw [show off + (j + 1) * 11 = off + j * 11 + 11 from by omega]
            refine RowOwnC.upto (hS10.same (fun c hc => ⟨HLTB.out c (by simp [hc]), fun e => HDJ.out.1.2.2.2.2 (e ▸ hc), by have := HDJ.out.2.2.2.2.1 c hc; simp only [List.nil_append, List.mem_append, not_or]; exact ⟨⟨⟨this.1, this.2.1⟩, this.2.2.1⟩, this.2.2.2⟩⟩)) (fun i h1 h2 => ⟨?_, hS10.frz i⟩) HRE.out
            obtain ⟨m, rfl⟩ : ∃ m, i = off + j * 11 + m := ⟨i - (off + j * 11), by omega⟩
            exact hS10.cells m (by omega)
        clear ho hS10 c10_
        go_wp2_with fail
        go_roundw
        case rel => exact ⟨j + 1, by omega, by go_num, by rw [HTS.out], HREL.out⟩
        case measure => simp [intOf]; omega
      · obtain rfl : j = ks.length := by omega
        have HZ := Lib.hid (List.take_length (l := ks))
        have HO := Lib.hid hO
        clear hO hrow hbs
        go_wp2
        go_ret
        exact ⟨by first | rfl | (rw [HZ.out]; rfl), HO.out⟩
theorem markCores_any (f : Ck) : MarkSaidC f.kids := by
  induction f using Ck.ind with
  | h k id nm n ids d ks ih => exact markCoreS_of ks ih
theorem markCoreS_any (ks : List Ck) : MarkSaidC ks := markCoreS_of ks fun g _ => markCores_any g
set_option maxRecDepth 100000 in
set_option maxHeartbeats 4000000 in
theorem markCore_any (f : Ck) (v : Value) (bs : List Nat) (k : Int) (w : World) (hv : OwnC w f v bs) (hnd : bs.Nodup) (hlt : ∀ c ∈ bs, c < w.heap.size) (hk : 1 ≤ k) (hk2 : k + f.marks ≤ 1099511627776) :
    Calls Try.prog 62 #[v, .int .i64 k] w fun e w' => e = .returned (.int .i64 (k + f.marks)) ∧ Only bs w w' := by
  cases f with
  | mk kd id nm n ids d ks =>
    have hme : (Ck.mk kd id nm n ids d ks).marks = ids.length + d.marks + marksCs ks := by unfold Ck.marks; rfl
    have HME := Lib.hid hme
    rw [hme] at hk2
    unfold OwnC at hv
    obtain ⟨i1, j1, s1, t1, k1, l1, a, cap, b1, b2, b3, rfl, _, _, _, _, hr, hd, h1, h2, rfl, h3⟩ := hv
    have HR := Lib.hid hr
    have HD := Lib.hid hd
    have HC : Hid (CoresOwn w a cap ks b3) := ⟨h1, h2, h3⟩
    have HLT := Lib.hid hlt
    obtain ⟨n1, n2, n3⟩ := List.nodup_append.1 hnd
    obtain ⟨n4, n5, n6⟩ := List.nodup_append.1 n1
    have HN := Lib.hid (And.intro n2 (And.intro n3 (And.intro n5 n6)))
    clear hr hd h1 h2 h3 hlt hnd n1 n2 n3 n4 n5 n6 hme
    obtain ⟨W0, hW⟩ : ∃ W, W = w.alloc (.cells #[.int .i64 kd, .int .i64 id, .string nm, .int .i64 n, .slice i1 ids.length j1, .int .i64 d.kind, .string d.name, .int .i64 d.n, .slice s1 d.scopes.length t1, .slice k1 d.kids.length l1, .slice a ks.length cap] 79) := ⟨_, rfl⟩
    have hb0 : Below w.heap.size w W0 := by rw [hW]; exact below_alloc w _
    have hz0 : W0.heap.size = w.heap.size + 1 := by rw [hW]; simp
    have c5 : W0.cell? ⟨w.heap.size, 5, none⟩ = some (.int .i64 d.kind) := by rw [hW]; exact World.cell?_alloc_at _ _ _ _ rfl
    have c6 : W0.cell? ⟨w.heap.size, 6, none⟩ = some (.string d.name) := by rw [hW]; exact World.cell?_alloc_at _ _ _ _ rfl
    have c7 : W0.cell? ⟨w.heap.size, 7, none⟩ = some (.int .i64 d.n) := by rw [hW]; exact World.cell?_alloc_at _ _ _ _ rfl
    have c8 : W0.cell? ⟨w.heap.size, 8, none⟩ = some (.slice s1 d.scopes.length t1) := by rw [hW]; exact World.cell?_alloc_at _ _ _ _ rfl
    have c9 : W0.cell? ⟨w.heap.size, 9, none⟩ = some (.slice k1 d.kids.length l1) := by rw [hW]; exact World.cell?_alloc_at _ _ _ _ rfl
    have c10 : W0.cell? ⟨w.heap.size, 10, none⟩ = some (.slice a ks.length cap) := by rw [hW]; exact World.cell?_alloc_at _ _ _ _ rfl
    have HW := Lib.hid hW
    have HB0 := Lib.hid hb0
    clear hW hb0
    go_enter Try.func62, Try.ntmps62
    go_wp2_with fail
    rw [← HW.out]
    clear HW
    refine (markIntS_any _ _ _ k W0 (HR.out.later (SameOn.of_below HB0.out (fun c hc => HLT.out c (by simp [hc])))) hk (by omega)).mono ?_
    rintro e W1 ⟨rfl, _, ho⟩
    have hz1 : W0.heap.size ≤ W1.heap.size := ho.size
    have hkb := ho.block w.heap.size (by omega) (fun hm => by have := HLT.out _ (List.mem_append_left _ (List.mem_append_left _ hm)); omega)
    have d5 := (World.cell?_of_block (a := ⟨w.heap.size, 5, none⟩) hkb).trans c5
    have d6 := (World.cell?_of_block (a := ⟨w.heap.size, 6, none⟩) hkb).trans c6
    have d7 := (World.cell?_of_block (a := ⟨w.heap.size, 7, none⟩) hkb).trans c7
    have d8 := (World.cell?_of_block (a := ⟨w.heap.size, 8, none⟩) hkb).trans c8
    have d9 := (World.cell?_of_block (a := ⟨w.heap.size, 9, none⟩) hkb).trans c9
    have d10 := (World.cell?_of_block (a := ⟨w.heap.size, 10, none⟩) hkb).trans c10
    have HO1 : Hid (Only (b1 ++ b2 ++ b3) w W1) := (Only.of_below HB0.out).trans (ho.mono (fun c hc => by simp [hc]))
    have HD1 := Lib.hid (OwnV.later _ _ _ (ho.sameOn (fun c hc => ⟨by have := HLT.out c (by simp [hc]); omega, fun hm => HN.out.2.2.2 c hm c hc rfl⟩)) (OwnV.later _ _ _ (SameOn.of_below HB0.out (fun c hc => HLT.out c (by simp [hc]))) HD.out))
    have HC1 := Lib.hid (CoresOwn.later (ho.sameOn (fun c hc => ⟨by have := HLT.out c (by simp [hc]); omega, fun hm => HN.out.2.1 c (by simp [hm]) c hc rfl⟩)) (CoresOwn.later (SameOn.of_below HB0.out (fun c hc => HLT.out c (by simp [hc]))) HC.out))
    clear ho hkb c5 c6 c7 c8 c9 c10
    go_wp2_with fail
    refine (markForm_any d _ b2 (k + ids.length) W1 HD1.out HN.out.2.2.1 (fun c hc => by have := HLT.out c (by simp [hc]); omega) (by omega) (by omega)).mono ?_
    rintro e W2 ⟨rfl, _, ho⟩
    have hz2 : W1.heap.size ≤ W2.heap.size := ho.size
    have hkb := ho.block w.heap.size (by omega) (fun hm => by have := HLT.out _ (List.mem_append_left _ (List.mem_append_right _ hm)); omega)
    have e10 := (World.cell?_of_block (a := ⟨w.heap.size, 10, none⟩) hkb).trans d10
    have HO2 : Hid (Only (b1 ++ b2 ++ b3) w W2) := HO1.out.trans (ho.mono (fun c hc => by simp [hc]))
    have HC2 := Lib.hid (CoresOwn.later (ho.sameOn (fun c hc => ⟨by have := HLT.out c (by simp [hc]); omega, fun hm => HN.out.2.1 c (by simp [hm]) c hc rfl⟩)) HC1.out)
    clear ho hkb d5 d6 d7 d8 d9 d10
    go_wp2_with fail
    refine (markCoreS_any ks a cap b3 (k + ids.length + d.marks) W2 HC2.out HN.out.1 (fun c hc => by have := HLT.out c (by simp [hc]); omega) (by omega) (by omega)).mono ?_
    rintro e W3 ⟨rfl, ho⟩
    have HO3 : Hid (Only (b1 ++ b2 ++ b3) w W3) := HO2.out.trans (ho.mono (fun c hc => by simp [hc]))
    clear ho e10
    go_wp2_with fail
    go_ret
    exact ⟨ret_int (by rw [HME.out]; omega), HO3.out⟩
end Go.Proofs.Ytlmplfpdmelcjaa
