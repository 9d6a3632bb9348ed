/- The contracts of the model's pieces of patterns: depths of variables, shapes. -/
import Derived.Test.YtbclgmabidjegaaSpecPat
namespace Go.Proofs.Ytbclgmabidjegaa
open Go.RowKit
set_option linter.unusedVariables false
set_option linter.unusedSimpArgs false
theorem infoIntP : (Try.prog.info? 3).map (fun i => (i.zero, i.size, i.bytes)) = some (some (.int .i64 0), 1, 8) := by kernel_rfl
theorem depUp_length (ls ks : List Fm) (d : Int) : ∀ j, j ≤ ks.length → (depUp ls ks d j).length ≤ countAll (ks.take j)
  | 0, _ => by simp [depUp]
  | j + 1, h => by
    have hj : j < ks.length := by omega
    have h1 := depUp_length ls ks d j (by omega)
    have h2 := countAll_take_succ ks j hj
    have h3 := varsF_length ls ks[j]
    rw [depUp_succ hj, List.length_append, depF_length]
    omega
set_option maxRecDepth 100000 in
set_option maxHeartbeats 4000000 in
theorem l4Depths_any (B : Nat) (ls : List Fm) (la : Option Addr) (lcap : Nat) (f : Fm) : ∀ (sa : Option Addr) (scap : Nat) (a : Option Addr) (cap : Nat) (out : List Int) (d : Int) (vo : Value) (base : Nat) (w : World), B ≤ base → base ≤ w.heap.size → FormsIn (· < B) w la lcap ls →
    w.ownsRow base 3 1 vo out.length (out.map (Value.int .i64)) → InV (· < B) w f (.agg #[.int .i64 f.kind, .string f.name, .int .i64 f.n, .slice sa f.scopes.length scap, .slice a f.kids.length cap]) → out.length + f.count ≤ 4194304 → 0 ≤ d ∧ d + f.count ≤ 1073741824 →
    Calls Try.prog 144 #[vo, (.agg #[.int .i64 f.kind, .string f.name, .int .i64 f.n, .slice sa f.scopes.length scap, .slice a f.kids.length cap]), .slice la ls.length lcap, .int .i64 d] w fun e w' => ∃ v', e = .returned v' ∧ w'.ownsRow base 3 1 v' (out ++ depF ls f d).length ((out ++ depF ls f d).map (Value.int .i64)) ∧
      w.grownBy w' vo.ownBlock ∧ (∀ q, v'.ownBlock = some q → w.heap.size ≤ q ∨ vo.ownBlock = some q) := by
  induction f using Fm.ind with
  | h k nm n sc ks ih =>
    intro sa scap a cap out d vo base w hB hbase hl ho hv hcnt hdd
    simp only [Fm.kind, Fm.name, Fm.n, Fm.scopes, Fm.kids] at hv ⊢
    have HV := Lib.hid hv
    obtain ⟨_, hcap, hmax, hks⟩ := hv.kids
    simp only [Fm.kids] at hcap hks
    unfold maxLen at hmax
    have hcnt2 : out.length + countAll ks + 1 ≤ 4194304 := by simp only [Fm.count] at hcnt; omega
    have hd0 : 0 ≤ d := hdd.1
    have hd1 : d + 1 + countAll ks ≤ 1073741824 := by have := hdd.2; simp only [Fm.count] at this; omega
    obtain ⟨i0, hi0, hz0, hz1, hz2⟩ := info_parts infoIntP
    have HO := Lib.hid ho
    have HLT : Hid (∀ q, vo.ownBlock = some q → base ≤ q ∧ q < w.heap.size) := ho.lt
    have HIH := Lib.hid ih
    have HKS := Lib.hid hks
    have HL := Lib.hid hl
    clear hv ho ih hks hcnt hl hdd
    have hb0 := below_alloc w (.cells #[.int .i64 k, .string nm, .int .i64 n, .slice sa sc.length scap, .slice a ks.length cap] 33)
    have hBw : B ≤ w.heap.size := by omega
    have hL0 := HL.out.later (same_below (hb0.mono hBw))
    have hV0 := InV.later (same_below (hb0.mono hBw)) _ _ HV.out
    have HL0 := Lib.hid hL0
    have HV0 := Lib.hid hV0
    have HG0 : Hid (w.grownBy (w.alloc (.cells #[.int .i64 k, .string nm, .int .i64 n, .slice sa sc.length scap, .slice a ks.length cap] 33)) vo.ownBlock) := World.grownBy_alloc w _ _
    clear hb0 hL0 hV0
    go_enter Try.func144, Try.ntmps144
    go_wp2_with fail
    refine (l4Var_any B ls la lcap (Fm.mk k nm n sc ks) sa scap a cap _ (by simp; omega) HL0.out HV0.out).mono ?_
    rintro e w1 ⟨rfl, hb1⟩
    have hs1 : w.heap.size + 1 ≤ w1.heap.size := by have := hb1.size; simpa using this
    obtain ⟨x0, x1, x2, x3, x4⟩ := (FormBox.fresh w (Fm.mk k nm n sc ks) sa a scap cap 33).later hb1
    simp only [Fm.kind, Fm.name, Fm.n, Fm.scopes, Fm.kids] at x0 x1 x2 x3 x4
    have HG1 : Hid (w.grownBy w1 vo.ownBlock) := grown_down HG0.out hb1
    have HO1 : Hid (w1.ownsRow base 3 1 vo out.length (out.map (Value.int .i64))) := ownsRow_same' HO.out (fun g hg => (hb1.block g (by have := (HLT.out g hg).2; simp; omega)).trans ((below_alloc w _).block g (HLT.out g hg).2))
    clear hb1
    cases hvb : varB ls (Fm.mk k nm n sc ks) with
    | false =>
      have HVB := Lib.hid hvb
      clear hvb
      go_wp2_with fail
      go_loopw [0, 9, 10] (fun o i dd wr => ∃ (j : Nat), j ≤ ks.length ∧ i = .int .i64 j ∧ wr.ownsRow base 3 1 o (out ++ ([] : List Int) ++ depUp ls ks d j).length ((out ++ ([] : List Int) ++ depUp ls ks d j).map (Value.int .i64)) ∧
          w.grownBy wr vo.ownBlock ∧ (∀ q, o.ownBlock = some q → w.heap.size + 1 ≤ q ∨ vo.ownBlock = some q) ∧ w.heap.size < wr.heap.size ∧ wr.cell? ⟨w.heap.size, 4, none⟩ = some (.slice a ks.length cap)) (fun _ i _ _ => ks.length - (intOf i).toNat)
      case atStart => exact ⟨0, Nat.zero_le _, rfl, by simpa [depUp] using HO1.out, HG1.out, fun q h => .inr h, by omega, x4⟩
      case round =>
        obtain ⟨j, hj, rfl, hr, hg, hq, hsz, hc4⟩ := hrel
        have HR := Lib.hid hr
        have HG := Lib.hid hg
        have HQ := Lib.hid hq
        have HBL : Hid (Below base w wr) := below_grownP hg hbase (fun q h => (HLT.out q h).1)
        have HCN : Hid ((out ++ ([] : List Int) ++ depUp ls ks d j).length ≤ out.length + 1 + countAll (ks.take j)) := by
          have h2 := depUp_length ls ks d j hj
          have h3 : (([] : List Int) : List Int).length ≤ 1 := by simp
          unfold Hid
          rw [List.length_append, List.length_append]
          omega
        clear hr hg hq
        by_cases hlt : j < ks.length
        · rcases HKS.out with h0 | ⟨b, off, rfl, hbB, hrow⟩
          · exfalso; rw [h0] at hlt; simp at hlt
          · have hroww := hrow.later (same_below (HBL.out.mono hB)) b hbB
            obtain ⟨ga, gcap, ka, kcap, c0, c1, c2, c3, c4, hin⟩ := hroww.at' j hlt
            have HIN := Lib.hid hin
            have HCT := Lib.hid (countAll_take_succ ks j hlt)
            have HCL := Lib.hid (countAll_take_le ks (j + 1))
            have hbw : base ≤ wr.heap.size := by omega
            have hji : (0 : Int) ≤ (j : Int) := by omega
            have hjl : (j : Int) < (ks.length : Int) := by omega
            have hcw4 := hc4
            by_cases hl2 : j + 1 < ks.length
            · obtain ⟨ga2, gcap2, ka2, kcap2, p0, p1, p2, p3, p4, hin2⟩ := hroww.at' (j + 1) hl2
              have hjl2 : (j : Int) + 1 < (ks.length : Int) := by omega
              have HDA := Lib.hid (dotsAt_eq hl2)
              clear hin hrow hroww hin2 hc4
              go_wp2_with fail
              refine (l4Dots_any ks[j + 1] ga2 gcap2 ka2 kcap2 wr).mono ?_
              rintro e w1 ⟨rfl, hb1⟩
              have hs1 := hb1.size
              have hcw4' := cell_later' hb1 hcw4
              have q0 := cell_later' hb1 c0
              have q1 := cell_later' hb1 c1
              have q2 := cell_later' hb1 c2
              have q3 := cell_later' hb1 c3
              have q4 := cell_later' hb1 c4
              clear hcw4
              have hcw4 := hcw4'
              have HRW : Hid (w1.ownsRow base 3 1 u0 (out ++ ([] : List Int) ++ depUp ls ks d j).length ((out ++ ([] : List Int) ++ depUp ls ks d j).map (Value.int .i64))) := ownsRow_later HR.out hb1
              have HGW : Hid (w.grownBy w1 vo.ownBlock) := grown_down HG.out hb1
              have HBW : Hid (Below base w w1) := HBL.out.trans (hb1.mono hbw)
              have HWR : Hid (∀ k, k < wr.heap.size → w1.heap[k]? = wr.heap[k]?) := hb1.block
              clear hb1 c0 c1 c2 c3 c4 p0 p1 p2 p3 p4 hcw4'
              cases hdt : dotsB ks[j + 1] with
              | true =>
                have HDT := Lib.hid hdt
                clear hdt
                go_wp2_with fail
                have HDV : Hid ((if dotsAt ks (j + 1) = true then d + 1 else d) = d + 1) := by unfold Hid; rw [HDA.out, HDT.out]; rfl
                refine (HIH.out ks[j] (List.getElem_mem hlt) ga gcap ka kcap _ (d + 1) _ base w1 hB (by omega) (HL.out.later (same_below (HBW.out.mono hB))) HRW.out (InV.later (w := wr) (w' := w1) (fun k (hk : k < B) => HWR.out k (by omega)) _ _ HIN.out) (by have h1 := HCN.out; have h2 := HCT.out; have h3 := HCL.out; omega) (by have h2 := HCT.out; have h3 := HCL.out; omega)).mono ?_
                rintro e w9 ⟨v1, rfl, hr1, hg1, hq1⟩
                have HR1 : Hid (w9.ownsRow base 3 1 v1 (out ++ ([] : List Int) ++ depUp ls ks d (j + 1)).length ((out ++ ([] : List Int) ++ depUp ls ks d (j + 1)).map (Value.int .i64))) := by
                  unfold Hid
                  rw [depUp_succ hlt, HDV.out, ← List.append_assoc]
                  exact hr1
                have hd4 := hg1.cell hcw4 (by intro h; have h5 := HQ.out w.heap.size h.symm; exact h5.elim (fun h6 => by omega) (fun h6 => by have := (HLT.out _ h6).2; omega))
                have hs9 := hg1.size
                have HG1 : Hid (w.grownBy w9 vo.ownBlock) := HGW.out.andThen hg1 (fun q h => (HQ.out q h).elim (fun h5 => .inl (by omega)) (fun h5 => .inr h5))
                have HQ1 : Hid (∀ q, v1.ownBlock = some q → w.heap.size + 1 ≤ q ∨ vo.ownBlock = some q) := fun q h => by
                  rcases hq1 q h with h5 | h5
                  · exact .inl (by omega)
                  · exact HQ.out q h5
                clear hr1 hg1 hq1 hcw4
                go_wp2_with fail
                go_roundw
                case rel => exact ⟨j + 1, by omega, by go_num, HR1.out, HG1.out, HQ1.out, by omega, hd4⟩
                case measure => simp [intOf]; omega
              | false =>
                have HDT := Lib.hid hdt
                clear hdt
                go_wp2_with fail
                have HDV : Hid ((if dotsAt ks (j + 1) = true then d + 1 else d) = d) := by unfold Hid; rw [HDA.out, HDT.out]; rfl
                refine (HIH.out ks[j] (List.getElem_mem hlt) ga gcap ka kcap _ (d) _ base w1 hB (by omega) (HL.out.later (same_below (HBW.out.mono hB))) HRW.out (InV.later (w := wr) (w' := w1) (fun k (hk : k < B) => HWR.out k (by omega)) _ _ HIN.out) (by have h1 := HCN.out; have h2 := HCT.out; have h3 := HCL.out; omega) (by have h2 := HCT.out; have h3 := HCL.out; omega)).mono ?_
                rintro e w9 ⟨v1, rfl, hr1, hg1, hq1⟩
                have HR1 : Hid (w9.ownsRow base 3 1 v1 (out ++ ([] : List Int) ++ depUp ls ks d (j + 1)).length ((out ++ ([] : List Int) ++ depUp ls ks d (j + 1)).map (Value.int .i64))) := by
                  unfold Hid
                  rw [depUp_succ hlt, HDV.out, ← List.append_assoc]
                  exact hr1
                have hd4 := hg1.cell hcw4 (by intro h; have h5 := HQ.out w.heap.size h.symm; exact h5.elim (fun h6 => by omega) (fun h6 => by have := (HLT.out _ h6).2; omega))
                have hs9 := hg1.size
                have HG1 : Hid (w.grownBy w9 vo.ownBlock) := HGW.out.andThen hg1 (fun q h => (HQ.out q h).elim (fun h5 => .inl (by omega)) (fun h5 => .inr h5))
                have HQ1 : Hid (∀ q, v1.ownBlock = some q → w.heap.size + 1 ≤ q ∨ vo.ownBlock = some q) := fun q h => by
                  rcases hq1 q h with h5 | h5
                  · exact .inl (by omega)
                  · exact HQ.out q h5
                clear hr1 hg1 hq1 hcw4
                go_wp2_with fail
                go_roundw
                case rel => exact ⟨j + 1, by omega, by go_num, HR1.out, HG1.out, HQ1.out, by omega, hd4⟩
                case measure => simp [intOf]; omega
            · have hjl2 : ¬ ((j : Int) + 1 < (ks.length : Int)) := by omega
              have HDA := Lib.hid (dotsAt_end (ks := ks) (i := j + 1) (by omega))
              have HRW := Lib.hid HR.out
              have HGW := Lib.hid HG.out
              have HBW := Lib.hid HBL.out
              clear hin hrow hroww hc4
              go_wp2_with fail
              have HDV : Hid ((if dotsAt ks (j + 1) = true then d + 1 else d) = d) := by unfold Hid; rw [HDA.out]; rfl
              refine (HIH.out ks[j] (List.getElem_mem hlt) ga gcap ka kcap _ (d) _ base wr hB (by omega) (HL.out.later (same_below (HBW.out.mono hB))) HRW.out HIN.out (by have h1 := HCN.out; have h2 := HCT.out; have h3 := HCL.out; omega) (by have h2 := HCT.out; have h3 := HCL.out; omega)).mono ?_
              rintro e w9 ⟨v1, rfl, hr1, hg1, hq1⟩
              have HR1 : Hid (w9.ownsRow base 3 1 v1 (out ++ ([] : List Int) ++ depUp ls ks d (j + 1)).length ((out ++ ([] : List Int) ++ depUp ls ks d (j + 1)).map (Value.int .i64))) := by
                unfold Hid
                rw [depUp_succ hlt, HDV.out, ← List.append_assoc]
                exact hr1
              have hd4 := hg1.cell hcw4 (by intro h; have h5 := HQ.out w.heap.size h.symm; exact h5.elim (fun h6 => by omega) (fun h6 => by have := (HLT.out _ h6).2; omega))
              have hs9 := hg1.size
              have HG1 : Hid (w.grownBy w9 vo.ownBlock) := HGW.out.andThen hg1 (fun q h => (HQ.out q h).elim (fun h5 => .inl (by omega)) (fun h5 => .inr h5))
              have HQ1 : Hid (∀ q, v1.ownBlock = some q → w.heap.size + 1 ≤ q ∨ vo.ownBlock = some q) := fun q h => by
                rcases hq1 q h with h5 | h5
                · exact .inl (by omega)
                · exact HQ.out q h5
              clear hr1 hg1 hq1 hcw4
              go_wp2_with fail
              go_roundw
              case rel => exact ⟨j + 1, by omega, by go_num, HR1.out, HG1.out, HQ1.out, by omega, hd4⟩
              case measure => simp [intOf]; omega
        · obtain rfl : j = ks.length := by omega
          have HE : Hid (out ++ depF ls (Fm.mk k nm n sc ks) d = out ++ ([] : List Int) ++ depUp ls ks d ks.length) := by
            unfold Hid
            rw [depF_eq, HVB.out, depUp_all]
            simp [Fm.kids]
          go_wp2_with fail
          go_ret
          rw [HE.out]
          exact ⟨_, rfl, HR.out, HG.out, fun q h => (HQ.out q h).elim (fun h5 => .inl (by omega)) (fun h5 => .inr h5)⟩
    | true =>
      have HVB := Lib.hid hvb
      clear hvb
      have hL1 : out.length + 1 ≤ maxLen := by unfold maxLen; omega
      have hL2 : (out.length + 1) * 8 ≤ 140737488355328 := by omega
      have hne : some w.heap.size ≠ vo.ownBlock := fun h => by have := (HLT.out _ h.symm).2; omega
      go_wp2_with (at_builtin; refine wpList_append_lies _ rfl _ _ 22 rfl base 3 i0 _ 1 8 Try.underlying22 hi0 hz0 hz1 hz2 rfl (by decide) _ out.length (out.map (Value.int .i64)) rfl (HO1.out.alloc _) ⟨w1.heap.size, 0, none⟩ 1 1 [.int .i64 d] rfl rfl (World.news_of_block (cs := #[.int .i64 d]) (t := 3) (fr := (0, 0)) (heap_alloc_new w1 _)) (by simp [Value.oneCell']) (by omega) hL1 hL2 (by simp; omega) (w1.heap.size + 1) (by simp) ?_; intro gq qd w3 hown3 hgrow hat hlt4; have HOWN3 := Lib.hid hown3; have HGROW := Lib.hid hgrow; have HAT := Lib.hid hat; clear hown3 hgrow hat)
      have HG3 : Hid (w.grownBy w3 vo.ownBlock) := (HG1.out.trans (World.grownBy_alloc _ _ vo.ownBlock)).trans HGROW.out
      have HQ3 : Hid (∀ q, (Value.slice (some ⟨gq, 0, none⟩) (out.length + 1) qd).ownBlock = some q → w.heap.size + 1 ≤ q ∨ vo.ownBlock = some q) := fun q h => by
        have h2 : some gq = some q := h
        injection h2 with h2
        subst h2
        exact HAT.out.elim (fun h3 => .inr h3) (fun h3 => .inl (by omega))
      have HS3 : Hid (w.heap.size < w3.heap.size) := by have := HGROW.out.size; simp at this; unfold Hid; omega
      have HC3 : Hid (w3.cell? ⟨w.heap.size, 4, none⟩ = some (.slice a ks.length cap)) := HGROW.out.cell (cell_later' (below_alloc _ _) x4) hne
      have HR3 : Hid (w3.ownsRow base 3 1 (.slice (some ⟨gq, 0, none⟩) (out.length + 1) qd) (out ++ [d] ++ depUp ls ks d 0).length ((out ++ [d] ++ depUp ls ks d 0).map (Value.int .i64))) := by
        have := HOWN3.out
        unfold Hid
        simpa [depUp] using this
      clear hne hlt4 x0 x1 x2 x3 x4
      go_loopw [0, 9, 10] (fun o i dd wr => ∃ (j : Nat), j ≤ ks.length ∧ i = .int .i64 j ∧ wr.ownsRow base 3 1 o (out ++ [d] ++ depUp ls ks d j).length ((out ++ [d] ++ depUp ls ks d j).map (Value.int .i64)) ∧
          w.grownBy wr vo.ownBlock ∧ (∀ q, o.ownBlock = some q → w.heap.size + 1 ≤ q ∨ vo.ownBlock = some q) ∧ w.heap.size < wr.heap.size ∧ wr.cell? ⟨w.heap.size, 4, none⟩ = some (.slice a ks.length cap)) (fun _ i _ _ => ks.length - (intOf i).toNat)
      case atStart => exact ⟨0, Nat.zero_le _, rfl, HR3.out, HG3.out, HQ3.out, HS3.out, HC3.out⟩
      case round =>
        obtain ⟨j, hj, rfl, hr, hg, hq, hsz, hc4⟩ := hrel
        have HR := Lib.hid hr
        have HG := Lib.hid hg
        have HQ := Lib.hid hq
        have HBL : Hid (Below base w wr) := below_grownP hg hbase (fun q h => (HLT.out q h).1)
        have HCN : Hid ((out ++ [d] ++ depUp ls ks d j).length ≤ out.length + 1 + countAll (ks.take j)) := by
          have h2 := depUp_length ls ks d j hj
          have h3 : ([d] : List Int).length ≤ 1 := by simp
          unfold Hid
          rw [List.length_append, List.length_append]
          omega
        clear hr hg hq
        by_cases hlt : j < ks.length
        · rcases HKS.out with h0 | ⟨b, off, rfl, hbB, hrow⟩
          · exfalso; rw [h0] at hlt; simp at hlt
          · have hroww := hrow.later (same_below (HBL.out.mono hB)) b hbB
            obtain ⟨ga, gcap, ka, kcap, c0, c1, c2, c3, c4, hin⟩ := hroww.at' j hlt
            have HIN := Lib.hid hin
            have HCT := Lib.hid (countAll_take_succ ks j hlt)
            have HCL := Lib.hid (countAll_take_le ks (j + 1))
            have hbw : base ≤ wr.heap.size := by omega
            have hji : (0 : Int) ≤ (j : Int) := by omega
            have hjl : (j : Int) < (ks.length : Int) := by omega
            have hcw4 := hc4
            by_cases hl2 : j + 1 < ks.length
            · obtain ⟨ga2, gcap2, ka2, kcap2, p0, p1, p2, p3, p4, hin2⟩ := hroww.at' (j + 1) hl2
              have hjl2 : (j : Int) + 1 < (ks.length : Int) := by omega
              have HDA := Lib.hid (dotsAt_eq hl2)
              clear hin hrow hroww hin2 hc4
              go_wp2_with fail
              refine (l4Dots_any ks[j + 1] ga2 gcap2 ka2 kcap2 wr).mono ?_
              rintro e w1 ⟨rfl, hb1⟩
              have hs1 := hb1.size
              have hcw4' := cell_later' hb1 hcw4
              have q0 := cell_later' hb1 c0
              have q1 := cell_later' hb1 c1
              have q2 := cell_later' hb1 c2
              have q3 := cell_later' hb1 c3
              have q4 := cell_later' hb1 c4
              clear hcw4
              have hcw4 := hcw4'
              have HRW : Hid (w1.ownsRow base 3 1 u0 (out ++ [d] ++ depUp ls ks d j).length ((out ++ [d] ++ depUp ls ks d j).map (Value.int .i64))) := ownsRow_later HR.out hb1
              have HGW : Hid (w.grownBy w1 vo.ownBlock) := grown_down HG.out hb1
              have HBW : Hid (Below base w w1) := HBL.out.trans (hb1.mono hbw)
              have HWR : Hid (∀ k, k < wr.heap.size → w1.heap[k]? = wr.heap[k]?) := hb1.block
              clear hb1 c0 c1 c2 c3 c4 p0 p1 p2 p3 p4 hcw4'
              cases hdt : dotsB ks[j + 1] with
              | true =>
                have HDT := Lib.hid hdt
                clear hdt
                go_wp2_with fail
                have HDV : Hid ((if dotsAt ks (j + 1) = true then d + 1 else d) = d + 1) := by unfold Hid; rw [HDA.out, HDT.out]; rfl
                refine (HIH.out ks[j] (List.getElem_mem hlt) ga gcap ka kcap _ (d + 1) _ base w1 hB (by omega) (HL.out.later (same_below (HBW.out.mono hB))) HRW.out (InV.later (w := wr) (w' := w1) (fun k (hk : k < B) => HWR.out k (by omega)) _ _ HIN.out) (by have h1 := HCN.out; have h2 := HCT.out; have h3 := HCL.out; omega) (by have h2 := HCT.out; have h3 := HCL.out; omega)).mono ?_
                rintro e w9 ⟨v1, rfl, hr1, hg1, hq1⟩
                have HR1 : Hid (w9.ownsRow base 3 1 v1 (out ++ [d] ++ depUp ls ks d (j + 1)).length ((out ++ [d] ++ depUp ls ks d (j + 1)).map (Value.int .i64))) := by
                  unfold Hid
                  rw [depUp_succ hlt, HDV.out, ← List.append_assoc]
                  exact hr1
                have hd4 := hg1.cell hcw4 (by intro h; have h5 := HQ.out w.heap.size h.symm; exact h5.elim (fun h6 => by omega) (fun h6 => by have := (HLT.out _ h6).2; omega))
                have hs9 := hg1.size
                have HG1 : Hid (w.grownBy w9 vo.ownBlock) := HGW.out.andThen hg1 (fun q h => (HQ.out q h).elim (fun h5 => .inl (by omega)) (fun h5 => .inr h5))
                have HQ1 : Hid (∀ q, v1.ownBlock = some q → w.heap.size + 1 ≤ q ∨ vo.ownBlock = some q) := fun q h => by
                  rcases hq1 q h with h5 | h5
                  · exact .inl (by omega)
                  · exact HQ.out q h5
                clear hr1 hg1 hq1 hcw4
                go_wp2_with fail
                go_roundw
                case rel => exact ⟨j + 1, by omega, by go_num, HR1.out, HG1.out, HQ1.out, by omega, hd4⟩
                case measure => simp [intOf]; omega
              | false =>
                have HDT := Lib.hid hdt
                clear hdt
                go_wp2_with fail
                have HDV : Hid ((if dotsAt ks (j + 1) = true then d + 1 else d) = d) := by unfold Hid; rw [HDA.out, HDT.out]; rfl
                refine (HIH.out ks[j] (List.getElem_mem hlt) ga gcap ka kcap _ (d) _ base w1 hB (by omega) (HL.out.later (same_below (HBW.out.mono hB))) HRW.out (InV.later (w := wr) (w' := w1) (fun k (hk : k < B) => HWR.out k (by omega)) _ _ HIN.out) (by have h1 := HCN.out; have h2 := HCT.out; have h3 := HCL.out; omega) (by have h2 := HCT.out; have h3 := HCL.out; omega)).mono ?_
                rintro e w9 ⟨v1, rfl, hr1, hg1, hq1⟩
                have HR1 : Hid (w9.ownsRow base 3 1 v1 (out ++ [d] ++ depUp ls ks d (j + 1)).length ((out ++ [d] ++ depUp ls ks d (j + 1)).map (Value.int .i64))) := by
                  unfold Hid
                  rw [depUp_succ hlt, HDV.out, ← List.append_assoc]
                  exact hr1
                have hd4 := hg1.cell hcw4 (by intro h; have h5 := HQ.out w.heap.size h.symm; exact h5.elim (fun h6 => by omega) (fun h6 => by have := (HLT.out _ h6).2; omega))
                have hs9 := hg1.size
                have HG1 : Hid (w.grownBy w9 vo.ownBlock) := HGW.out.andThen hg1 (fun q h => (HQ.out q h).elim (fun h5 => .inl (by omega)) (fun h5 => .inr h5))
                have HQ1 : Hid (∀ q, v1.ownBlock = some q → w.heap.size + 1 ≤ q ∨ vo.ownBlock = some q) := fun q h => by
                  rcases hq1 q h with h5 | h5
                  · exact .inl (by omega)
                  · exact HQ.out q h5
                clear hr1 hg1 hq1 hcw4
                go_wp2_with fail
                go_roundw
                case rel => exact ⟨j + 1, by omega, by go_num, HR1.out, HG1.out, HQ1.out, by omega, hd4⟩
                case measure => simp [intOf]; omega
            · have hjl2 : ¬ ((j : Int) + 1 < (ks.length : Int)) := by omega
              have HDA := Lib.hid (dotsAt_end (ks := ks) (i := j + 1) (by omega))
              have HRW := Lib.hid HR.out
              have HGW := Lib.hid HG.out
              have HBW := Lib.hid HBL.out
              clear hin hrow hroww hc4
              go_wp2_with fail
              have HDV : Hid ((if dotsAt ks (j + 1) = true then d + 1 else d) = d) := by unfold Hid; rw [HDA.out]; rfl
              refine (HIH.out ks[j] (List.getElem_mem hlt) ga gcap ka kcap _ (d) _ base wr hB (by omega) (HL.out.later (same_below (HBW.out.mono hB))) HRW.out HIN.out (by have h1 := HCN.out; have h2 := HCT.out; have h3 := HCL.out; omega) (by have h2 := HCT.out; have h3 := HCL.out; omega)).mono ?_
              rintro e w9 ⟨v1, rfl, hr1, hg1, hq1⟩
              have HR1 : Hid (w9.ownsRow base 3 1 v1 (out ++ [d] ++ depUp ls ks d (j + 1)).length ((out ++ [d] ++ depUp ls ks d (j + 1)).map (Value.int .i64))) := by
                unfold Hid
                rw [depUp_succ hlt, HDV.out, ← List.append_assoc]
                exact hr1
              have hd4 := hg1.cell hcw4 (by intro h; have h5 := HQ.out w.heap.size h.symm; exact h5.elim (fun h6 => by omega) (fun h6 => by have := (HLT.out _ h6).2; omega))
              have hs9 := hg1.size
              have HG1 : Hid (w.grownBy w9 vo.ownBlock) := HGW.out.andThen hg1 (fun q h => (HQ.out q h).elim (fun h5 => .inl (by omega)) (fun h5 => .inr h5))
              have HQ1 : Hid (∀ q, v1.ownBlock = some q → w.heap.size + 1 ≤ q ∨ vo.ownBlock = some q) := fun q h => by
                rcases hq1 q h with h5 | h5
                · exact .inl (by omega)
                · exact HQ.out q h5
              clear hr1 hg1 hq1 hcw4
              go_wp2_with fail
              go_roundw
              case rel => exact ⟨j + 1, by omega, by go_num, HR1.out, HG1.out, HQ1.out, by omega, hd4⟩
              case measure => simp [intOf]; omega
        · obtain rfl : j = ks.length := by omega
          have HE : Hid (out ++ depF ls (Fm.mk k nm n sc ks) d = out ++ [d] ++ depUp ls ks d ks.length) := by
            unfold Hid
            rw [depF_eq, HVB.out, depUp_all]
            simp [Fm.kids]
          go_wp2_with fail
          go_ret
          rw [HE.out]
          exact ⟨_, rfl, HR.out, HG.out, fun q h => (HQ.out q h).elim (fun h5 => .inl (by omega)) (fun h5 => .inr h5)⟩
set_option maxRecDepth 100000 in
set_option maxHeartbeats 4000000 in
theorem l4Shape_any (B : Nat) (f : Fm) : ∀ (sa : Option Addr) (scap : Nat) (a : Option Addr) (cap : Nat) (w : World), B ≤ w.heap.size → InV (· < B) w f (.agg #[.int .i64 f.kind, .string f.name, .int .i64 f.n, .slice sa f.scopes.length scap, .slice a f.kids.length cap]) →
    Calls Try.prog 142 #[(.agg #[.int .i64 f.kind, .string f.name, .int .i64 f.n, .slice sa f.scopes.length scap, .slice a f.kids.length cap])] w fun e w' => e = .returned (.bool (shapeF f)) ∧ Below w.heap.size w w' := by
  induction f using Fm.ind with
  | h k nm n sc ks ih =>
    intro sa scap a cap w hB hv
    simp only [Fm.kind, Fm.name, Fm.n, Fm.scopes, Fm.kids] at hv ⊢
    obtain ⟨_, hcap, hmax, hks⟩ := hv.kids
    simp only [Fm.kids] at hcap hks
    unfold maxLen at hmax
    have HIH := Lib.hid ih
    have HKS := Lib.hid hks
    have HSH := Lib.hid (shapeF_eq (Fm.mk k nm n sc ks))
    clear hv ih hks
    go_enter Try.func142, Try.ntmps142
    go_wp2_with fail
    refine (l4Dots_any (Fm.mk k nm n sc ks) sa scap a cap _).mono ?_
    rintro e w1 ⟨rfl, hb1⟩
    have hs1 : w.heap.size + 1 ≤ w1.heap.size := by have := hb1.size; simpa using this
    obtain ⟨x0, x1, x2, x3, x4⟩ := (FormBox.fresh w (Fm.mk k nm n sc ks) sa a scap cap 33).later hb1
    simp only [Fm.kind, Fm.name, Fm.n, Fm.scopes, Fm.kids] at x0 x1 x2 x3 x4
    have HB1 : Hid (Below w.heap.size w w1) := (below_alloc w _).trans (hb1.mono (by simp))
    clear hb1 x0 x1 x2 x3
    cases hd : dotsB (Fm.mk k nm n sc ks) with
    | true =>
      have HE : Hid (shapeF (Fm.mk k nm n sc ks) = false) := by unfold Hid; rw [HSH.out, hd]; rfl
      go_wp2_with fail
      go_ret
      exact ⟨ret_bool HE.out.symm, HB1.out⟩
    | false =>
      have HE : Hid (shapeF (Fm.mk k nm n sc ks) = (kidsOk ks && shapeAll ks)) := by unfold Hid; rw [HSH.out, hd]; simp [Fm.kids]
      go_wp2_with fail
      go_loopw [3, 4] (fun rr i wr => ∃ j : Nat, j ≤ ks.length ∧ i = .int .i64 j ∧ rr = .int .i64 (dotsUp ks j : Nat) ∧ shapeAll (ks.take j) = true ∧ (0 < j → nextDots ks = false) ∧ Below w.heap.size w wr ∧ w.heap.size < wr.heap.size ∧ wr.cell? ⟨w.heap.size, 4, none⟩ = some (.slice a ks.length cap)) (fun _ i _ => ks.length - (intOf i).toNat)
      case atStart => exact ⟨0, Nat.zero_le _, rfl, by simp [dotsUp], by simp [shapeAll], by simp, HB1.out, by omega, x4⟩
      case round =>
        obtain ⟨j, hj, rfl, rfl, hsa, hnd, hb, hsz, hc4⟩ := hrel
        have HSA := Lib.hid hsa
        have HND := Lib.hid hnd
        have HB := Lib.hid hb
        have hdl := dotsUp_le ks j
        clear hsa hnd hb
        by_cases hlt : j < ks.length
        · rcases HKS.out with h0 | ⟨b, off, rfl, hbB, hrow⟩
          · exfalso; rw [h0] at hlt; simp at hlt
          · have hroww := hrow.later (same_below (HB.out.mono hB)) b hbB
            obtain ⟨ga, gcap, ka, kcap, c0, c1, c2, c3, c4, hin⟩ := hroww.at' j hlt
            have HIN := Lib.hid hin
            have HROWW := Lib.hid hroww
            have hji : (0 : Int) ≤ (j : Int) := by omega
            have hjl : (j : Int) < (ks.length : Int) := by omega
            have HST := Lib.hid (shapeAll_take_succ ks j hlt)
            have HDS := Lib.hid (dotsUp_succ (ks := ks) hlt)
            clear hin hrow hroww
            go_wp2_with fail
            refine (l4Dots_any ks[j] ga gcap ka kcap wr).mono ?_
            rintro e w2 ⟨rfl, hb2⟩
            have hs2 := hb2.size
            have hc42 := cell_later' hb2 hc4
            have q0 := cell_later' hb2 c0
            have q1 := cell_later' hb2 c1
            have q2 := cell_later' hb2 c2
            have q3 := cell_later' hb2 c3
            have q4 := cell_later' hb2 c4
            have HB2 : Hid (Below w.heap.size w w2) := HB.out.trans (hb2.mono (by omega))
            have HR2 : Hid (RowIn (· < B) w2 b off ks) := HROWW.out.later (fun k (hk : k < B) => hb2.block k (by omega)) b hbB
            clear hb2 c0 c1 c2 c3 c4 hc4
            cases hdt : dotsB ks[j] with
            | true =>
              have HDT := Lib.hid hdt
              clear hdt
              rcases Nat.eq_zero_or_pos j with rfl | hpos
              · have HF : Hid (shapeF (Fm.mk k nm n sc ks) = false) := by
                  unfold Hid
                  rw [HE.out]
                  have : nextDots ks = true := by rw [nextDots_at, dotsAt_eq hlt]; exact HDT.out
                  unfold kidsOk
                  rw [this]
                  rfl
                go_wp2_with fail
                go_ret
                exact ⟨ret_bool HF.out.symm, HB2.out⟩
              · obtain ⟨j', rfl⟩ : ∃ j', j = j' + 1 := ⟨j - 1, by omega⟩
                obtain ⟨ga2, gcap2, ka2, kcap2, p0, p1, p2, p3, p4, hin2⟩ := HR2.out.at' j' (by omega)
                have hj0 : ((j' + 1 : Nat) : Int) ≠ 0 := by omega
                have hjw : ((j' + 1 : Nat) : Int) - 1 = (j' : Int) := by omega
                have hja : (0 : Int) ≤ (j' : Int) := by omega
                have hjb : (j' : Int) < (ks.length : Int) := by omega
                have HDS2 := Lib.hid (dotsUp_succ (ks := ks) (j := j') (by omega))
                clear hin2
                go_wp2_with fail
                refine (l4Dots_any ks[j'] ga2 gcap2 ka2 kcap2 w2).mono ?_
                rintro e w3 ⟨rfl, hb3⟩
                have hs3 := hb3.size
                have hc43 := cell_later' hb3 hc42
                have HB3 : Hid (Below w.heap.size w w3) := HB2.out.trans (hb3.mono (by omega))
                clear hb3 p0 p1 p2 p3 p4 q0 q1 q2 q3 q4 hc42
                cases hdp : dotsB ks[j'] with
                | true =>
                  have HF : Hid (shapeF (Fm.mk k nm n sc ks) = false) := by
                    unfold Hid
                    rw [HE.out]
                    have h1 := HDS.out
                    have h2 := HDS2.out
                    rw [HDT.out] at h1
                    rw [hdp] at h2
                    simp only [if_true] at h1 h2
                    have h3 := dotsUp_mono ks (j' + 1 + 1)
                    unfold kidsOk
                    rw [decide_eq_false (by omega), Bool.and_false, Bool.false_and]
                  go_wp2_with fail
                  go_ret
                  exact ⟨ret_bool HF.out.symm, HB3.out⟩
                | false =>
                  have HN : Hid (dotsUp ks (j' + 1 + 1) = dotsUp ks (j' + 1) + 1 ∧ shapeAll (ks.take (j' + 1 + 1)) = true) := by
                    refine ⟨?_, by rw [HST.out, HSA.out, HDT.out]; rfl⟩
                    have h1 := HDS.out
                    rw [HDT.out] at h1
                    exact h1
                  clear hdp
                  go_wp2_with fail
                  go_roundw
                  case rel => exact ⟨j' + 1 + 1, by omega, by go_num, by rw [HN.out.1]; go_num, HN.out.2, fun _ => HND.out (by omega), HB3.out, by omega, hc43⟩
                  case measure => simp [intOf]; omega
            | false =>
              have HDT := Lib.hid hdt
              clear hdt
              go_wp2_with fail
              refine (HIH.out ks[j] (List.getElem_mem hlt) ga gcap ka kcap w2 (by omega) (InV.later (w := wr) (w' := w2) (fun k (hk : k < B) => by have h1 := HB2.out.block k (by omega); have h2 := HB.out.block k (by omega); rw [h1, h2]) _ _ HIN.out)).mono ?_
              rintro e w3 ⟨rfl, hb3⟩
              have hs3 := hb3.size
              have hc43 := cell_later' hb3 hc42
              have HB3 : Hid (Below w.heap.size w w3) := HB2.out.trans (hb3.mono (by omega))
              clear hb3 q0 q1 q2 q3 q4 hc42
              cases hsh : shapeF ks[j] with
              | false =>
                have HF : Hid (shapeF (Fm.mk k nm n sc ks) = false) := by
                  unfold Hid
                  rw [HE.out, shapeAll_no ks (j + 1) (by rw [HST.out, HDT.out, hsh, Bool.or_false, Bool.and_false]), Bool.and_false]
                go_wp2_with fail
                go_ret
                exact ⟨ret_bool HF.out.symm, HB3.out⟩
              | true =>
                have HN : Hid (dotsUp ks (j + 1) = dotsUp ks j ∧ shapeAll (ks.take (j + 1)) = true ∧ nextDots ks = false) := by
                  refine ⟨?_, by rw [HST.out, HSA.out, HDT.out, hsh]; rfl, ?_⟩
                  · have h1 := HDS.out
                    rw [HDT.out] at h1
                    exact h1
                  · rcases Nat.eq_zero_or_pos j with h | h
                    · subst h
                      rw [nextDots_at, dotsAt_eq hlt]
                      exact HDT.out
                    · exact HND.out h
                clear hsh
                go_wp2_with fail
                go_roundw
                case rel => exact ⟨j + 1, by omega, by go_num, by rw [HN.out.1], HN.out.2.1, fun _ => HN.out.2.2, HB3.out, by omega, hc43⟩
                case measure => simp [intOf]; omega
        · obtain rfl : j = ks.length := by omega
          have HF : Hid (shapeF (Fm.mk k nm n sc ks) = decide (dotsUp ks ks.length ≤ 1)) := by
            unfold Hid
            have h1 := HSA.out
            rw [List.take_length] at h1
            have h2 : nextDots ks = false := by
              rcases Nat.eq_zero_or_pos ks.length with h | h
              · rw [List.eq_nil_of_length_eq_zero h]; rfl
              · exact HND.out h
            rw [HE.out, h1, Bool.and_true]
            unfold kidsOk dotsUp
            rw [h2, List.take_length]
            simp
          go_wp2_with fail
          go_ret
          exact ⟨ret_bool (by rw [HF.out, Bool.eq_iff_iff]; simp; omega), HB.out⟩
end Go.Proofs.Ytbclgmabidjegaa
