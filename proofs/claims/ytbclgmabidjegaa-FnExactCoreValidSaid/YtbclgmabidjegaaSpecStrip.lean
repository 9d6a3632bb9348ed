/- The contract of the model's form without scopes. -/
import Derived.Test.YtbclgmabidjegaaMids
import Derived.Test.YtbclgmabidjegaaData
namespace Go.Proofs.Ytbclgmabidjegaa
open Go.RowKit
set_option linter.unusedVariables false
set_option linter.unusedSimpArgs false
/-- between two rounds -/
def StripIn (w : World) (a : Option Addr) (cap : Nat) (k : Int) (nm : ByteArray) (n : Int) (ks : List Fm) (i : Value) (wr : World) : Prop :=
  ∃ (j : Nat) (gs : List Fm) (v : Value) (xs : List Value), j ≤ ks.length ∧ i = .int .i64 j ∧ gs = chgAll (fun _ _ => []) (ks.take j) ∧
    MadeMid 33 w wr w.heap.size (w.heap.size + 1) (w.heap.size + 1 + 1) (w.heap.size + 1 + 1 + 1) a cap ks.length k nm n (.slice none 0 0) [] gs v xs
set_option maxRecDepth 100000 in
set_option maxHeartbeats 2000000 in
theorem specStrip_any (B : Nat) (f : Fm) : ∀ (v : Value) (w : World), B ≤ w.heap.size → InV (· < B) w f v → f.sz ≤ 1048576 →
    Calls Try.prog 187 #[v] w (MadePost (f.chg fun _ _ => []) w) := by
  induction f using Fm.ind with
  | h k nm n sc ks ih =>
    intro v w hB hv hsz
    have hszk := (sz_scopes (Fm.mk k nm n sc ks)).2
    simp only [Fm.kids] at hszk
    have hlen : ks.length ≤ 1048576 := by omega
    have HSK : Hid (∀ g ∈ ks, g.sz ≤ 1048576) := fun g hg => Nat.le_trans (sz_kid (f := Fm.mk k nm n sc ks) hg) hsz
    clear hszk hsz
    unfold InV at hv
    obtain ⟨vs, a, cap, rfl, hkr, hnr, hnm, hvs, hcap, hmax, hks⟩ := hv
    unfold maxLen at hmax
    have HIH := Lib.hid ih
    have HKS := Lib.hid hks
    have HKR := Lib.hid hkr
    have HNR := Lib.hid hnr
    have HNM := Lib.hid hnm
    obtain ⟨i0, hi0, hz0, hz1, hz2⟩ := info_parts Try.infoFm
    clear ih hks hvs hkr hnr hnm
    go_enter Try.func187, Try.ntmps187
    go_wp2_with fail
    go_loopw [4] (fun i wr => StripIn w a cap k nm n ks i wr) (fun i _ => ks.length - (intOf i).toNat)
    case atStart =>
      refine ⟨0, [], .slice none 0 0, [], Nat.zero_le _, rfl, by simp [chgAll], ⟨?_, ?_, ?_, ?_, ?_, ?_, ?_, ?_, World.ownsRow_nil _ _ _ _, rfl, ⟨none, 0, rfl, Nat.le_refl _, Nat.zero_le _, by simp, .inl rfl⟩, ?_, by simp, by omega⟩⟩
      · rw [a3_cell0]; rfl
      · have := heap_alloc_new (w.alloc (Obj.cells #[.int .i64 k, .string nm, .int .i64 n, vs, .slice a ks.length cap] 33)) (Obj.cells #[.int .i64 0, .string { data := #[] }, .int .i64 0, .slice none 0 0, .slice none 0 0] 33)
        rw [size_alloc'] at this
        rw [(below_alloc _ _).block _ (by simp), this]
      · exact World.cell?_alloc_at _ _ _ _ (by simp)
      · exact World.cell?_alloc_at _ _ _ _ (by simp)
      · exact World.cell?_alloc_at _ _ _ _ (by simp)
      · exact World.cell?_alloc_at _ _ _ _ (by simp)
      · exact World.cell?_alloc_at _ _ _ _ (by simp)
      · exact fun i => World.frozen?_alloc_at _ _ _ _ (by simp)
      · exact (((Below.refl _ w).alloc (Nat.le_refl _) _).alloc (by simp) _).alloc (by simp; omega) _
    case round =>
      obtain ⟨j, gs, v, xs, hj, rfl, hgs, hm⟩ := hrel
      have HM := Lib.hid hm
      have HGS := Lib.hid hgs
      have hgl : gs.length = j := by rw [hgs, chgAll_length, List.length_take]; omega
      have hpar := hm.par
      have ho0 := hm.o0
      have ho1 := hm.o1
      have ho2 := hm.o2
      have ho3 := hm.o3
      have ho4 := hm.o4
      have hof := hm.free 4
      have hbw := hm.size
      clear hm hgs
      by_cases hlt : j < ks.length
      · obtain ⟨b, off, rfl, hbB, hrow⟩ : ∃ b off, a = some ⟨b, off, none⟩ ∧ b < B ∧ RowIn (· < B) w b off ks := by
          rcases HKS.out with h | h
          · subst h; simp at hlt
          · exact h
        have hrow1 := hrow.later (same_below (HM.out.below.mono hB)) b hbB
        obtain ⟨sa1, scap1, a1, cap1, q0, q1, q2, q3, q4, hin⟩ := hrow1.at' j hlt
        have HIN := Lib.hid hin
        clear hrow hrow1 hin
        have hj0 : (0 : Int) ≤ (j : Int) := by omega
        have hj1 : (j : Int) < (ks.length : Int) := by omega
        have hL1 : gs.length + 1 ≤ maxLen := by unfold maxLen; omega
        have hL2 : (gs.length + 1) * 80 ≤ 140737488355328 := by omega
        go_wp2_with fail
        have hS0 : KidHeld (w.heap.size + 1 + 1) w.heap.size b (off + j * 5) v (.slice (some ⟨b, off, none⟩) ks.length cap) (.int .i64 ks[j].kind) (.string ks[j].name) (.int .i64 ks[j].n) (.slice sa1 ks[j].scopes.length scap1) (.slice a1 ks[j].kids.length cap1) wr.drew := ⟨ho4, hpar, q0, q1, q2, q3, q4⟩
        refine upto_begin (KidHeld (w.heap.size + 1 + 1) w.heap.size b (off + j * 5) v (.slice (some ⟨b, off, none⟩) ks.length cap) (.int .i64 ks[j].kind) (.string ks[j].name) (.int .i64 ks[j].n) (.slice sa1 ks[j].scopes.length scap1) (.slice a1 ks[j].kids.length cap1)) 11 (by kernel_rfl) ?_
        refine upto_take (i := 0) (d := some 19) (v := ?_) rfl rfl (by kernel_rfl) (by kernel_rfl) (by kernel_rfl) (by kernel_rfl) (fun _ _ _ h => h) (Or.inl ⟨by rfl, ?_⟩) hS0 ?_
        rotate_left
        · (intro wS hSw; obtain ⟨_, _, _, _, _, _, _⟩ := hSw; go_simp; try with_reducible rfl)
        try simp only [Act.put, List.setIfInBounds_toArray, List.set_cons_zero, List.set_cons_succ]
        refine upto_take (i := 1) (d := some 20) (v := ?_) rfl rfl (by kernel_rfl) (by kernel_rfl) (by kernel_rfl) (by kernel_rfl) (fun _ _ _ h => h) (Or.inl ⟨by rfl, ?_⟩) hS0 ?_
        rotate_left
        · (intro wS hSw; obtain ⟨_, _, _, _, _, _, _⟩ := hSw; go_simp; try with_reducible rfl)
        try simp only [Act.put, List.setIfInBounds_toArray, List.set_cons_zero, List.set_cons_succ]
        refine upto_take (i := 2) (d := some 21) (v := ?_) rfl rfl (by kernel_rfl) (by kernel_rfl) (by kernel_rfl) (by kernel_rfl) (fun _ _ _ h => h) (Or.inl ⟨by rfl, ?_⟩) hS0 ?_
        rotate_left
        · (intro wS hSw; obtain ⟨_, _, _, _, _, _, _⟩ := hSw; go_simp; try with_reducible rfl)
        try simp only [Act.put, List.setIfInBounds_toArray, List.set_cons_zero, List.set_cons_succ]
        refine upto_take (i := 3) (d := some 22) (v := ?_) rfl rfl (by kernel_rfl) (by kernel_rfl) (by kernel_rfl) (by kernel_rfl) (fun _ _ _ h => h) (Or.inl ⟨by rfl, ?_⟩) hS0 ?_
        rotate_left
        · (intro wS hSw; obtain ⟨_, _, _, _, _, _, _⟩ := hSw; go_simp; try with_reducible rfl)
        try simp only [Act.put, List.setIfInBounds_toArray, List.set_cons_zero, List.set_cons_succ]
        refine upto_take (i := 4) (d := some 23) (v := ?_) rfl rfl (by kernel_rfl) (by kernel_rfl) (by kernel_rfl) (by kernel_rfl) (fun _ _ _ h => h) (Or.inl ⟨by rfl, ?_⟩) hS0 ?_
        rotate_left
        · (intro wS hSw; obtain ⟨_, _, _, _, _, _, _⟩ := hSw; go_simp; try with_reducible rfl)
        try simp only [Act.put, List.setIfInBounds_toArray, List.set_cons_zero, List.set_cons_succ]
        refine upto_take (i := 5) (d := some 24) (v := ?_) rfl rfl (by kernel_rfl) (by kernel_rfl) (by kernel_rfl) (by kernel_rfl) (fun _ _ _ h => h) (Or.inl ⟨by rfl, ?_⟩) hS0 ?_
        rotate_left
        · (intro wS hSw; obtain ⟨_, _, _, _, _, _, _⟩ := hSw; go_simp; try with_reducible rfl)
        try simp only [Act.put, List.setIfInBounds_toArray, List.set_cons_zero, List.set_cons_succ]
        refine upto_take (i := 6) (d := some 25) (v := ?_) rfl rfl (by kernel_rfl) (by kernel_rfl) (by kernel_rfl) (by kernel_rfl) (fun _ _ _ h => h) (Or.inl ⟨by rfl, ?_⟩) hS0 ?_
        rotate_left
        · (intro wS hSw; obtain ⟨_, _, _, _, _, _, _⟩ := hSw; go_simp; try with_reducible rfl)
        try simp only [Act.put, List.setIfInBounds_toArray, List.set_cons_zero, List.set_cons_succ]
        refine upto_one (i := 7) (by kernel_rfl) rfl (fun K hK => ?_)
        go_simp
        refine (HIH.out _ (List.getElem_mem hlt) _ wr.drew (by show B ≤ wr.heap.size; omega) (InV.later (w := wr) (w' := wr.drew) (fun _ _ => rfl) _ _ HIN.out) (HSK.out _ (List.getElem_mem hlt))).mono ?_
        rintro e w1 ⟨kv, rfl, hkv, hb1⟩
        obtain ⟨ksa, kscap, ka, kcap, rfl⟩ := hkv.form
        have hb1' := below_drew hb1
        have hS1 := KidHeld.later (w := wr) (w' := w1) hS0 hb1'
        have HKV : Hid (InV (fun k => wr.heap.size ≤ k ∧ k < w1.heap.size) w1 (ks[j].chg fun _ _ => []) (.agg #[.int .i64 (ks[j].chg fun _ _ => []).kind, .string (ks[j].chg fun _ _ => []).name, .int .i64 (ks[j].chg fun _ _ => []).n, .slice ksa (ks[j].chg fun _ _ => []).scopes.length kscap, .slice ka (ks[j].chg fun _ _ => []).kids.length kcap])) := hkv
        refine hK.out _ _ (.inr hS1) ?_
        have HB1 := Lib.hid hb1'
        have hs1 := hb1'.size
        have hown2 : w1.ownsRow (w.heap.size + 1 + 1 + 1) 33 5 v gs.length xs := HM.out.own.kept (row := none) ⟨hb1'.os, hb1'.tape, hb1'.output, hb1'.size, fun k hk _ => hb1'.block k hk⟩ (by cases v.ownBlock <;> simp)
        clear hK K hkv hb1 hb1' hS0
        generalize hG : (ks[j].chg fun _ _ => []) = G at HKV ⊢
        refine upto_one (i := 8) (by kernel_rfl) rfl (fun K hK => ?_)
        go_simp
        have hbA := below_alloc w1 (Obj.cells #[.int .i64 G.kind, .string G.name, .int .i64 G.n, .slice ksa G.scopes.length kscap, .slice ka G.kids.length kcap] 33)
        have hS2 := hS1.later hbA
        refine hK.out _ _ (.inr hS2) ?_
        clear hK K
        refine upto_oper (i := 9) ⟨some 28, .call { callee := .builtin .append, args := #[.tmp 20, .tmp 27], argTypes := #[31, 31] }, 31, _, _, _⟩ (by kernel_rfl) rfl rfl (fun K hK => ?_)
        refine wp_append_lies _ (.tmp 20) (.tmp 27) 31 rfl (w.heap.size + 1 + 1 + 1) 33 i0 _ 5 80 Try.underlying31 hi0 hz0 hz1 hz2 rfl (by omega) _ gs.length xs (by rfl) (hown2.alloc _)
                  ⟨w1.heap.size, 0, none⟩ 1 1 [.int .i64 G.kind, .string G.name, .int .i64 G.n, .slice ksa G.scopes.length kscap, .slice ka G.kids.length kcap] (by rfl) (by rfl) (World.news_of_block (cs := #[.int .i64 G.kind, .string G.name, .int .i64 G.n, .slice ksa G.scopes.length kscap, .slice ka G.kids.length kcap]) (t := 33) (fr := (0, 0)) (heap_alloc_new w1 _)) (by simp [Value.oneCell'])
                  (by omega) hL1 hL2 (by simp; omega) (w1.heap.size + 1) (by simp) ?_
        intro gq qd w3 hown3 hgrow hat hlt4
        have hfar : ∀ k, v.ownBlock = some k → w.heap.size + 1 + 1 + 1 ≤ k ∧ k < w1.heap.size := fun k e => hown2.lt k e
        have hS3 := hS2.keep (w' := w3) (fun k hk => hgrow.block k (by rcases hk with rfl | rfl | rfl <;> simp <;> omega) (fun e => by have := hfar k e.symm; rcases hk with rfl | rfl | rfl <;> omega))
        refine hK.out _ _ (.inr hS3) ?_
        have hc4 := hS3.1
        have hf4 : w3.frozen? ⟨w.heap.size + 1 + 1, 4, none⟩ = false := by
          rw [World.frozen?_of_block (a := ⟨w.heap.size + 1 + 1, 4, none⟩) (hgrow.block (w.heap.size + 1 + 1) (by simp; omega) (fun e => by have := hfar _ e.symm; omega)), hbA.frozen (p := ⟨w.heap.size + 1 + 1, 4, none⟩) (show w.heap.size + 1 + 1 < _ by omega),
            HB1.out.frozen (p := ⟨w.heap.size + 1 + 1, 4, none⟩) (show w.heap.size + 1 + 1 < _ by omega)]
          exact hof
        clear hK K
        refine upto_one (i := 10) (by kernel_rfl) rfl (fun K hK => ?_)
        go_simp
        refine hK.out _ _ (.inr hS3) ?_
        clear hK K
        refine upto_one (i := 11) (by kernel_rfl) rfl (fun K hK => ?_)
        go_simp
        refine hK.out _ _ (.inl rfl) ?_
        clear hK K
        refine upto_done (by kernel_rfl) ?_ _
        have HNEXT : Hid (StripIn w (some ⟨b, off, none⟩) cap k nm n ks (.int .i64 ((j : Int) + 1)) (w3.setCell ⟨w.heap.size + 1 + 1, 4, none⟩ (.slice (some ⟨gq, 0, none⟩) (j + 1) qd))) := by
          rw [← hgl]
          refine ⟨gs.length + 1, gs ++ [G], _, _, by omega, by go_num, ?_, HM.out.step (HB1.out.trans (hbA.mono (by omega))) (InV.mono (fun k hk => ⟨hk.1, by simp; omega⟩) _ _ (InV.later (w := w1) (fun k hk => hbA.block k hk.2) _ _ HKV.out)) hown3 hgrow (by simpa using hat)⟩
          rw [hgl, chgAll_take_succ ks j hlt, hG, ← HGS.out]
        clear hown3 hgrow hat hlt4 hS3 hS2 hS1 hbA hown2 hfar hc4 hf4
        go_wp2_with fail
        go_roundw
        case rel => exact HNEXT.out
        case measure => simp [intOf]; omega
      · have hjl : j = ks.length := by omega
        subst hjl
        have HG : Hid (gs = chgAll (fun _ _ => []) ks) := by have := HGS.out; rw [List.take_length] at this; exact this
        obtain ⟨va, vc, rfl⟩ : ∃ va vc, v = .slice va ks.length vc := by
          rw [← hgl]
          rcases HM.out.own.2 with ⟨h, h0⟩ | ⟨g, cp, _, h, _⟩
          · exact ⟨none, 0, by rw [h, h0]⟩
          · exact ⟨_, cp, h⟩
        have hro1 := HM.out.zero
        have r0 : wr.cell? ⟨w.heap.size + 1, 0, none⟩ = some (.int .i64 0) := by rw [cell_of_row wr _ 0 _ _ _ hro1]; rfl
        have r1 : wr.cell? ⟨w.heap.size + 1, 1, none⟩ = some (.string { data := #[] }) := by rw [cell_of_row wr _ 1 _ _ _ hro1]; rfl
        have r2 : wr.cell? ⟨w.heap.size + 1, 2, none⟩ = some (.int .i64 0) := by rw [cell_of_row wr _ 2 _ _ _ hro1]; rfl
        have r3 : wr.cell? ⟨w.heap.size + 1, 3, none⟩ = some (.slice none 0 0) := by rw [cell_of_row wr _ 3 _ _ _ hro1]; rfl
        have r4 : wr.cell? ⟨w.heap.size + 1, 4, none⟩ = some (.slice none 0 0) := by rw [cell_of_row wr _ 4 _ _ _ hro1]; rfl
        have hplr : Plain wr (w.heap.size + 1) := ⟨_, _, hro1⟩
        have t0 := hplr.frozen 0
        have t1 := hplr.frozen 1
        have t2 := hplr.frozen 2
        have t3 := hplr.frozen 3
        have t4 := hplr.frozen 4
        have HEND := Lib.hid (HM.out.ends HKR.out HNR.out HNM.out)
        have hnb : ¬((ks.length : Int) < (ks.length : Int)) := by omega
        clear hro1 hplr
        go_wp2_with fail
        have hth : ∀ j, j < 5 → ∃ v, wr.cell? ⟨w.heap.size + 1, 0 + j, none⟩ = some v := fun j hj => by
          rw [Nat.zero_add]
          match j, hj with
          | 0, _ => exact ⟨_, r0⟩
          | 1, _ => exact ⟨_, r1⟩
          | 2, _ => exact ⟨_, r2⟩
          | 3, _ => exact ⟨_, r3⟩
          | 4, _ => exact ⟨_, r4⟩
        obtain ⟨z0, z1, z2, z3, z4⟩ := set5_in wr (w.heap.size + 1) 0 (.int .i64 k) (.string nm) (.int .i64 n) (.slice none 0 0) (.slice va ks.length vc) hth
        have hss : Same (fun k => w.heap.size ≤ k ∧ k < wr.heap.size ∧ k ≠ w.heap.size + 1) wr (set5 wr (w.heap.size + 1) 0 (.int .i64 k) (.string nm) (.int .i64 n) (.slice none 0 0) (.slice va ks.length vc)) :=
          fun c hc => set5_block _ _ _ _ _ _ _ _ hc.2.2
        have hz5 := set5_size wr (w.heap.size + 1) 0 (.int .i64 k) (.string nm) (.int .i64 n) (.slice none 0 0) (.slice va ks.length vc)
        have hin5 := InV.mono (ψ := fun k' => w.heap.size ≤ k' ∧ k' < (set5 wr (w.heap.size + 1) 0 (.int .i64 k) (.string nm) (.int .i64 n) (.slice none 0 0) (.slice va ks.length vc)).heap.size) (fun k' hk => ⟨hk.1, by rw [hz5]; exact hk.2.1⟩) _ _ (InV.later hss _ _ HEND.out)
        have hbe5 := set5_below HM.out.below (b := w.heap.size + 1) (by omega) 0 (.int .i64 k) (.string nm) (.int .i64 n) (.slice none 0 0) (.slice va ks.length vc)
        unfold set5 at z0 z1 z2 z3 z4 hin5 hbe5
        simp only [Nat.zero_add] at z0 z1 z2 z3 z4 hin5 hbe5
        refine bodyPost_ret (v := .agg #[.int .i64 k, .string nm, .int .i64 n, .slice none 0 0, .slice va ks.length vc]) (by simp [results, Try.results187, go_sem, z0, z1, z2, z3, z4]) rfl ?_
        refine ⟨_, rfl, ?_, hbe5⟩
        have e : (Fm.mk k nm n sc ks).chg (fun _ _ => []) = .mk k nm n [] gs := by rw [chg_eq, HG.out]; rfl
        rw [e]
        exact hin5
end Go.Proofs.Ytbclgmabidjegaa
