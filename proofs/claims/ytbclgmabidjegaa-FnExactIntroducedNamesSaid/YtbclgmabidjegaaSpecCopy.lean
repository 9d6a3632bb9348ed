/- The contract of the model's copy of a form. -/
import Derived.Test.YtbclgmabidjegaaMids
namespace Go.Proofs.Ytbclgmabidjegaa
open Go.RowKit
set_option linter.unusedVariables false
set_option linter.unusedSimpArgs false
/-- between two rounds -/
def CopyIn (w : World) (ob base : Nat) (a : Option Addr) (cap : Nat) (k : Int) (nm : ByteArray) (n : Int) (c3 : Value) (sc : List Int) (ks : List Fm) (i : Value) (wr : World) : Prop :=
  ∃ (j : Nat) (gs : List Fm) (v : Value) (xs : List Value), j ≤ ks.length ∧ i = .int .i64 j ∧ gs = ks.take j ∧
    MadeMid 33 w wr w.heap.size (w.heap.size + 1) ob base a cap ks.length k nm n c3 sc gs v xs
set_option maxRecDepth 100000 in
set_option maxHeartbeats 2000000 in
theorem specCopy_any (B : Nat) (f : Fm) : ∀ (v : Value) (w : World), B ≤ w.heap.size → InV (· < B) w f v → f.sz ≤ 1048576 →
    Calls Try.prog 176 #[v] w (MadePost f w) := by
  induction f using Fm.ind with
  | h k nm n sc ks ih =>
    intro v w hB hv hsz
    have hszk := (sz_scopes (Fm.mk k nm n sc ks)).2
    simp only [Fm.kids] at hszk
    have hlen : ks.length ≤ 1048576 := by omega
    have HSK : Hid (∀ g ∈ ks, g.sz ≤ 1048576) := fun g hg => Nat.le_trans (sz_kid (f := Fm.mk k nm n sc ks) hg) hsz
    clear hszk
    unfold InV at hv
    obtain ⟨vs, a, cap, rfl, hkr, hnr, hnm, hvs, hcap, hmax, hks⟩ := hv
    unfold maxLen at hmax
    have HIH := Lib.hid ih
    have HKS := Lib.hid hks
    have HKR := Lib.hid hkr
    have HNR := Lib.hid hnr
    have HNM := Lib.hid hnm
    obtain ⟨i0, hi0, hz0, hz1, hz2⟩ := info_parts Try.infoFm
    obtain ⟨l0, hl0, hlz0, hlz1, hlz2⟩ := info_parts Try.infoInt
    have hslen : sc.length ≤ 1048576 := by have := (sz_scopes (Fm.mk k nm n sc ks)).1; simp only [Fm.scopes] at this; omega
    obtain ⟨vsa, vscap, rfl⟩ : ∃ vsa vscap, vs = .slice vsa sc.length vscap := by obtain ⟨x, y, e, _⟩ := hvs; exact ⟨x, y, e⟩
    have HVS := Lib.hid hvs
    clear ih hks hvs hkr hnr hnm hsz
    go_enter Try.func176, Try.ntmps176
    go_wp2_with fail
    rename_i K hK0
    have HCONT : ∀ (eb ob base : Nat) (sa2 : Option Addr) (scap2 : Nat) (W : World), MadeMid 33 w W w.heap.size (w.heap.size + 1) ob base a cap ks.length k nm n (.slice sa2 sc.length scap2) sc [] (.slice none 0 0) [] →
        K { tmps := #[.agg #[.int .i64 k, .string nm, .int .i64 n, .slice vsa sc.length vscap, .slice a ks.length cap], .pointer (some ⟨w.heap.size, 0, none⟩), .pointer (some ⟨w.heap.size + 1, 0, none⟩), .pointer (some ⟨ob, 0, none⟩), undef, .pointer (some ⟨w.heap.size, 0, none⟩), .int .i64 k, .pointer (some ⟨w.heap.size, 1, none⟩), .string nm, .pointer (some ⟨w.heap.size, 2, none⟩), .int .i64 n, .slice (some ⟨eb, 0, none⟩) 0 0, .pointer (some ⟨w.heap.size, 3, none⟩), .slice vsa sc.length vscap, .slice sa2 sc.length scap2, .agg #[.int .i64 k, .string nm, .int .i64 n, .slice sa2 sc.length scap2, .slice none 0 0], undef, undef, undef, undef, undef, undef, undef, undef, undef, undef, undef, undef, undef, undef, undef, undef, undef, undef, undef], defers := [] } W := by
      intro eb ob base sa2 scap2 W hst
      apply hK0
      clear hK0
      clear HVS
      obtain ⟨f1, f2, f3, f4, f5, f6, f7, f8⟩ := hst.fix
      have hHold := hst.par
      go_wp2_with fail
      go_loopw [4] (fun i wr => CopyIn w ob base a cap k nm n (.slice sa2 sc.length scap2) sc ks i wr) (fun i _ => ks.length - (intOf i).toNat)
      case atStart => exact ⟨0, [], .slice none 0 0, [], Nat.zero_le _, rfl, by simp, hst⟩
      case round =>
        obtain ⟨j, gs, v, xs, hj, rfl, hgs, hm⟩ := hrel
        have HM := Lib.hid hm
        have HGS := Lib.hid hgs
        have hgl : gs.length = j := by rw [hgs, List.length_take]; omega
        obtain ⟨f1, f2, f3, f4, f5, f6, f7, f8⟩ := hm.fix
        have hpar := hm.par
        have ho0 := hm.o0
        have ho1 := hm.o1
        have ho2 := hm.o2
        have ho3 := hm.o3
        have ho4 := hm.o4
        have hof := hm.free 4
        have hbw := hm.size
        clear hm hgs
        by_cases hlt : j < ks.length
        · obtain ⟨b, off, rfl, hbB, hrow⟩ : ∃ b off, a = some ⟨b, off, none⟩ ∧ b < B ∧ RowIn (· < B) w b off ks := by
            rcases HKS.out with h | h
            · subst h; simp at hlt
            · exact h
          have hrow1 := hrow.later (same_below (HM.out.below.mono hB)) b hbB
          obtain ⟨sa1, scap1, a1, cap1, q0, q1, q2, q3, q4, hin⟩ := hrow1.at' j hlt
          have HIN := Lib.hid hin
          clear hrow hrow1 hin
          have hj0 : (0 : Int) ≤ (j : Int) := by omega
          have hj1 : (j : Int) < (ks.length : Int) := by omega
          have hL1 : gs.length + 1 ≤ maxLen := by unfold maxLen; omega
          have hL2 : (gs.length + 1) * 80 ≤ 140737488355328 := by omega
          go_wp2_with fail
          have hS0 : KidHeld (ob) w.heap.size b (off + j * 5) v (.slice (some ⟨b, off, none⟩) ks.length cap) (.int .i64 ks[j].kind) (.string ks[j].name) (.int .i64 ks[j].n) (.slice sa1 ks[j].scopes.length scap1) (.slice a1 ks[j].kids.length cap1) wr.drew := ⟨ho4, hpar, q0, q1, q2, q3, q4⟩
          refine upto_begin (KidHeld (ob) w.heap.size b (off + j * 5) v (.slice (some ⟨b, off, none⟩) ks.length cap) (.int .i64 ks[j].kind) (.string ks[j].name) (.int .i64 ks[j].n) (.slice sa1 ks[j].scopes.length scap1) (.slice a1 ks[j].kids.length cap1)) 11 (by kernel_rfl) ?_
          refine upto_take (i := 0) (d := some 23) (v := ?_) rfl rfl (by kernel_rfl) (by kernel_rfl) (by kernel_rfl) (by kernel_rfl) (fun _ _ _ h => h) (Or.inl ⟨by rfl, ?_⟩) hS0 ?_
          rotate_left
          · (intro wS hSw; obtain ⟨_, _, _, _, _, _, _⟩ := hSw; go_simp; try with_reducible rfl)
          try simp only [Act.put, List.setIfInBounds_toArray, List.set_cons_zero, List.set_cons_succ]
          refine upto_take (i := 1) (d := some 24) (v := ?_) rfl rfl (by kernel_rfl) (by kernel_rfl) (by kernel_rfl) (by kernel_rfl) (fun _ _ _ h => h) (Or.inl ⟨by rfl, ?_⟩) hS0 ?_
          rotate_left
          · (intro wS hSw; obtain ⟨_, _, _, _, _, _, _⟩ := hSw; go_simp; try with_reducible rfl)
          try simp only [Act.put, List.setIfInBounds_toArray, List.set_cons_zero, List.set_cons_succ]
          refine upto_take (i := 2) (d := some 25) (v := ?_) rfl rfl (by kernel_rfl) (by kernel_rfl) (by kernel_rfl) (by kernel_rfl) (fun _ _ _ h => h) (Or.inl ⟨by rfl, ?_⟩) hS0 ?_
          rotate_left
          · (intro wS hSw; obtain ⟨_, _, _, _, _, _, _⟩ := hSw; go_simp; try with_reducible rfl)
          try simp only [Act.put, List.setIfInBounds_toArray, List.set_cons_zero, List.set_cons_succ]
          refine upto_take (i := 3) (d := some 26) (v := ?_) rfl rfl (by kernel_rfl) (by kernel_rfl) (by kernel_rfl) (by kernel_rfl) (fun _ _ _ h => h) (Or.inl ⟨by rfl, ?_⟩) hS0 ?_
          rotate_left
          · (intro wS hSw; obtain ⟨_, _, _, _, _, _, _⟩ := hSw; go_simp; try with_reducible rfl)
          try simp only [Act.put, List.setIfInBounds_toArray, List.set_cons_zero, List.set_cons_succ]
          refine upto_take (i := 4) (d := some 27) (v := ?_) rfl rfl (by kernel_rfl) (by kernel_rfl) (by kernel_rfl) (by kernel_rfl) (fun _ _ _ h => h) (Or.inl ⟨by rfl, ?_⟩) hS0 ?_
          rotate_left
          · (intro wS hSw; obtain ⟨_, _, _, _, _, _, _⟩ := hSw; go_simp; try with_reducible rfl)
          try simp only [Act.put, List.setIfInBounds_toArray, List.set_cons_zero, List.set_cons_succ]
          refine upto_take (i := 5) (d := some 28) (v := ?_) rfl rfl (by kernel_rfl) (by kernel_rfl) (by kernel_rfl) (by kernel_rfl) (fun _ _ _ h => h) (Or.inl ⟨by rfl, ?_⟩) hS0 ?_
          rotate_left
          · (intro wS hSw; obtain ⟨_, _, _, _, _, _, _⟩ := hSw; go_simp; try with_reducible rfl)
          try simp only [Act.put, List.setIfInBounds_toArray, List.set_cons_zero, List.set_cons_succ]
          refine upto_take (i := 6) (d := some 29) (v := ?_) rfl rfl (by kernel_rfl) (by kernel_rfl) (by kernel_rfl) (by kernel_rfl) (fun _ _ _ h => h) (Or.inl ⟨by rfl, ?_⟩) hS0 ?_
          rotate_left
          · (intro wS hSw; obtain ⟨_, _, _, _, _, _, _⟩ := hSw; go_simp; try with_reducible rfl)
          try simp only [Act.put, List.setIfInBounds_toArray, List.set_cons_zero, List.set_cons_succ]
          refine upto_one (i := 7) (by kernel_rfl) rfl (fun K hK => ?_)
          go_simp
          refine (HIH.out _ (List.getElem_mem hlt) _ wr.drew (by show B ≤ wr.heap.size; omega) (InV.later (w := wr) (w' := wr.drew) (fun _ _ => rfl) _ _ HIN.out) (HSK.out _ (List.getElem_mem hlt))).mono ?_
          rintro e w1 ⟨kv, rfl, hkv, hb1⟩
          obtain ⟨ksa, kscap, ka, kcap, rfl⟩ := hkv.form
          have hb1' := below_drew hb1
          have hS1 := KidHeld.later (w := wr) (w' := w1) hS0 hb1'
          have HKV : Hid (InV (fun k => wr.heap.size ≤ k ∧ k < w1.heap.size) w1 ks[j] (.agg #[.int .i64 ks[j].kind, .string ks[j].name, .int .i64 ks[j].n, .slice ksa ks[j].scopes.length kscap, .slice ka ks[j].kids.length kcap])) := hkv
          refine hK.out _ _ (.inr hS1) ?_
          have HB1 := Lib.hid hb1'
          have hs1 := hb1'.size
          have hown2 : w1.ownsRow (base) 33 5 v gs.length xs := HM.out.own.kept (row := none) ⟨hb1'.os, hb1'.tape, hb1'.output, hb1'.size, fun k hk _ => hb1'.block k hk⟩ (by cases v.ownBlock <;> simp)
          clear hK K hkv hb1 hb1' hS0
          obtain ⟨G, hG⟩ : ∃ G, ks[j] = G := ⟨_, rfl⟩
          rw [hG] at HKV hS1 ⊢
          refine upto_one (i := 8) (by kernel_rfl) rfl (fun K hK => ?_)
          go_simp
          have hbA := below_alloc w1 (Obj.cells #[.int .i64 G.kind, .string G.name, .int .i64 G.n, .slice ksa G.scopes.length kscap, .slice ka G.kids.length kcap] 33)
          have hS2 := hS1.later hbA
          refine hK.out _ _ (.inr hS2) ?_
          clear hK K
          refine upto_oper (i := 9) ⟨some 32, .call { callee := .builtin .append, args := #[.tmp 24, .tmp 31], argTypes := #[31, 31] }, 31, _, _, _⟩ (by kernel_rfl) rfl rfl (fun K hK => ?_)
          refine wp_append_lies _ (.tmp 24) (.tmp 31) 31 rfl (base) 33 i0 _ 5 80 Try.underlying31 hi0 hz0 hz1 hz2 rfl (by omega) _ gs.length xs (by rfl) (hown2.alloc _)
                    ⟨w1.heap.size, 0, none⟩ 1 1 [.int .i64 G.kind, .string G.name, .int .i64 G.n, .slice ksa G.scopes.length kscap, .slice ka G.kids.length kcap] (by rfl) (by rfl) (World.news_of_block (cs := #[.int .i64 G.kind, .string G.name, .int .i64 G.n, .slice ksa G.scopes.length kscap, .slice ka G.kids.length kcap]) (t := 33) (fr := (0, 0)) (heap_alloc_new w1 _)) (by simp [Value.oneCell'])
                    (by omega) hL1 hL2 (by simp; omega) (w1.heap.size + 1) (by simp) ?_
          intro gq qd w3 hown3 hgrow hat hlt4
          have hfar : ∀ k, v.ownBlock = some k → base ≤ k ∧ k < w1.heap.size := fun k e => hown2.lt k e
          have hS3 := hS2.keep (w' := w3) (fun k hk => hgrow.block k (by rcases hk with rfl | rfl | rfl <;> simp <;> omega) (fun e => by have := hfar k e.symm; rcases hk with rfl | rfl | rfl <;> omega))
          refine hK.out _ _ (.inr hS3) ?_
          have hc4 := hS3.1
          have hf4 : w3.frozen? ⟨ob, 4, none⟩ = false := by
            rw [World.frozen?_of_block (a := ⟨ob, 4, none⟩) (hgrow.block (ob) (by simp; omega) (fun e => by have := hfar _ e.symm; omega)), hbA.frozen (p := ⟨ob, 4, none⟩) (show ob < _ by omega),
              HB1.out.frozen (p := ⟨ob, 4, none⟩) (show ob < _ by omega)]
            exact hof
          clear hK K
          refine upto_one (i := 10) (by kernel_rfl) rfl (fun K hK => ?_)
          go_simp
          refine hK.out _ _ (.inr hS3) ?_
          clear hK K
          refine upto_one (i := 11) (by kernel_rfl) rfl (fun K hK => ?_)
          go_simp
          refine hK.out _ _ (.inl rfl) ?_
          clear hK K
          refine upto_done (by kernel_rfl) ?_ _
          have HNEXT : Hid (CopyIn w ob base (some ⟨b, off, none⟩) cap k nm n (.slice sa2 sc.length scap2) sc ks (.int .i64 ((j : Int) + 1)) (w3.setCell ⟨ob, 4, none⟩ (.slice (some ⟨gq, 0, none⟩) (j + 1) qd))) := by
            rw [← hgl]
            refine ⟨gs.length + 1, gs ++ [G], _, _, by omega, by go_num, ?_, HM.out.step (HB1.out.trans (hbA.mono (by omega))) (InV.mono (fun k hk => ⟨hk.1, by simp; omega⟩) _ _ (InV.later (w := w1) (fun k hk => hbA.block k hk.2) _ _ HKV.out)) hown3 hgrow (by simpa using hat)⟩
            rw [hgl, List.take_succ_eq_append_getElem hlt, hG, ← HGS.out]
          clear hown3 hgrow hat hlt4 hS3 hS2 hS1 hbA hown2 hfar hc4 hf4
          go_wp2_with fail
          go_roundw
          case rel => exact HNEXT.out
          case measure => simp [intOf]; omega
        · have hjl : j = ks.length := by omega
          subst hjl
          have HG : Hid (gs = ks) := by have := HGS.out; rw [List.take_length] at this; exact this
          obtain ⟨va, vc, rfl⟩ : ∃ va vc, v = .slice va ks.length vc := by
            rw [← hgl]
            rcases HM.out.own.2 with ⟨h, h0⟩ | ⟨g, cp, _, h, _⟩
            · exact ⟨none, 0, by rw [h, h0]⟩
            · exact ⟨_, cp, h⟩
          have hro1 := HM.out.zero
          have r0 : wr.cell? ⟨w.heap.size + 1, 0, none⟩ = some (.int .i64 0) := by rw [cell_of_row wr _ 0 _ _ _ hro1]; rfl
          have r1 : wr.cell? ⟨w.heap.size + 1, 1, none⟩ = some (.string { data := #[] }) := by rw [cell_of_row wr _ 1 _ _ _ hro1]; rfl
          have r2 : wr.cell? ⟨w.heap.size + 1, 2, none⟩ = some (.int .i64 0) := by rw [cell_of_row wr _ 2 _ _ _ hro1]; rfl
          have r3 : wr.cell? ⟨w.heap.size + 1, 3, none⟩ = some (.slice none 0 0) := by rw [cell_of_row wr _ 3 _ _ _ hro1]; rfl
          have r4 : wr.cell? ⟨w.heap.size + 1, 4, none⟩ = some (.slice none 0 0) := by rw [cell_of_row wr _ 4 _ _ _ hro1]; rfl
          have hplr : Plain wr (w.heap.size + 1) := ⟨_, _, hro1⟩
          have t0 := hplr.frozen 0
          have t1 := hplr.frozen 1
          have t2 := hplr.frozen 2
          have t3 := hplr.frozen 3
          have t4 := hplr.frozen 4
          have HEND := Lib.hid (HM.out.ends HKR.out HNR.out HNM.out)
          have hnb : ¬((ks.length : Int) < (ks.length : Int)) := by omega
          clear hro1 hplr
          go_wp2_with fail
          have hth : ∀ j, j < 5 → ∃ v, wr.cell? ⟨w.heap.size + 1, 0 + j, none⟩ = some v := fun j hj => by
            rw [Nat.zero_add]
            match j, hj with
            | 0, _ => exact ⟨_, r0⟩
            | 1, _ => exact ⟨_, r1⟩
            | 2, _ => exact ⟨_, r2⟩
            | 3, _ => exact ⟨_, r3⟩
            | 4, _ => exact ⟨_, r4⟩
          obtain ⟨z0, z1, z2, z3, z4⟩ := set5_in wr (w.heap.size + 1) 0 (.int .i64 k) (.string nm) (.int .i64 n) (.slice sa2 sc.length scap2) (.slice va ks.length vc) hth
          have hss : Same (fun k => w.heap.size ≤ k ∧ k < wr.heap.size ∧ k ≠ w.heap.size + 1) wr (set5 wr (w.heap.size + 1) 0 (.int .i64 k) (.string nm) (.int .i64 n) (.slice sa2 sc.length scap2) (.slice va ks.length vc)) :=
            fun c hc => set5_block _ _ _ _ _ _ _ _ hc.2.2
          have hz5 := set5_size wr (w.heap.size + 1) 0 (.int .i64 k) (.string nm) (.int .i64 n) (.slice sa2 sc.length scap2) (.slice va ks.length vc)
          have hin5 := InV.mono (ψ := fun k' => w.heap.size ≤ k' ∧ k' < (set5 wr (w.heap.size + 1) 0 (.int .i64 k) (.string nm) (.int .i64 n) (.slice sa2 sc.length scap2) (.slice va ks.length vc)).heap.size) (fun k' hk => ⟨hk.1, by rw [hz5]; exact hk.2.1⟩) _ _ (InV.later hss _ _ HEND.out)
          have hbe5 := set5_below HM.out.below (b := w.heap.size + 1) (by omega) 0 (.int .i64 k) (.string nm) (.int .i64 n) (.slice sa2 sc.length scap2) (.slice va ks.length vc)
          unfold set5 at z0 z1 z2 z3 z4 hin5 hbe5
          simp only [Nat.zero_add] at z0 z1 z2 z3 z4 hin5 hbe5
          refine bodyPost_ret (v := .agg #[.int .i64 k, .string nm, .int .i64 n, .slice sa2 sc.length scap2, .slice va ks.length vc]) (by simp [results, Try.results176, go_sem, z0, z1, z2, z3, z4]) rfl ?_
          refine ⟨_, rfl, ?_, hbe5⟩
          rw [HG.out] at hin5
          exact hin5
    have HC := Lib.hid HCONT
    clear HCONT hK0
    generalize hw0 : ((w.alloc (.cells #[.int .i64 k, .string nm, .int .i64 n, .slice vsa sc.length vscap, .slice a ks.length cap] 33)).alloc (.cells #[.int .i64 0, .string { data := #[] }, .int .i64 0, .slice none 0 0, .slice none 0 0] 33)) = w0
    have hb0 : Below w.heap.size w w0 := by rw [← hw0]; exact (below_alloc w _).alloc (by simp) _
    have hs0 : w0.heap.size = w.heap.size + 2 := by rw [← hw0]; simp
    have hp0 : ParHeld w.heap.size k nm n (.slice vsa sc.length vscap) (.slice a ks.length cap) w0 := by
      rw [← hw0]
      exact ⟨by rw [a2_cell0]; rfl, by rw [a2_cell0]; rfl, by rw [a2_cell0]; rfl, by rw [a2_cell0]; rfl, by rw [a2_cell0]; rfl⟩
    have hzz : w0.heap[w.heap.size + 1]? = some (.cells #[.int .i64 0, .string { data := #[] }, .int .i64 0, .slice none 0 0, .slice none 0 0] 33 (0, 0)) := by
      rw [← hw0]
      have := heap_alloc_new (w.alloc (.cells #[.int .i64 k, .string nm, .int .i64 n, .slice vsa sc.length vscap, .slice a ks.length cap] 33)) (.cells #[.int .i64 0, .string { data := #[] }, .int .i64 0, .slice none 0 0, .slice none 0 0] 33)
      rw [size_alloc'] at this
      exact this
    have hv0 : IntRow (· < B) w0 (.slice vsa sc.length vscap) sc := HVS.out.later (same_below (hb0.mono hB))
    clear hw0
    have hS0 : ParHeld w.heap.size k nm n (.slice vsa sc.length vscap) (.slice a ks.length cap) w0.drew := hp0
    refine upto_begin (ParHeld w.heap.size k nm n (.slice vsa sc.length vscap) (.slice a ks.length cap)) 12 (by kernel_rfl) ?_
    refine upto_take (i := 0) (d := some 5) (v := ?_) rfl rfl (by kernel_rfl) (by kernel_rfl) (by kernel_rfl) (by kernel_rfl) (fun _ _ _ h => h) (Or.inl ⟨by rfl, ?_⟩) hS0 ?_
    rotate_left
    · (intro wS hSw; obtain ⟨_, _, _, _, _⟩ := hSw; go_simp; try with_reducible rfl)
    try simp only [Act.put, List.setIfInBounds_toArray, List.set_cons_zero, List.set_cons_succ]
    refine upto_take (i := 1) (d := some 6) (v := ?_) rfl rfl (by kernel_rfl) (by kernel_rfl) (by kernel_rfl) (by kernel_rfl) (fun _ _ _ h => h) (Or.inl ⟨by rfl, ?_⟩) hS0 ?_
    rotate_left
    · (intro wS hSw; obtain ⟨_, _, _, _, _⟩ := hSw; go_simp; try with_reducible rfl)
    try simp only [Act.put, List.setIfInBounds_toArray, List.set_cons_zero, List.set_cons_succ]
    refine upto_take (i := 2) (d := some 7) (v := ?_) rfl rfl (by kernel_rfl) (by kernel_rfl) (by kernel_rfl) (by kernel_rfl) (fun _ _ _ h => h) (Or.inl ⟨by rfl, ?_⟩) hS0 ?_
    rotate_left
    · (intro wS hSw; obtain ⟨_, _, _, _, _⟩ := hSw; go_simp; try with_reducible rfl)
    try simp only [Act.put, List.setIfInBounds_toArray, List.set_cons_zero, List.set_cons_succ]
    refine upto_take (i := 3) (d := some 8) (v := ?_) rfl rfl (by kernel_rfl) (by kernel_rfl) (by kernel_rfl) (by kernel_rfl) (fun _ _ _ h => h) (Or.inl ⟨by rfl, ?_⟩) hS0 ?_
    rotate_left
    · (intro wS hSw; obtain ⟨_, _, _, _, _⟩ := hSw; go_simp; try with_reducible rfl)
    try simp only [Act.put, List.setIfInBounds_toArray, List.set_cons_zero, List.set_cons_succ]
    refine upto_take (i := 4) (d := some 9) (v := ?_) rfl rfl (by kernel_rfl) (by kernel_rfl) (by kernel_rfl) (by kernel_rfl) (fun _ _ _ h => h) (Or.inl ⟨by rfl, ?_⟩) hS0 ?_
    rotate_left
    · (intro wS hSw; obtain ⟨_, _, _, _, _⟩ := hSw; go_simp; try with_reducible rfl)
    try simp only [Act.put, List.setIfInBounds_toArray, List.set_cons_zero, List.set_cons_succ]
    refine upto_take (i := 5) (d := some 10) (v := ?_) rfl rfl (by kernel_rfl) (by kernel_rfl) (by kernel_rfl) (by kernel_rfl) (fun _ _ _ h => h) (Or.inl ⟨by rfl, ?_⟩) hS0 ?_
    rotate_left
    · (intro wS hSw; obtain ⟨_, _, _, _, _⟩ := hSw; go_simp; try with_reducible rfl)
    try simp only [Act.put, List.setIfInBounds_toArray, List.set_cons_zero, List.set_cons_succ]
    refine upto_take (i := 7) (d := some 12) (v := ?_) rfl rfl (by kernel_rfl) (by kernel_rfl) (by kernel_rfl) (by kernel_rfl) (fun _ _ _ h => h) (Or.inl ⟨by rfl, ?_⟩) hS0 ?_
    rotate_left
    · (intro wS hSw; obtain ⟨_, _, _, _, _⟩ := hSw; go_simp; try with_reducible rfl)
    try simp only [Act.put, List.setIfInBounds_toArray, List.set_cons_zero, List.set_cons_succ]
    refine upto_take (i := 8) (d := some 13) (v := ?_) rfl rfl (by kernel_rfl) (by kernel_rfl) (by kernel_rfl) (by kernel_rfl) (fun _ _ _ h => h) (Or.inl ⟨by rfl, ?_⟩) hS0 ?_
    rotate_left
    · (intro wS hSw; obtain ⟨_, _, _, _, _⟩ := hSw; go_simp; try with_reducible rfl)
    try simp only [Act.put, List.setIfInBounds_toArray, List.set_cons_zero, List.set_cons_succ]
    have hpz : Plain w0 (w.heap.size + 1) := ⟨_, _, hzz⟩
    refine upto_two (i := 6) (j := 11) (by kernel_rfl) rfl rfl (fun K' hK => ?_) (fun K' hK => ?_)
    · go_simp
      have hbe : Below w0.heap.size w0 (w0.alloc (Obj.cells #[] 3)).drew := (below_alloc w0 _).drew
      have hown : World.ownsRow (w0.alloc (Obj.cells #[] 3)).drew (w.heap.size + 2) 3 1 (.slice (some ⟨w.heap.size + 2, 0, none⟩) 0 0) 0 [] := by
        have := (World.ownsRow_lit (base := w.heap.size + 2) (e := 3) (size := 1) w0 #[] 0 (by omega) (by unfold maxLen; omega) (by simp)).drew
        rw [hs0] at this
        exact this
      refine hK.out _ _ (.inr (hp0.keep (hbe.block w.heap.size (by omega)))) ?_
      clear hK K'
      refine upto_two (i := 9) (j := 11) (by kernel_rfl) rfl rfl (fun K' hK => ?_) (fun K' hK => ?_)
      · rw [if_pos (show Region.wanted _ _ = true by simp [Region.wanted])]
        refine wp_append_ints (.tmp 11) (.tmp 13) 22 3 rfl l0 Try.underlying22 hl0 hlz0 hlz1 hlz2 (w.heap.size + 2) (w.heap.size + 2) sc vsa vscap (· < B) (by rfl) (by rfl) (hv0.later (same_below (hbe.mono (by omega)))) hslen hown (by simp; omega) ?_
        intro sa2 scap2 w5 hg5 hi5
        have hsz5 := hg5.size
        have hsz6 : w.heap.size + 3 ≤ w5.heap.size := by simp at hsz5; omega
        have hlow : ∀ k, k < w.heap.size + 2 → w5.heap[k]? = w0.heap[k]? := fun k hk => (hg5.block k (by simp; omega) (by simp; omega)).trans (hbe.block k (by omega))
        have hp5 := hp0.keep (hlow w.heap.size (by omega))
        have hz5 := (hlow (w.heap.size + 1) (by omega)).trans hzz
        refine hK.out _ _ (.inr hp5) ?_
        clear hK K'
        refine upto_take (i := 10) (d := some 15) (v := ?_) rfl rfl (by kernel_rfl) (by kernel_rfl) (by kernel_rfl) (by kernel_rfl) (fun _ _ _ h => h) (Or.inl ⟨by rfl, ?_⟩) hp5 ?_
        rotate_left
        · (intro wS hSw; obtain ⟨_, _, _, _, _⟩ := hSw; go_simp; try with_reducible rfl)
        try simp only [Act.put, List.setIfInBounds_toArray, List.set_cons_zero, List.set_cons_succ]
        refine upto_one (i := 11) (by kernel_rfl) rfl (fun K' hK => ?_)
        go_simp
        have hb6 := below_alloc w5 (Obj.cells #[.int .i64 0, .string { data := #[] }, .int .i64 0, .slice none 0 0, .slice none 0 0] 33)
        have hw5 : w.heap.size + 3 ≤ w5.heap.size := by simp at hsz5; omega
        refine hK.out _ _ (.inr (hp5.keep (hb6.block w.heap.size (by omega)))) ?_
        clear hK K'
        refine upto_one (i := 12) (by kernel_rfl) rfl (fun K' hK => ?_)
        go_simp
        refine hK.out _ _ (.inl rfl) ?_
        clear hK K'
        refine upto_done (by kernel_rfl) ?_ _
        have hbg := MadeMid.begin2 (T := 33) (w := w) (V := w5) (a := a) (cap := cap) (m := ks.length) (kd := k) (nm := nm) (n := n) (c3 := .slice sa2 sc.length scap2) (sc := sc) (((hb0.trans (hbe.mono (by omega))).grown hg5 (by first | omega | (simp; omega)) (fun k hk => by simp at hk; omega)))
          (by omega) hp5.2.2.2.2 hz5 (hi5.mono (fun k hk => ⟨by rcases hk.1 with h | h <;> (try simp at h) <;> omega, hk.2, by rcases hk.1 with h | h <;> (try simp at h) <;> omega⟩))
        exact HC.out (w.heap.size + 2) _ _ sa2 scap2 _ hbg
      · go_simp
        have hbe2 : Below w0.heap.size w0 ((w0.alloc (Obj.cells #[] 3)).alloc (Obj.cells #[.int .i64 0, .string { data := #[] }, .int .i64 0, .slice none 0 0, .slice none 0 0] 33)).drew := ((below_alloc w0 _).alloc (by simp) _).drew
        refine hK.out _ _ (.inr (hp0.keep (hbe2.block w.heap.size (by omega)))) ?_
        clear hK K'
        refine upto_one (i := 9) (by kernel_rfl) rfl (fun K' hK => ?_)
        rw [if_pos (show Region.wanted _ _ = true by simp [Region.wanted])]
        refine wp_append_ints (.tmp 11) (.tmp 13) 22 3 rfl l0 Try.underlying22 hl0 hlz0 hlz1 hlz2 (w.heap.size + 2) (w.heap.size + 2) sc vsa vscap (· < B) (by rfl) (by rfl) (hv0.later (same_below (hbe2.mono (by omega)))) hslen (hown.alloc _) (by simp; omega) ?_
        intro sa2 scap2 w5 hg5 hi5
        have hsz5 := hg5.size
        have hsz6 : w.heap.size + 3 ≤ w5.heap.size := by simp at hsz5; omega
        have hlow : ∀ k, k < w.heap.size + 2 → w5.heap[k]? = w0.heap[k]? := fun k hk => (hg5.block k (by simp; omega) (by simp; omega)).trans (hbe2.block k (by omega))
        have hp5 := hp0.keep (hlow w.heap.size (by omega))
        have hz5 := (hlow (w.heap.size + 1) (by omega)).trans hzz
        have hob5 : w5.heap[w.heap.size + 3]? = some (.cells #[.int .i64 0, .string { data := #[] }, .int .i64 0, .slice none 0 0, .slice none 0 0] 33 (0, 0)) := by
          rw [hg5.block _ (by simp; omega) (by simp)]
          have := heap_alloc_new (w0.alloc (Obj.cells #[] 3)) (Obj.cells #[.int .i64 0, .string { data := #[] }, .int .i64 0, .slice none 0 0, .slice none 0 0] 33)
          rw [size_alloc', hs0] at this
          exact this
        refine hK.out _ _ (.inr hp5) ?_
        clear hK K'
        refine upto_one (i := 10) (by kernel_rfl) rfl (fun K' hK => ?_)
        go_simp
        refine hK.out _ _ (.inr hp5) ?_
        clear hK K'
        have r0 : w5.cell? ⟨w.heap.size + 3, 0, none⟩ = some (.int .i64 0) := by rw [cell_of_row w5 _ 0 _ _ _ hob5]; rfl
        have r1 : w5.cell? ⟨w.heap.size + 3, 1, none⟩ = some (.string { data := #[] }) := by rw [cell_of_row w5 _ 1 _ _ _ hob5]; rfl
        have r2 : w5.cell? ⟨w.heap.size + 3, 2, none⟩ = some (.int .i64 0) := by rw [cell_of_row w5 _ 2 _ _ _ hob5]; rfl
        have r3 : w5.cell? ⟨w.heap.size + 3, 3, none⟩ = some (.slice none 0 0) := by rw [cell_of_row w5 _ 3 _ _ _ hob5]; rfl
        have r4 : w5.cell? ⟨w.heap.size + 3, 4, none⟩ = some (.slice none 0 0) := by rw [cell_of_row w5 _ 4 _ _ _ hob5]; rfl
        have hplr : Plain w5 (w.heap.size + 3) := ⟨_, _, hob5⟩
        have t0 := hplr.frozen 0
        have t1 := hplr.frozen 1
        have t2 := hplr.frozen 2
        have t3 := hplr.frozen 3
        have t4 := hplr.frozen 4
        refine upto_one (i := 12) (by kernel_rfl) rfl (fun K' hK => ?_)
        go_simp
        refine hK.out _ _ (.inl rfl) ?_
        clear hK K'
        refine upto_done (by kernel_rfl) ?_ _
        have hbg := MadeMid.begin (T := 33) (w := w) (V := w5) (ob := w.heap.size + 3) (a := a) (cap := cap) (m := ks.length) (kd := k) (nm := nm) (n := n) (c3 := .slice sa2 sc.length scap2) (sc := sc) ((hb0.trans (hbe2.mono (by omega))).grown hg5 (by first | omega | (simp; omega)) (fun k hk => by simp at hk; omega))
          (by omega) hp5.2.2.2.2 hz5 hob5 (by omega)
          (hi5.mono (fun k hk => ⟨by rcases hk.1 with h | h <;> (try simp at h) <;> omega, hk.2, by rcases hk.1 with h | h <;> (try simp at h) <;> omega, by rcases hk.1 with h | h <;> (try simp at h) <;> omega⟩))
        unfold set5 at hbg
        simp only [Nat.zero_add] at hbg
        exact HC.out (w.heap.size + 2) _ _ sa2 scap2 _ hbg
    · go_simp
      have hbe : Below w0.heap.size w0 (w0.alloc (Obj.cells #[.int .i64 0, .string { data := #[] }, .int .i64 0, .slice none 0 0, .slice none 0 0] 33)).drew := (below_alloc w0 _).drew
      refine hK.out _ _ (.inr (hp0.keep (hbe.block w.heap.size (by omega)))) ?_
      clear hK K'
      refine upto_one (i := 6) (by kernel_rfl) rfl (fun K' hK => ?_)
      go_simp
      have hbe2 : Below w0.heap.size w0 ((w0.alloc (Obj.cells #[.int .i64 0, .string { data := #[] }, .int .i64 0, .slice none 0 0, .slice none 0 0] 33)).alloc (Obj.cells #[] 3)).drew := ((below_alloc w0 _).alloc (by simp) _).drew
      have hown : World.ownsRow ((w0.alloc (Obj.cells #[.int .i64 0, .string { data := #[] }, .int .i64 0, .slice none 0 0, .slice none 0 0] 33)).alloc (Obj.cells #[] 3)).drew (w.heap.size + 2) 3 1 (.slice (some ⟨w.heap.size + 3, 0, none⟩) 0 0) 0 [] := by
        have := (World.ownsRow_lit (base := w.heap.size + 2) (e := 3) (size := 1) (w0.alloc (Obj.cells #[.int .i64 0, .string { data := #[] }, .int .i64 0, .slice none 0 0, .slice none 0 0] 33)) #[] 0 (by simp; omega) (by unfold maxLen; omega) (by simp)).drew
        rw [size_alloc', hs0] at this
        exact this
      refine hK.out _ _ (.inr (hp0.keep (hbe2.block w.heap.size (by omega)))) ?_
      clear hK K'
      refine upto_one (i := 9) (by kernel_rfl) rfl (fun K' hK => ?_)
      rw [if_pos (show Region.wanted _ _ = true by simp [Region.wanted])]
      refine wp_append_ints (.tmp 11) (.tmp 13) 22 3 rfl l0 Try.underlying22 hl0 hlz0 hlz1 hlz2 (w.heap.size + 2) (w.heap.size + 3) sc vsa vscap (· < B) (by rfl) (by rfl) (hv0.later (same_below (hbe2.mono (by omega)))) hslen hown (by simp; omega) ?_
      intro sa2 scap2 w5 hg5 hi5
      have hsz5 := hg5.size
      have hsz6 : w.heap.size + 3 ≤ w5.heap.size := by simp at hsz5; omega
      have hlow : ∀ k, k < w.heap.size + 2 → w5.heap[k]? = w0.heap[k]? := fun k hk => (hg5.block k (by simp; omega) (by simp; omega)).trans (hbe2.block k (by omega))
      have hp5 := hp0.keep (hlow w.heap.size (by omega))
      have hz5 := (hlow (w.heap.size + 1) (by omega)).trans hzz
      have hob5 : w5.heap[w.heap.size + 2]? = some (.cells #[.int .i64 0, .string { data := #[] }, .int .i64 0, .slice none 0 0, .slice none 0 0] 33 (0, 0)) := by
        rw [hg5.block _ (by simp; omega) (by simp)]
        have := heap_alloc_new w0 (Obj.cells #[.int .i64 0, .string { data := #[] }, .int .i64 0, .slice none 0 0, .slice none 0 0] 33)
        rw [hs0] at this
        exact ((below_alloc (w0.alloc (Obj.cells #[.int .i64 0, .string { data := #[] }, .int .i64 0, .slice none 0 0, .slice none 0 0] 33)) (Obj.cells #[] 3)).block _ (by simp; omega)).trans this
      refine hK.out _ _ (.inr hp5) ?_
      clear hK K'
      refine upto_one (i := 10) (by kernel_rfl) rfl (fun K' hK => ?_)
      go_simp
      refine hK.out _ _ (.inr hp5) ?_
      clear hK K'
      have r0 : w5.cell? ⟨w.heap.size + 2, 0, none⟩ = some (.int .i64 0) := by rw [cell_of_row w5 _ 0 _ _ _ hob5]; rfl
      have r1 : w5.cell? ⟨w.heap.size + 2, 1, none⟩ = some (.string { data := #[] }) := by rw [cell_of_row w5 _ 1 _ _ _ hob5]; rfl
      have r2 : w5.cell? ⟨w.heap.size + 2, 2, none⟩ = some (.int .i64 0) := by rw [cell_of_row w5 _ 2 _ _ _ hob5]; rfl
      have r3 : w5.cell? ⟨w.heap.size + 2, 3, none⟩ = some (.slice none 0 0) := by rw [cell_of_row w5 _ 3 _ _ _ hob5]; rfl
      have r4 : w5.cell? ⟨w.heap.size + 2, 4, none⟩ = some (.slice none 0 0) := by rw [cell_of_row w5 _ 4 _ _ _ hob5]; rfl
      have hplr : Plain w5 (w.heap.size + 2) := ⟨_, _, hob5⟩
      have t0 := hplr.frozen 0
      have t1 := hplr.frozen 1
      have t2 := hplr.frozen 2
      have t3 := hplr.frozen 3
      have t4 := hplr.frozen 4
      refine upto_one (i := 12) (by kernel_rfl) rfl (fun K' hK => ?_)
      go_simp
      refine hK.out _ _ (.inl rfl) ?_
      clear hK K'
      refine upto_done (by kernel_rfl) ?_ _
      have hbg := MadeMid.begin (T := 33) (w := w) (V := w5) (ob := w.heap.size + 2) (a := a) (cap := cap) (m := ks.length) (kd := k) (nm := nm) (n := n) (c3 := .slice sa2 sc.length scap2) (sc := sc) ((hb0.trans (hbe2.mono (by omega))).grown hg5 (by first | omega | (simp; omega)) (fun k hk => by simp at hk; omega))
        (by omega) hp5.2.2.2.2 hz5 hob5 (by omega)
        (hi5.mono (fun k hk => ⟨by rcases hk.1 with h | h <;> (try simp at h) <;> omega, hk.2, by rcases hk.1 with h | h <;> (try simp at h) <;> omega, by rcases hk.1 with h | h <;> (try simp at h) <;> omega⟩))
      unfold set5 at hbg
      simp only [Nat.zero_add] at hbg
      exact HC.out (w.heap.size + 3) _ _ sa2 scap2 _ hbg
end Go.Proofs.Ytbclgmabidjegaa
