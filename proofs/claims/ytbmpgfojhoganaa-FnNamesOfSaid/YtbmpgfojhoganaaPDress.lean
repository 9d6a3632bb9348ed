/- The model's draw of scopes for a form, its blocks whole. -/
import Derived.Test.YtbmpgfojhoganaaPCopy
namespace Go.Proofs.Ytbmpgfojhoganaa.P
open Go.RowKit
set_option linter.unusedVariables false
set_option linter.unusedSimpArgs false
set_option maxRecDepth 100000 in
set_option maxHeartbeats 8000000 in
theorem l1Dress_aux (N : Nat) : ∀ (f : Fm) (v : Value) (B b p : Nat) (w : World), f.count ≤ N → Rd B w b p → p + f.count ≤ 300000 → InV (· < w.heap.size) w f v → f.sz ≤ 1048576 → (∀ g ∈ f.pre, g.name.size ≤ 13 ∧ g.scopes.length ≤ 3) →
    Calls Try.prog 54 #[.pointer (some ⟨b, 0, none⟩), v] w (SomePost B b p f.count (DrR f) w) := by
  induction N with
  | zero => intro f v B b p w h; have := f.count_pos; omega
  | succ N ih =>
    intro f v B b p w hN hr hp hv hsz hslim
    have HIH := Lib.hid ih
    have HV := Lib.hid hv
    have HSL := Lib.hid hslim
    have HBD := Lib.hid hv.bounds
    have hbw := hr.lt
    have hBb := hr.1
    have hce := count_eq f
    have hkl : f.kids.length ≤ 1048576 := Nat.le_trans (sz_scopes f).2 hsz
    obtain ⟨sa, scap, a, cap, rfl⟩ := hv.form
    have hhead := hslim f (by rw [pre_eq]; simp)
    have HHEAD := Lib.hid hhead
    have hb0 : Below w.heap.size w ((w.alloc (.cells #[.int .i64 f.kind, .string f.name, .int .i64 f.n, .slice sa f.scopes.length scap, .slice a f.kids.length cap] 26)).alloc (.cells #[.int .i64 0, .string { data := #[] }, .int .i64 0, .slice none 0 0, .slice none 0 0] 26)) := (below_alloc w _).alloc (by simp) _
    have HB0 := Lib.hid hb0
    have hz0 := heap_alloc_new (w.alloc (.cells #[.int .i64 f.kind, .string f.name, .int .i64 f.n, .slice sa f.scopes.length scap, .slice a f.kids.length cap] 26)) (.cells #[.int .i64 0, .string { data := #[] }, .int .i64 0, .slice none 0 0, .slice none 0 0] 26)
    rw [size_alloc'] at hz0
    have HZ0 := Lib.hid hz0
    have HX0 := Lib.hid ((FormBox.fresh w f sa a scap cap 26).later (below_alloc (w.alloc (.cells #[.int .i64 f.kind, .string f.name, .int .i64 f.n, .slice sa f.scopes.length scap, .slice a f.kids.length cap] 26)) (.cells #[.int .i64 0, .string { data := #[] }, .int .i64 0, .slice none 0 0, .slice none 0 0] 26)))
    have HR0 := Lib.hid (hr.later hb0)
    obtain ⟨i0, hi0, hzz0, hzz1, hzz2⟩ := info_parts Try.infoFm
    obtain ⟨l0, hl0, hlz0, hlz1, hlz2⟩ := info_parts Try.infoInt
    clear hv hslim hb0 hz0 hr ih hhead
    go_enter Try.func54, Try.ntmps54
    go_wp2_with fail
    refine (specCopyT_any w.heap.size f _ _ (by simp; omega) (InV.later (same_below HB0.out) _ _ HV.out) hsz).mono ?_
    rintro e w2 ⟨ca, ccap, ka, kcap, xs0, rfl, ht, hb2⟩
    rw [size_alloc', size_alloc'] at ht
    have hs2 : w.heap.size + 1 + 1 ≤ w2.heap.size := by have := hb2.size; simpa using this
    have HT := Lib.hid ht
    have HZ2 := Lib.hid ((hb2.block _ (by simp)).trans HZ0.out)
    have HK2 : Hid (Kept b 1 2 w w2) := (Kept.of_below HB0.out hbw).later hb2 hbw
    have HR2 := Lib.hid (HR0.out.later hb2)
    have HD0 := Lib.hid (DressMid.start (T := 26) (U := 3) (O := 0) ht HZ2.out HK2.out HR2.out hbw (show w.heap.size ≤ w.heap.size + 1 by omega) (Nat.lt_succ_self _) hs2)
    have HX2 := Lib.hid ((HX0.out.later hb2).later (below_alloc w2 (.cells #[.int .i64 f.kind, .string f.name, .int .i64 f.n, .slice ca f.scopes.length ccap, .slice ka f.kids.length kcap] 26)))
    have hs3 : (w2.alloc (.cells #[.int .i64 f.kind, .string f.name, .int .i64 f.n, .slice ca f.scopes.length ccap, .slice ka f.kids.length kcap] 26)).heap.size = w2.heap.size + 1 := size_alloc' _ _
    obtain ⟨w3, hw3⟩ : ∃ w3, w3 = w2.alloc (.cells #[.int .i64 f.kind, .string f.name, .int .i64 f.n, .slice ca f.scopes.length ccap, .slice ka f.kids.length kcap] 26) := ⟨_, rfl⟩
    rw [← hw3] at HD0 HX2 hs3
    have HW3 := Lib.hid hw3
    clear hw3 ht hb2
    obtain ⟨x0, x1, x2, x3, x4⟩ := HX2.out
    by_cases hk : f.kind = 1
    · have hk1 : (f.kind == 1) = true := by simp [hk]
      have HK := Lib.hid hk
      clear hk
      rw [HW3.out] at x0 x1 x2 x3 x4
      obtain ⟨W8, hW8a⟩ : ∃ W8, W8 = (((((((w3.alloc (.cells #[] 3)).alloc (.cells #[.int .i64 1] 3)).alloc (.cells #[.int .i64 2] 3)).alloc (.cells #[.int .i64 1, .int .i64 2] 3)).alloc
          (.cells #[.int .i64 1, .int .i64 3] 3)).alloc (.cells #[.int .i64 1, .int .i64 2, .int .i64 3] 3)).alloc (.cells #[.int .i64 99] 3)).alloc
          (.cells #[.slice (some ⟨w2.heap.size + 1, 0, none⟩) 0 0, .slice (some ⟨w2.heap.size + 1 + 1, 0, none⟩) 1 1, .slice (some ⟨w2.heap.size + 1 + 1 + 1, 0, none⟩) 1 1,
            .slice (some ⟨w2.heap.size + 1 + 1 + 1 + 1, 0, none⟩) 2 2, .slice (some ⟨w2.heap.size + 1 + 1 + 1 + 1 + 1, 0, none⟩) 2 2, .slice (some ⟨w2.heap.size + 1 + 1 + 1 + 1 + 1 + 1, 0, none⟩) 3 3,
            .slice (some ⟨w2.heap.size + 1 + 1 + 1 + 1 + 1 + 1 + 1, 0, none⟩) 1 1] 23) := ⟨_, rfl⟩
      have hW8 := hW8a
      rw [← hs3] at hW8
      obtain ⟨hV, hB8, hz8⟩ := sets7 w3 3 23 [] [1] [2] [1, 2] [1, 3] [1, 2, 3] [99] (by decide) W8 hW8
      rw [hs3] at hV
      obtain ⟨V, hV⟩ := Classical.axiomOfChoice hV
      have HVV := Lib.hid hV
      have HB8 := Lib.hid hB8
      have HW8 := Lib.hid hW8a
      clear hV hB8 hW8 hW8a
      have hbE := below_alloc W8 (.cells #[] 3)
      have hownE : (W8.alloc (.cells #[] 3)).ownsRow (w2.heap.size + 1) 3 1 (.slice (some ⟨w2.heap.size + 1 + 1 + 1 + 1 + 1 + 1 + 1 + 1 + 1, 0, none⟩) 0 0) 0 [] := by
        have := World.ownsRow_lit (base := w2.heap.size + 1) (e := 3) (size := 1) W8 #[] 0 (by omega) (by unfold maxLen; omega) (by simp)
        rw [show W8.heap.size = w2.heap.size + 1 + 1 + 1 + 1 + 1 + 1 + 1 + 1 + 1 by omega] at this
        exact this
      have hzE : (W8.alloc (.cells #[] 3)).heap.size = w2.heap.size + 10 := by rw [size_alloc']; omega
      have HBE := Lib.hid hbE
      have HOE := Lib.hid hownE
      clear hbE hownE
      go_wp2_with fail
      rw [← HW3.out, ← HW8.out]
      refine (pick_any b p 7 _ ((HD0.out.rd.later HB8.out).later HBE.out) (by omega) (by omega) (by omega)).mono ?_
      rintro e w10 ⟨i, hi, rfl, hr10, hk10⟩
      have hs10 : w2.heap.size + 10 ≤ w10.heap.size := by have := hk10.size; omega
      obtain ⟨hcV, hmV, hiV, c, heV⟩ := HVV.out i hi
      obtain ⟨l, hl⟩ : ∃ l, (V i).2 = l := ⟨_, rfl⟩
      rw [hl] at hmV hiV heV
      rw [heV] at hcV hiV
      have hlen := setsD_size l hmV
      have hci : w10.cell? ⟨w2.heap.size + 1 + 1 + 1 + 1 + 1 + 1 + 1 + 1, i, none⟩ = some (.slice c l.length l.length) := kept_cell hk10 (cell_later' HBE.out hcV) (by omega)
      have hI : (i : Int) < 7 := by omega
      have hrow : IntRow (fun k => w2.heap.size + 1 ≤ k ∧ k < W8.heap.size) w10 (.slice c l.length l.length) l := by
        refine (hiV.later (w' := w10) (fun k hk => ?_)).mono fun k hk => by omega
        rw [hk10.block k (by omega) (by omega)]
        exact HBE.out.block k hk.2
      have hown10 : w10.ownsRow (w2.heap.size + 1) 3 1 (.slice (some ⟨w2.heap.size + 1 + 1 + 1 + 1 + 1 + 1 + 1 + 1 + 1, 0, none⟩) 0 0) 0 [] := ownsRow_same HOE.out fun k e => by
        have := HOE.out.lt k e
        exact hk10.block k this.2 (by omega)
      have hk310 : Kept b 1 2 w3 w10 := (Kept.of_below (HB8.out.trans (HBE.out.mono (by omega))) (by omega)).trans hk10
      have HD10 := Lib.hid (HD0.out.keep hk310 hr10)
      have HK310 := Lib.hid hk310
      have HR10 := Lib.hid hr10
      have HROW := Lib.hid hrow
      have HO10 := Lib.hid hown10
      have HMV : Hid (l ∈ setsD) := hmV
      have HLEN := Lib.hid hlen
      have hl3 : l.length ≤ 3 := hlen.1
      clear hk10 hr10 hrow hown10 hk310 hcV hiV heV hmV hlen hl x0 x1 x2 x3 x4
      go_wp2_with (at_builtin; refine wpList_append_ints2 rfl _ _ 23 3 rfl l0 Try.underlying23 hl0 hlz0 hlz1 hlz2 (w2.heap.size + 1) (w2.heap.size + 1 + 1 + 1 + 1 + 1 + 1 + 1 + 1 + 1) l c l.length _ rfl rfl HROW.out (by omega) HO10.out (by omega) ?_; intro sa3 scap3 w11 hg11 hi11 hq11; have hc3 : w11.cell? ⟨w2.heap.size, 3, none⟩ = some (.slice ca f.scopes.length ccap) := (World.cell?_of_block (a := ⟨w2.heap.size, 3, none⟩) (hg11.block w2.heap.size (by omega) (by simp; omega))).trans HD10.out.o3; have hf3 : w11.frozen? ⟨w2.heap.size, 3, none⟩ = false := (World.frozen?_of_block (a := ⟨w2.heap.size, 3, none⟩) (hg11.block w2.heap.size (by omega) (by simp; omega))).trans (HD10.out.free 3))
      have hs11 := hg11.size
      have hk311 : Kept b 1 2 w3 w11 := ⟨hg11.os.trans HK310.out.os, hg11.tape.trans HK310.out.tape, hg11.output.trans HK310.out.output, by omega, fun k h1 h2 => (hg11.block k (by omega) (by simp; omega)).trans (HK310.out.block k h1 h2),
        fun o ho => (World.cell?_of_block (a := ⟨b, o, none⟩) (hg11.block b (by omega) (by simp; omega))).trans (HK310.out.cell o ho), fun o => (World.frozen?_of_block (a := ⟨b, o, none⟩) (hg11.block b (by omega) (by simp; omega))).trans (HK310.out.frozen o)⟩
      have hr11 : Rd B w11 b (p + 1) := HR10.out.same fun k hk => hg11.block k (by omega) (by simp; omega)
      have hD11 := HD0.out.keep hk311 hr11
      have HDS := Lib.hid (hD11.setScopes hq11.1)
      have HSC : Hid (l.length ≤ 3 ∧ (∀ n ∈ l, -9223372036854775808 ≤ n ∧ n ≤ 9223372036854775807) ∧ (f.kind = 1 → l ∈ setsD) ∧ (f.kind ≠ 1 → l = f.scopes)) := ⟨hl3, fun n hn => by have := HLEN.out.2 n hn; omega, fun _ => HMV.out, fun h => absurd HK.out h⟩
      clear hD11 hk311 hr11 hg11 hi11 hq11 hc3 hf3 hci hI
      go_loopw [7] (fun i wr => ∃ (j : Nat) (gs : List Fm) (xs : List Value) (q hi : Nat), i = .int .i64 j ∧ j ≤ f.kids.length ∧ gs.length = f.kids.length ∧ (∀ k, j ≤ k → gs[k]? = f.kids[k]?) ∧ SlimAll (countAll f.kids) 13 3 gs ∧ q ≤ (p + 1) + countAll (f.kids.take j) ∧
        DressMid 26 3 B b w wr (w.heap.size + 1) w2.heap.size (w.heap.size + 1 + 1) hi q f.kind f.name f.n l gs sa3 scap3 ka kcap xs) (fun i _ => f.kids.length - (intOf i).toNat)
      case atStart => exact ⟨0, f.kids, xs0, _, _, rfl, Nat.zero_le _, rfl, fun _ _ => rfl, ⟨Nat.le_refl _, fun g hg => HSL.out g (by rw [pre_eq]; exact List.mem_cons_of_mem _ hg)⟩, Nat.le_add_right _ _, HDS.out⟩
      case round =>
        obtain ⟨j, gs, xs, q, hi, rfl, hj, hgl, hdrop, hsl, hq, hm⟩ := hrel
        have HM := Lib.hid hm
        have HDR := Lib.hid hdrop
        have HSG := Lib.hid hsl
        have HQ := Lib.hid hq
        have HGL := Lib.hid hgl
        obtain ⟨f1, f2, f3, f4, f5, f6⟩ := hm.fix
        have ho0 := hm.o0
        have ho1 := hm.o1
        have ho2 := hm.o2
        have ho3 := hm.o3
        have ho4 := hm.o4
        by_cases hlt : j < f.kids.length
        · obtain ⟨hjg, hkid⟩ := drop_of hdrop hlt
          obtain ⟨g, rfl⟩ : ∃ g, ka = some ⟨g, 0, none⟩ := by
            rcases hm.krow.2 with ⟨_, h0⟩ | ⟨g, cp, cur, e, _⟩
            · omega
            · injection e with e1 _ _; exact ⟨g, e1⟩
          obtain ⟨c0, c1, c2, c3, c4, q0, q1, q2, q3, q4, hin⟩ := RowVals.at j hjg hm.vals
          replace q0 := cells_at hm.krow q0
          replace q1 := cells_at hm.krow q1
          replace q2 := cells_at hm.krow q2
          replace q3 := cells_at hm.krow q3
          replace q4 := cells_at hm.krow q4
          obtain ⟨G0, hG0⟩ : ∃ G0, gs[j] = G0 := ⟨_, rfl⟩
          rw [hG0] at hin hkid
          have hin2 : InV (· < wr.heap.size) wr G0 (.agg #[c0, c1, c2, c3, c4]) := InV.mono (fun k hk => by have := hk.1; omega) _ _ hin
          obtain ⟨sa1, scap1, a1, cap1, e⟩ := hin2.form
          simp only [Value.agg.injEq, Array.mk.injEq, List.cons.injEq, and_true] at e
          obtain ⟨rfl, rfl, rfl, rfl, rfl⟩ := e
          have hgnk := hm.nk g rfl
          have hglt := hm.krow.lt g rfl
          have HIN := Lib.hid hin2
          have hmem : G0 ∈ f.kids := by rw [hkid]; exact List.getElem_mem hlt
          have HC1 : Hid (G0.count ≤ N) := by have h1 := count_mem hmem; unfold Hid; omega
          have HC2 : Hid (G0.sz ≤ 1048576) := Nat.le_trans (sz_kid hmem) hsz
          have HC3 : Hid (∀ g ∈ G0.pre, g.name.size ≤ 13 ∧ g.scopes.length ≤ 3) := fun x hx => HSL.out x (by rw [pre_eq]; exact List.mem_cons_of_mem _ (mem_preAll'.2 ⟨G0, hmem, hx⟩))
          have HTK : Hid (countAll (f.kids.take (j + 1)) = countAll (f.kids.take j) + G0.count ∧ countAll (f.kids.take (j + 1)) ≤ countAll f.kids) := ⟨by rw [countAll_take_succ _ j hlt, ← hkid], countAll_take_le _ _⟩
          have HG0 := Lib.hid hG0
          have hj0 : (0 : Int) ≤ (j : Int) := by omega
          have hj1 : (j : Int) < (gs.length : Int) := by omega
          clear hm hdrop hsl hq hin hin2 hmem hkid hG0 hgl
          go_wp2_with fail
          have hS0 : KidHeld w2.heap.size w2.heap.size g (j * 5) (.slice (some ⟨g, 0, none⟩) gs.length kcap) (.slice (some ⟨g, 0, none⟩) gs.length kcap) (.int .i64 G0.kind) (.string G0.name) (.int .i64 G0.n) (.slice sa1 G0.scopes.length scap1) (.slice a1 G0.kids.length cap1) wr.drew := ⟨ho4, ho4, q0, q1, q2, q3, q4⟩
          refine upto_begin (KidHeld w2.heap.size w2.heap.size g (j * 5) (.slice (some ⟨g, 0, none⟩) gs.length kcap) (.slice (some ⟨g, 0, none⟩) gs.length kcap) (.int .i64 G0.kind) (.string G0.name) (.int .i64 G0.n) (.slice sa1 G0.scopes.length scap1) (.slice a1 G0.kids.length cap1)) 11 (by kernel_rfl) ?_
          refine upto_take (i := 0) (d := some 38) (v := ?_) rfl rfl (by kernel_rfl) (by kernel_rfl) (by kernel_rfl) (by kernel_rfl) (fun _ _ _ h => h) (Or.inl ⟨by rfl, ?_⟩) hS0 ?_
          rotate_left
          · (intro wS hSw; obtain ⟨_, _, _, _, _, _, _⟩ := hSw; go_simp; try with_reducible rfl)
          try simp only [Act.put, List.setIfInBounds_toArray, List.set_cons_zero, List.set_cons_succ]
          refine upto_take (i := 1) (d := some 39) (v := ?_) rfl rfl (by kernel_rfl) (by kernel_rfl) (by kernel_rfl) (by kernel_rfl) (fun _ _ _ h => h) (Or.inl ⟨by rfl, ?_⟩) hS0 ?_
          rotate_left
          · (intro wS hSw; obtain ⟨_, _, _, _, _, _, _⟩ := hSw; go_simp; try with_reducible rfl)
          try simp only [Act.put, List.setIfInBounds_toArray, List.set_cons_zero, List.set_cons_succ]
          refine upto_take (i := 2) (d := some 40) (v := ?_) rfl rfl (by kernel_rfl) (by kernel_rfl) (by kernel_rfl) (by kernel_rfl) (fun _ _ _ h => h) (Or.inl ⟨by rfl, ?_⟩) hS0 ?_
          rotate_left
          · (intro wS hSw; obtain ⟨_, _, _, _, _, _, _⟩ := hSw; go_simp; try with_reducible rfl)
          try simp only [Act.put, List.setIfInBounds_toArray, List.set_cons_zero, List.set_cons_succ]
          refine upto_take (i := 3) (d := some 41) (v := ?_) rfl rfl (by kernel_rfl) (by kernel_rfl) (by kernel_rfl) (by kernel_rfl) (fun _ _ _ h => h) (Or.inl ⟨by rfl, ?_⟩) hS0 ?_
          rotate_left
          · (intro wS hSw; obtain ⟨_, _, _, _, _, _, _⟩ := hSw; go_simp; try with_reducible rfl)
          try simp only [Act.put, List.setIfInBounds_toArray, List.set_cons_zero, List.set_cons_succ]
          refine upto_take (i := 4) (d := some 42) (v := ?_) rfl rfl (by kernel_rfl) (by kernel_rfl) (by kernel_rfl) (by kernel_rfl) (fun _ _ _ h => h) (Or.inl ⟨by rfl, ?_⟩) hS0 ?_
          rotate_left
          · (intro wS hSw; obtain ⟨_, _, _, _, _, _, _⟩ := hSw; go_simp; try with_reducible rfl)
          try simp only [Act.put, List.setIfInBounds_toArray, List.set_cons_zero, List.set_cons_succ]
          refine upto_take (i := 5) (d := some 43) (v := ?_) rfl rfl (by kernel_rfl) (by kernel_rfl) (by kernel_rfl) (by kernel_rfl) (fun _ _ _ h => h) (Or.inl ⟨by rfl, ?_⟩) hS0 ?_
          rotate_left
          · (intro wS hSw; obtain ⟨_, _, _, _, _, _, _⟩ := hSw; go_simp; try with_reducible rfl)
          try simp only [Act.put, List.setIfInBounds_toArray, List.set_cons_zero, List.set_cons_succ]
          refine upto_take (i := 6) (d := some 44) (v := ?_) rfl rfl (by kernel_rfl) (by kernel_rfl) (by kernel_rfl) (by kernel_rfl) (fun _ _ _ h => h) (Or.inl ⟨by rfl, ?_⟩) hS0 ?_
          rotate_left
          · (intro wS hSw; obtain ⟨_, _, _, _, _, _, _⟩ := hSw; go_simp; try with_reducible rfl)
          try simp only [Act.put, List.setIfInBounds_toArray, List.set_cons_zero, List.set_cons_succ]
          refine upto_take (i := 7) (d := some 45) (v := ?_) rfl rfl (by kernel_rfl) (by kernel_rfl) (by kernel_rfl) (by kernel_rfl) (fun _ _ _ h => h) (Or.inl ⟨by rfl, ?_⟩) hS0 ?_
          rotate_left
          · (intro wS hSw; obtain ⟨_, _, _, _, _, _, _⟩ := hSw; go_simp; try with_reducible rfl)
          try simp only [Act.put, List.setIfInBounds_toArray, List.set_cons_zero, List.set_cons_succ]
          refine upto_take (i := 8) (d := some 46) (v := ?_) rfl rfl (by kernel_rfl) (by kernel_rfl) (by kernel_rfl) (by kernel_rfl) (fun _ _ _ h => h) (Or.inl ⟨by rfl, ?_⟩) hS0 ?_
          rotate_left
          · (intro wS hSw; obtain ⟨_, _, _, _, _, _, _⟩ := hSw; go_simp; try with_reducible rfl)
          try simp only [Act.put, List.setIfInBounds_toArray, List.set_cons_zero, List.set_cons_succ]
          refine upto_one (i := 9) (by kernel_rfl) rfl (fun K hK => ?_)
          go_simp
          refine (HIH.out G0 _ B b q wr.drew HC1.out HM.out.rd.drew (by have h1 := HQ.out; have h2 := HTK.out; omega) (InV.later (w := wr) (w' := wr.drew) (fun _ _ => rfl) _ _ HIN.out) HC2.out HC3.out).mono ?_
          rintro e w1 ⟨G, kv, p', rfl, hkv, hGs, hp', hr1, hk1⟩
          obtain ⟨ksa, kscap, kna, kncap, rfl⟩ := hkv.form
          have hk1' : Kept b 1 2 wr w1 := ((Kept.refl b 1 2 wr).drew).trans hk1
          have hS1 := KidHeld.keep (w := wr) (w' := w1) hS0 (fun k hk => hk1'.block k (by rcases hk with rfl | rfl | rfl <;> omega) (by rcases hk with rfl | rfl | rfl <;> omega))
          have HKV : Hid (InVP (fun k => wr.heap.size ≤ k ∧ k < w1.heap.size) w1 G (.agg #[.int .i64 G.kind, .string G.name, .int .i64 G.n, .slice ksa G.scopes.length kscap, .slice kna G.kids.length kncap])) := hkv
          refine hK.out _ _ (.inr hS1) ?_
          have hM1 := HM.out.keep hk1' hr1
          have hn := hM1.setKid (i := j) hjg HKV.out (fun k hk => by omega)
          have hnext : ∃ (j' : Nat) (gs' : List Fm) (xs' : List Value) (q' hi' : Nat), (.int .i64 ((j : Int) + 1) : Value) = .int .i64 j' ∧ j' ≤ f.kids.length ∧ gs'.length = f.kids.length ∧ (∀ k, j' ≤ k → gs'[k]? = f.kids[k]?) ∧ SlimAll (countAll f.kids) 13 3 gs' ∧ q' ≤ (p + 1) + countAll (f.kids.take j') ∧
              DressMid 26 3 B b w (set5 w1 g (j * 5) (.int .i64 G.kind) (.string G.name) (.int .i64 G.n) (.slice ksa G.scopes.length kscap) (.slice kna G.kids.length kncap)) (w.heap.size + 1) w2.heap.size (w.heap.size + 1 + 1) hi' q' f.kind f.name f.n l gs' sa3 scap3 (some ⟨g, 0, none⟩) kcap xs' := by
            refine ⟨j + 1, gs.set j G, _, p', _, by go_num, by omega, by rw [List.length_set]; exact HGL.out, fun k hk => ?_, HSG.out.set hjg (by rw [HG0.out]; exact hGs.count) hGs.slim, by have h1 := HQ.out; have h2 := HTK.out; omega, hn⟩
            rw [List.getElem?_set_ne (by omega)]
            exact HDR.out k (by omega)
          unfold set5 at hnext
          have HNEXT := Lib.hid hnext
          have t0 := frozen_at hM1.krow (j * 5)
          have t1 := frozen_at hM1.krow (j * 5 + 1)
          have t2 := frozen_at hM1.krow (j * 5 + 2)
          have t3 := frozen_at hM1.krow (j * 5 + 3)
          have t4 := frozen_at hM1.krow (j * 5 + 4)
          clear hK K hkv hGs hp' hr1 hk1 hk1' hM1 hn hnext
          refine upto_one (i := 10) (by kernel_rfl) rfl (fun K hK => ?_)
          go_simp
          refine hK.out _ _ (.inr hS1) ?_
          clear hK K
          obtain ⟨u0, u00, u1, u2, u3, u4, u5⟩ := hS1
          refine upto_one (i := 11) (by kernel_rfl) rfl (fun K hK => ?_)
          go_simp
          refine hK.out _ _ (.inl rfl) ?_
          clear hK K
          refine upto_done (by kernel_rfl) ?_ _
          clear u0 u00 u1 u2 u3 u4 u5 t0 t1 t2 t3 t4
          go_wp2_with fail
          go_roundw
          case rel => exact HNEXT.out
          case measure => simp [intOf]; omega
        · have hjl : j = f.kids.length := by omega
          subst hjl
          have hnb : ¬ ((f.kids.length : Int) < (gs.length : Int)) := by omega
          obtain ⟨r0, r1, r2, r3, r4, t0, t1, t2, t3, t4⟩ := zeroFacts hm.zero
          have hth := Lib.hid (zeroThere hm.zero)
          have HEND := Lib.hid (hm.ends HBD.out.1 HBD.out.2.1 HBD.out.2.2 HSC.out.2.1)
          clear hm hdrop hsl hq hgl
          go_wp2_with fail
          obtain ⟨z0, z1, z2, z3, z4⟩ := set5_in wr (w.heap.size + 1) 0 (.int .i64 f.kind) (.string f.name) (.int .i64 f.n) (.slice sa3 l.length scap3) (.slice ka gs.length kcap) hth.out
          have hss : Same (fun k => w.heap.size ≤ k ∧ k < wr.heap.size ∧ k ≠ w.heap.size + 1) wr (set5 wr (w.heap.size + 1) 0 (.int .i64 f.kind) (.string f.name) (.int .i64 f.n) (.slice sa3 l.length scap3) (.slice ka gs.length kcap)) :=
            fun c hc => set5_block _ _ _ _ _ _ _ _ hc.2.2
          have hz5 := set5_size wr (w.heap.size + 1) 0 (.int .i64 f.kind) (.string f.name) (.int .i64 f.n) (.slice sa3 l.length scap3) (.slice ka gs.length kcap)
          have hin5 := InVP.mono (ψ := fun k' => w.heap.size ≤ k' ∧ k' < (set5 wr (w.heap.size + 1) 0 (.int .i64 f.kind) (.string f.name) (.int .i64 f.n) (.slice sa3 l.length scap3) (.slice ka gs.length kcap)).heap.size) (fun k' hk => ⟨hk.1, by rw [hz5]; exact hk.2.1⟩) _ _ (InVP.later hss _ _ HEND.out)
          have hr5 : Rd B (set5 wr (w.heap.size + 1) 0 (.int .i64 f.kind) (.string f.name) (.int .i64 f.n) (.slice sa3 l.length scap3) (.slice ka gs.length kcap)) b q := by
            unfold set5
            exact ((((HM.out.rd.setOther (by omega) (by omega)).setOther (by omega) (by omega)).setOther (by omega) (by omega)).setOther (by omega) (by omega)).setOther (by omega) (by omega)
          have hk5 : Kept b 1 2 w (set5 wr (w.heap.size + 1) 0 (.int .i64 f.kind) (.string f.name) (.int .i64 f.n) (.slice sa3 l.length scap3) (.slice ka gs.length kcap)) := by
            unfold set5
            exact ((((HM.out.kept.setNew (by omega) (by omega)).setNew (by omega) (by omega)).setNew (by omega) (by omega)).setNew (by omega) (by omega)).setNew (by omega) (by omega)
          unfold set5 at z0 z1 z2 z3 z4 hin5 hr5 hk5
          simp only [Nat.zero_add] at z0 z1 z2 z3 z4 hin5 hr5 hk5
          refine bodyPost_ret (v := .agg #[.int .i64 f.kind, .string f.name, .int .i64 f.n, .slice sa3 l.length scap3, .slice ka gs.length kcap]) (by simp [results, Try.results54, go_sem, z0, z1, z2, z3, z4]) rfl ?_
          refine ⟨.mk f.kind f.name f.n l gs, _, q, rfl, hin5, DrR.of HHEAD.out.1 HSC.out.1 HSG.out HGL.out HSC.out.2.2.1 HSC.out.2.2.2, ?_, hr5, hk5⟩
          have h1 := HQ.out
          rw [List.take_length] at h1
          omega
    · have hk1 : (f.kind == 1) = false := by simp [hk]
      have HDS := HD0
      have HSC : Hid (f.scopes.length ≤ 3 ∧ (∀ n ∈ f.scopes, -9223372036854775808 ≤ n ∧ n ≤ 9223372036854775807) ∧ (f.kind = 1 → f.scopes ∈ setsD) ∧ (f.kind ≠ 1 → f.scopes = f.scopes)) := ⟨HHEAD.out.2, HT.out.sb, fun h => absurd h hk, fun _ => rfl⟩
      clear hk
      rw [HW3.out] at x0 x1 x2 x3 x4
      go_wp2_with fail
      rw [← HW3.out]
      clear x0 x1 x2 x3 x4
      go_loopw [7] (fun i wr => ∃ (j : Nat) (gs : List Fm) (xs : List Value) (q hi : Nat), i = .int .i64 j ∧ j ≤ f.kids.length ∧ gs.length = f.kids.length ∧ (∀ k, j ≤ k → gs[k]? = f.kids[k]?) ∧ SlimAll (countAll f.kids) 13 3 gs ∧ q ≤ p + countAll (f.kids.take j) ∧
        DressMid 26 3 B b w wr (w.heap.size + 1) w2.heap.size (w.heap.size + 1 + 1) hi q f.kind f.name f.n f.scopes gs ca ccap ka kcap xs) (fun i _ => f.kids.length - (intOf i).toNat)
      case atStart => exact ⟨0, f.kids, xs0, _, _, rfl, Nat.zero_le _, rfl, fun _ _ => rfl, ⟨Nat.le_refl _, fun g hg => HSL.out g (by rw [pre_eq]; exact List.mem_cons_of_mem _ hg)⟩, Nat.le_add_right _ _, HDS.out⟩
      case round =>
        obtain ⟨j, gs, xs, q, hi, rfl, hj, hgl, hdrop, hsl, hq, hm⟩ := hrel
        have HM := Lib.hid hm
        have HDR := Lib.hid hdrop
        have HSG := Lib.hid hsl
        have HQ := Lib.hid hq
        have HGL := Lib.hid hgl
        obtain ⟨f1, f2, f3, f4, f5, f6⟩ := hm.fix
        have ho0 := hm.o0
        have ho1 := hm.o1
        have ho2 := hm.o2
        have ho3 := hm.o3
        have ho4 := hm.o4
        by_cases hlt : j < f.kids.length
        · obtain ⟨hjg, hkid⟩ := drop_of hdrop hlt
          obtain ⟨g, rfl⟩ : ∃ g, ka = some ⟨g, 0, none⟩ := by
            rcases hm.krow.2 with ⟨_, h0⟩ | ⟨g, cp, cur, e, _⟩
            · omega
            · injection e with e1 _ _; exact ⟨g, e1⟩
          obtain ⟨c0, c1, c2, c3, c4, q0, q1, q2, q3, q4, hin⟩ := RowVals.at j hjg hm.vals
          replace q0 := cells_at hm.krow q0
          replace q1 := cells_at hm.krow q1
          replace q2 := cells_at hm.krow q2
          replace q3 := cells_at hm.krow q3
          replace q4 := cells_at hm.krow q4
          obtain ⟨G0, hG0⟩ : ∃ G0, gs[j] = G0 := ⟨_, rfl⟩
          rw [hG0] at hin hkid
          have hin2 : InV (· < wr.heap.size) wr G0 (.agg #[c0, c1, c2, c3, c4]) := InV.mono (fun k hk => by have := hk.1; omega) _ _ hin
          obtain ⟨sa1, scap1, a1, cap1, e⟩ := hin2.form
          simp only [Value.agg.injEq, Array.mk.injEq, List.cons.injEq, and_true] at e
          obtain ⟨rfl, rfl, rfl, rfl, rfl⟩ := e
          have hgnk := hm.nk g rfl
          have hglt := hm.krow.lt g rfl
          have HIN := Lib.hid hin2
          have hmem : G0 ∈ f.kids := by rw [hkid]; exact List.getElem_mem hlt
          have HC1 : Hid (G0.count ≤ N) := by have h1 := count_mem hmem; unfold Hid; omega
          have HC2 : Hid (G0.sz ≤ 1048576) := Nat.le_trans (sz_kid hmem) hsz
          have HC3 : Hid (∀ g ∈ G0.pre, g.name.size ≤ 13 ∧ g.scopes.length ≤ 3) := fun x hx => HSL.out x (by rw [pre_eq]; exact List.mem_cons_of_mem _ (mem_preAll'.2 ⟨G0, hmem, hx⟩))
          have HTK : Hid (countAll (f.kids.take (j + 1)) = countAll (f.kids.take j) + G0.count ∧ countAll (f.kids.take (j + 1)) ≤ countAll f.kids) := ⟨by rw [countAll_take_succ _ j hlt, ← hkid], countAll_take_le _ _⟩
          have HG0 := Lib.hid hG0
          have hj0 : (0 : Int) ≤ (j : Int) := by omega
          have hj1 : (j : Int) < (gs.length : Int) := by omega
          clear hm hdrop hsl hq hin hin2 hmem hkid hG0 hgl
          go_wp2_with fail
          have hS0 : KidHeld w2.heap.size w2.heap.size g (j * 5) (.slice (some ⟨g, 0, none⟩) gs.length kcap) (.slice (some ⟨g, 0, none⟩) gs.length kcap) (.int .i64 G0.kind) (.string G0.name) (.int .i64 G0.n) (.slice sa1 G0.scopes.length scap1) (.slice a1 G0.kids.length cap1) wr.drew := ⟨ho4, ho4, q0, q1, q2, q3, q4⟩
          refine upto_begin (KidHeld w2.heap.size w2.heap.size g (j * 5) (.slice (some ⟨g, 0, none⟩) gs.length kcap) (.slice (some ⟨g, 0, none⟩) gs.length kcap) (.int .i64 G0.kind) (.string G0.name) (.int .i64 G0.n) (.slice sa1 G0.scopes.length scap1) (.slice a1 G0.kids.length cap1)) 11 (by kernel_rfl) ?_
          refine upto_take (i := 0) (d := some 38) (v := ?_) rfl rfl (by kernel_rfl) (by kernel_rfl) (by kernel_rfl) (by kernel_rfl) (fun _ _ _ h => h) (Or.inl ⟨by rfl, ?_⟩) hS0 ?_
          rotate_left
          · (intro wS hSw; obtain ⟨_, _, _, _, _, _, _⟩ := hSw; go_simp; try with_reducible rfl)
          try simp only [Act.put, List.setIfInBounds_toArray, List.set_cons_zero, List.set_cons_succ]
          refine upto_take (i := 1) (d := some 39) (v := ?_) rfl rfl (by kernel_rfl) (by kernel_rfl) (by kernel_rfl) (by kernel_rfl) (fun _ _ _ h => h) (Or.inl ⟨by rfl, ?_⟩) hS0 ?_
          rotate_left
          · (intro wS hSw; obtain ⟨_, _, _, _, _, _, _⟩ := hSw; go_simp; try with_reducible rfl)
          try simp only [Act.put, List.setIfInBounds_toArray, List.set_cons_zero, List.set_cons_succ]
          refine upto_take (i := 2) (d := some 40) (v := ?_) rfl rfl (by kernel_rfl) (by kernel_rfl) (by kernel_rfl) (by kernel_rfl) (fun _ _ _ h => h) (Or.inl ⟨by rfl, ?_⟩) hS0 ?_
          rotate_left
          · (intro wS hSw; obtain ⟨_, _, _, _, _, _, _⟩ := hSw; go_simp; try with_reducible rfl)
          try simp only [Act.put, List.setIfInBounds_toArray, List.set_cons_zero, List.set_cons_succ]
          refine upto_take (i := 3) (d := some 41) (v := ?_) rfl rfl (by kernel_rfl) (by kernel_rfl) (by kernel_rfl) (by kernel_rfl) (fun _ _ _ h => h) (Or.inl ⟨by rfl, ?_⟩) hS0 ?_
          rotate_left
          · (intro wS hSw; obtain ⟨_, _, _, _, _, _, _⟩ := hSw; go_simp; try with_reducible rfl)
          try simp only [Act.put, List.setIfInBounds_toArray, List.set_cons_zero, List.set_cons_succ]
          refine upto_take (i := 4) (d := some 42) (v := ?_) rfl rfl (by kernel_rfl) (by kernel_rfl) (by kernel_rfl) (by kernel_rfl) (fun _ _ _ h => h) (Or.inl ⟨by rfl, ?_⟩) hS0 ?_
          rotate_left
          · (intro wS hSw; obtain ⟨_, _, _, _, _, _, _⟩ := hSw; go_simp; try with_reducible rfl)
          try simp only [Act.put, List.setIfInBounds_toArray, List.set_cons_zero, List.set_cons_succ]
          refine upto_take (i := 5) (d := some 43) (v := ?_) rfl rfl (by kernel_rfl) (by kernel_rfl) (by kernel_rfl) (by kernel_rfl) (fun _ _ _ h => h) (Or.inl ⟨by rfl, ?_⟩) hS0 ?_
          rotate_left
          · (intro wS hSw; obtain ⟨_, _, _, _, _, _, _⟩ := hSw; go_simp; try with_reducible rfl)
          try simp only [Act.put, List.setIfInBounds_toArray, List.set_cons_zero, List.set_cons_succ]
          refine upto_take (i := 6) (d := some 44) (v := ?_) rfl rfl (by kernel_rfl) (by kernel_rfl) (by kernel_rfl) (by kernel_rfl) (fun _ _ _ h => h) (Or.inl ⟨by rfl, ?_⟩) hS0 ?_
          rotate_left
          · (intro wS hSw; obtain ⟨_, _, _, _, _, _, _⟩ := hSw; go_simp; try with_reducible rfl)
          try simp only [Act.put, List.setIfInBounds_toArray, List.set_cons_zero, List.set_cons_succ]
          refine upto_take (i := 7) (d := some 45) (v := ?_) rfl rfl (by kernel_rfl) (by kernel_rfl) (by kernel_rfl) (by kernel_rfl) (fun _ _ _ h => h) (Or.inl ⟨by rfl, ?_⟩) hS0 ?_
          rotate_left
          · (intro wS hSw; obtain ⟨_, _, _, _, _, _, _⟩ := hSw; go_simp; try with_reducible rfl)
          try simp only [Act.put, List.setIfInBounds_toArray, List.set_cons_zero, List.set_cons_succ]
          refine upto_take (i := 8) (d := some 46) (v := ?_) rfl rfl (by kernel_rfl) (by kernel_rfl) (by kernel_rfl) (by kernel_rfl) (fun _ _ _ h => h) (Or.inl ⟨by rfl, ?_⟩) hS0 ?_
          rotate_left
          · (intro wS hSw; obtain ⟨_, _, _, _, _, _, _⟩ := hSw; go_simp; try with_reducible rfl)
          try simp only [Act.put, List.setIfInBounds_toArray, List.set_cons_zero, List.set_cons_succ]
          refine upto_one (i := 9) (by kernel_rfl) rfl (fun K hK => ?_)
          go_simp
          refine (HIH.out G0 _ B b q wr.drew HC1.out HM.out.rd.drew (by have h1 := HQ.out; have h2 := HTK.out; omega) (InV.later (w := wr) (w' := wr.drew) (fun _ _ => rfl) _ _ HIN.out) HC2.out HC3.out).mono ?_
          rintro e w1 ⟨G, kv, p', rfl, hkv, hGs, hp', hr1, hk1⟩
          obtain ⟨ksa, kscap, kna, kncap, rfl⟩ := hkv.form
          have hk1' : Kept b 1 2 wr w1 := ((Kept.refl b 1 2 wr).drew).trans hk1
          have hS1 := KidHeld.keep (w := wr) (w' := w1) hS0 (fun k hk => hk1'.block k (by rcases hk with rfl | rfl | rfl <;> omega) (by rcases hk with rfl | rfl | rfl <;> omega))
          have HKV : Hid (InVP (fun k => wr.heap.size ≤ k ∧ k < w1.heap.size) w1 G (.agg #[.int .i64 G.kind, .string G.name, .int .i64 G.n, .slice ksa G.scopes.length kscap, .slice kna G.kids.length kncap])) := hkv
          refine hK.out _ _ (.inr hS1) ?_
          have hM1 := HM.out.keep hk1' hr1
          have hn := hM1.setKid (i := j) hjg HKV.out (fun k hk => by omega)
          have hnext : ∃ (j' : Nat) (gs' : List Fm) (xs' : List Value) (q' hi' : Nat), (.int .i64 ((j : Int) + 1) : Value) = .int .i64 j' ∧ j' ≤ f.kids.length ∧ gs'.length = f.kids.length ∧ (∀ k, j' ≤ k → gs'[k]? = f.kids[k]?) ∧ SlimAll (countAll f.kids) 13 3 gs' ∧ q' ≤ p + countAll (f.kids.take j') ∧
              DressMid 26 3 B b w (set5 w1 g (j * 5) (.int .i64 G.kind) (.string G.name) (.int .i64 G.n) (.slice ksa G.scopes.length kscap) (.slice kna G.kids.length kncap)) (w.heap.size + 1) w2.heap.size (w.heap.size + 1 + 1) hi' q' f.kind f.name f.n f.scopes gs' ca ccap (some ⟨g, 0, none⟩) kcap xs' := by
            refine ⟨j + 1, gs.set j G, _, p', _, by go_num, by omega, by rw [List.length_set]; exact HGL.out, fun k hk => ?_, HSG.out.set hjg (by rw [HG0.out]; exact hGs.count) hGs.slim, by have h1 := HQ.out; have h2 := HTK.out; omega, hn⟩
            rw [List.getElem?_set_ne (by omega)]
            exact HDR.out k (by omega)
          unfold set5 at hnext
          have HNEXT := Lib.hid hnext
          have t0 := frozen_at hM1.krow (j * 5)
          have t1 := frozen_at hM1.krow (j * 5 + 1)
          have t2 := frozen_at hM1.krow (j * 5 + 2)
          have t3 := frozen_at hM1.krow (j * 5 + 3)
          have t4 := frozen_at hM1.krow (j * 5 + 4)
          clear hK K hkv hGs hp' hr1 hk1 hk1' hM1 hn hnext
          refine upto_one (i := 10) (by kernel_rfl) rfl (fun K hK => ?_)
          go_simp
          refine hK.out _ _ (.inr hS1) ?_
          clear hK K
          obtain ⟨u0, u00, u1, u2, u3, u4, u5⟩ := hS1
          refine upto_one (i := 11) (by kernel_rfl) rfl (fun K hK => ?_)
          go_simp
          refine hK.out _ _ (.inl rfl) ?_
          clear hK K
          refine upto_done (by kernel_rfl) ?_ _
          clear u0 u00 u1 u2 u3 u4 u5 t0 t1 t2 t3 t4
          go_wp2_with fail
          go_roundw
          case rel => exact HNEXT.out
          case measure => simp [intOf]; omega
        · have hjl : j = f.kids.length := by omega
          subst hjl
          have hnb : ¬ ((f.kids.length : Int) < (gs.length : Int)) := by omega
          obtain ⟨r0, r1, r2, r3, r4, t0, t1, t2, t3, t4⟩ := zeroFacts hm.zero
          have hth := Lib.hid (zeroThere hm.zero)
          have HEND := Lib.hid (hm.ends HBD.out.1 HBD.out.2.1 HBD.out.2.2 HSC.out.2.1)
          clear hm hdrop hsl hq hgl
          go_wp2_with fail
          obtain ⟨z0, z1, z2, z3, z4⟩ := set5_in wr (w.heap.size + 1) 0 (.int .i64 f.kind) (.string f.name) (.int .i64 f.n) (.slice ca f.scopes.length ccap) (.slice ka gs.length kcap) hth.out
          have hss : Same (fun k => w.heap.size ≤ k ∧ k < wr.heap.size ∧ k ≠ w.heap.size + 1) wr (set5 wr (w.heap.size + 1) 0 (.int .i64 f.kind) (.string f.name) (.int .i64 f.n) (.slice ca f.scopes.length ccap) (.slice ka gs.length kcap)) :=
            fun c hc => set5_block _ _ _ _ _ _ _ _ hc.2.2
          have hz5 := set5_size wr (w.heap.size + 1) 0 (.int .i64 f.kind) (.string f.name) (.int .i64 f.n) (.slice ca f.scopes.length ccap) (.slice ka gs.length kcap)
          have hin5 := InVP.mono (ψ := fun k' => w.heap.size ≤ k' ∧ k' < (set5 wr (w.heap.size + 1) 0 (.int .i64 f.kind) (.string f.name) (.int .i64 f.n) (.slice ca f.scopes.length ccap) (.slice ka gs.length kcap)).heap.size) (fun k' hk => ⟨hk.1, by rw [hz5]; exact hk.2.1⟩) _ _ (InVP.later hss _ _ HEND.out)
          have hr5 : Rd B (set5 wr (w.heap.size + 1) 0 (.int .i64 f.kind) (.string f.name) (.int .i64 f.n) (.slice ca f.scopes.length ccap) (.slice ka gs.length kcap)) b q := by
            unfold set5
            exact ((((HM.out.rd.setOther (by omega) (by omega)).setOther (by omega) (by omega)).setOther (by omega) (by omega)).setOther (by omega) (by omega)).setOther (by omega) (by omega)
          have hk5 : Kept b 1 2 w (set5 wr (w.heap.size + 1) 0 (.int .i64 f.kind) (.string f.name) (.int .i64 f.n) (.slice ca f.scopes.length ccap) (.slice ka gs.length kcap)) := by
            unfold set5
            exact ((((HM.out.kept.setNew (by omega) (by omega)).setNew (by omega) (by omega)).setNew (by omega) (by omega)).setNew (by omega) (by omega)).setNew (by omega) (by omega)
          unfold set5 at z0 z1 z2 z3 z4 hin5 hr5 hk5
          simp only [Nat.zero_add] at z0 z1 z2 z3 z4 hin5 hr5 hk5
          refine bodyPost_ret (v := .agg #[.int .i64 f.kind, .string f.name, .int .i64 f.n, .slice ca f.scopes.length ccap, .slice ka gs.length kcap]) (by simp [results, Try.results54, go_sem, z0, z1, z2, z3, z4]) rfl ?_
          refine ⟨.mk f.kind f.name f.n f.scopes gs, _, q, rfl, hin5, DrR.of HHEAD.out.1 HSC.out.1 HSG.out HGL.out HSC.out.2.2.1 (fun _ => rfl), ?_, hr5, hk5⟩
          have h1 := HQ.out
          rw [List.take_length] at h1
          omega
end Go.Proofs.Ytbmpgfojhoganaa.P
