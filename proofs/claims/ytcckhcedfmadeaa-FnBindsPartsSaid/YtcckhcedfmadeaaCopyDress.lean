/- The first texts of this seat: letters and names, forms as data, sets of scopes, validity, small walks. -/
import Derived.Test.YtcckhcedfmadeaaMids
import Derived.Test.YtcckhcedfmadeaaDraws
namespace Go.Proofs.Ytcckhcedfmadeaa
section
open Go.RowKit
set_option linter.unusedVariables false
set_option linter.unusedSimpArgs false
/-- between two rounds -/
def CopyInT (w V : World) (ob base : Nat) (a : Option Addr) (cap : Nat) (k : Int) (nm : ByteArray) (n : Int) (c3 : Value) (sc : List Int) (ks : List Fm) (i : Value) (wr : World) : Prop :=
  ∃ (j : Nat) (gs : List Fm) (v : Value) (xs : List Value), j ≤ ks.length ∧ i = .int .i64 j ∧ gs = ks.take j ∧
    MadeMid 26 w wr w.heap.size (w.heap.size + 1) ob base a cap ks.length k nm n c3 sc gs v xs ∧ (∀ k, k < base → k ≠ ob → wr.heap[k]? = V.heap[k]?)
theorem wp_append_ints2 {P : Program} {w : World} {o : Oper} {a : Act} {K : Act → World → Prop} {Q : Exit → Act → World → Prop} (s x : Operand) (t e : TypeId)
    (ho : o.op = .call { callee := .builtin .append, args := #[s, x], argTypes := #[t, t] }) (i : TypeInfo) (ht : P.underlying t = some (.slice e)) (hi : P.info? e = some i) (hz : i.zero = some (.int .i64 0)) (hsize : i.size = 1) (hby : i.bytes = 8)
    (base eb : Nat) (sc : List Int) (sa : Option Addr) (scap : Nat) (φ : Nat → Prop) (hs : a.eval s = .slice (some ⟨eb, 0, none⟩) 0 0) (hx : a.eval x = .slice sa sc.length scap) (hv : IntRow φ w (.slice sa sc.length scap) sc)
    (hl : sc.length ≤ 1048576) (hown : w.ownsRow base e 1 (.slice (some ⟨eb, 0, none⟩) 0 0) 0 []) (hbase : base ≤ w.heap.size)
    (h : ∀ sa' scap' w', w.grownBy w' (some eb) → IntRow (fun k => (k = eb ∨ k = w.heap.size) ∧ k < w'.heap.size) w' (.slice sa' sc.length scap') sc → (w'.ownsRow base e 1 (.slice sa' sc.length scap') sc.length (sc.map (Value.int .i64)) ∧ ∀ q, (Value.slice sa' sc.length scap').ownBlock = some q → q = eb ∨ q = w.heap.size) → K (a.put o.dst (.slice sa' sc.length scap')) w') : o.wp P a w K Q := by
  obtain ⟨a0, cap0, e0, hcap, hmax, hwf, hrow⟩ := hv
  injection e0 with e1 _ e3
  subst e1 e3
  by_cases h0 : sc = []
  · subst h0
    have hrun := run_append_none (P := P) w t o.type e i ht hi ⟨eb, 0, none⟩ sa scap
    have hx' : a.eval x = .slice sa 0 scap := hx
    have hfin := h (some ⟨eb, 0, none⟩) 0 w ⟨rfl, rfl, rfl, Nat.le_refl _, fun _ _ _ => rfl⟩ ⟨_, 0, rfl, Nat.le_refl _, Nat.zero_le _, by simp, .inl rfl⟩ ⟨hown, fun q hq => .inl (by simpa [Value.ownBlock] using hq.symm)⟩
    unfold Oper.wp
    simp [execOp, ho, resolve, invoke, builtin, hs, hx', hrun, Result.andThen]
    exact hfin
  · rcases hrow with hr | ⟨sb, soff, rfl, _, hcells⟩
    · exact absurd hr h0
    have hpos : 0 < sc.length := by cases sc with | nil => exact absurd rfl h0 | cons _ _ => simp
    refine wp_append_lies _ s x t ho base e i _ 1 8 ht hi hz hsize hby rfl (by omega) _ 0 [] hs hown ⟨sb, soff, none⟩ sc.length scap (sc.map (Value.int .i64)) hx (by simp) ?_ ?_ hpos (by unfold maxLen; omega) (by omega) hbase w.heap.size rfl ?_
    · intro j u hj
      rw [List.getElem?_map] at hj
      obtain ⟨y, hy, rfl⟩ := Option.map_eq_some_iff.1 hj
      obtain ⟨hj', rfl⟩ := List.getElem?_eq_some_iff.1 hy
      have := hcells j hj'
      unfold Addr.add
      split
      · rename_i h; subst h; simpa using this
      · exact this
    · intro u hu
      obtain ⟨y, _, rfl⟩ := List.mem_map.1 hu
      rfl
    · intro g qcap w' hown' hgrow hat hlt
      rw [Nat.zero_add, List.nil_append] at hown'
      have hio := ownsRow_ints hown' hwf
      rw [Nat.zero_add]
      have hgg : g = eb ∨ g = w.heap.size := by
        rcases hat with e | e
        · simp [Value.ownBlock] at e; exact .inl e.symm
        · exact .inr e
      refine h _ qcap w' hgrow (IntOwn.inRow (bs := [g]) (fun b hb => ?_) hio) ⟨hown', fun q hq => ?_⟩
      rotate_left
      · simp [Value.ownBlock] at hq
        subst hq
        exact hgg
      rw [List.mem_singleton] at hb
      subst hb
      refine ⟨?_, hlt⟩
      rcases hat with e | e
      · simp [Value.ownBlock] at e; exact .inl e.symm
      · exact .inr e
set_option maxRecDepth 100000 in
set_option maxHeartbeats 2000000 in
theorem specCopyT_any (B : Nat) (f : Fm) : ∀ (v : Value) (w : World), B ≤ w.heap.size → InV (· < B) w f v → f.sz ≤ 1048576 →
    Calls Try.prog 57 #[v] w (TopPost 26 3 f w) := by
  induction f using Fm.ind with
  | h k nm n sc ks ih =>
    intro v w hB hv hsz
    have hszk := (sz_scopes (Fm.mk k nm n sc ks)).2
    simp only [Fm.kids] at hszk
    have hlen : ks.length ≤ 1048576 := by omega
    have HSK : Hid (∀ g ∈ ks, g.sz ≤ 1048576) := fun g hg => Nat.le_trans (sz_kid (f := Fm.mk k nm n sc ks) hg) hsz
    clear hszk
    unfold InV at hv
    obtain ⟨vs, a, cap, rfl, hkr, hnr, hnm, hvs, hcap, hmax, hks⟩ := hv
    unfold maxLen at hmax
    have HIH := Lib.hid ih
    have HKS := Lib.hid hks
    have HKR := Lib.hid hkr
    have HNR := Lib.hid hnr
    have HNM := Lib.hid hnm
    obtain ⟨i0, hi0, hz0, hz1, hz2⟩ := info_parts Try.infoFm
    obtain ⟨l0, hl0, hlz0, hlz1, hlz2⟩ := info_parts Try.infoInt
    have hslen : sc.length ≤ 1048576 := by have := (sz_scopes (Fm.mk k nm n sc ks)).1; simp only [Fm.scopes] at this; omega
    obtain ⟨vsa, vscap, rfl⟩ : ∃ vsa vscap, vs = .slice vsa sc.length vscap := by obtain ⟨x, y, e, _⟩ := hvs; exact ⟨x, y, e⟩
    have HVS := Lib.hid hvs
    clear ih hks hvs hkr hnr hnm hsz
    go_enter Try.func57, Try.ntmps57
    go_wp2_with fail
    rename_i K hK0
    have HCONT : ∀ (eb ob base : Nat) (sa2 : Option Addr) (scap2 : Nat) (W : World), MadeMid 26 w W w.heap.size (w.heap.size + 1) ob base a cap ks.length k nm n (.slice sa2 sc.length scap2) sc [] (.slice none 0 0) [] → (W.ownsRow w.heap.size 3 1 (.slice sa2 sc.length scap2) sc.length (sc.map (Value.int .i64)) ∧ ∀ q, (Value.slice sa2 sc.length scap2).ownBlock = some q → q < base ∧ q ≠ ob ∧ q ≠ w.heap.size + 1) →
        K { tmps := #[.agg #[.int .i64 k, .string nm, .int .i64 n, .slice vsa sc.length vscap, .slice a ks.length cap], .pointer (some ⟨w.heap.size, 0, none⟩), .pointer (some ⟨w.heap.size + 1, 0, none⟩), .pointer (some ⟨ob, 0, none⟩), undef, .pointer (some ⟨w.heap.size, 0, none⟩), .int .i64 k, .pointer (some ⟨w.heap.size, 1, none⟩), .string nm, .pointer (some ⟨w.heap.size, 2, none⟩), .int .i64 n, .slice (some ⟨eb, 0, none⟩) 0 0, .pointer (some ⟨w.heap.size, 3, none⟩), .slice vsa sc.length vscap, .slice sa2 sc.length scap2, .agg #[.int .i64 k, .string nm, .int .i64 n, .slice sa2 sc.length scap2, .slice none 0 0], undef, undef, undef, undef, undef, undef, undef, undef, undef, undef, undef, undef, undef, undef, undef, undef, undef, undef, undef], defers := [] } W := by
      intro eb ob base sa2 scap2 W hst hso
      have HSO := Lib.hid hso
      clear hso
      apply hK0
      clear hK0
      clear HVS
      obtain ⟨f1, f2, f3, f4, f5, f6, f7, f8⟩ := hst.fix
      have hHold := hst.par
      go_wp2_with fail
      go_loopw [4] (fun i wr => CopyInT w W ob base a cap k nm n (.slice sa2 sc.length scap2) sc ks i wr) (fun i _ => ks.length - (intOf i).toNat)
      case atStart => exact ⟨0, [], .slice none 0 0, [], Nat.zero_le _, rfl, by simp, hst, fun _ _ _ => rfl⟩
      case round =>
        obtain ⟨j, gs, v, xs, hj, rfl, hgs, hm, hsame⟩ := hrel
        have HSAME := Lib.hid hsame
        clear hsame
        have HM := Lib.hid hm
        have HGS := Lib.hid hgs
        have hgl : gs.length = j := by rw [hgs, List.length_take]; omega
        obtain ⟨f1, f2, f3, f4, f5, f6, f7, f8⟩ := hm.fix
        have hpar := hm.par
        have ho0 := hm.o0
        have ho1 := hm.o1
        have ho2 := hm.o2
        have ho3 := hm.o3
        have ho4 := hm.o4
        have hof := hm.free 4
        have hbw := hm.size
        clear hm hgs
        by_cases hlt : j < ks.length
        · obtain ⟨b, off, rfl, hbB, hrow⟩ : ∃ b off, a = some ⟨b, off, none⟩ ∧ b < B ∧ RowIn (· < B) w b off ks := by
            rcases HKS.out with h | h
            · subst h; simp at hlt
            · exact h
          have hrow1 := hrow.later (same_below (HM.out.below.mono hB)) b hbB
          obtain ⟨sa1, scap1, a1, cap1, q0, q1, q2, q3, q4, hin⟩ := hrow1.at' j hlt
          have HIN := Lib.hid hin
          clear hrow hrow1 hin
          have hj0 : (0 : Int) ≤ (j : Int) := by omega
          have hj1 : (j : Int) < (ks.length : Int) := by omega
          have hL1 : gs.length + 1 ≤ maxLen := by unfold maxLen; omega
          have hL2 : (gs.length + 1) * 80 ≤ 140737488355328 := by omega
          go_wp2_with fail
          have hS0 : KidHeld (ob) w.heap.size b (off + j * 5) v (.slice (some ⟨b, off, none⟩) ks.length cap) (.int .i64 ks[j].kind) (.string ks[j].name) (.int .i64 ks[j].n) (.slice sa1 ks[j].scopes.length scap1) (.slice a1 ks[j].kids.length cap1) wr.drew := ⟨ho4, hpar, q0, q1, q2, q3, q4⟩
          refine upto_begin (KidHeld (ob) w.heap.size b (off + j * 5) v (.slice (some ⟨b, off, none⟩) ks.length cap) (.int .i64 ks[j].kind) (.string ks[j].name) (.int .i64 ks[j].n) (.slice sa1 ks[j].scopes.length scap1) (.slice a1 ks[j].kids.length cap1)) 11 (by kernel_rfl) ?_
          refine upto_take (i := 0) (d := some 23) (v := ?_) rfl rfl (by kernel_rfl) (by kernel_rfl) (by kernel_rfl) (by kernel_rfl) (fun _ _ _ h => h) (Or.inl ⟨by rfl, ?_⟩) hS0 ?_
          rotate_left
          · (intro wS hSw; obtain ⟨_, _, _, _, _, _, _⟩ := hSw; go_simp; try with_reducible rfl)
          try simp only [Act.put, List.setIfInBounds_toArray, List.set_cons_zero, List.set_cons_succ]
          refine upto_take (i := 1) (d := some 24) (v := ?_) rfl rfl (by kernel_rfl) (by kernel_rfl) (by kernel_rfl) (by kernel_rfl) (fun _ _ _ h => h) (Or.inl ⟨by rfl, ?_⟩) hS0 ?_
          rotate_left
          · (intro wS hSw; obtain ⟨_, _, _, _, _, _, _⟩ := hSw; go_simp; try with_reducible rfl)
          try simp only [Act.put, List.setIfInBounds_toArray, List.set_cons_zero, List.set_cons_succ]
          refine upto_take (i := 2) (d := some 25) (v := ?_) rfl rfl (by kernel_rfl) (by kernel_rfl) (by kernel_rfl) (by kernel_rfl) (fun _ _ _ h => h) (Or.inl ⟨by rfl, ?_⟩) hS0 ?_
          rotate_left
          · (intro wS hSw; obtain ⟨_, _, _, _, _, _, _⟩ := hSw; go_simp; try with_reducible rfl)
          try simp only [Act.put, List.setIfInBounds_toArray, List.set_cons_zero, List.set_cons_succ]
          refine upto_take (i := 3) (d := some 26) (v := ?_) rfl rfl (by kernel_rfl) (by kernel_rfl) (by kernel_rfl) (by kernel_rfl) (fun _ _ _ h => h) (Or.inl ⟨by rfl, ?_⟩) hS0 ?_
          rotate_left
          · (intro wS hSw; obtain ⟨_, _, _, _, _, _, _⟩ := hSw; go_simp; try with_reducible rfl)
          try simp only [Act.put, List.setIfInBounds_toArray, List.set_cons_zero, List.set_cons_succ]
          refine upto_take (i := 4) (d := some 27) (v := ?_) rfl rfl (by kernel_rfl) (by kernel_rfl) (by kernel_rfl) (by kernel_rfl) (fun _ _ _ h => h) (Or.inl ⟨by rfl, ?_⟩) hS0 ?_
          rotate_left
          · (intro wS hSw; obtain ⟨_, _, _, _, _, _, _⟩ := hSw; go_simp; try with_reducible rfl)
          try simp only [Act.put, List.setIfInBounds_toArray, List.set_cons_zero, List.set_cons_succ]
          refine upto_take (i := 5) (d := some 28) (v := ?_) rfl rfl (by kernel_rfl) (by kernel_rfl) (by kernel_rfl) (by kernel_rfl) (fun _ _ _ h => h) (Or.inl ⟨by rfl, ?_⟩) hS0 ?_
          rotate_left
          · (intro wS hSw; obtain ⟨_, _, _, _, _, _, _⟩ := hSw; go_simp; try with_reducible rfl)
          try simp only [Act.put, List.setIfInBounds_toArray, List.set_cons_zero, List.set_cons_succ]
          refine upto_take (i := 6) (d := some 29) (v := ?_) rfl rfl (by kernel_rfl) (by kernel_rfl) (by kernel_rfl) (by kernel_rfl) (fun _ _ _ h => h) (Or.inl ⟨by rfl, ?_⟩) hS0 ?_
          rotate_left
          · (intro wS hSw; obtain ⟨_, _, _, _, _, _, _⟩ := hSw; go_simp; try with_reducible rfl)
          try simp only [Act.put, List.setIfInBounds_toArray, List.set_cons_zero, List.set_cons_succ]
          refine upto_one (i := 7) (by kernel_rfl) rfl (fun K hK => ?_)
          go_simp
          refine (HIH.out _ (List.getElem_mem hlt) _ wr.drew (by show B ≤ wr.heap.size; omega) (InV.later (w := wr) (w' := wr.drew) (fun _ _ => rfl) _ _ HIN.out) (HSK.out _ (List.getElem_mem hlt))).mono ?_
          rintro e w1 hpost
          obtain ⟨kv, rfl, hkv, hb1⟩ := hpost.made
          clear hpost
          obtain ⟨ksa, kscap, ka, kcap, rfl⟩ := hkv.form
          have hb1' := below_drew hb1
          have hS1 := KidHeld.later (w := wr) (w' := w1) hS0 hb1'
          have HKV : Hid (InV (fun k => wr.heap.size ≤ k ∧ k < w1.heap.size) w1 ks[j] (.agg #[.int .i64 ks[j].kind, .string ks[j].name, .int .i64 ks[j].n, .slice ksa ks[j].scopes.length kscap, .slice ka ks[j].kids.length kcap])) := hkv
          refine hK.out _ _ (.inr hS1) ?_
          have HB1 := Lib.hid hb1'
          have hs1 := hb1'.size
          have hown2 : w1.ownsRow (base) 26 5 v gs.length xs := HM.out.own.kept (row := none) ⟨hb1'.os, hb1'.tape, hb1'.output, hb1'.size, fun k hk _ => hb1'.block k hk⟩ (by cases v.ownBlock <;> simp)
          clear hK K hkv hb1 hb1' hS0
          obtain ⟨G, hG⟩ : ∃ G, ks[j] = G := ⟨_, rfl⟩
          rw [hG] at HKV hS1 ⊢
          refine upto_one (i := 8) (by kernel_rfl) rfl (fun K hK => ?_)
          go_simp
          have hbA := below_alloc w1 (Obj.cells #[.int .i64 G.kind, .string G.name, .int .i64 G.n, .slice ksa G.scopes.length kscap, .slice ka G.kids.length kcap] 26)
          have hS2 := hS1.later hbA
          refine hK.out _ _ (.inr hS2) ?_
          clear hK K
          refine upto_oper (i := 9) ⟨some 32, .call { callee := .builtin .append, args := #[.tmp 24, .tmp 31], argTypes := #[24, 24] }, 24, _, _, _⟩ (by kernel_rfl) rfl rfl (fun K hK => ?_)
          refine wp_append_lies _ (.tmp 24) (.tmp 31) 24 rfl (base) 26 i0 _ 5 80 Try.underlying24 hi0 hz0 hz1 hz2 rfl (by omega) _ gs.length xs (by rfl) (hown2.alloc _)
                    ⟨w1.heap.size, 0, none⟩ 1 1 [.int .i64 G.kind, .string G.name, .int .i64 G.n, .slice ksa G.scopes.length kscap, .slice ka G.kids.length kcap] (by rfl) (by rfl) (World.news_of_block (cs := #[.int .i64 G.kind, .string G.name, .int .i64 G.n, .slice ksa G.scopes.length kscap, .slice ka G.kids.length kcap]) (t := 26) (fr := (0, 0)) (heap_alloc_new w1 _)) (by simp [Value.oneCell'])
                    (by omega) hL1 hL2 (by simp; omega) (w1.heap.size + 1) (by simp) ?_
          intro gq qd w3 hown3 hgrow hat hlt4
          have hfar : ∀ k, v.ownBlock = some k → base ≤ k ∧ k < w1.heap.size := fun k e => hown2.lt k e
          have hS3 := hS2.keep (w' := w3) (fun k hk => hgrow.block k (by rcases hk with rfl | rfl | rfl <;> simp <;> omega) (fun e => by have := hfar k e.symm; rcases hk with rfl | rfl | rfl <;> omega))
          refine hK.out _ _ (.inr hS3) ?_
          have hc4 := hS3.1
          have hf4 : w3.frozen? ⟨ob, 4, none⟩ = false := by
            rw [World.frozen?_of_block (a := ⟨ob, 4, none⟩) (hgrow.block (ob) (by simp; omega) (fun e => by have := hfar _ e.symm; omega)), hbA.frozen (p := ⟨ob, 4, none⟩) (show ob < _ by omega),
              HB1.out.frozen (p := ⟨ob, 4, none⟩) (show ob < _ by omega)]
            exact hof
          clear hK K
          refine upto_one (i := 10) (by kernel_rfl) rfl (fun K hK => ?_)
          go_simp
          refine hK.out _ _ (.inr hS3) ?_
          clear hK K
          refine upto_one (i := 11) (by kernel_rfl) rfl (fun K hK => ?_)
          go_simp
          refine hK.out _ _ (.inl rfl) ?_
          clear hK K
          refine upto_done (by kernel_rfl) ?_ _
          have HNEXT : Hid (CopyInT w W ob base (some ⟨b, off, none⟩) cap k nm n (.slice sa2 sc.length scap2) sc ks (.int .i64 ((j : Int) + 1)) (w3.setCell ⟨ob, 4, none⟩ (.slice (some ⟨gq, 0, none⟩) (j + 1) qd))) := by
            rw [← hgl]
            refine ⟨gs.length + 1, gs ++ [G], _, _, by omega, by go_num, ?_, HM.out.step (HB1.out.trans (hbA.mono (by omega))) (InV.mono (fun k hk => ⟨hk.1, by simp; omega⟩) _ _ (InV.later (w := w1) (fun k hk => hbA.block k hk.2) _ _ HKV.out)) hown3 hgrow (by simpa using hat), fun k hk hne => ?_⟩
            rotate_left
            · rw [Below.heap_setCell _ _ _ _ hne, hgrow.block k (by simp; omega) (fun e => by have := HM.out.own.lt k e.symm; omega)]
              exact ((HB1.out.trans (hbA.mono (by omega))).block k (by omega)).trans (HSAME.out k hk hne)
            rw [hgl, List.take_succ_eq_append_getElem hlt, hG, ← HGS.out]
          clear hown3 hgrow hat hlt4 hS3 hS2 hS1 hbA hown2 hfar hc4 hf4
          go_wp2_with fail
          go_roundw
          case rel => exact HNEXT.out
          case measure => simp [intOf]; omega
        · have hjl : j = ks.length := by omega
          subst hjl
          have HG : Hid (gs = ks) := by have := HGS.out; rw [List.take_length] at this; exact this
          obtain ⟨va, vc, rfl⟩ : ∃ va vc, v = .slice va ks.length vc := by
            rw [← hgl]
            rcases HM.out.own.2 with ⟨h, h0⟩ | ⟨g, cp, _, h, _⟩
            · exact ⟨none, 0, by rw [h, h0]⟩
            · exact ⟨_, cp, h⟩
          have hro1 := HM.out.zero
          have r0 : wr.cell? ⟨w.heap.size + 1, 0, none⟩ = some (.int .i64 0) := by rw [cell_of_row wr _ 0 _ _ _ hro1]; rfl
          have r1 : wr.cell? ⟨w.heap.size + 1, 1, none⟩ = some (.string { data := #[] }) := by rw [cell_of_row wr _ 1 _ _ _ hro1]; rfl
          have r2 : wr.cell? ⟨w.heap.size + 1, 2, none⟩ = some (.int .i64 0) := by rw [cell_of_row wr _ 2 _ _ _ hro1]; rfl
          have r3 : wr.cell? ⟨w.heap.size + 1, 3, none⟩ = some (.slice none 0 0) := by rw [cell_of_row wr _ 3 _ _ _ hro1]; rfl
          have r4 : wr.cell? ⟨w.heap.size + 1, 4, none⟩ = some (.slice none 0 0) := by rw [cell_of_row wr _ 4 _ _ _ hro1]; rfl
          have hplr : Plain wr (w.heap.size + 1) := ⟨_, _, hro1⟩
          have t0 := hplr.frozen 0
          have t1 := hplr.frozen 1
          have t2 := hplr.frozen 2
          have t3 := hplr.frozen 3
          have t4 := hplr.frozen 4
          have HEND := Lib.hid (HM.out.ends HKR.out HNR.out HNM.out)
          have hnb : ¬((ks.length : Int) < (ks.length : Int)) := by omega
          clear hro1 hplr
          go_wp2_with fail
          have hth : ∀ j, j < 5 → ∃ v, wr.cell? ⟨w.heap.size + 1, 0 + j, none⟩ = some v := fun j hj => by
            rw [Nat.zero_add]
            match j, hj with
            | 0, _ => exact ⟨_, r0⟩
            | 1, _ => exact ⟨_, r1⟩
            | 2, _ => exact ⟨_, r2⟩
            | 3, _ => exact ⟨_, r3⟩
            | 4, _ => exact ⟨_, r4⟩
          obtain ⟨z0, z1, z2, z3, z4⟩ := set5_in wr (w.heap.size + 1) 0 (.int .i64 k) (.string nm) (.int .i64 n) (.slice sa2 sc.length scap2) (.slice va ks.length vc) hth
          have hss : Same (fun k => w.heap.size ≤ k ∧ k < wr.heap.size ∧ k ≠ w.heap.size + 1) wr (set5 wr (w.heap.size + 1) 0 (.int .i64 k) (.string nm) (.int .i64 n) (.slice sa2 sc.length scap2) (.slice va ks.length vc)) :=
            fun c hc => set5_block _ _ _ _ _ _ _ _ hc.2.2
          have hz5 := set5_size wr (w.heap.size + 1) 0 (.int .i64 k) (.string nm) (.int .i64 n) (.slice sa2 sc.length scap2) (.slice va ks.length vc)
          have hin5 := InV.mono (ψ := fun k' => w.heap.size ≤ k' ∧ k' < (set5 wr (w.heap.size + 1) 0 (.int .i64 k) (.string nm) (.int .i64 n) (.slice sa2 sc.length scap2) (.slice va ks.length vc)).heap.size) (fun k' hk => ⟨hk.1, by rw [hz5]; exact hk.2.1⟩) _ _ (InV.later hss _ _ HEND.out)
          have hbe5 := set5_below HM.out.below (b := w.heap.size + 1) (by omega) 0 (.int .i64 k) (.string nm) (.int .i64 n) (.slice sa2 sc.length scap2) (.slice va ks.length vc)
          unfold set5 at z0 z1 z2 z3 z4 hin5 hbe5
          simp only [Nat.zero_add] at z0 z1 z2 z3 z4 hin5 hbe5
          refine bodyPost_ret (v := .agg #[.int .i64 k, .string nm, .int .i64 n, .slice sa2 sc.length scap2, .slice va ks.length vc]) (by simp [results, Try.results57, go_sem, z0, z1, z2, z3, z4]) rfl ?_
          have hE := HG.out
          subst hE
          have hts : ∀ q, (Value.slice sa2 sc.length scap2).ownBlock = some q → (set5 wr (w.heap.size + 1) 0 (.int .i64 k) (.string nm) (.int .i64 n) (.slice sa2 sc.length scap2) (.slice va gs.length vc)).heap[q]? = W.heap[q]? := fun q hq => by
            obtain ⟨q1, q2, q3⟩ := HSO.out.2 q hq
            rw [set5_block _ _ _ _ _ _ _ _ q3]
            exact HSAME.out q q1 q2
          have htk : ∀ q, (Value.slice va gs.length vc).ownBlock = some q → (set5 wr (w.heap.size + 1) 0 (.int .i64 k) (.string nm) (.int .i64 n) (.slice sa2 sc.length scap2) (.slice va gs.length vc)).heap[q]? = wr.heap[q]? := fun q hq => by
            have := HM.out.own.lt q hq
            exact set5_block _ _ _ _ _ _ _ _ (by omega)
          have hT : TopAt 26 3 w.heap.size (set5 wr (w.heap.size + 1) 0 (.int .i64 k) (.string nm) (.int .i64 n) (.slice sa2 sc.length scap2) (.slice va gs.length vc)) (.mk k nm n sc gs) sa2 scap2 va vc xs := by
            refine ⟨HKR.out, HNR.out, HNM.out, (by obtain ⟨_, _, _, _, _, hwf, _⟩ := HM.out.ints; exact hwf), ownsRow_same HSO.out.1 hts, ownsRow_same (ownsRow_lo HM.out.own (by omega)) htk, ?_, ?_⟩
            · refine HM.out.vals.keep (fun q hq => set5_block _ _ _ _ _ _ _ _ (by omega)) fun q hq => ⟨by omega, by rw [hz5]; exact hq.2.1, hq.2.2, fun e => by have := (HSO.out.2 q e).1; omega⟩
            · by_cases h0 : (Value.slice sa2 sc.length scap2).ownBlock = none
              · exact .inl h0
              · obtain ⟨q, hq⟩ := Option.ne_none_iff_exists'.1 h0
                refine .inr fun e => ?_
                simp only [Fm.scopes, Fm.kids] at e
                rw [hq] at e
                have h1 := HM.out.own.lt q e.symm
                have h2 := HSO.out.2 q hq
                omega
          unfold set5 at hT
          simp only [Nat.zero_add] at hT
          exact ⟨sa2, scap2, va, vc, xs, rfl, hT, hbe5⟩
    have HC := Lib.hid HCONT
    clear HCONT hK0
    generalize hw0 : ((w.alloc (.cells #[.int .i64 k, .string nm, .int .i64 n, .slice vsa sc.length vscap, .slice a ks.length cap] 26)).alloc (.cells #[.int .i64 0, .string { data := #[] }, .int .i64 0, .slice none 0 0, .slice none 0 0] 26)) = w0
    have hb0 : Below w.heap.size w w0 := by rw [← hw0]; exact (below_alloc w _).alloc (by simp) _
    have hs0 : w0.heap.size = w.heap.size + 2 := by rw [← hw0]; simp
    have hp0 : ParHeld w.heap.size k nm n (.slice vsa sc.length vscap) (.slice a ks.length cap) w0 := by
      rw [← hw0]
      exact ⟨by rw [a2_cell0]; rfl, by rw [a2_cell0]; rfl, by rw [a2_cell0]; rfl, by rw [a2_cell0]; rfl, by rw [a2_cell0]; rfl⟩
    have hzz : w0.heap[w.heap.size + 1]? = some (.cells #[.int .i64 0, .string { data := #[] }, .int .i64 0, .slice none 0 0, .slice none 0 0] 26 (0, 0)) := by
      rw [← hw0]
      have := heap_alloc_new (w.alloc (.cells #[.int .i64 k, .string nm, .int .i64 n, .slice vsa sc.length vscap, .slice a ks.length cap] 26)) (.cells #[.int .i64 0, .string { data := #[] }, .int .i64 0, .slice none 0 0, .slice none 0 0] 26)
      rw [size_alloc'] at this
      exact this
    have hv0 : IntRow (· < B) w0 (.slice vsa sc.length vscap) sc := HVS.out.later (same_below (hb0.mono hB))
    clear hw0
    have hS0 : ParHeld w.heap.size k nm n (.slice vsa sc.length vscap) (.slice a ks.length cap) w0.drew := hp0
    refine upto_begin (ParHeld w.heap.size k nm n (.slice vsa sc.length vscap) (.slice a ks.length cap)) 12 (by kernel_rfl) ?_
    refine upto_take (i := 0) (d := some 5) (v := ?_) rfl rfl (by kernel_rfl) (by kernel_rfl) (by kernel_rfl) (by kernel_rfl) (fun _ _ _ h => h) (Or.inl ⟨by rfl, ?_⟩) hS0 ?_
    rotate_left
    · (intro wS hSw; obtain ⟨_, _, _, _, _⟩ := hSw; go_simp; try with_reducible rfl)
    try simp only [Act.put, List.setIfInBounds_toArray, List.set_cons_zero, List.set_cons_succ]
    refine upto_take (i := 1) (d := some 6) (v := ?_) rfl rfl (by kernel_rfl) (by kernel_rfl) (by kernel_rfl) (by kernel_rfl) (fun _ _ _ h => h) (Or.inl ⟨by rfl, ?_⟩) hS0 ?_
    rotate_left
    · (intro wS hSw; obtain ⟨_, _, _, _, _⟩ := hSw; go_simp; try with_reducible rfl)
    try simp only [Act.put, List.setIfInBounds_toArray, List.set_cons_zero, List.set_cons_succ]
    refine upto_take (i := 2) (d := some 7) (v := ?_) rfl rfl (by kernel_rfl) (by kernel_rfl) (by kernel_rfl) (by kernel_rfl) (fun _ _ _ h => h) (Or.inl ⟨by rfl, ?_⟩) hS0 ?_
    rotate_left
    · (intro wS hSw; obtain ⟨_, _, _, _, _⟩ := hSw; go_simp; try with_reducible rfl)
    try simp only [Act.put, List.setIfInBounds_toArray, List.set_cons_zero, List.set_cons_succ]
    refine upto_take (i := 3) (d := some 8) (v := ?_) rfl rfl (by kernel_rfl) (by kernel_rfl) (by kernel_rfl) (by kernel_rfl) (fun _ _ _ h => h) (Or.inl ⟨by rfl, ?_⟩) hS0 ?_
    rotate_left
    · (intro wS hSw; obtain ⟨_, _, _, _, _⟩ := hSw; go_simp; try with_reducible rfl)
    try simp only [Act.put, List.setIfInBounds_toArray, List.set_cons_zero, List.set_cons_succ]
    refine upto_take (i := 4) (d := some 9) (v := ?_) rfl rfl (by kernel_rfl) (by kernel_rfl) (by kernel_rfl) (by kernel_rfl) (fun _ _ _ h => h) (Or.inl ⟨by rfl, ?_⟩) hS0 ?_
    rotate_left
    · (intro wS hSw; obtain ⟨_, _, _, _, _⟩ := hSw; go_simp; try with_reducible rfl)
    try simp only [Act.put, List.setIfInBounds_toArray, List.set_cons_zero, List.set_cons_succ]
    refine upto_take (i := 5) (d := some 10) (v := ?_) rfl rfl (by kernel_rfl) (by kernel_rfl) (by kernel_rfl) (by kernel_rfl) (fun _ _ _ h => h) (Or.inl ⟨by rfl, ?_⟩) hS0 ?_
    rotate_left
    · (intro wS hSw; obtain ⟨_, _, _, _, _⟩ := hSw; go_simp; try with_reducible rfl)
    try simp only [Act.put, List.setIfInBounds_toArray, List.set_cons_zero, List.set_cons_succ]
    refine upto_take (i := 7) (d := some 12) (v := ?_) rfl rfl (by kernel_rfl) (by kernel_rfl) (by kernel_rfl) (by kernel_rfl) (fun _ _ _ h => h) (Or.inl ⟨by rfl, ?_⟩) hS0 ?_
    rotate_left
    · (intro wS hSw; obtain ⟨_, _, _, _, _⟩ := hSw; go_simp; try with_reducible rfl)
    try simp only [Act.put, List.setIfInBounds_toArray, List.set_cons_zero, List.set_cons_succ]
    refine upto_take (i := 8) (d := some 13) (v := ?_) rfl rfl (by kernel_rfl) (by kernel_rfl) (by kernel_rfl) (by kernel_rfl) (fun _ _ _ h => h) (Or.inl ⟨by rfl, ?_⟩) hS0 ?_
    rotate_left
    · (intro wS hSw; obtain ⟨_, _, _, _, _⟩ := hSw; go_simp; try with_reducible rfl)
    try simp only [Act.put, List.setIfInBounds_toArray, List.set_cons_zero, List.set_cons_succ]
    have hpz : Plain w0 (w.heap.size + 1) := ⟨_, _, hzz⟩
    refine upto_two (i := 6) (j := 11) (by kernel_rfl) rfl rfl (fun K' hK => ?_) (fun K' hK => ?_)
    · go_simp
      have hbe : Below w0.heap.size w0 (w0.alloc (Obj.cells #[] 3)).drew := (below_alloc w0 _).drew
      have hown : World.ownsRow (w0.alloc (Obj.cells #[] 3)).drew (w.heap.size + 2) 3 1 (.slice (some ⟨w.heap.size + 2, 0, none⟩) 0 0) 0 [] := by
        have := (World.ownsRow_lit (base := w.heap.size + 2) (e := 3) (size := 1) w0 #[] 0 (by omega) (by unfold maxLen; omega) (by simp)).drew
        rw [hs0] at this
        exact this
      refine hK.out _ _ (.inr (hp0.keep (hbe.block w.heap.size (by omega)))) ?_
      clear hK K'
      refine upto_two (i := 9) (j := 11) (by kernel_rfl) rfl rfl (fun K' hK => ?_) (fun K' hK => ?_)
      · rw [if_pos (show Region.wanted _ _ = true by simp [Region.wanted])]
        refine wp_append_ints2 (.tmp 11) (.tmp 13) 23 3 rfl l0 Try.underlying23 hl0 hlz0 hlz1 hlz2 (w.heap.size + 2) (w.heap.size + 2) sc vsa vscap (· < B) (by rfl) (by rfl) (hv0.later (same_below (hbe.mono (by omega)))) hslen hown (by simp; omega) ?_
        intro sa2 scap2 w5 hg5 hi5 hq5
        have hsz5 := hg5.size
        have hsz6 : w.heap.size + 3 ≤ w5.heap.size := by simp at hsz5; omega
        have hlow : ∀ k, k < w.heap.size + 2 → w5.heap[k]? = w0.heap[k]? := fun k hk => (hg5.block k (by simp; omega) (by simp; omega)).trans (hbe.block k (by omega))
        have hp5 := hp0.keep (hlow w.heap.size (by omega))
        have hz5 := (hlow (w.heap.size + 1) (by omega)).trans hzz
        refine hK.out _ _ (.inr hp5) ?_
        clear hK K'
        refine upto_take (i := 10) (d := some 15) (v := ?_) rfl rfl (by kernel_rfl) (by kernel_rfl) (by kernel_rfl) (by kernel_rfl) (fun _ _ _ h => h) (Or.inl ⟨by rfl, ?_⟩) hp5 ?_
        rotate_left
        · (intro wS hSw; obtain ⟨_, _, _, _, _⟩ := hSw; go_simp; try with_reducible rfl)
        try simp only [Act.put, List.setIfInBounds_toArray, List.set_cons_zero, List.set_cons_succ]
        refine upto_one (i := 11) (by kernel_rfl) rfl (fun K' hK => ?_)
        go_simp
        have hb6 := below_alloc w5 (Obj.cells #[.int .i64 0, .string { data := #[] }, .int .i64 0, .slice none 0 0, .slice none 0 0] 26)
        have hw5 : w.heap.size + 3 ≤ w5.heap.size := by simp at hsz5; omega
        refine hK.out _ _ (.inr (hp5.keep (hb6.block w.heap.size (by omega)))) ?_
        clear hK K'
        refine upto_one (i := 12) (by kernel_rfl) rfl (fun K' hK => ?_)
        go_simp
        refine hK.out _ _ (.inl rfl) ?_
        clear hK K'
        refine upto_done (by kernel_rfl) ?_ _
        have hbg := MadeMid.begin2 (T := 26) (w := w) (V := w5) (a := a) (cap := cap) (m := ks.length) (kd := k) (nm := nm) (n := n) (c3 := .slice sa2 sc.length scap2) (sc := sc) (((hb0.trans (hbe.mono (by omega))).grown hg5 (by first | omega | (simp; omega)) (fun k hk => by simp at hk; omega)))
          (by omega) hp5.2.2.2.2 hz5 (hi5.mono (fun k hk => ⟨by rcases hk.1 with h | h <;> (try simp at h) <;> omega, hk.2, by rcases hk.1 with h | h <;> (try simp at h) <;> omega⟩))
        exact HC.out (w.heap.size + 2) _ _ sa2 scap2 _ hbg ⟨(ownsRow_lo hq5.1 (by omega)).alloc _, fun q hq => by have h1 := hq5.1.lt q hq; exact ⟨by omega, by omega, by omega⟩⟩
      · go_simp
        have hbe2 : Below w0.heap.size w0 ((w0.alloc (Obj.cells #[] 3)).alloc (Obj.cells #[.int .i64 0, .string { data := #[] }, .int .i64 0, .slice none 0 0, .slice none 0 0] 26)).drew := ((below_alloc w0 _).alloc (by simp) _).drew
        refine hK.out _ _ (.inr (hp0.keep (hbe2.block w.heap.size (by omega)))) ?_
        clear hK K'
        refine upto_one (i := 9) (by kernel_rfl) rfl (fun K' hK => ?_)
        rw [if_pos (show Region.wanted _ _ = true by simp [Region.wanted])]
        refine wp_append_ints2 (.tmp 11) (.tmp 13) 23 3 rfl l0 Try.underlying23 hl0 hlz0 hlz1 hlz2 (w.heap.size + 2) (w.heap.size + 2) sc vsa vscap (· < B) (by rfl) (by rfl) (hv0.later (same_below (hbe2.mono (by omega)))) hslen (hown.alloc _) (by simp; omega) ?_
        intro sa2 scap2 w5 hg5 hi5 hq5
        have hsz5 := hg5.size
        have hsz6 : w.heap.size + 3 ≤ w5.heap.size := by simp at hsz5; omega
        have hlow : ∀ k, k < w.heap.size + 2 → w5.heap[k]? = w0.heap[k]? := fun k hk => (hg5.block k (by simp; omega) (by simp; omega)).trans (hbe2.block k (by omega))
        have hp5 := hp0.keep (hlow w.heap.size (by omega))
        have hz5 := (hlow (w.heap.size + 1) (by omega)).trans hzz
        have hob5 : w5.heap[w.heap.size + 3]? = some (.cells #[.int .i64 0, .string { data := #[] }, .int .i64 0, .slice none 0 0, .slice none 0 0] 26 (0, 0)) := by
          rw [hg5.block _ (by simp; omega) (by simp)]
          have := heap_alloc_new (w0.alloc (Obj.cells #[] 3)) (Obj.cells #[.int .i64 0, .string { data := #[] }, .int .i64 0, .slice none 0 0, .slice none 0 0] 26)
          rw [size_alloc', hs0] at this
          exact this
        refine hK.out _ _ (.inr hp5) ?_
        clear hK K'
        refine upto_one (i := 10) (by kernel_rfl) rfl (fun K' hK => ?_)
        go_simp
        refine hK.out _ _ (.inr hp5) ?_
        clear hK K'
        have r0 : w5.cell? ⟨w.heap.size + 3, 0, none⟩ = some (.int .i64 0) := by rw [cell_of_row w5 _ 0 _ _ _ hob5]; rfl
        have r1 : w5.cell? ⟨w.heap.size + 3, 1, none⟩ = some (.string { data := #[] }) := by rw [cell_of_row w5 _ 1 _ _ _ hob5]; rfl
        have r2 : w5.cell? ⟨w.heap.size + 3, 2, none⟩ = some (.int .i64 0) := by rw [cell_of_row w5 _ 2 _ _ _ hob5]; rfl
        have r3 : w5.cell? ⟨w.heap.size + 3, 3, none⟩ = some (.slice none 0 0) := by rw [cell_of_row w5 _ 3 _ _ _ hob5]; rfl
        have r4 : w5.cell? ⟨w.heap.size + 3, 4, none⟩ = some (.slice none 0 0) := by rw [cell_of_row w5 _ 4 _ _ _ hob5]; rfl
        have hplr : Plain w5 (w.heap.size + 3) := ⟨_, _, hob5⟩
        have t0 := hplr.frozen 0
        have t1 := hplr.frozen 1
        have t2 := hplr.frozen 2
        have t3 := hplr.frozen 3
        have t4 := hplr.frozen 4
        refine upto_one (i := 12) (by kernel_rfl) rfl (fun K' hK => ?_)
        go_simp
        refine hK.out _ _ (.inl rfl) ?_
        clear hK K'
        refine upto_done (by kernel_rfl) ?_ _
        have hbg := MadeMid.begin (T := 26) (w := w) (V := w5) (ob := w.heap.size + 3) (a := a) (cap := cap) (m := ks.length) (kd := k) (nm := nm) (n := n) (c3 := .slice sa2 sc.length scap2) (sc := sc) ((hb0.trans (hbe2.mono (by omega))).grown hg5 (by first | omega | (simp; omega)) (fun k hk => by simp at hk; omega))
          (by omega) hp5.2.2.2.2 hz5 hob5 (by omega)
          (hi5.mono (fun k hk => ⟨by rcases hk.1 with h | h <;> (try simp at h) <;> omega, hk.2, by rcases hk.1 with h | h <;> (try simp at h) <;> omega, by rcases hk.1 with h | h <;> (try simp at h) <;> omega⟩))
        unfold set5 at hbg
        simp only [Nat.zero_add] at hbg
        exact HC.out (w.heap.size + 2) _ _ sa2 scap2 _ hbg ⟨ownsRow_same (ownsRow_lo hq5.1 (by omega)) (fun q hq => by
          rw [Below.heap_setCell _ _ _ _ (show q ≠ w.heap.size + 3 by rcases hq5.2 q hq with h | h <;> (try simp at h) <;> omega), Below.heap_setCell _ _ _ _ (show q ≠ w.heap.size + 3 by rcases hq5.2 q hq with h | h <;> (try simp at h) <;> omega), Below.heap_setCell _ _ _ _ (show q ≠ w.heap.size + 3 by rcases hq5.2 q hq with h | h <;> (try simp at h) <;> omega), Below.heap_setCell _ _ _ _ (show q ≠ w.heap.size + 3 by rcases hq5.2 q hq with h | h <;> (try simp at h) <;> omega), Below.heap_setCell _ _ _ _ (show q ≠ w.heap.size + 3 by rcases hq5.2 q hq with h | h <;> (try simp at h) <;> omega)]), fun q hq => by have h1 := hq5.1.lt q hq; exact ⟨by omega, by rcases hq5.2 q hq with h | h <;> (try simp at h) <;> omega, by omega⟩⟩
    · go_simp
      have hbe : Below w0.heap.size w0 (w0.alloc (Obj.cells #[.int .i64 0, .string { data := #[] }, .int .i64 0, .slice none 0 0, .slice none 0 0] 26)).drew := (below_alloc w0 _).drew
      refine hK.out _ _ (.inr (hp0.keep (hbe.block w.heap.size (by omega)))) ?_
      clear hK K'
      refine upto_one (i := 6) (by kernel_rfl) rfl (fun K' hK => ?_)
      go_simp
      have hbe2 : Below w0.heap.size w0 ((w0.alloc (Obj.cells #[.int .i64 0, .string { data := #[] }, .int .i64 0, .slice none 0 0, .slice none 0 0] 26)).alloc (Obj.cells #[] 3)).drew := ((below_alloc w0 _).alloc (by simp) _).drew
      have hown : World.ownsRow ((w0.alloc (Obj.cells #[.int .i64 0, .string { data := #[] }, .int .i64 0, .slice none 0 0, .slice none 0 0] 26)).alloc (Obj.cells #[] 3)).drew (w.heap.size + 2) 3 1 (.slice (some ⟨w.heap.size + 3, 0, none⟩) 0 0) 0 [] := by
        have := (World.ownsRow_lit (base := w.heap.size + 2) (e := 3) (size := 1) (w0.alloc (Obj.cells #[.int .i64 0, .string { data := #[] }, .int .i64 0, .slice none 0 0, .slice none 0 0] 26)) #[] 0 (by simp; omega) (by unfold maxLen; omega) (by simp)).drew
        rw [size_alloc', hs0] at this
        exact this
      refine hK.out _ _ (.inr (hp0.keep (hbe2.block w.heap.size (by omega)))) ?_
      clear hK K'
      refine upto_one (i := 9) (by kernel_rfl) rfl (fun K' hK => ?_)
      rw [if_pos (show Region.wanted _ _ = true by simp [Region.wanted])]
      refine wp_append_ints2 (.tmp 11) (.tmp 13) 23 3 rfl l0 Try.underlying23 hl0 hlz0 hlz1 hlz2 (w.heap.size + 2) (w.heap.size + 3) sc vsa vscap (· < B) (by rfl) (by rfl) (hv0.later (same_below (hbe2.mono (by omega)))) hslen hown (by simp; omega) ?_
      intro sa2 scap2 w5 hg5 hi5 hq5
      have hsz5 := hg5.size
      have hsz6 : w.heap.size + 3 ≤ w5.heap.size := by simp at hsz5; omega
      have hlow : ∀ k, k < w.heap.size + 2 → w5.heap[k]? = w0.heap[k]? := fun k hk => (hg5.block k (by simp; omega) (by simp; omega)).trans (hbe2.block k (by omega))
      have hp5 := hp0.keep (hlow w.heap.size (by omega))
      have hz5 := (hlow (w.heap.size + 1) (by omega)).trans hzz
      have hob5 : w5.heap[w.heap.size + 2]? = some (.cells #[.int .i64 0, .string { data := #[] }, .int .i64 0, .slice none 0 0, .slice none 0 0] 26 (0, 0)) := by
        rw [hg5.block _ (by simp; omega) (by simp)]
        have := heap_alloc_new w0 (Obj.cells #[.int .i64 0, .string { data := #[] }, .int .i64 0, .slice none 0 0, .slice none 0 0] 26)
        rw [hs0] at this
        exact ((below_alloc (w0.alloc (Obj.cells #[.int .i64 0, .string { data := #[] }, .int .i64 0, .slice none 0 0, .slice none 0 0] 26)) (Obj.cells #[] 3)).block _ (by simp; omega)).trans this
      refine hK.out _ _ (.inr hp5) ?_
      clear hK K'
      refine upto_one (i := 10) (by kernel_rfl) rfl (fun K' hK => ?_)
      go_simp
      refine hK.out _ _ (.inr hp5) ?_
      clear hK K'
      have r0 : w5.cell? ⟨w.heap.size + 2, 0, none⟩ = some (.int .i64 0) := by rw [cell_of_row w5 _ 0 _ _ _ hob5]; rfl
      have r1 : w5.cell? ⟨w.heap.size + 2, 1, none⟩ = some (.string { data := #[] }) := by rw [cell_of_row w5 _ 1 _ _ _ hob5]; rfl
      have r2 : w5.cell? ⟨w.heap.size + 2, 2, none⟩ = some (.int .i64 0) := by rw [cell_of_row w5 _ 2 _ _ _ hob5]; rfl
      have r3 : w5.cell? ⟨w.heap.size + 2, 3, none⟩ = some (.slice none 0 0) := by rw [cell_of_row w5 _ 3 _ _ _ hob5]; rfl
      have r4 : w5.cell? ⟨w.heap.size + 2, 4, none⟩ = some (.slice none 0 0) := by rw [cell_of_row w5 _ 4 _ _ _ hob5]; rfl
      have hplr : Plain w5 (w.heap.size + 2) := ⟨_, _, hob5⟩
      have t0 := hplr.frozen 0
      have t1 := hplr.frozen 1
      have t2 := hplr.frozen 2
      have t3 := hplr.frozen 3
      have t4 := hplr.frozen 4
      refine upto_one (i := 12) (by kernel_rfl) rfl (fun K' hK => ?_)
      go_simp
      refine hK.out _ _ (.inl rfl) ?_
      clear hK K'
      refine upto_done (by kernel_rfl) ?_ _
      have hbg := MadeMid.begin (T := 26) (w := w) (V := w5) (ob := w.heap.size + 2) (a := a) (cap := cap) (m := ks.length) (kd := k) (nm := nm) (n := n) (c3 := .slice sa2 sc.length scap2) (sc := sc) ((hb0.trans (hbe2.mono (by omega))).grown hg5 (by first | omega | (simp; omega)) (fun k hk => by simp at hk; omega))
        (by omega) hp5.2.2.2.2 hz5 hob5 (by omega)
        (hi5.mono (fun k hk => ⟨by rcases hk.1 with h | h <;> (try simp at h) <;> omega, hk.2, by rcases hk.1 with h | h <;> (try simp at h) <;> omega, by rcases hk.1 with h | h <;> (try simp at h) <;> omega⟩))
      unfold set5 at hbg
      simp only [Nat.zero_add] at hbg
      exact HC.out (w.heap.size + 3) _ _ sa2 scap2 _ hbg ⟨ownsRow_same (ownsRow_lo hq5.1 (by omega)) (fun q hq => by
          rw [Below.heap_setCell _ _ _ _ (show q ≠ w.heap.size + 2 by rcases hq5.2 q hq with h | h <;> (try simp at h) <;> omega), Below.heap_setCell _ _ _ _ (show q ≠ w.heap.size + 2 by rcases hq5.2 q hq with h | h <;> (try simp at h) <;> omega), Below.heap_setCell _ _ _ _ (show q ≠ w.heap.size + 2 by rcases hq5.2 q hq with h | h <;> (try simp at h) <;> omega), Below.heap_setCell _ _ _ _ (show q ≠ w.heap.size + 2 by rcases hq5.2 q hq with h | h <;> (try simp at h) <;> omega), Below.heap_setCell _ _ _ _ (show q ≠ w.heap.size + 2 by rcases hq5.2 q hq with h | h <;> (try simp at h) <;> omega)]), fun q hq => by have h1 := hq5.1.lt q hq; exact ⟨by omega, by rcases hq5.2 q hq with h | h <;> (try simp at h) <;> omega, by omega⟩⟩
end
end Go.Proofs.Ytcckhcedfmadeaa
namespace Go.Proofs.Ytcckhcedfmadeaa
section
open Go.RowKit
set_option linter.unusedVariables false
set_option linter.unusedSimpArgs false
theorem wpList_append_ints2 {P : Program} {w : World} {ops : Array Oper} {rest : List Oper} {o : Oper} {a : Act} {Q : Exit → Act → World → Prop} (hgd : o.guard = none) (s x : Operand) (t e : TypeId)
    (ho : o.op = .call { callee := .builtin .append, args := #[s, x], argTypes := #[t, t] }) (i : TypeInfo) (ht : P.underlying t = some (.slice e)) (hi : P.info? e = some i) (hz : i.zero = some (.int .i64 0)) (hsize : i.size = 1) (hby : i.bytes = 8)
    (base eb : Nat) (sc : List Int) (sa : Option Addr) (scap : Nat) (φ : Nat → Prop) (hs : a.eval s = .slice (some ⟨eb, 0, none⟩) 0 0) (hx : a.eval x = .slice sa sc.length scap) (hv : IntRow φ w (.slice sa sc.length scap) sc)
    (hl : sc.length ≤ 1048576) (hown : w.ownsRow base e 1 (.slice (some ⟨eb, 0, none⟩) 0 0) 0 []) (hbase : base ≤ w.heap.size)
    (h : ∀ sa' scap' w', w.grownBy w' (some eb) → IntRow (fun k => (k = eb ∨ k = w.heap.size) ∧ k < w'.heap.size) w' (.slice sa' sc.length scap') sc → (w'.ownsRow base e 1 (.slice sa' sc.length scap') sc.length (sc.map (Value.int .i64)) ∧ ∀ q, (Value.slice sa' sc.length scap').ownBlock = some q → q = eb ∨ q = w.heap.size) →
      wpList P ops Q rest (a.put o.dst (.slice sa' sc.length scap')) w') : wpList P ops Q (o :: rest) a w :=
  wpList_plain hgd fun K hK => wp_append_ints2 s x t e ho i ht hi hz hsize hby base eb sc sa scap φ hs hx hv hl hown hbase fun sa' scap' w' h1 h2 h3 => hK _ _ (h sa' scap' w' h1 h2 h3)
def setsD : List (List Int) := [[], [1], [2], [1, 2], [1, 3], [1, 2, 3], [99]]
theorem setsD_size : ∀ l ∈ setsD, l.length ≤ 3 ∧ ∀ n ∈ l, 0 ≤ n ∧ n ≤ 999 := by decide
theorem frozen_at {w : World} {lo g n cap size : Nat} {T : TypeId} {xs : List Value} (h : w.ownsRow lo T size (.slice (some ⟨g, 0, none⟩) n cap) n xs) (i : Nat) : w.frozen? ⟨g, i, none⟩ = false := (ownsRow_plain h).frozen i
theorem cells_at {w : World} {lo g n cap size : Nat} {T : TypeId} {xs : List Value} (h : w.ownsRow lo T size (.slice (some ⟨g, 0, none⟩) n cap) n xs) {j : Nat} {u : Value} (hu : xs[j]? = some u) : w.cell? ⟨g, j, none⟩ = some u := by
  have := h.cells (g := g) rfl j u hu
  have hadd : (⟨g, 0, none⟩ : Addr).add j = ⟨g, j, none⟩ := by unfold Addr.add; split <;> simp_all
  rwa [hadd] at this
/-- a form with scopes drawn for its names -/
structure DrR (f F : Fm) : Prop where
  count : F.count ≤ f.count
  slim : ∀ g ∈ F.pre, g.name.size ≤ 13 ∧ g.scopes.length ≤ 3
  kind : F.kind = f.kind
  name : F.name = f.name
  n : F.n = f.n
  kids : F.kids.length = f.kids.length
  set : f.kind = 1 → F.scopes ∈ setsD
  keep : f.kind ≠ 1 → F.scopes = f.scopes
theorem DrR.of {f : Fm} {sc : List Int} {gs : List Fm} (hn : f.name.size ≤ 13) (hs : sc.length ≤ 3) (h : SlimAll (countAll f.kids) 13 3 gs) (hl : gs.length = f.kids.length) (h1 : f.kind = 1 → sc ∈ setsD) (h2 : f.kind ≠ 1 → sc = f.scopes) : DrR f (.mk f.kind f.name f.n sc gs) := by
  have := Slim.node (kd := f.kind) (n := f.n) hn hs h
  exact ⟨by rw [count_eq f]; exact this.1, this.2, rfl, rfl, rfl, hl, h1, h2⟩
theorem drop_of {gs ks : List Fm} {j : Nat} (h : ∀ k, j ≤ k → gs[k]? = ks[k]?) (hj : j < ks.length) : ∃ h' : j < gs.length, gs[j] = ks[j] := by
  have h1 := h j (Nat.le_refl _)
  rw [List.getElem?_eq_getElem hj] at h1
  obtain ⟨h2, h3⟩ := List.getElem?_eq_some_iff.1 h1
  exact ⟨h2, h3⟩
set_option maxRecDepth 100000 in
set_option maxHeartbeats 8000000 in
theorem l1Dress_aux (N : Nat) : ∀ (f : Fm) (v : Value) (B b p : Nat) (w : World), f.count ≤ N → Rd B w b p → p + f.count ≤ 300000 → InV (· < w.heap.size) w f v → f.sz ≤ 1048576 → (∀ g ∈ f.pre, g.name.size ≤ 13 ∧ g.scopes.length ≤ 3) →
    Calls Try.prog 53 #[.pointer (some ⟨b, 0, none⟩), v] w (SomePost B b p f.count (DrR f) w) := by
  induction N with
  | zero => intro f v B b p w h; have := f.count_pos; omega
  | succ N ih =>
    intro f v B b p w hN hr hp hv hsz hslim
    have HIH := Lib.hid ih
    have HV := Lib.hid hv
    have HSL := Lib.hid hslim
    have HBD := Lib.hid hv.bounds
    have hbw := hr.lt
    have hBb := hr.1
    have hce := count_eq f
    have hkl : f.kids.length ≤ 1048576 := Nat.le_trans (sz_scopes f).2 hsz
    obtain ⟨sa, scap, a, cap, rfl⟩ := hv.form
    have hhead := hslim f (by rw [pre_eq]; simp)
    have HHEAD := Lib.hid hhead
    have hb0 : Below w.heap.size w ((w.alloc (.cells #[.int .i64 f.kind, .string f.name, .int .i64 f.n, .slice sa f.scopes.length scap, .slice a f.kids.length cap] 26)).alloc (.cells #[.int .i64 0, .string { data := #[] }, .int .i64 0, .slice none 0 0, .slice none 0 0] 26)) := (below_alloc w _).alloc (by simp) _
    have HB0 := Lib.hid hb0
    have hz0 := heap_alloc_new (w.alloc (.cells #[.int .i64 f.kind, .string f.name, .int .i64 f.n, .slice sa f.scopes.length scap, .slice a f.kids.length cap] 26)) (.cells #[.int .i64 0, .string { data := #[] }, .int .i64 0, .slice none 0 0, .slice none 0 0] 26)
    rw [size_alloc'] at hz0
    have HZ0 := Lib.hid hz0
    have HX0 := Lib.hid ((FormBox.fresh w f sa a scap cap 26).later (below_alloc (w.alloc (.cells #[.int .i64 f.kind, .string f.name, .int .i64 f.n, .slice sa f.scopes.length scap, .slice a f.kids.length cap] 26)) (.cells #[.int .i64 0, .string { data := #[] }, .int .i64 0, .slice none 0 0, .slice none 0 0] 26)))
    have HR0 := Lib.hid (hr.later hb0)
    obtain ⟨i0, hi0, hzz0, hzz1, hzz2⟩ := info_parts Try.infoFm
    obtain ⟨l0, hl0, hlz0, hlz1, hlz2⟩ := info_parts Try.infoInt
    clear hv hslim hb0 hz0 hr ih hhead
    go_enter Try.func53, Try.ntmps53
    go_wp2_with fail
    refine (specCopyT_any w.heap.size f _ _ (by simp; omega) (InV.later (same_below HB0.out) _ _ HV.out) hsz).mono ?_
    rintro e w2 ⟨ca, ccap, ka, kcap, xs0, rfl, ht, hb2⟩
    rw [size_alloc', size_alloc'] at ht
    have hs2 : w.heap.size + 1 + 1 ≤ w2.heap.size := by have := hb2.size; simpa using this
    have HT := Lib.hid ht
    have HZ2 := Lib.hid ((hb2.block _ (by simp)).trans HZ0.out)
    have HK2 : Hid (Kept b 1 2 w w2) := (Kept.of_below HB0.out hbw).later hb2 hbw
    have HR2 := Lib.hid (HR0.out.later hb2)
    have HD0 := Lib.hid (DressMid.start (T := 26) (U := 3) (O := 0) ht HZ2.out HK2.out HR2.out hbw (show w.heap.size ≤ w.heap.size + 1 by omega) (Nat.lt_succ_self _) hs2)
    have HX2 := Lib.hid ((HX0.out.later hb2).later (below_alloc w2 (.cells #[.int .i64 f.kind, .string f.name, .int .i64 f.n, .slice ca f.scopes.length ccap, .slice ka f.kids.length kcap] 26)))
    have hs3 : (w2.alloc (.cells #[.int .i64 f.kind, .string f.name, .int .i64 f.n, .slice ca f.scopes.length ccap, .slice ka f.kids.length kcap] 26)).heap.size = w2.heap.size + 1 := size_alloc' _ _
    obtain ⟨w3, hw3⟩ : ∃ w3, w3 = w2.alloc (.cells #[.int .i64 f.kind, .string f.name, .int .i64 f.n, .slice ca f.scopes.length ccap, .slice ka f.kids.length kcap] 26) := ⟨_, rfl⟩
    rw [← hw3] at HD0 HX2 hs3
    have HW3 := Lib.hid hw3
    clear hw3 ht hb2
    obtain ⟨x0, x1, x2, x3, x4⟩ := HX2.out
    by_cases hk : f.kind = 1
    · have hk1 : (f.kind == 1) = true := by simp [hk]
      have HK := Lib.hid hk
      clear hk
      rw [HW3.out] at x0 x1 x2 x3 x4
      obtain ⟨W8, hW8a⟩ : ∃ W8, W8 = (((((((w3.alloc (.cells #[] 3)).alloc (.cells #[.int .i64 1] 3)).alloc (.cells #[.int .i64 2] 3)).alloc (.cells #[.int .i64 1, .int .i64 2] 3)).alloc
          (.cells #[.int .i64 1, .int .i64 3] 3)).alloc (.cells #[.int .i64 1, .int .i64 2, .int .i64 3] 3)).alloc (.cells #[.int .i64 99] 3)).alloc
          (.cells #[.slice (some ⟨w2.heap.size + 1, 0, none⟩) 0 0, .slice (some ⟨w2.heap.size + 1 + 1, 0, none⟩) 1 1, .slice (some ⟨w2.heap.size + 1 + 1 + 1, 0, none⟩) 1 1,
            .slice (some ⟨w2.heap.size + 1 + 1 + 1 + 1, 0, none⟩) 2 2, .slice (some ⟨w2.heap.size + 1 + 1 + 1 + 1 + 1, 0, none⟩) 2 2, .slice (some ⟨w2.heap.size + 1 + 1 + 1 + 1 + 1 + 1, 0, none⟩) 3 3,
            .slice (some ⟨w2.heap.size + 1 + 1 + 1 + 1 + 1 + 1 + 1, 0, none⟩) 1 1] 23) := ⟨_, rfl⟩
      have hW8 := hW8a
      rw [← hs3] at hW8
      obtain ⟨hV, hB8, hz8⟩ := sets7 w3 3 23 [] [1] [2] [1, 2] [1, 3] [1, 2, 3] [99] (by decide) W8 hW8
      rw [hs3] at hV
      obtain ⟨V, hV⟩ := Classical.axiomOfChoice hV
      have HVV := Lib.hid hV
      have HB8 := Lib.hid hB8
      have HW8 := Lib.hid hW8a
      clear hV hB8 hW8 hW8a
      have hbE := below_alloc W8 (.cells #[] 3)
      have hownE : (W8.alloc (.cells #[] 3)).ownsRow (w2.heap.size + 1) 3 1 (.slice (some ⟨w2.heap.size + 1 + 1 + 1 + 1 + 1 + 1 + 1 + 1 + 1, 0, none⟩) 0 0) 0 [] := by
        have := World.ownsRow_lit (base := w2.heap.size + 1) (e := 3) (size := 1) W8 #[] 0 (by omega) (by unfold maxLen; omega) (by simp)
        rw [show W8.heap.size = w2.heap.size + 1 + 1 + 1 + 1 + 1 + 1 + 1 + 1 + 1 by omega] at this
        exact this
      have hzE : (W8.alloc (.cells #[] 3)).heap.size = w2.heap.size + 10 := by rw [size_alloc']; omega
      have HBE := Lib.hid hbE
      have HOE := Lib.hid hownE
      clear hbE hownE
      go_wp2_with fail
      rw [← HW3.out, ← HW8.out]
      refine (pick_any b p 7 _ ((HD0.out.rd.later HB8.out).later HBE.out) (by omega) (by omega) (by omega)).mono ?_
      rintro e w10 ⟨i, hi, rfl, hr10, hk10⟩
      have hs10 : w2.heap.size + 10 ≤ w10.heap.size := by have := hk10.size; omega
      obtain ⟨hcV, hmV, hiV, c, heV⟩ := HVV.out i hi
      obtain ⟨l, hl⟩ : ∃ l, (V i).2 = l := ⟨_, rfl⟩
      rw [hl] at hmV hiV heV
      rw [heV] at hcV hiV
      have hlen := setsD_size l hmV
      have hci : w10.cell? ⟨w2.heap.size + 1 + 1 + 1 + 1 + 1 + 1 + 1 + 1, i, none⟩ = some (.slice c l.length l.length) := kept_cell hk10 (cell_later' HBE.out hcV) (by omega)
      have hI : (i : Int) < 7 := by omega
      have hrow : IntRow (fun k => w2.heap.size + 1 ≤ k ∧ k < W8.heap.size) w10 (.slice c l.length l.length) l := by
        refine (hiV.later (w' := w10) (fun k hk => ?_)).mono fun k hk => by omega
        rw [hk10.block k (by omega) (by omega)]
        exact HBE.out.block k hk.2
      have hown10 : w10.ownsRow (w2.heap.size + 1) 3 1 (.slice (some ⟨w2.heap.size + 1 + 1 + 1 + 1 + 1 + 1 + 1 + 1 + 1, 0, none⟩) 0 0) 0 [] := ownsRow_same HOE.out fun k e => by
        have := HOE.out.lt k e
        exact hk10.block k this.2 (by omega)
      have hk310 : Kept b 1 2 w3 w10 := (Kept.of_below (HB8.out.trans (HBE.out.mono (by omega))) (by omega)).trans hk10
      have HD10 := Lib.hid (HD0.out.keep hk310 hr10)
      have HK310 := Lib.hid hk310
      have HR10 := Lib.hid hr10
      have HROW := Lib.hid hrow
      have HO10 := Lib.hid hown10
      have HMV : Hid (l ∈ setsD) := hmV
      have HLEN := Lib.hid hlen
      have hl3 : l.length ≤ 3 := hlen.1
      clear hk10 hr10 hrow hown10 hk310 hcV hiV heV hmV hlen hl x0 x1 x2 x3 x4
      go_wp2_with (at_builtin; refine wpList_append_ints2 rfl _ _ 23 3 rfl l0 Try.underlying23 hl0 hlz0 hlz1 hlz2 (w2.heap.size + 1) (w2.heap.size + 1 + 1 + 1 + 1 + 1 + 1 + 1 + 1 + 1) l c l.length _ rfl rfl HROW.out (by omega) HO10.out (by omega) ?_; intro sa3 scap3 w11 hg11 hi11 hq11; have hc3 : w11.cell? ⟨w2.heap.size, 3, none⟩ = some (.slice ca f.scopes.length ccap) := (World.cell?_of_block (a := ⟨w2.heap.size, 3, none⟩) (hg11.block w2.heap.size (by omega) (by simp; omega))).trans HD10.out.o3; have hf3 : w11.frozen? ⟨w2.heap.size, 3, none⟩ = false := (World.frozen?_of_block (a := ⟨w2.heap.size, 3, none⟩) (hg11.block w2.heap.size (by omega) (by simp; omega))).trans (HD10.out.free 3))
      have hs11 := hg11.size
      have hk311 : Kept b 1 2 w3 w11 := ⟨hg11.os.trans HK310.out.os, hg11.tape.trans HK310.out.tape, hg11.output.trans HK310.out.output, by omega, fun k h1 h2 => (hg11.block k (by omega) (by simp; omega)).trans (HK310.out.block k h1 h2),
        fun o ho => (World.cell?_of_block (a := ⟨b, o, none⟩) (hg11.block b (by omega) (by simp; omega))).trans (HK310.out.cell o ho), fun o => (World.frozen?_of_block (a := ⟨b, o, none⟩) (hg11.block b (by omega) (by simp; omega))).trans (HK310.out.frozen o)⟩
      have hr11 : Rd B w11 b (p + 1) := HR10.out.same fun k hk => hg11.block k (by omega) (by simp; omega)
      have hD11 := HD0.out.keep hk311 hr11
      have HDS := Lib.hid (hD11.setScopes hq11.1)
      have HSC : Hid (l.length ≤ 3 ∧ (∀ n ∈ l, -9223372036854775808 ≤ n ∧ n ≤ 9223372036854775807) ∧ (f.kind = 1 → l ∈ setsD) ∧ (f.kind ≠ 1 → l = f.scopes)) := ⟨hl3, fun n hn => by have := HLEN.out.2 n hn; omega, fun _ => HMV.out, fun h => absurd HK.out h⟩
      clear hD11 hk311 hr11 hg11 hi11 hq11 hc3 hf3 hci hI
      go_loopw [7] (fun i wr => ∃ (j : Nat) (gs : List Fm) (xs : List Value) (q hi : Nat), i = .int .i64 j ∧ j ≤ f.kids.length ∧ gs.length = f.kids.length ∧ (∀ k, j ≤ k → gs[k]? = f.kids[k]?) ∧ SlimAll (countAll f.kids) 13 3 gs ∧ q ≤ (p + 1) + countAll (f.kids.take j) ∧
        DressMid 26 3 B b w wr (w.heap.size + 1) w2.heap.size (w.heap.size + 1 + 1) hi q f.kind f.name f.n l gs sa3 scap3 ka kcap xs) (fun i _ => f.kids.length - (intOf i).toNat)
      case atStart => exact ⟨0, f.kids, xs0, _, _, rfl, Nat.zero_le _, rfl, fun _ _ => rfl, ⟨Nat.le_refl _, fun g hg => HSL.out g (by rw [pre_eq]; exact List.mem_cons_of_mem _ hg)⟩, Nat.le_add_right _ _, HDS.out⟩
      case round =>
        obtain ⟨j, gs, xs, q, hi, rfl, hj, hgl, hdrop, hsl, hq, hm⟩ := hrel
        have HM := Lib.hid hm
        have HDR := Lib.hid hdrop
        have HSG := Lib.hid hsl
        have HQ := Lib.hid hq
        have HGL := Lib.hid hgl
        obtain ⟨f1, f2, f3, f4, f5, f6⟩ := hm.fix
        have ho0 := hm.o0
        have ho1 := hm.o1
        have ho2 := hm.o2
        have ho3 := hm.o3
        have ho4 := hm.o4
        by_cases hlt : j < f.kids.length
        · obtain ⟨hjg, hkid⟩ := drop_of hdrop hlt
          obtain ⟨g, rfl⟩ : ∃ g, ka = some ⟨g, 0, none⟩ := by
            rcases hm.krow.2 with ⟨_, h0⟩ | ⟨g, cp, cur, e, _⟩
            · omega
            · injection e with e1 _ _; exact ⟨g, e1⟩
          obtain ⟨c0, c1, c2, c3, c4, q0, q1, q2, q3, q4, hin⟩ := RowVals.at j hjg hm.vals
          replace q0 := cells_at hm.krow q0
          replace q1 := cells_at hm.krow q1
          replace q2 := cells_at hm.krow q2
          replace q3 := cells_at hm.krow q3
          replace q4 := cells_at hm.krow q4
          obtain ⟨G0, hG0⟩ : ∃ G0, gs[j] = G0 := ⟨_, rfl⟩
          rw [hG0] at hin hkid
          have hin2 : InV (· < wr.heap.size) wr G0 (.agg #[c0, c1, c2, c3, c4]) := InV.mono (fun k hk => by omega) _ _ hin
          obtain ⟨sa1, scap1, a1, cap1, e⟩ := hin2.form
          simp only [Value.agg.injEq, Array.mk.injEq, List.cons.injEq, and_true] at e
          obtain ⟨rfl, rfl, rfl, rfl, rfl⟩ := e
          have hgnk := hm.nk g rfl
          have hglt := hm.krow.lt g rfl
          have HIN := Lib.hid hin2
          have hmem : G0 ∈ f.kids := by rw [hkid]; exact List.getElem_mem hlt
          have HC1 : Hid (G0.count ≤ N) := by have h1 := count_mem hmem; unfold Hid; omega
          have HC2 : Hid (G0.sz ≤ 1048576) := Nat.le_trans (sz_kid hmem) hsz
          have HC3 : Hid (∀ g ∈ G0.pre, g.name.size ≤ 13 ∧ g.scopes.length ≤ 3) := fun x hx => HSL.out x (by rw [pre_eq]; exact List.mem_cons_of_mem _ (mem_preAll'.2 ⟨G0, hmem, hx⟩))
          have HTK : Hid (countAll (f.kids.take (j + 1)) = countAll (f.kids.take j) + G0.count ∧ countAll (f.kids.take (j + 1)) ≤ countAll f.kids) := ⟨by rw [countAll_take_succ _ j hlt, ← hkid], countAll_take_le _ _⟩
          have HG0 := Lib.hid hG0
          have hj0 : (0 : Int) ≤ (j : Int) := by omega
          have hj1 : (j : Int) < (gs.length : Int) := by omega
          clear hm hdrop hsl hq hin hin2 hmem hkid hG0 hgl
          go_wp2_with fail
          have hS0 : KidHeld w2.heap.size w2.heap.size g (j * 5) (.slice (some ⟨g, 0, none⟩) gs.length kcap) (.slice (some ⟨g, 0, none⟩) gs.length kcap) (.int .i64 G0.kind) (.string G0.name) (.int .i64 G0.n) (.slice sa1 G0.scopes.length scap1) (.slice a1 G0.kids.length cap1) wr.drew := ⟨ho4, ho4, q0, q1, q2, q3, q4⟩
          refine upto_begin (KidHeld w2.heap.size w2.heap.size g (j * 5) (.slice (some ⟨g, 0, none⟩) gs.length kcap) (.slice (some ⟨g, 0, none⟩) gs.length kcap) (.int .i64 G0.kind) (.string G0.name) (.int .i64 G0.n) (.slice sa1 G0.scopes.length scap1) (.slice a1 G0.kids.length cap1)) 11 (by kernel_rfl) ?_
          refine upto_take (i := 0) (d := some 38) (v := ?_) rfl rfl (by kernel_rfl) (by kernel_rfl) (by kernel_rfl) (by kernel_rfl) (fun _ _ _ h => h) (Or.inl ⟨by rfl, ?_⟩) hS0 ?_
          rotate_left
          · (intro wS hSw; obtain ⟨_, _, _, _, _, _, _⟩ := hSw; go_simp; try with_reducible rfl)
          try simp only [Act.put, List.setIfInBounds_toArray, List.set_cons_zero, List.set_cons_succ]
          refine upto_take (i := 1) (d := some 39) (v := ?_) rfl rfl (by kernel_rfl) (by kernel_rfl) (by kernel_rfl) (by kernel_rfl) (fun _ _ _ h => h) (Or.inl ⟨by rfl, ?_⟩) hS0 ?_
          rotate_left
          · (intro wS hSw; obtain ⟨_, _, _, _, _, _, _⟩ := hSw; go_simp; try with_reducible rfl)
          try simp only [Act.put, List.setIfInBounds_toArray, List.set_cons_zero, List.set_cons_succ]
          refine upto_take (i := 2) (d := some 40) (v := ?_) rfl rfl (by kernel_rfl) (by kernel_rfl) (by kernel_rfl) (by kernel_rfl) (fun _ _ _ h => h) (Or.inl ⟨by rfl, ?_⟩) hS0 ?_
          rotate_left
          · (intro wS hSw; obtain ⟨_, _, _, _, _, _, _⟩ := hSw; go_simp; try with_reducible rfl)
          try simp only [Act.put, List.setIfInBounds_toArray, List.set_cons_zero, List.set_cons_succ]
          refine upto_take (i := 3) (d := some 41) (v := ?_) rfl rfl (by kernel_rfl) (by kernel_rfl) (by kernel_rfl) (by kernel_rfl) (fun _ _ _ h => h) (Or.inl ⟨by rfl, ?_⟩) hS0 ?_
          rotate_left
          · (intro wS hSw; obtain ⟨_, _, _, _, _, _, _⟩ := hSw; go_simp; try with_reducible rfl)
          try simp only [Act.put, List.setIfInBounds_toArray, List.set_cons_zero, List.set_cons_succ]
          refine upto_take (i := 4) (d := some 42) (v := ?_) rfl rfl (by kernel_rfl) (by kernel_rfl) (by kernel_rfl) (by kernel_rfl) (fun _ _ _ h => h) (Or.inl ⟨by rfl, ?_⟩) hS0 ?_
          rotate_left
          · (intro wS hSw; obtain ⟨_, _, _, _, _, _, _⟩ := hSw; go_simp; try with_reducible rfl)
          try simp only [Act.put, List.setIfInBounds_toArray, List.set_cons_zero, List.set_cons_succ]
          refine upto_take (i := 5) (d := some 43) (v := ?_) rfl rfl (by kernel_rfl) (by kernel_rfl) (by kernel_rfl) (by kernel_rfl) (fun _ _ _ h => h) (Or.inl ⟨by rfl, ?_⟩) hS0 ?_
          rotate_left
          · (intro wS hSw; obtain ⟨_, _, _, _, _, _, _⟩ := hSw; go_simp; try with_reducible rfl)
          try simp only [Act.put, List.setIfInBounds_toArray, List.set_cons_zero, List.set_cons_succ]
          refine upto_take (i := 6) (d := some 44) (v := ?_) rfl rfl (by kernel_rfl) (by kernel_rfl) (by kernel_rfl) (by kernel_rfl) (fun _ _ _ h => h) (Or.inl ⟨by rfl, ?_⟩) hS0 ?_
          rotate_left
          · (intro wS hSw; obtain ⟨_, _, _, _, _, _, _⟩ := hSw; go_simp; try with_reducible rfl)
          try simp only [Act.put, List.setIfInBounds_toArray, List.set_cons_zero, List.set_cons_succ]
          refine upto_take (i := 7) (d := some 45) (v := ?_) rfl rfl (by kernel_rfl) (by kernel_rfl) (by kernel_rfl) (by kernel_rfl) (fun _ _ _ h => h) (Or.inl ⟨by rfl, ?_⟩) hS0 ?_
          rotate_left
          · (intro wS hSw; obtain ⟨_, _, _, _, _, _, _⟩ := hSw; go_simp; try with_reducible rfl)
          try simp only [Act.put, List.setIfInBounds_toArray, List.set_cons_zero, List.set_cons_succ]
          refine upto_take (i := 8) (d := some 46) (v := ?_) rfl rfl (by kernel_rfl) (by kernel_rfl) (by kernel_rfl) (by kernel_rfl) (fun _ _ _ h => h) (Or.inl ⟨by rfl, ?_⟩) hS0 ?_
          rotate_left
          · (intro wS hSw; obtain ⟨_, _, _, _, _, _, _⟩ := hSw; go_simp; try with_reducible rfl)
          try simp only [Act.put, List.setIfInBounds_toArray, List.set_cons_zero, List.set_cons_succ]
          refine upto_one (i := 9) (by kernel_rfl) rfl (fun K hK => ?_)
          go_simp
          refine (HIH.out G0 _ B b q wr.drew HC1.out HM.out.rd.drew (by have h1 := HQ.out; have h2 := HTK.out; omega) (InV.later (w := wr) (w' := wr.drew) (fun _ _ => rfl) _ _ HIN.out) HC2.out HC3.out).mono ?_
          rintro e w1 ⟨G, kv, p', rfl, hkv, hGs, hp', hr1, hk1⟩
          obtain ⟨ksa, kscap, kna, kncap, rfl⟩ := hkv.form
          have hk1' : Kept b 1 2 wr w1 := ((Kept.refl b 1 2 wr).drew).trans hk1
          have hS1 := KidHeld.keep (w := wr) (w' := w1) hS0 (fun k hk => hk1'.block k (by rcases hk with rfl | rfl | rfl <;> omega) (by rcases hk with rfl | rfl | rfl <;> omega))
          have HKV : Hid (InV (fun k => wr.heap.size ≤ k ∧ k < w1.heap.size) w1 G (.agg #[.int .i64 G.kind, .string G.name, .int .i64 G.n, .slice ksa G.scopes.length kscap, .slice kna G.kids.length kncap])) := hkv
          refine hK.out _ _ (.inr hS1) ?_
          have hM1 := HM.out.keep hk1' hr1
          have hn := hM1.setKid (i := j) hjg HKV.out (fun k hk => by omega)
          have hnext : ∃ (j' : Nat) (gs' : List Fm) (xs' : List Value) (q' hi' : Nat), (.int .i64 ((j : Int) + 1) : Value) = .int .i64 j' ∧ j' ≤ f.kids.length ∧ gs'.length = f.kids.length ∧ (∀ k, j' ≤ k → gs'[k]? = f.kids[k]?) ∧ SlimAll (countAll f.kids) 13 3 gs' ∧ q' ≤ (p + 1) + countAll (f.kids.take j') ∧
              DressMid 26 3 B b w (set5 w1 g (j * 5) (.int .i64 G.kind) (.string G.name) (.int .i64 G.n) (.slice ksa G.scopes.length kscap) (.slice kna G.kids.length kncap)) (w.heap.size + 1) w2.heap.size (w.heap.size + 1 + 1) hi' q' f.kind f.name f.n l gs' sa3 scap3 (some ⟨g, 0, none⟩) kcap xs' := by
            refine ⟨j + 1, gs.set j G, _, p', _, by go_num, by omega, by rw [List.length_set]; exact HGL.out, fun k hk => ?_, HSG.out.set hjg (by rw [HG0.out]; exact hGs.count) hGs.slim, by have h1 := HQ.out; have h2 := HTK.out; omega, hn⟩
            rw [List.getElem?_set_ne (by omega)]
            exact HDR.out k (by omega)
          unfold set5 at hnext
          have HNEXT := Lib.hid hnext
          have t0 := frozen_at hM1.krow (j * 5)
          have t1 := frozen_at hM1.krow (j * 5 + 1)
          have t2 := frozen_at hM1.krow (j * 5 + 2)
          have t3 := frozen_at hM1.krow (j * 5 + 3)
          have t4 := frozen_at hM1.krow (j * 5 + 4)
          clear hK K hkv hGs hp' hr1 hk1 hk1' hM1 hn hnext
          refine upto_one (i := 10) (by kernel_rfl) rfl (fun K hK => ?_)
          go_simp
          refine hK.out _ _ (.inr hS1) ?_
          clear hK K
          obtain ⟨u0, u00, u1, u2, u3, u4, u5⟩ := hS1
          refine upto_one (i := 11) (by kernel_rfl) rfl (fun K hK => ?_)
          go_simp
          refine hK.out _ _ (.inl rfl) ?_
          clear hK K
          refine upto_done (by kernel_rfl) ?_ _
          clear u0 u00 u1 u2 u3 u4 u5 t0 t1 t2 t3 t4
          go_wp2_with fail
          go_roundw
          case rel => exact HNEXT.out
          case measure => simp [intOf]; omega
        · have hjl : j = f.kids.length := by omega
          subst hjl
          have hnb : ¬ ((f.kids.length : Int) < (gs.length : Int)) := by omega
          obtain ⟨r0, r1, r2, r3, r4, t0, t1, t2, t3, t4⟩ := zeroFacts hm.zero
          have hth := Lib.hid (zeroThere hm.zero)
          have HEND := Lib.hid (hm.ends HBD.out.1 HBD.out.2.1 HBD.out.2.2 HSC.out.2.1)
          clear hm hdrop hsl hq hgl
          go_wp2_with fail
          obtain ⟨z0, z1, z2, z3, z4⟩ := set5_in wr (w.heap.size + 1) 0 (.int .i64 f.kind) (.string f.name) (.int .i64 f.n) (.slice sa3 l.length scap3) (.slice ka gs.length kcap) hth.out
          have hss : Same (fun k => w.heap.size ≤ k ∧ k < wr.heap.size ∧ k ≠ w.heap.size + 1) wr (set5 wr (w.heap.size + 1) 0 (.int .i64 f.kind) (.string f.name) (.int .i64 f.n) (.slice sa3 l.length scap3) (.slice ka gs.length kcap)) :=
            fun c hc => set5_block _ _ _ _ _ _ _ _ hc.2.2
          have hz5 := set5_size wr (w.heap.size + 1) 0 (.int .i64 f.kind) (.string f.name) (.int .i64 f.n) (.slice sa3 l.length scap3) (.slice ka gs.length kcap)
          have hin5 := InV.mono (ψ := fun k' => w.heap.size ≤ k' ∧ k' < (set5 wr (w.heap.size + 1) 0 (.int .i64 f.kind) (.string f.name) (.int .i64 f.n) (.slice sa3 l.length scap3) (.slice ka gs.length kcap)).heap.size) (fun k' hk => ⟨hk.1, by rw [hz5]; exact hk.2.1⟩) _ _ (InV.later hss _ _ HEND.out)
          have hr5 : Rd B (set5 wr (w.heap.size + 1) 0 (.int .i64 f.kind) (.string f.name) (.int .i64 f.n) (.slice sa3 l.length scap3) (.slice ka gs.length kcap)) b q := by
            unfold set5
            exact ((((HM.out.rd.setOther (by omega) (by omega)).setOther (by omega) (by omega)).setOther (by omega) (by omega)).setOther (by omega) (by omega)).setOther (by omega) (by omega)
          have hk5 : Kept b 1 2 w (set5 wr (w.heap.size + 1) 0 (.int .i64 f.kind) (.string f.name) (.int .i64 f.n) (.slice sa3 l.length scap3) (.slice ka gs.length kcap)) := by
            unfold set5
            exact ((((HM.out.kept.setNew (by omega) (by omega)).setNew (by omega) (by omega)).setNew (by omega) (by omega)).setNew (by omega) (by omega)).setNew (by omega) (by omega)
          unfold set5 at z0 z1 z2 z3 z4 hin5 hr5 hk5
          simp only [Nat.zero_add] at z0 z1 z2 z3 z4 hin5 hr5 hk5
          refine bodyPost_ret (v := .agg #[.int .i64 f.kind, .string f.name, .int .i64 f.n, .slice sa3 l.length scap3, .slice ka gs.length kcap]) (by simp [results, Try.results53, go_sem, z0, z1, z2, z3, z4]) rfl ?_
          refine ⟨.mk f.kind f.name f.n l gs, _, q, rfl, hin5, DrR.of HHEAD.out.1 HSC.out.1 HSG.out HGL.out HSC.out.2.2.1 HSC.out.2.2.2, ?_, hr5, hk5⟩
          have h1 := HQ.out
          rw [List.take_length] at h1
          omega
    · have hk1 : (f.kind == 1) = false := by simp [hk]
      have HDS := HD0
      have HSC : Hid (f.scopes.length ≤ 3 ∧ (∀ n ∈ f.scopes, -9223372036854775808 ≤ n ∧ n ≤ 9223372036854775807) ∧ (f.kind = 1 → f.scopes ∈ setsD) ∧ (f.kind ≠ 1 → f.scopes = f.scopes)) := ⟨HHEAD.out.2, HT.out.sb, fun h => absurd h hk, fun _ => rfl⟩
      clear hk
      rw [HW3.out] at x0 x1 x2 x3 x4
      go_wp2_with fail
      rw [← HW3.out]
      clear x0 x1 x2 x3 x4
      go_loopw [7] (fun i wr => ∃ (j : Nat) (gs : List Fm) (xs : List Value) (q hi : Nat), i = .int .i64 j ∧ j ≤ f.kids.length ∧ gs.length = f.kids.length ∧ (∀ k, j ≤ k → gs[k]? = f.kids[k]?) ∧ SlimAll (countAll f.kids) 13 3 gs ∧ q ≤ p + countAll (f.kids.take j) ∧
        DressMid 26 3 B b w wr (w.heap.size + 1) w2.heap.size (w.heap.size + 1 + 1) hi q f.kind f.name f.n f.scopes gs ca ccap ka kcap xs) (fun i _ => f.kids.length - (intOf i).toNat)
      case atStart => exact ⟨0, f.kids, xs0, _, _, rfl, Nat.zero_le _, rfl, fun _ _ => rfl, ⟨Nat.le_refl _, fun g hg => HSL.out g (by rw [pre_eq]; exact List.mem_cons_of_mem _ hg)⟩, Nat.le_add_right _ _, HDS.out⟩
      case round =>
        obtain ⟨j, gs, xs, q, hi, rfl, hj, hgl, hdrop, hsl, hq, hm⟩ := hrel
        have HM := Lib.hid hm
        have HDR := Lib.hid hdrop
        have HSG := Lib.hid hsl
        have HQ := Lib.hid hq
        have HGL := Lib.hid hgl
        obtain ⟨f1, f2, f3, f4, f5, f6⟩ := hm.fix
        have ho0 := hm.o0
        have ho1 := hm.o1
        have ho2 := hm.o2
        have ho3 := hm.o3
        have ho4 := hm.o4
        by_cases hlt : j < f.kids.length
        · obtain ⟨hjg, hkid⟩ := drop_of hdrop hlt
          obtain ⟨g, rfl⟩ : ∃ g, ka = some ⟨g, 0, none⟩ := by
            rcases hm.krow.2 with ⟨_, h0⟩ | ⟨g, cp, cur, e, _⟩
            · omega
            · injection e with e1 _ _; exact ⟨g, e1⟩
          obtain ⟨c0, c1, c2, c3, c4, q0, q1, q2, q3, q4, hin⟩ := RowVals.at j hjg hm.vals
          replace q0 := cells_at hm.krow q0
          replace q1 := cells_at hm.krow q1
          replace q2 := cells_at hm.krow q2
          replace q3 := cells_at hm.krow q3
          replace q4 := cells_at hm.krow q4
          obtain ⟨G0, hG0⟩ : ∃ G0, gs[j] = G0 := ⟨_, rfl⟩
          rw [hG0] at hin hkid
          have hin2 : InV (· < wr.heap.size) wr G0 (.agg #[c0, c1, c2, c3, c4]) := InV.mono (fun k hk => by omega) _ _ hin
          obtain ⟨sa1, scap1, a1, cap1, e⟩ := hin2.form
          simp only [Value.agg.injEq, Array.mk.injEq, List.cons.injEq, and_true] at e
          obtain ⟨rfl, rfl, rfl, rfl, rfl⟩ := e
          have hgnk := hm.nk g rfl
          have hglt := hm.krow.lt g rfl
          have HIN := Lib.hid hin2
          have hmem : G0 ∈ f.kids := by rw [hkid]; exact List.getElem_mem hlt
          have HC1 : Hid (G0.count ≤ N) := by have h1 := count_mem hmem; unfold Hid; omega
          have HC2 : Hid (G0.sz ≤ 1048576) := Nat.le_trans (sz_kid hmem) hsz
          have HC3 : Hid (∀ g ∈ G0.pre, g.name.size ≤ 13 ∧ g.scopes.length ≤ 3) := fun x hx => HSL.out x (by rw [pre_eq]; exact List.mem_cons_of_mem _ (mem_preAll'.2 ⟨G0, hmem, hx⟩))
          have HTK : Hid (countAll (f.kids.take (j + 1)) = countAll (f.kids.take j) + G0.count ∧ countAll (f.kids.take (j + 1)) ≤ countAll f.kids) := ⟨by rw [countAll_take_succ _ j hlt, ← hkid], countAll_take_le _ _⟩
          have HG0 := Lib.hid hG0
          have hj0 : (0 : Int) ≤ (j : Int) := by omega
          have hj1 : (j : Int) < (gs.length : Int) := by omega
          clear hm hdrop hsl hq hin hin2 hmem hkid hG0 hgl
          go_wp2_with fail
          have hS0 : KidHeld w2.heap.size w2.heap.size g (j * 5) (.slice (some ⟨g, 0, none⟩) gs.length kcap) (.slice (some ⟨g, 0, none⟩) gs.length kcap) (.int .i64 G0.kind) (.string G0.name) (.int .i64 G0.n) (.slice sa1 G0.scopes.length scap1) (.slice a1 G0.kids.length cap1) wr.drew := ⟨ho4, ho4, q0, q1, q2, q3, q4⟩
          refine upto_begin (KidHeld w2.heap.size w2.heap.size g (j * 5) (.slice (some ⟨g, 0, none⟩) gs.length kcap) (.slice (some ⟨g, 0, none⟩) gs.length kcap) (.int .i64 G0.kind) (.string G0.name) (.int .i64 G0.n) (.slice sa1 G0.scopes.length scap1) (.slice a1 G0.kids.length cap1)) 11 (by kernel_rfl) ?_
          refine upto_take (i := 0) (d := some 38) (v := ?_) rfl rfl (by kernel_rfl) (by kernel_rfl) (by kernel_rfl) (by kernel_rfl) (fun _ _ _ h => h) (Or.inl ⟨by rfl, ?_⟩) hS0 ?_
          rotate_left
          · (intro wS hSw; obtain ⟨_, _, _, _, _, _, _⟩ := hSw; go_simp; try with_reducible rfl)
          try simp only [Act.put, List.setIfInBounds_toArray, List.set_cons_zero, List.set_cons_succ]
          refine upto_take (i := 1) (d := some 39) (v := ?_) rfl rfl (by kernel_rfl) (by kernel_rfl) (by kernel_rfl) (by kernel_rfl) (fun _ _ _ h => h) (Or.inl ⟨by rfl, ?_⟩) hS0 ?_
          rotate_left
          · (intro wS hSw; obtain ⟨_, _, _, _, _, _, _⟩ := hSw; go_simp; try with_reducible rfl)
          try simp only [Act.put, List.setIfInBounds_toArray, List.set_cons_zero, List.set_cons_succ]
          refine upto_take (i := 2) (d := some 40) (v := ?_) rfl rfl (by kernel_rfl) (by kernel_rfl) (by kernel_rfl) (by kernel_rfl) (fun _ _ _ h => h) (Or.inl ⟨by rfl, ?_⟩) hS0 ?_
          rotate_left
          · (intro wS hSw; obtain ⟨_, _, _, _, _, _, _⟩ := hSw; go_simp; try with_reducible rfl)
          try simp only [Act.put, List.setIfInBounds_toArray, List.set_cons_zero, List.set_cons_succ]
          refine upto_take (i := 3) (d := some 41) (v := ?_) rfl rfl (by kernel_rfl) (by kernel_rfl) (by kernel_rfl) (by kernel_rfl) (fun _ _ _ h => h) (Or.inl ⟨by rfl, ?_⟩) hS0 ?_
          rotate_left
          · (intro wS hSw; obtain ⟨_, _, _, _, _, _, _⟩ := hSw; go_simp; try with_reducible rfl)
          try simp only [Act.put, List.setIfInBounds_toArray, List.set_cons_zero, List.set_cons_succ]
          refine upto_take (i := 4) (d := some 42) (v := ?_) rfl rfl (by kernel_rfl) (by kernel_rfl) (by kernel_rfl) (by kernel_rfl) (fun _ _ _ h => h) (Or.inl ⟨by rfl, ?_⟩) hS0 ?_
          rotate_left
          · (intro wS hSw; obtain ⟨_, _, _, _, _, _, _⟩ := hSw; go_simp; try with_reducible rfl)
          try simp only [Act.put, List.setIfInBounds_toArray, List.set_cons_zero, List.set_cons_succ]
          refine upto_take (i := 5) (d := some 43) (v := ?_) rfl rfl (by kernel_rfl) (by kernel_rfl) (by kernel_rfl) (by kernel_rfl) (fun _ _ _ h => h) (Or.inl ⟨by rfl, ?_⟩) hS0 ?_
          rotate_left
          · (intro wS hSw; obtain ⟨_, _, _, _, _, _, _⟩ := hSw; go_simp; try with_reducible rfl)
          try simp only [Act.put, List.setIfInBounds_toArray, List.set_cons_zero, List.set_cons_succ]
          refine upto_take (i := 6) (d := some 44) (v := ?_) rfl rfl (by kernel_rfl) (by kernel_rfl) (by kernel_rfl) (by kernel_rfl) (fun _ _ _ h => h) (Or.inl ⟨by rfl, ?_⟩) hS0 ?_
          rotate_left
          · (intro wS hSw; obtain ⟨_, _, _, _, _, _, _⟩ := hSw; go_simp; try with_reducible rfl)
          try simp only [Act.put, List.setIfInBounds_toArray, List.set_cons_zero, List.set_cons_succ]
          refine upto_take (i := 7) (d := some 45) (v := ?_) rfl rfl (by kernel_rfl) (by kernel_rfl) (by kernel_rfl) (by kernel_rfl) (fun _ _ _ h => h) (Or.inl ⟨by rfl, ?_⟩) hS0 ?_
          rotate_left
          · (intro wS hSw; obtain ⟨_, _, _, _, _, _, _⟩ := hSw; go_simp; try with_reducible rfl)
          try simp only [Act.put, List.setIfInBounds_toArray, List.set_cons_zero, List.set_cons_succ]
          refine upto_take (i := 8) (d := some 46) (v := ?_) rfl rfl (by kernel_rfl) (by kernel_rfl) (by kernel_rfl) (by kernel_rfl) (fun _ _ _ h => h) (Or.inl ⟨by rfl, ?_⟩) hS0 ?_
          rotate_left
          · (intro wS hSw; obtain ⟨_, _, _, _, _, _, _⟩ := hSw; go_simp; try with_reducible rfl)
          try simp only [Act.put, List.setIfInBounds_toArray, List.set_cons_zero, List.set_cons_succ]
          refine upto_one (i := 9) (by kernel_rfl) rfl (fun K hK => ?_)
          go_simp
          refine (HIH.out G0 _ B b q wr.drew HC1.out HM.out.rd.drew (by have h1 := HQ.out; have h2 := HTK.out; omega) (InV.later (w := wr) (w' := wr.drew) (fun _ _ => rfl) _ _ HIN.out) HC2.out HC3.out).mono ?_
          rintro e w1 ⟨G, kv, p', rfl, hkv, hGs, hp', hr1, hk1⟩
          obtain ⟨ksa, kscap, kna, kncap, rfl⟩ := hkv.form
          have hk1' : Kept b 1 2 wr w1 := ((Kept.refl b 1 2 wr).drew).trans hk1
          have hS1 := KidHeld.keep (w := wr) (w' := w1) hS0 (fun k hk => hk1'.block k (by rcases hk with rfl | rfl | rfl <;> omega) (by rcases hk with rfl | rfl | rfl <;> omega))
          have HKV : Hid (InV (fun k => wr.heap.size ≤ k ∧ k < w1.heap.size) w1 G (.agg #[.int .i64 G.kind, .string G.name, .int .i64 G.n, .slice ksa G.scopes.length kscap, .slice kna G.kids.length kncap])) := hkv
          refine hK.out _ _ (.inr hS1) ?_
          have hM1 := HM.out.keep hk1' hr1
          have hn := hM1.setKid (i := j) hjg HKV.out (fun k hk => by omega)
          have hnext : ∃ (j' : Nat) (gs' : List Fm) (xs' : List Value) (q' hi' : Nat), (.int .i64 ((j : Int) + 1) : Value) = .int .i64 j' ∧ j' ≤ f.kids.length ∧ gs'.length = f.kids.length ∧ (∀ k, j' ≤ k → gs'[k]? = f.kids[k]?) ∧ SlimAll (countAll f.kids) 13 3 gs' ∧ q' ≤ p + countAll (f.kids.take j') ∧
              DressMid 26 3 B b w (set5 w1 g (j * 5) (.int .i64 G.kind) (.string G.name) (.int .i64 G.n) (.slice ksa G.scopes.length kscap) (.slice kna G.kids.length kncap)) (w.heap.size + 1) w2.heap.size (w.heap.size + 1 + 1) hi' q' f.kind f.name f.n f.scopes gs' ca ccap (some ⟨g, 0, none⟩) kcap xs' := by
            refine ⟨j + 1, gs.set j G, _, p', _, by go_num, by omega, by rw [List.length_set]; exact HGL.out, fun k hk => ?_, HSG.out.set hjg (by rw [HG0.out]; exact hGs.count) hGs.slim, by have h1 := HQ.out; have h2 := HTK.out; omega, hn⟩
            rw [List.getElem?_set_ne (by omega)]
            exact HDR.out k (by omega)
          unfold set5 at hnext
          have HNEXT := Lib.hid hnext
          have t0 := frozen_at hM1.krow (j * 5)
          have t1 := frozen_at hM1.krow (j * 5 + 1)
          have t2 := frozen_at hM1.krow (j * 5 + 2)
          have t3 := frozen_at hM1.krow (j * 5 + 3)
          have t4 := frozen_at hM1.krow (j * 5 + 4)
          clear hK K hkv hGs hp' hr1 hk1 hk1' hM1 hn hnext
          refine upto_one (i := 10) (by kernel_rfl) rfl (fun K hK => ?_)
          go_simp
          refine hK.out _ _ (.inr hS1) ?_
          clear hK K
          obtain ⟨u0, u00, u1, u2, u3, u4, u5⟩ := hS1
          refine upto_one (i := 11) (by kernel_rfl) rfl (fun K hK => ?_)
          go_simp
          refine hK.out _ _ (.inl rfl) ?_
          clear hK K
          refine upto_done (by kernel_rfl) ?_ _
          clear u0 u00 u1 u2 u3 u4 u5 t0 t1 t2 t3 t4
          go_wp2_with fail
          go_roundw
          case rel => exact HNEXT.out
          case measure => simp [intOf]; omega
        · have hjl : j = f.kids.length := by omega
          subst hjl
          have hnb : ¬ ((f.kids.length : Int) < (gs.length : Int)) := by omega
          obtain ⟨r0, r1, r2, r3, r4, t0, t1, t2, t3, t4⟩ := zeroFacts hm.zero
          have hth := Lib.hid (zeroThere hm.zero)
          have HEND := Lib.hid (hm.ends HBD.out.1 HBD.out.2.1 HBD.out.2.2 HSC.out.2.1)
          clear hm hdrop hsl hq hgl
          go_wp2_with fail
          obtain ⟨z0, z1, z2, z3, z4⟩ := set5_in wr (w.heap.size + 1) 0 (.int .i64 f.kind) (.string f.name) (.int .i64 f.n) (.slice ca f.scopes.length ccap) (.slice ka gs.length kcap) hth.out
          have hss : Same (fun k => w.heap.size ≤ k ∧ k < wr.heap.size ∧ k ≠ w.heap.size + 1) wr (set5 wr (w.heap.size + 1) 0 (.int .i64 f.kind) (.string f.name) (.int .i64 f.n) (.slice ca f.scopes.length ccap) (.slice ka gs.length kcap)) :=
            fun c hc => set5_block _ _ _ _ _ _ _ _ hc.2.2
          have hz5 := set5_size wr (w.heap.size + 1) 0 (.int .i64 f.kind) (.string f.name) (.int .i64 f.n) (.slice ca f.scopes.length ccap) (.slice ka gs.length kcap)
          have hin5 := InV.mono (ψ := fun k' => w.heap.size ≤ k' ∧ k' < (set5 wr (w.heap.size + 1) 0 (.int .i64 f.kind) (.string f.name) (.int .i64 f.n) (.slice ca f.scopes.length ccap) (.slice ka gs.length kcap)).heap.size) (fun k' hk => ⟨hk.1, by rw [hz5]; exact hk.2.1⟩) _ _ (InV.later hss _ _ HEND.out)
          have hr5 : Rd B (set5 wr (w.heap.size + 1) 0 (.int .i64 f.kind) (.string f.name) (.int .i64 f.n) (.slice ca f.scopes.length ccap) (.slice ka gs.length kcap)) b q := by
            unfold set5
            exact ((((HM.out.rd.setOther (by omega) (by omega)).setOther (by omega) (by omega)).setOther (by omega) (by omega)).setOther (by omega) (by omega)).setOther (by omega) (by omega)
          have hk5 : Kept b 1 2 w (set5 wr (w.heap.size + 1) 0 (.int .i64 f.kind) (.string f.name) (.int .i64 f.n) (.slice ca f.scopes.length ccap) (.slice ka gs.length kcap)) := by
            unfold set5
            exact ((((HM.out.kept.setNew (by omega) (by omega)).setNew (by omega) (by omega)).setNew (by omega) (by omega)).setNew (by omega) (by omega)).setNew (by omega) (by omega)
          unfold set5 at z0 z1 z2 z3 z4 hin5 hr5 hk5
          simp only [Nat.zero_add] at z0 z1 z2 z3 z4 hin5 hr5 hk5
          refine bodyPost_ret (v := .agg #[.int .i64 f.kind, .string f.name, .int .i64 f.n, .slice ca f.scopes.length ccap, .slice ka gs.length kcap]) (by simp [results, Try.results53, go_sem, z0, z1, z2, z3, z4]) rfl ?_
          refine ⟨.mk f.kind f.name f.n f.scopes gs, _, q, rfl, hin5, DrR.of HHEAD.out.1 HSC.out.1 HSG.out HGL.out HSC.out.2.2.1 (fun _ => rfl), ?_, hr5, hk5⟩
          have h1 := HQ.out
          rw [List.take_length] at h1
          omega
end
end Go.Proofs.Ytcckhcedfmadeaa
