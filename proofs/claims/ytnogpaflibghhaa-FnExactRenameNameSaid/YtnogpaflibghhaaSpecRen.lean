/- The contract of the model's change of names. -/
import Derived.Test.YtnogpaflibghhaaMids
import Derived.Test.YtnogpaflibghhaaRenNode
import Derived.Test.YtnogpaflibghhaaValid
import Derived.Deep.CutRange
namespace Go.Proofs.Ytnogpaflibghhaa
open Go.RowKit
set_option linter.unusedVariables false
set_option linter.unusedSimpArgs false
theorem rnAll_take_succ (nf : ByteArray → ByteArray) : ∀ (ks : List Fm) (j : Nat) (h : j < ks.length), rnAll nf (ks.take (j + 1)) = rnAll nf (ks.take j) ++ [(ks[j]).rn nf]
  | f :: r, 0, _ => by simp [rnAll]
  | f :: r, j + 1, h => by
    have := rnAll_take_succ nf r j (by simpa using h)
    simp only [List.take_succ_cons, rnAll, this, List.cons_append, List.getElem_cons_succ]
theorem nameR_size' (old now : ByteArray) (h : now.size ≤ maxLen) (s : ByteArray) (hs : s.size ≤ maxLen) : (nameR old now s).size ≤ maxLen := by
  unfold nameR
  split
  · exact h
  · exact hs
theorem pre_kidR {g y : Fm} : ∀ {ks : List Fm}, y ∈ ks → g ∈ y.pre → g ∈ preAll ks
  | f :: r, hy, hg => by
    simp only [preAll, List.mem_append]
    rcases List.mem_cons.1 hy with rfl | hy
    · exact .inl hg
    · exact .inr (pre_kidR hy hg)
/-- what is no name has another Name -/
def NoneIs (old : ByteArray) (f : Fm) : Prop := ∀ g ∈ f.pre, (g.kind == 1) = false → (g.name.toList == old.toList) = false
theorem NoneIs.kid {old : ByteArray} {k : Int} {nm : ByteArray} {n : Int} {sc : List Int} {ks : List Fm} (h : NoneIs old (.mk k nm n sc ks)) {g : Fm} (hg : g ∈ ks) : NoneIs old g :=
  fun x hx => h x (by rw [Fm.pre]; exact List.mem_cons_of_mem _ (pre_kidR hg hx))
theorem MadeMid.setName {T : TypeId} {w wr : World} {pb rb ob base : Nat} {a : Option Addr} {cap m : Nat} {kd : Int} {nm : ByteArray} {n : Int} {c3 : Value} {sc : List Int} (nm' : ByteArray)
    (h : MadeMid T w wr pb rb ob base a cap m kd nm n c3 sc [] (.slice none 0 0) []) : MadeMid T w (wr.setCell ⟨ob, 1, none⟩ (.string nm')) pb rb ob base a cap m kd nm' n c3 sc [] (.slice none 0 0) [] := by
  obtain ⟨f1, f2, f3, f4, f5, f6, f7, f8⟩ := h.fix
  have hz : (wr.setCell ⟨ob, 1, none⟩ (.string nm')).heap.size = wr.heap.size := by simp [World.setCell]
  have hs : ∀ c, c ≠ ob → (wr.setCell ⟨ob, 1, none⟩ (.string nm')).heap[c]? = wr.heap[c]? := fun c hc => Below.heap_setCell _ _ _ _ hc
  have hc : ∀ j, j ≠ 1 → (wr.setCell ⟨ob, 1, none⟩ (.string nm')).cell? ⟨ob, j, none⟩ = wr.cell? ⟨ob, j, none⟩ := fun j hj => World.cell?_setCell_other _ _ _ _ (addr_ne (by omega))
  exact ⟨by rw [World.cell?_of_block (a := ⟨pb, 4, none⟩) (hs pb f7)]; exact h.par, by rw [hs rb f8]; exact h.zero, by rw [hc 0 (by omega)]; exact h.o0, World.cell?_setCell_same _ _ _ h.o1, by rw [hc 2 (by omega)]; exact h.o2,
    by rw [hc 3 (by omega)]; exact h.o3, by rw [hc 4 (by omega)]; exact h.o4, fun i => by rw [World.frozen?_setCell]; exact h.free i, World.ownsRow_nil _ _ _ _, rfl,
    h.ints.later (fun c hc => hs c hc.2.2.1), h.below.setCell (by exact f3) _, by rw [hz]; exact h.size, h.fix⟩
/-- between two rounds -/
def RenIn (nf : ByteArray → ByteArray) (w : World) (ob base : Nat) (a : Option Addr) (cap : Nat) (k : Int) (nm : ByteArray) (n : Int) (c3 : Value) (sc : List Int) (ks : List Fm) (i : Value) (wr : World) : Prop :=
  ∃ (j : Nat) (gs : List Fm) (v : Value) (xs : List Value), j ≤ ks.length ∧ i = .int .i64 j ∧ gs = rnAll nf (ks.take j) ∧
    MadeMid 33 w wr w.heap.size (w.heap.size + 1) ob base a cap ks.length k nm n c3 sc gs v xs
set_option maxRecDepth 100000 in
set_option maxHeartbeats 16000000 in
theorem l9Rename_any (B : Nat) (old now : ByteArray) (hno : now.size ≤ maxLen) (f : Fm) : ∀ (ins : Bool) (v : Value) (w : World), B ≤ w.heap.size → InV (· < B) w f v → f.sz ≤ 1048576 → NoneIs old f →
    Calls Try.prog 129 #[v, .string old, .string now, .bool false, .bool ins] w (MadePost (f.rn (nameR old now)) w) := by
  induction f using Fm.ind with
  | h k nm n sc ks ih =>
    intro ins v w hB hv hsz hni
    have HNI : Hid (∀ g ∈ ks, NoneIs old g) := fun g hg => hni.kid hg
    have hni0 : (k == 1) = false → (nm.toList == old.toList) = false := hni (.mk k nm n sc ks) (by rw [Fm.pre]; simp)
    clear hni
    have hszk := (sz_scopes (Fm.mk k nm n sc ks)).2
    simp only [Fm.kids] at hszk
    have hlen : ks.length ≤ 1048576 := by omega
    have HSK : Hid (∀ g ∈ ks, g.sz ≤ 1048576) := fun g hg => Nat.le_trans (sz_kid (f := Fm.mk k nm n sc ks) hg) hsz
    clear hszk
    unfold InV at hv
    obtain ⟨vs, a, cap, rfl, hkr, hnr, hnm, hvs, hcap, hmax, hks⟩ := hv
    unfold maxLen at hmax
    have HIH := Lib.hid ih
    have HKS := Lib.hid hks
    have HKR := Lib.hid hkr
    have HNR := Lib.hid hnr
    have HNM := Lib.hid hnm
    obtain ⟨i0, hi0, hz0, hz1, hz2⟩ := info_parts Try.infoFm
    obtain ⟨l0, hl0, hlz0, hlz1, hlz2⟩ := info_parts Try.infoInt
    have hslen : sc.length ≤ 1048576 := by have := (sz_scopes (Fm.mk k nm n sc ks)).1; simp only [Fm.scopes] at this; omega
    obtain ⟨vsa, vscap, rfl⟩ : ∃ vsa vscap, vs = .slice vsa sc.length vscap := by obtain ⟨x, y, e, _⟩ := hvs; exact ⟨x, y, e⟩
    have HVS := Lib.hid hvs
    clear ih hks hvs hkr hnr hnm hsz
    go_enter Try.func129, Try.ntmps129
    go_upto_region 1 with fail
    go_cut [11] from 13 (fun s11 wx => ∃ (ob base : Nat) (sa2 : Option Addr) (scap2 : Nat), s11 = .pointer (some ⟨ob, 0, none⟩) ∧ MadeMid 33 w wx w.heap.size (w.heap.size + 1) ob base a cap ks.length k nm n (.slice sa2 sc.length scap2) sc [] (.slice none 0 0) [] ∧ wx.cell? ⟨w.heap.size, 0, none⟩ = some (.int .i64 k) ∧ wx.cell? ⟨w.heap.size, 1, none⟩ = some (.string nm))
    case first =>
      go_wp2_with fail
      rename_i K hK0
      generalize hw0 : ((w.alloc (.cells #[.int .i64 k, .string nm, .int .i64 n, .slice vsa sc.length vscap, .slice a ks.length cap] 33)).alloc (.cells #[.int .i64 0, .string { data := #[] }, .int .i64 0, .slice none 0 0, .slice none 0 0] 33)) = w0
      have hb0 : Below w.heap.size w w0 := by rw [← hw0]; exact (below_alloc w _).alloc (by simp) _
      have hs0 : w0.heap.size = w.heap.size + 2 := by rw [← hw0]; simp
      have hp0 : ParHeld w.heap.size k nm n (.slice vsa sc.length vscap) (.slice a ks.length cap) w0 := by
        rw [← hw0]
        exact ⟨by rw [a2_cell0]; rfl, by rw [a2_cell0]; rfl, by rw [a2_cell0]; rfl, by rw [a2_cell0]; rfl, by rw [a2_cell0]; rfl⟩
      have hzz : w0.heap[w.heap.size + 1]? = some (.cells #[.int .i64 0, .string { data := #[] }, .int .i64 0, .slice none 0 0, .slice none 0 0] 33 (0, 0)) := by
        rw [← hw0]
        have := heap_alloc_new (w.alloc (.cells #[.int .i64 k, .string nm, .int .i64 n, .slice vsa sc.length vscap, .slice a ks.length cap] 33)) (.cells #[.int .i64 0, .string { data := #[] }, .int .i64 0, .slice none 0 0, .slice none 0 0] 33)
        rw [size_alloc'] at this
        exact this
      have hv0 : IntRow (· < B) w0 (.slice vsa sc.length vscap) sc := HVS.out.later (same_below (hb0.mono hB))
      clear hw0
      have hS0 : ParHeld w.heap.size k nm n (.slice vsa sc.length vscap) (.slice a ks.length cap) w0.drew := hp0
      refine upto_begin (ParHeld w.heap.size k nm n (.slice vsa sc.length vscap) (.slice a ks.length cap)) 12 (by kernel_rfl) ?_
      refine upto_take (i := 0) (d := some 13) (v := ?_) rfl rfl (by kernel_rfl) (by kernel_rfl) (by kernel_rfl) (by kernel_rfl) (fun _ _ _ h => h) (Or.inl ⟨by rfl, ?_⟩) hS0 ?_
      rotate_left
      · (intro wS hSw; obtain ⟨_, _, _, _, _⟩ := hSw; go_simp; try with_reducible rfl)
      try simp only [Act.put, List.setIfInBounds_toArray, List.set_cons_zero, List.set_cons_succ]
      refine upto_take (i := 1) (d := some 14) (v := ?_) rfl rfl (by kernel_rfl) (by kernel_rfl) (by kernel_rfl) (by kernel_rfl) (fun _ _ _ h => h) (Or.inl ⟨by rfl, ?_⟩) hS0 ?_
      rotate_left
      · (intro wS hSw; obtain ⟨_, _, _, _, _⟩ := hSw; go_simp; try with_reducible rfl)
      try simp only [Act.put, List.setIfInBounds_toArray, List.set_cons_zero, List.set_cons_succ]
      refine upto_take (i := 2) (d := some 15) (v := ?_) rfl rfl (by kernel_rfl) (by kernel_rfl) (by kernel_rfl) (by kernel_rfl) (fun _ _ _ h => h) (Or.inl ⟨by rfl, ?_⟩) hS0 ?_
      rotate_left
      · (intro wS hSw; obtain ⟨_, _, _, _, _⟩ := hSw; go_simp; try with_reducible rfl)
      try simp only [Act.put, List.setIfInBounds_toArray, List.set_cons_zero, List.set_cons_succ]
      refine upto_take (i := 3) (d := some 16) (v := ?_) rfl rfl (by kernel_rfl) (by kernel_rfl) (by kernel_rfl) (by kernel_rfl) (fun _ _ _ h => h) (Or.inl ⟨by rfl, ?_⟩) hS0 ?_
      rotate_left
      · (intro wS hSw; obtain ⟨_, _, _, _, _⟩ := hSw; go_simp; try with_reducible rfl)
      try simp only [Act.put, List.setIfInBounds_toArray, List.set_cons_zero, List.set_cons_succ]
      refine upto_take (i := 4) (d := some 17) (v := ?_) rfl rfl (by kernel_rfl) (by kernel_rfl) (by kernel_rfl) (by kernel_rfl) (fun _ _ _ h => h) (Or.inl ⟨by rfl, ?_⟩) hS0 ?_
      rotate_left
      · (intro wS hSw; obtain ⟨_, _, _, _, _⟩ := hSw; go_simp; try with_reducible rfl)
      try simp only [Act.put, List.setIfInBounds_toArray, List.set_cons_zero, List.set_cons_succ]
      refine upto_take (i := 5) (d := some 18) (v := ?_) rfl rfl (by kernel_rfl) (by kernel_rfl) (by kernel_rfl) (by kernel_rfl) (fun _ _ _ h => h) (Or.inl ⟨by rfl, ?_⟩) hS0 ?_
      rotate_left
      · (intro wS hSw; obtain ⟨_, _, _, _, _⟩ := hSw; go_simp; try with_reducible rfl)
      try simp only [Act.put, List.setIfInBounds_toArray, List.set_cons_zero, List.set_cons_succ]
      refine upto_take (i := 7) (d := some 20) (v := ?_) rfl rfl (by kernel_rfl) (by kernel_rfl) (by kernel_rfl) (by kernel_rfl) (fun _ _ _ h => h) (Or.inl ⟨by rfl, ?_⟩) hS0 ?_
      rotate_left
      · (intro wS hSw; obtain ⟨_, _, _, _, _⟩ := hSw; go_simp; try with_reducible rfl)
      try simp only [Act.put, List.setIfInBounds_toArray, List.set_cons_zero, List.set_cons_succ]
      refine upto_take (i := 8) (d := some 21) (v := ?_) rfl rfl (by kernel_rfl) (by kernel_rfl) (by kernel_rfl) (by kernel_rfl) (fun _ _ _ h => h) (Or.inl ⟨by rfl, ?_⟩) hS0 ?_
      rotate_left
      · (intro wS hSw; obtain ⟨_, _, _, _, _⟩ := hSw; go_simp; try with_reducible rfl)
      try simp only [Act.put, List.setIfInBounds_toArray, List.set_cons_zero, List.set_cons_succ]
      have hpz : Plain w0 (w.heap.size + 1) := ⟨_, _, hzz⟩
      refine upto_two (i := 6) (j := 11) (by kernel_rfl) rfl rfl (fun K' hK => ?_) (fun K' hK => ?_)
      · go_simp
        have hbe : Below w0.heap.size w0 (w0.alloc (Obj.cells #[] 3)).drew := (below_alloc w0 _).drew
        have hown : World.ownsRow (w0.alloc (Obj.cells #[] 3)).drew (w.heap.size + 2) 3 1 (.slice (some ⟨w.heap.size + 2, 0, none⟩) 0 0) 0 [] := by
          have := (World.ownsRow_lit (base := w.heap.size + 2) (e := 3) (size := 1) w0 #[] 0 (by omega) (by unfold maxLen; omega) (by simp)).drew
          rw [hs0] at this
          exact this
        refine hK.out _ _ (.inr (hp0.keep (hbe.block w.heap.size (by omega)))) ?_
        clear hK K'
        refine upto_two (i := 9) (j := 11) (by kernel_rfl) rfl rfl (fun K' hK => ?_) (fun K' hK => ?_)
        · rw [if_pos (show Region.wanted _ _ = true by simp [Region.wanted])]
          refine wp_append_ints (.tmp 19) (.tmp 21) 22 3 rfl l0 Try.underlying22 hl0 hlz0 hlz1 hlz2 (w.heap.size + 2) (w.heap.size + 2) sc vsa vscap (· < B) (by rfl) (by rfl) (hv0.later (same_below (hbe.mono (by omega)))) hslen hown (by simp; omega) ?_
          intro sa2 scap2 w5 hg5 hi5
          have hsz5 := hg5.size
          have hsz6 : w.heap.size + 3 ≤ w5.heap.size := by simp at hsz5; omega
          have hlow : ∀ k, k < w.heap.size + 2 → w5.heap[k]? = w0.heap[k]? := fun k hk => (hg5.block k (by simp; omega) (by simp; omega)).trans (hbe.block k (by omega))
          have hp5 := hp0.keep (hlow w.heap.size (by omega))
          have hz5 := (hlow (w.heap.size + 1) (by omega)).trans hzz
          refine hK.out _ _ (.inr hp5) ?_
          clear hK K'
          refine upto_take (i := 10) (d := some 23) (v := ?_) rfl rfl (by kernel_rfl) (by kernel_rfl) (by kernel_rfl) (by kernel_rfl) (fun _ _ _ h => h) (Or.inl ⟨by rfl, ?_⟩) hp5 ?_
          rotate_left
          · (intro wS hSw; obtain ⟨_, _, _, _, _⟩ := hSw; go_simp; try with_reducible rfl)
          try simp only [Act.put, List.setIfInBounds_toArray, List.set_cons_zero, List.set_cons_succ]
          refine upto_one (i := 11) (by kernel_rfl) rfl (fun K' hK => ?_)
          go_simp
          have hb6 := below_alloc w5 (Obj.cells #[.int .i64 0, .string { data := #[] }, .int .i64 0, .slice none 0 0, .slice none 0 0] 33)
          have hw5 : w.heap.size + 3 ≤ w5.heap.size := by simp at hsz5; omega
          refine hK.out _ _ (.inr (hp5.keep (hb6.block w.heap.size (by omega)))) ?_
          clear hK K'
          refine upto_one (i := 12) (by kernel_rfl) rfl (fun K' hK => ?_)
          go_simp
          refine hK.out _ _ (.inl rfl) ?_
          clear hK K'
          refine upto_done (by kernel_rfl) ?_ _
          have hbg := MadeMid.begin2 (T := 33) (w := w) (V := w5) (a := a) (cap := cap) (m := ks.length) (kd := k) (nm := nm) (n := n) (c3 := .slice sa2 sc.length scap2) (sc := sc) (((hb0.trans (hbe.mono (by omega))).grown hg5 (by first | omega | (simp; omega)) (fun k hk => by simp at hk; omega)))
            (by omega) hp5.2.2.2.2 hz5 (hi5.mono (fun k hk => ⟨by rcases hk.1 with h | h <;> (try simp at h) <;> omega, hk.2, by rcases hk.1 with h | h <;> (try simp at h) <;> omega⟩))
          apply hK0
          clear hK0
          go_meet
          exact ⟨_, _, _, _, rfl, hbg, (World.cell?_of_block (a := ⟨w.heap.size, 0, none⟩) ((below_alloc w5 _).block _ (by show w.heap.size < _; omega))).trans hp5.1, (World.cell?_of_block (a := ⟨w.heap.size, 1, none⟩) ((below_alloc w5 _).block _ (by show w.heap.size < _; omega))).trans hp5.2.1⟩
        · go_simp
          have hbe2 : Below w0.heap.size w0 ((w0.alloc (Obj.cells #[] 3)).alloc (Obj.cells #[.int .i64 0, .string { data := #[] }, .int .i64 0, .slice none 0 0, .slice none 0 0] 33)).drew := ((below_alloc w0 _).alloc (by simp) _).drew
          refine hK.out _ _ (.inr (hp0.keep (hbe2.block w.heap.size (by omega)))) ?_
          clear hK K'
          refine upto_one (i := 9) (by kernel_rfl) rfl (fun K' hK => ?_)
          rw [if_pos (show Region.wanted _ _ = true by simp [Region.wanted])]
          refine wp_append_ints (.tmp 19) (.tmp 21) 22 3 rfl l0 Try.underlying22 hl0 hlz0 hlz1 hlz2 (w.heap.size + 2) (w.heap.size + 2) sc vsa vscap (· < B) (by rfl) (by rfl) (hv0.later (same_below (hbe2.mono (by omega)))) hslen (hown.alloc _) (by simp; omega) ?_
          intro sa2 scap2 w5 hg5 hi5
          have hsz5 := hg5.size
          have hsz6 : w.heap.size + 3 ≤ w5.heap.size := by simp at hsz5; omega
          have hlow : ∀ k, k < w.heap.size + 2 → w5.heap[k]? = w0.heap[k]? := fun k hk => (hg5.block k (by simp; omega) (by simp; omega)).trans (hbe2.block k (by omega))
          have hp5 := hp0.keep (hlow w.heap.size (by omega))
          have hz5 := (hlow (w.heap.size + 1) (by omega)).trans hzz
          have hob5 : w5.heap[w.heap.size + 3]? = some (.cells #[.int .i64 0, .string { data := #[] }, .int .i64 0, .slice none 0 0, .slice none 0 0] 33 (0, 0)) := by
            rw [hg5.block _ (by simp; omega) (by simp)]
            have := heap_alloc_new (w0.alloc (Obj.cells #[] 3)) (Obj.cells #[.int .i64 0, .string { data := #[] }, .int .i64 0, .slice none 0 0, .slice none 0 0] 33)
            rw [size_alloc', hs0] at this
            exact this
          refine hK.out _ _ (.inr hp5) ?_
          clear hK K'
          refine upto_one (i := 10) (by kernel_rfl) rfl (fun K' hK => ?_)
          go_simp
          refine hK.out _ _ (.inr hp5) ?_
          clear hK K'
          have r0 : w5.cell? ⟨w.heap.size + 3, 0, none⟩ = some (.int .i64 0) := by rw [cell_of_row w5 _ 0 _ _ _ hob5]; rfl
          have r1 : w5.cell? ⟨w.heap.size + 3, 1, none⟩ = some (.string { data := #[] }) := by rw [cell_of_row w5 _ 1 _ _ _ hob5]; rfl
          have r2 : w5.cell? ⟨w.heap.size + 3, 2, none⟩ = some (.int .i64 0) := by rw [cell_of_row w5 _ 2 _ _ _ hob5]; rfl
          have r3 : w5.cell? ⟨w.heap.size + 3, 3, none⟩ = some (.slice none 0 0) := by rw [cell_of_row w5 _ 3 _ _ _ hob5]; rfl
          have r4 : w5.cell? ⟨w.heap.size + 3, 4, none⟩ = some (.slice none 0 0) := by rw [cell_of_row w5 _ 4 _ _ _ hob5]; rfl
          have hplr : Plain w5 (w.heap.size + 3) := ⟨_, _, hob5⟩
          have t0 := hplr.frozen 0
          have t1 := hplr.frozen 1
          have t2 := hplr.frozen 2
          have t3 := hplr.frozen 3
          have t4 := hplr.frozen 4
          refine upto_one (i := 12) (by kernel_rfl) rfl (fun K' hK => ?_)
          go_simp
          refine hK.out _ _ (.inl rfl) ?_
          clear hK K'
          refine upto_done (by kernel_rfl) ?_ _
          have hbg := MadeMid.begin (T := 33) (w := w) (V := w5) (ob := w.heap.size + 3) (a := a) (cap := cap) (m := ks.length) (kd := k) (nm := nm) (n := n) (c3 := .slice sa2 sc.length scap2) (sc := sc) ((hb0.trans (hbe2.mono (by omega))).grown hg5 (by first | omega | (simp; omega)) (fun k hk => by simp at hk; omega))
            (by omega) hp5.2.2.2.2 hz5 hob5 (by omega)
            (hi5.mono (fun k hk => ⟨by rcases hk.1 with h | h <;> (try simp at h) <;> omega, hk.2, by rcases hk.1 with h | h <;> (try simp at h) <;> omega, by rcases hk.1 with h | h <;> (try simp at h) <;> omega⟩))
          have hblk : (set5 w5 (w.heap.size + 3) 0 (.int .i64 k) (.string nm) (.int .i64 n) (.slice sa2 sc.length scap2) (.slice none 0 0)).heap[w.heap.size]? = w5.heap[w.heap.size]? := set5_block _ _ _ _ _ _ _ _ (by omega)
          unfold set5 at hbg hblk
          simp only [Nat.zero_add] at hbg hblk
          apply hK0
          clear hK0
          go_meet
          exact ⟨_, _, _, _, rfl, hbg, (World.cell?_of_block (a := ⟨w.heap.size, 0, none⟩) (hblk)).trans hp5.1, (World.cell?_of_block (a := ⟨w.heap.size, 1, none⟩) (hblk)).trans hp5.2.1⟩
      · go_simp
        have hbe : Below w0.heap.size w0 (w0.alloc (Obj.cells #[.int .i64 0, .string { data := #[] }, .int .i64 0, .slice none 0 0, .slice none 0 0] 33)).drew := (below_alloc w0 _).drew
        refine hK.out _ _ (.inr (hp0.keep (hbe.block w.heap.size (by omega)))) ?_
        clear hK K'
        refine upto_one (i := 6) (by kernel_rfl) rfl (fun K' hK => ?_)
        go_simp
        have hbe2 : Below w0.heap.size w0 ((w0.alloc (Obj.cells #[.int .i64 0, .string { data := #[] }, .int .i64 0, .slice none 0 0, .slice none 0 0] 33)).alloc (Obj.cells #[] 3)).drew := ((below_alloc w0 _).alloc (by simp) _).drew
        have hown : World.ownsRow ((w0.alloc (Obj.cells #[.int .i64 0, .string { data := #[] }, .int .i64 0, .slice none 0 0, .slice none 0 0] 33)).alloc (Obj.cells #[] 3)).drew (w.heap.size + 2) 3 1 (.slice (some ⟨w.heap.size + 3, 0, none⟩) 0 0) 0 [] := by
          have := (World.ownsRow_lit (base := w.heap.size + 2) (e := 3) (size := 1) (w0.alloc (Obj.cells #[.int .i64 0, .string { data := #[] }, .int .i64 0, .slice none 0 0, .slice none 0 0] 33)) #[] 0 (by simp; omega) (by unfold maxLen; omega) (by simp)).drew
          rw [size_alloc', hs0] at this
          exact this
        refine hK.out _ _ (.inr (hp0.keep (hbe2.block w.heap.size (by omega)))) ?_
        clear hK K'
        refine upto_one (i := 9) (by kernel_rfl) rfl (fun K' hK => ?_)
        rw [if_pos (show Region.wanted _ _ = true by simp [Region.wanted])]
        refine wp_append_ints (.tmp 19) (.tmp 21) 22 3 rfl l0 Try.underlying22 hl0 hlz0 hlz1 hlz2 (w.heap.size + 2) (w.heap.size + 3) sc vsa vscap (· < B) (by rfl) (by rfl) (hv0.later (same_below (hbe2.mono (by omega)))) hslen hown (by simp; omega) ?_
        intro sa2 scap2 w5 hg5 hi5
        have hsz5 := hg5.size
        have hsz6 : w.heap.size + 3 ≤ w5.heap.size := by simp at hsz5; omega
        have hlow : ∀ k, k < w.heap.size + 2 → w5.heap[k]? = w0.heap[k]? := fun k hk => (hg5.block k (by simp; omega) (by simp; omega)).trans (hbe2.block k (by omega))
        have hp5 := hp0.keep (hlow w.heap.size (by omega))
        have hz5 := (hlow (w.heap.size + 1) (by omega)).trans hzz
        have hob5 : w5.heap[w.heap.size + 2]? = some (.cells #[.int .i64 0, .string { data := #[] }, .int .i64 0, .slice none 0 0, .slice none 0 0] 33 (0, 0)) := by
          rw [hg5.block _ (by simp; omega) (by simp)]
          have := heap_alloc_new w0 (Obj.cells #[.int .i64 0, .string { data := #[] }, .int .i64 0, .slice none 0 0, .slice none 0 0] 33)
          rw [hs0] at this
          exact ((below_alloc (w0.alloc (Obj.cells #[.int .i64 0, .string { data := #[] }, .int .i64 0, .slice none 0 0, .slice none 0 0] 33)) (Obj.cells #[] 3)).block _ (by simp; omega)).trans this
        refine hK.out _ _ (.inr hp5) ?_
        clear hK K'
        refine upto_one (i := 10) (by kernel_rfl) rfl (fun K' hK => ?_)
        go_simp
        refine hK.out _ _ (.inr hp5) ?_
        clear hK K'
        have r0 : w5.cell? ⟨w.heap.size + 2, 0, none⟩ = some (.int .i64 0) := by rw [cell_of_row w5 _ 0 _ _ _ hob5]; rfl
        have r1 : w5.cell? ⟨w.heap.size + 2, 1, none⟩ = some (.string { data := #[] }) := by rw [cell_of_row w5 _ 1 _ _ _ hob5]; rfl
        have r2 : w5.cell? ⟨w.heap.size + 2, 2, none⟩ = some (.int .i64 0) := by rw [cell_of_row w5 _ 2 _ _ _ hob5]; rfl
        have r3 : w5.cell? ⟨w.heap.size + 2, 3, none⟩ = some (.slice none 0 0) := by rw [cell_of_row w5 _ 3 _ _ _ hob5]; rfl
        have r4 : w5.cell? ⟨w.heap.size + 2, 4, none⟩ = some (.slice none 0 0) := by rw [cell_of_row w5 _ 4 _ _ _ hob5]; rfl
        have hplr : Plain w5 (w.heap.size + 2) := ⟨_, _, hob5⟩
        have t0 := hplr.frozen 0
        have t1 := hplr.frozen 1
        have t2 := hplr.frozen 2
        have t3 := hplr.frozen 3
        have t4 := hplr.frozen 4
        refine upto_one (i := 12) (by kernel_rfl) rfl (fun K' hK => ?_)
        go_simp
        refine hK.out _ _ (.inl rfl) ?_
        clear hK K'
        refine upto_done (by kernel_rfl) ?_ _
        have hbg := MadeMid.begin (T := 33) (w := w) (V := w5) (ob := w.heap.size + 2) (a := a) (cap := cap) (m := ks.length) (kd := k) (nm := nm) (n := n) (c3 := .slice sa2 sc.length scap2) (sc := sc) ((hb0.trans (hbe2.mono (by omega))).grown hg5 (by first | omega | (simp; omega)) (fun k hk => by simp at hk; omega))
          (by omega) hp5.2.2.2.2 hz5 hob5 (by omega)
          (hi5.mono (fun k hk => ⟨by rcases hk.1 with h | h <;> (try simp at h) <;> omega, hk.2, by rcases hk.1 with h | h <;> (try simp at h) <;> omega, by rcases hk.1 with h | h <;> (try simp at h) <;> omega⟩))
        have hblk : (set5 w5 (w.heap.size + 2) 0 (.int .i64 k) (.string nm) (.int .i64 n) (.slice sa2 sc.length scap2) (.slice none 0 0)).heap[w.heap.size]? = w5.heap[w.heap.size]? := set5_block _ _ _ _ _ _ _ _ (by omega)
        unfold set5 at hbg hblk
        simp only [Nat.zero_add] at hbg hblk
        apply hK0
        clear hK0
        go_meet
        exact ⟨_, _, _, _, rfl, hbg, (World.cell?_of_block (a := ⟨w.heap.size, 0, none⟩) (hblk)).trans hp5.1, (World.cell?_of_block (a := ⟨w.heap.size, 1, none⟩) (hblk)).trans hp5.2.1⟩
    case rest =>
      obtain ⟨ob, base, sa2, scap2, rfl, hst0, hk0, hn0⟩ := hcut
      clear HVS
      have HR0 := Lib.hid hst0
      obtain ⟨f1, f2, f3, f4, f5, f6, f7, f8⟩ := hst0.fix
      have ho1 := hst0.o1
      have hfo := hst0.free 1
      have hpar0 := hst0.par
      clear hst0
      obtain ⟨c1, hc1⟩ : ∃ c1, c1 = ((k == 1) && (nm.toList == old.toList)) := ⟨_, rfl⟩
      have HC1 := Lib.hid hc1
      clear hc1
      go_upto_region 2 with fail
      go_cut [39] from 13 (fun s39 wx => s39 = .bool c1 ∧ wx = wc)
      case first =>
        rcases Bool.eq_false_or_eq_true (k == 1) with hk1 | hk1
        · rcases Bool.eq_false_or_eq_true (nm.toList == old.toList) with hnn | hnn
          · obtain rfl : c1 = true := by rw [HC1.out, hk1, hnn]; rfl
            cases ins with
            | true =>
              go_wp2_with fail
              go_meet
              exact ⟨rfl, rfl⟩
            | false =>
              go_wp2_with fail
              go_meet
              exact ⟨rfl, rfl⟩
          · obtain rfl : c1 = false := by rw [HC1.out, hk1, hnn]; rfl
            go_wp2_with fail
            go_meet
            exact ⟨rfl, rfl⟩
        · obtain rfl : c1 = false := by rw [HC1.out, hk1]; rfl
          go_wp2_with fail
          go_meet
          exact ⟨rfl, rfl⟩
      case rest =>
      obtain ⟨rfl, rfl⟩ := hcut
      go_upto_if 39 with fail
      go_cut [] from 13 (fun wx => MadeMid 33 w wx w.heap.size (w.heap.size + 1) ob base a cap ks.length k (nameR old now nm) n (.slice sa2 sc.length scap2) sc [] (.slice none 0 0) [] ∧ wx.cell? ⟨w.heap.size, 4, none⟩ = some (.slice a ks.length cap))
      case first =>
        have HE : Hid (nameR old now nm = if c1 = true then now else nm) := by
          unfold Hid nameR
          rw [HC1.out]
          rcases Bool.eq_false_or_eq_true (k == 1) with hk1 | hk1
          · rw [hk1, Bool.true_and]
          · rw [hk1, hni0 hk1]; rfl
        clear hk0 hn0
        cases c1 with
        | true =>
          have hE : nameR old now nm = now := HE.out
          go_wp2_with fail
          go_meet
          rw [hE]
          exact ⟨HR0.out.setName now, (HR0.out.setName now).par⟩
        | false =>
          have hE : nameR old now nm = nm := HE.out
          go_wp2_with fail
          go_meet
          rw [hE]
          exact ⟨HR0.out, hpar0⟩
      case rest =>
      obtain ⟨hst1, hpar1⟩ := hcut
      have HR1 := Lib.hid hst1
      clear HR0 hst1 hk0 hn0 ho1 hfo hpar0 hni0 HC1 c1
      go_upto_region 4 with fail
      go_cut [61] from 13 (fun s61 wx => (∃ c2 : Bool, s61 = .bool c2) ∧ wx = wc)
      case first =>
        by_cases hlen : 0 < ks.length
        · obtain ⟨b, off, rfl, hbB, hrow⟩ : ∃ b off, a = some ⟨b, off, none⟩ ∧ b < B ∧ RowIn (· < B) w b off ks := by
            rcases HKS.out with h | h
            · subst h; simp at hlen
            · exact h
          have hrow1 := hrow.later (same_below (HR1.out.below.mono hB)) b hbB
          obtain ⟨sa1, scap1, a1, cap1, q0, q1, q2, q3, q4, hin⟩ := hrow1.at' 0 hlen
          simp only [Nat.zero_mul, Nat.add_zero] at q0 q1 q2 q3 q4
          have hj1 : (0 : Int) < (ks.length : Int) := by omega
          clear hrow hrow1 hin
          rcases Bool.eq_false_or_eq_true (ks[0].kind == 1) with hk1 | hk1
          · rcases Bool.eq_false_or_eq_true (ks[0].name.toList == (ByteArray.mk #[114, 117, 108, 101, 115]).toList) with hnn | hnn
            · go_wp2_with fail
              go_meet
              exact ⟨⟨_, rfl⟩, rfl⟩
            · go_wp2_with fail
              go_meet
              exact ⟨⟨_, rfl⟩, rfl⟩
          · go_wp2_with fail
            go_meet
            exact ⟨⟨_, rfl⟩, rfl⟩
        · have hl0 : ks.length = 0 := by omega
          rw [hl0] at hpar1
          clear hlen
          go_wp2_with fail
          go_meet
          exact ⟨⟨_, rfl⟩, rfl⟩
      case rest =>
      obtain ⟨⟨c2, rfl⟩, rfl⟩ := hcut
      go_upto_if 61 with fail
      go_cut [4] from 13 (fun s4 wx => (∃ i2 : Bool, s4 = .bool i2) ∧ wx = wc)
      case first =>
        cases c2 with
        | true =>
          go_wp2_with fail
          go_meet
          exact ⟨⟨_, rfl⟩, rfl⟩
        | false =>
          go_wp2_with fail
          go_meet
          exact ⟨⟨_, rfl⟩, rfl⟩
      case rest =>
      obtain ⟨⟨i2, rfl⟩, rfl⟩ := hcut
      have hst := HR1.out
      clear hpar1
      obtain ⟨f1, f2, f3, f4, f5, f6, f7, f8⟩ := hst.fix
      have hHold := hst.par
      go_wp2_with fail
      go_loopw [12] (fun i wr => RenIn (nameR old now) w ob base a cap k (nameR old now nm) n (.slice sa2 sc.length scap2) sc ks i wr) (fun i _ => ks.length - (intOf i).toNat)
      case atStart => exact ⟨0, [], .slice none 0 0, [], Nat.zero_le _, rfl, by simp [rnAll], hst⟩
      case round =>
        obtain ⟨j, gs, v, xs, hj, rfl, hgs, hm⟩ := hrel
        have HM := Lib.hid hm
        have HGS := Lib.hid hgs
        have hgl : gs.length = j := by rw [hgs, rnAll_length, List.length_take]; omega
        obtain ⟨f1, f2, f3, f4, f5, f6, f7, f8⟩ := hm.fix
        have hpar := hm.par
        have ho0 := hm.o0
        have ho1 := hm.o1
        have ho2 := hm.o2
        have ho3 := hm.o3
        have ho4 := hm.o4
        have hof := hm.free 4
        have hbw := hm.size
        clear hm hgs
        by_cases hlt : j < ks.length
        · obtain ⟨b, off, rfl, hbB, hrow⟩ : ∃ b off, a = some ⟨b, off, none⟩ ∧ b < B ∧ RowIn (· < B) w b off ks := by
            rcases HKS.out with h | h
            · subst h; simp at hlt
            · exact h
          have hrow1 := hrow.later (same_below (HM.out.below.mono hB)) b hbB
          obtain ⟨sa1, scap1, a1, cap1, q0, q1, q2, q3, q4, hin⟩ := hrow1.at' j hlt
          have HIN := Lib.hid hin
          clear hrow hrow1 hin
          have hj0 : (0 : Int) ≤ (j : Int) := by omega
          have hj1 : (j : Int) < (ks.length : Int) := by omega
          have hL1 : gs.length + 1 ≤ maxLen := by unfold maxLen; omega
          have hL2 : (gs.length + 1) * 80 ≤ 140737488355328 := by omega
          go_wp2_with fail
          have hS0 : KidHeld (ob) w.heap.size b (off + j * 5) v (.slice (some ⟨b, off, none⟩) ks.length cap) (.int .i64 ks[j].kind) (.string ks[j].name) (.int .i64 ks[j].n) (.slice sa1 ks[j].scopes.length scap1) (.slice a1 ks[j].kids.length cap1) wr.drew := ⟨ho4, hpar, q0, q1, q2, q3, q4⟩
          refine upto_begin (KidHeld (ob) w.heap.size b (off + j * 5) v (.slice (some ⟨b, off, none⟩) ks.length cap) (.int .i64 ks[j].kind) (.string ks[j].name) (.int .i64 ks[j].n) (.slice sa1 ks[j].scopes.length scap1) (.slice a1 ks[j].kids.length cap1)) 15 (by kernel_rfl) ?_
          refine upto_take (i := 0) (d := some 69) (v := ?_) rfl rfl (by kernel_rfl) (by kernel_rfl) (by kernel_rfl) (by kernel_rfl) (fun _ _ _ h => h) (Or.inl ⟨by rfl, ?_⟩) hS0 ?_
          rotate_left
          · (intro wS hSw; obtain ⟨_, _, _, _, _, _, _⟩ := hSw; go_simp; try with_reducible rfl)
          try simp only [Act.put, List.setIfInBounds_toArray, List.set_cons_zero, List.set_cons_succ]
          refine upto_take (i := 1) (d := some 70) (v := ?_) rfl rfl (by kernel_rfl) (by kernel_rfl) (by kernel_rfl) (by kernel_rfl) (fun _ _ _ h => h) (Or.inl ⟨by rfl, ?_⟩) hS0 ?_
          rotate_left
          · (intro wS hSw; obtain ⟨_, _, _, _, _, _, _⟩ := hSw; go_simp; try with_reducible rfl)
          try simp only [Act.put, List.setIfInBounds_toArray, List.set_cons_zero, List.set_cons_succ]
          refine upto_take (i := 2) (d := some 71) (v := ?_) rfl rfl (by kernel_rfl) (by kernel_rfl) (by kernel_rfl) (by kernel_rfl) (fun _ _ _ h => h) (Or.inl ⟨by rfl, ?_⟩) hS0 ?_
          rotate_left
          · (intro wS hSw; obtain ⟨_, _, _, _, _, _, _⟩ := hSw; go_simp; try with_reducible rfl)
          try simp only [Act.put, List.setIfInBounds_toArray, List.set_cons_zero, List.set_cons_succ]
          refine upto_take (i := 3) (d := some 72) (v := ?_) rfl rfl (by kernel_rfl) (by kernel_rfl) (by kernel_rfl) (by kernel_rfl) (fun _ _ _ h => h) (Or.inl ⟨by rfl, ?_⟩) hS0 ?_
          rotate_left
          · (intro wS hSw; obtain ⟨_, _, _, _, _, _, _⟩ := hSw; go_simp; try with_reducible rfl)
          try simp only [Act.put, List.setIfInBounds_toArray, List.set_cons_zero, List.set_cons_succ]
          refine upto_take (i := 4) (d := some 73) (v := ?_) rfl rfl (by kernel_rfl) (by kernel_rfl) (by kernel_rfl) (by kernel_rfl) (fun _ _ _ h => h) (Or.inl ⟨by rfl, ?_⟩) hS0 ?_
          rotate_left
          · (intro wS hSw; obtain ⟨_, _, _, _, _, _, _⟩ := hSw; go_simp; try with_reducible rfl)
          try simp only [Act.put, List.setIfInBounds_toArray, List.set_cons_zero, List.set_cons_succ]
          refine upto_take (i := 5) (d := some 74) (v := ?_) rfl rfl (by kernel_rfl) (by kernel_rfl) (by kernel_rfl) (by kernel_rfl) (fun _ _ _ h => h) (Or.inl ⟨by rfl, ?_⟩) hS0 ?_
          rotate_left
          · (intro wS hSw; obtain ⟨_, _, _, _, _, _, _⟩ := hSw; go_simp; try with_reducible rfl)
          try simp only [Act.put, List.setIfInBounds_toArray, List.set_cons_zero, List.set_cons_succ]
          refine upto_take (i := 6) (d := some 75) (v := ?_) rfl rfl (by kernel_rfl) (by kernel_rfl) (by kernel_rfl) (by kernel_rfl) (fun _ _ _ h => h) (Or.inl ⟨by rfl, ?_⟩) hS0 ?_
          rotate_left
          · (intro wS hSw; obtain ⟨_, _, _, _, _, _, _⟩ := hSw; go_simp; try with_reducible rfl)
          try simp only [Act.put, List.setIfInBounds_toArray, List.set_cons_zero, List.set_cons_succ]
          refine upto_take (i := 7) (d := some 76) (v := ?_) rfl rfl (by kernel_rfl) (by kernel_rfl) (by kernel_rfl) (by kernel_rfl) (fun _ _ _ h => h) (Or.inl ⟨by rfl, ?_⟩) hS0 ?_
          rotate_left
          · (intro wS hSw; obtain ⟨_, _, _, _, _, _, _⟩ := hSw; go_simp; try with_reducible rfl)
          try simp only [Act.put, List.setIfInBounds_toArray, List.set_cons_zero, List.set_cons_succ]
          refine upto_take (i := 8) (d := some 77) (v := ?_) rfl rfl (by kernel_rfl) (by kernel_rfl) (by kernel_rfl) (by kernel_rfl) (fun _ _ _ h => h) (Or.inl ⟨by rfl, ?_⟩) hS0 ?_
          rotate_left
          · (intro wS hSw; obtain ⟨_, _, _, _, _, _, _⟩ := hSw; go_simp; try with_reducible rfl)
          try simp only [Act.put, List.setIfInBounds_toArray, List.set_cons_zero, List.set_cons_succ]
          refine upto_take (i := 9) (d := some 78) (v := ?_) rfl rfl (by kernel_rfl) (by kernel_rfl) (by kernel_rfl) (by kernel_rfl) (fun _ _ _ h => h) (Or.inl ⟨by rfl, ?_⟩) hS0 ?_
          rotate_left
          · (intro wS hSw; obtain ⟨_, _, _, _, _, _, _⟩ := hSw; go_simp; try with_reducible rfl)
          try simp only [Act.put, List.setIfInBounds_toArray, List.set_cons_zero, List.set_cons_succ]
          refine upto_take (i := 10) (d := some 79) (v := ?_) rfl rfl (by kernel_rfl) (by kernel_rfl) (by kernel_rfl) (by kernel_rfl) (fun _ _ _ h => h) (Or.inl ⟨by rfl, ?_⟩) hS0 ?_
          rotate_left
          · (intro wS hSw; obtain ⟨_, _, _, _, _, _, _⟩ := hSw; go_simp; try with_reducible rfl)
          try simp only [Act.put, List.setIfInBounds_toArray, List.set_cons_zero, List.set_cons_succ]
          refine upto_one (i := 11) (by kernel_rfl) rfl (fun K hK => ?_)
          go_simp
          refine (HIH.out _ (List.getElem_mem hlt) i2 _ wr.drew (by show B ≤ wr.heap.size; omega) (InV.later (w := wr) (w' := wr.drew) (fun _ _ => rfl) _ _ HIN.out) (HSK.out _ (List.getElem_mem hlt)) (HNI.out _ (List.getElem_mem hlt))).mono ?_
          rintro e w1 ⟨kv, rfl, hkv, hb1⟩
          obtain ⟨ksa, kscap, ka, kcap, rfl⟩ := hkv.form
          have hb1' := below_drew hb1
          have hS1 := KidHeld.later (w := wr) (w' := w1) hS0 hb1'
          have HKV : Hid (InV (fun k => wr.heap.size ≤ k ∧ k < w1.heap.size) w1 ((ks[j]).rn (nameR old now)) (.agg #[.int .i64 ((ks[j]).rn (nameR old now)).kind, .string ((ks[j]).rn (nameR old now)).name, .int .i64 ((ks[j]).rn (nameR old now)).n, .slice ksa ((ks[j]).rn (nameR old now)).scopes.length kscap, .slice ka ((ks[j]).rn (nameR old now)).kids.length kcap])) := hkv
          refine hK.out _ _ (.inr hS1) ?_
          have HB1 := Lib.hid hb1'
          have hs1 := hb1'.size
          have hown2 : w1.ownsRow (base) 33 5 v gs.length xs := HM.out.own.kept (row := none) ⟨hb1'.os, hb1'.tape, hb1'.output, hb1'.size, fun k hk _ => hb1'.block k hk⟩ (by cases v.ownBlock <;> simp)
          clear hK K hkv hb1 hb1' hS0
          obtain ⟨G, hG⟩ : ∃ G, (ks[j]).rn (nameR old now) = G := ⟨_, rfl⟩
          rw [hG] at HKV ⊢
          refine upto_one (i := 12) (by kernel_rfl) rfl (fun K hK => ?_)
          go_simp
          have hbA := below_alloc w1 (Obj.cells #[.int .i64 G.kind, .string G.name, .int .i64 G.n, .slice ksa G.scopes.length kscap, .slice ka G.kids.length kcap] 33)
          have hS2 := hS1.later hbA
          refine hK.out _ _ (.inr hS2) ?_
          clear hK K
          refine upto_oper (i := 13) ⟨some 82, .call { callee := .builtin .append, args := #[.tmp 70, .tmp 81], argTypes := #[31, 31] }, 31, _, _, _⟩ (by kernel_rfl) rfl rfl (fun K hK => ?_)
          refine wp_append_lies _ (.tmp 70) (.tmp 81) 31 rfl (base) 33 i0 _ 5 80 Try.underlying31 hi0 hz0 hz1 hz2 rfl (by omega) _ gs.length xs (by rfl) (hown2.alloc _)
                    ⟨w1.heap.size, 0, none⟩ 1 1 [.int .i64 G.kind, .string G.name, .int .i64 G.n, .slice ksa G.scopes.length kscap, .slice ka G.kids.length kcap] (by rfl) (by rfl) (World.news_of_block (cs := #[.int .i64 G.kind, .string G.name, .int .i64 G.n, .slice ksa G.scopes.length kscap, .slice ka G.kids.length kcap]) (t := 33) (fr := (0, 0)) (heap_alloc_new w1 _)) (by simp [Value.oneCell'])
                    (by omega) hL1 hL2 (by simp; omega) (w1.heap.size + 1) (by simp) ?_
          intro gq qd w3 hown3 hgrow hat hlt4
          have hfar : ∀ k, v.ownBlock = some k → base ≤ k ∧ k < w1.heap.size := fun k e => hown2.lt k e
          have hS3 := hS2.keep (w' := w3) (fun k hk => hgrow.block k (by rcases hk with rfl | rfl | rfl <;> simp <;> omega) (fun e => by have := hfar k e.symm; rcases hk with rfl | rfl | rfl <;> omega))
          refine hK.out _ _ (.inr hS3) ?_
          have hc4 := hS3.1
          have hf4 : w3.frozen? ⟨ob, 4, none⟩ = false := by
            rw [World.frozen?_of_block (a := ⟨ob, 4, none⟩) (hgrow.block (ob) (by simp; omega) (fun e => by have := hfar _ e.symm; omega)), hbA.frozen (p := ⟨ob, 4, none⟩) (show ob < _ by omega),
              HB1.out.frozen (p := ⟨ob, 4, none⟩) (show ob < _ by omega)]
            exact hof
          clear hK K
          refine upto_one (i := 14) (by kernel_rfl) rfl (fun K hK => ?_)
          go_simp
          refine hK.out _ _ (.inr hS3) ?_
          clear hK K
          refine upto_one (i := 15) (by kernel_rfl) rfl (fun K hK => ?_)
          go_simp
          refine hK.out _ _ (.inl rfl) ?_
          clear hK K
          refine upto_done (by kernel_rfl) ?_ _
          have HNEXT : Hid (RenIn (nameR old now) w ob base (some ⟨b, off, none⟩) cap k (nameR old now nm) n (.slice sa2 sc.length scap2) sc ks (.int .i64 ((j : Int) + 1)) (w3.setCell ⟨ob, 4, none⟩ (.slice (some ⟨gq, 0, none⟩) (j + 1) qd))) := by
            rw [← hgl]
            refine ⟨gs.length + 1, gs ++ [G], _, _, by omega, by go_num, ?_, HM.out.step (HB1.out.trans (hbA.mono (by omega))) (InV.mono (fun k hk => ⟨hk.1, by simp; omega⟩) _ _ (InV.later (w := w1) (fun k hk => hbA.block k hk.2) _ _ HKV.out)) hown3 hgrow (by simpa using hat)⟩
            rw [hgl, rnAll_take_succ _ ks j hlt, hG, ← HGS.out]
          clear hown3 hgrow hat hlt4 hS3 hS2 hS1 hbA hown2 hfar hc4 hf4
          go_wp2_with fail
          go_roundw
          case rel => exact HNEXT.out
          case measure => simp [intOf]; omega
        · have hjl : j = ks.length := by omega
          subst hjl
          have HG : Hid (gs = rnAll (nameR old now) ks) := by have := HGS.out; rw [List.take_length] at this; exact this
          obtain ⟨va, vc, rfl⟩ : ∃ va vc, v = .slice va ks.length vc := by
            rw [← hgl]
            rcases HM.out.own.2 with ⟨h, h0⟩ | ⟨g, cp, _, h, _⟩
            · exact ⟨none, 0, by rw [h, h0]⟩
            · exact ⟨_, cp, h⟩
          have hro1 := HM.out.zero
          have r0 : wr.cell? ⟨w.heap.size + 1, 0, none⟩ = some (.int .i64 0) := by rw [cell_of_row wr _ 0 _ _ _ hro1]; rfl
          have r1 : wr.cell? ⟨w.heap.size + 1, 1, none⟩ = some (.string { data := #[] }) := by rw [cell_of_row wr _ 1 _ _ _ hro1]; rfl
          have r2 : wr.cell? ⟨w.heap.size + 1, 2, none⟩ = some (.int .i64 0) := by rw [cell_of_row wr _ 2 _ _ _ hro1]; rfl
          have r3 : wr.cell? ⟨w.heap.size + 1, 3, none⟩ = some (.slice none 0 0) := by rw [cell_of_row wr _ 3 _ _ _ hro1]; rfl
          have r4 : wr.cell? ⟨w.heap.size + 1, 4, none⟩ = some (.slice none 0 0) := by rw [cell_of_row wr _ 4 _ _ _ hro1]; rfl
          have hplr : Plain wr (w.heap.size + 1) := ⟨_, _, hro1⟩
          have t0 := hplr.frozen 0
          have t1 := hplr.frozen 1
          have t2 := hplr.frozen 2
          have t3 := hplr.frozen 3
          have t4 := hplr.frozen 4
          have HEND := Lib.hid (HM.out.ends HKR.out HNR.out (nameR_size' old now hno nm HNM.out))
          have hnb : ¬((ks.length : Int) < (ks.length : Int)) := by omega
          clear hro1 hplr
          go_wp2_with fail
          have hth : ∀ j, j < 5 → ∃ v, wr.cell? ⟨w.heap.size + 1, 0 + j, none⟩ = some v := fun j hj => by
            rw [Nat.zero_add]
            match j, hj with
            | 0, _ => exact ⟨_, r0⟩
            | 1, _ => exact ⟨_, r1⟩
            | 2, _ => exact ⟨_, r2⟩
            | 3, _ => exact ⟨_, r3⟩
            | 4, _ => exact ⟨_, r4⟩
          obtain ⟨z0, z1, z2, z3, z4⟩ := set5_in wr (w.heap.size + 1) 0 (.int .i64 k) (.string (nameR old now nm)) (.int .i64 n) (.slice sa2 sc.length scap2) (.slice va ks.length vc) hth
          have hss : Same (fun k => w.heap.size ≤ k ∧ k < wr.heap.size ∧ k ≠ w.heap.size + 1) wr (set5 wr (w.heap.size + 1) 0 (.int .i64 k) (.string (nameR old now nm)) (.int .i64 n) (.slice sa2 sc.length scap2) (.slice va ks.length vc)) :=
            fun c hc => set5_block _ _ _ _ _ _ _ _ hc.2.2
          have hz5 := set5_size wr (w.heap.size + 1) 0 (.int .i64 k) (.string (nameR old now nm)) (.int .i64 n) (.slice sa2 sc.length scap2) (.slice va ks.length vc)
          have hin5 := InV.mono (ψ := fun k' => w.heap.size ≤ k' ∧ k' < (set5 wr (w.heap.size + 1) 0 (.int .i64 k) (.string (nameR old now nm)) (.int .i64 n) (.slice sa2 sc.length scap2) (.slice va ks.length vc)).heap.size) (fun k' hk => ⟨hk.1, by rw [hz5]; exact hk.2.1⟩) _ _ (InV.later hss _ _ HEND.out)
          have hbe5 := set5_below HM.out.below (b := w.heap.size + 1) (by omega) 0 (.int .i64 k) (.string (nameR old now nm)) (.int .i64 n) (.slice sa2 sc.length scap2) (.slice va ks.length vc)
          unfold set5 at z0 z1 z2 z3 z4 hin5 hbe5
          simp only [Nat.zero_add] at z0 z1 z2 z3 z4 hin5 hbe5
          refine bodyPost_ret (v := .agg #[.int .i64 k, .string (nameR old now nm), .int .i64 n, .slice sa2 sc.length scap2, .slice va ks.length vc]) (by simp [results, Try.results129, go_sem, z0, z1, z2, z3, z4]) rfl ?_
          refine ⟨_, rfl, ?_, hbe5⟩
          rw [HG.out] at hin5
          rw [Fm.rn]
          exact hin5
theorem isB_text {d : Nat} {k : Int} {nm : ByteArray} {n : Int} {sc : List Int} {ks : List Fm} (hd : isB d (.mk k nm n sc ks) = true) : k = 1 ∨ nm.data.toList = [] := by
  cases d with
  | zero => simp [isB] at hd
  | succ d =>
    unfold isB at hd
    split at hd
    · rename_i h1; exact .inl h1
    · split at hd
      · simp only [Bool.and_eq_true, List.isEmpty_iff] at hd; exact .inr hd.1.1.1.1
      · simp only [Bool.and_eq_true, List.isEmpty_iff] at hd; exact .inr hd.1.1.1.2
theorem noneIs_valid {old : ByteArray} (ho : nameB old.data.toList = true) (f : Fm) : ∀ d, isB d f = true → NoneIs old f := by
  induction f using Fm.ind with
  | h k nm n sc ks ih =>
    intro d hd g hg hk
    obtain ⟨_, _, h3⟩ := isB_node hd
    rw [Fm.pre] at hg
    rcases List.mem_cons.1 hg with rfl | hg
    · rcases isB_text hd with h | h
      · subst h; cases hk
      · show (nm.toList == old.toList) = false
        rw [Lib.toList_data, Lib.toList_data, h]
        cases hh : old.data.toList with
        | nil => rw [hh] at ho; exact absurd ho (by decide)
        | cons _ _ => rfl
    · have key : ∀ (ls : List Fm), (∀ y ∈ ls, y ∈ ks) → g ∈ preAll ls → ∃ y ∈ ls, g ∈ y.pre := by
        intro ls
        induction ls with
        | nil => intro _ h; simp [preAll] at h
        | cons y r ihr =>
          intro hs h
          simp only [preAll, List.mem_append] at h
          rcases h with h | h
          · exact ⟨y, by simp, h⟩
          · obtain ⟨z, hz, hz2⟩ := ihr (fun z hz => hs z (by simp [hz])) h
            exact ⟨z, by simp [hz], hz2⟩
      obtain ⟨y, hy, hgy⟩ := key ks (fun _ h => h) hg
      obtain ⟨d', hd'⟩ := h3 y hy
      exact ih y hy d' hd' g hgy hk
/-- whether a form is renamed -/
def renB (f : Fm) (old now : ByteArray) : Bool := formB f && (nameB old.data.toList && nameB now.data.toList)
set_option maxRecDepth 100000 in
set_option maxHeartbeats 2000000 in
theorem specRename_any (B : Nat) (old now : ByteArray) (hol : old.size ≤ maxLen) (hno : now.size ≤ maxLen) (f : Fm) (v : Value) (w : World) (hB : B ≤ w.heap.size) (hv : InV (· < B) w f v) (hsz : f.sz ≤ 1048576)
    (ok : Bool) (R : Fm) (hok : renB f old now = ok) (hR : (if ok = true then f.rn (nameR old now) else zeroForm) = R) :
    Calls Try.prog 64 #[v, .string old, .string now] w fun e w' => ∃ v, e = .returned (.tuple #[v, .bool ok]) ∧
      InV (fun k => w.heap.size ≤ k ∧ k < w'.heap.size) w' R v ∧ Below w.heap.size w w' := by
  have HV := Lib.hid hv
  have HNO := Lib.hid hno
  have HOL := Lib.hid hol
  have HSZ := Lib.hid hsz
  have HR := Lib.hid hR
  have HOK := Lib.hid hok
  have hcf := f.count_le
  obtain ⟨sa, scap, a, cap, rfl⟩ := hv.form
  clear hv hno hsz hol hR hok
  obtain ⟨w1, hw1⟩ : ∃ w1, w1 = (w.alloc (.cells #[.int .i64 f.kind, .string f.name, .int .i64 f.n, .slice sa f.scopes.length scap, .slice a f.kids.length cap] 33)).alloc (.cells #[.int .i64 0, .string { data := #[] }, .int .i64 0, .slice none 0 0, .slice none 0 0] 33) := ⟨_, rfl⟩
  have hs1 : w1.heap.size = w.heap.size + 2 := by rw [hw1]; simp
  have hb1 : Below w.heap.size w w1 := by rw [hw1]; exact (below_alloc w _).alloc (by simp) _
  have hX : FormBox w1 w.heap.size f sa scap a cap := by rw [hw1]; exact (FormBox.fresh w f sa a scap cap 33).later (below_alloc _ _)
  have hZ : w1.heap[w.heap.size + 1]? = some (.cells #[.int .i64 0, .string { data := #[] }, .int .i64 0, .slice none 0 0, .slice none 0 0] 33 (0, 0)) := by
    have := heap_alloc_new (w.alloc (.cells #[.int .i64 f.kind, .string f.name, .int .i64 f.n, .slice sa f.scopes.length scap, .slice a f.kids.length cap] 33)) (.cells #[.int .i64 0, .string { data := #[] }, .int .i64 0, .slice none 0 0, .slice none 0 0] 33)
    rw [size_alloc'] at this
    rw [hw1]
    exact this
  have HW1 := Lib.hid hw1
  have HB1 := Lib.hid hb1
  have HX := Lib.hid hX
  have HZ := Lib.hid hZ
  obtain ⟨x0, x1, x2, x3, x4⟩ := hX
  clear hw1 hb1 hZ
  go_enter Try.func64, Try.ntmps64
  go_wp2_with fail
  rw [← HW1.out]
  refine (specFormValid_any B f _ w1 (by omega) (InV.later (same_below (HB1.out.mono hB)) _ _ HV.out) (by have := HSZ.out; omega)).mono ?_
  rintro e w2 ⟨rfl, hb2⟩
  have hs2 : w.heap.size + 2 ≤ w2.heap.size := by have := hb2.size; omega
  have HX2 := Lib.hid (HX.out.later hb2)
  have hz2 := (hb2.block _ (by omega)).trans HZ.out
  have HB2 : Hid (Below w.heap.size w w2) := HB1.out.trans (hb2.mono (by omega))
  have HZ2 := Lib.hid hz2
  clear hb2 hz2 HX HZ HB1 HW1 x0 x1 x2 x3 x4
  have HREN : Hid (renB f old now = (formB f && (nameB old.data.toList && nameB now.data.toList))) := rfl
  cases hfb : formB f with
  | false =>
    obtain rfl : false = ok := by rw [← HOK.out, HREN.out, hfb]; rfl
    obtain rfl : zeroForm = R := HR.out
    obtain ⟨r0, r1, r2, r3, r4, t0, t1, t2, t3, t4⟩ := zeroFacts HZ2.out
    have hth := Lib.hid (zeroThere HZ2.out)
    go_wp2_with fail
    obtain ⟨z0, z1, z2, z3, z4⟩ := set5_in w2 (w.heap.size + 1) 0 (.int .i64 0) (.string { data := #[] }) (.int .i64 0) (.slice none 0 0) (.slice none 0 0) hth.out
    have hbe5 := set5_below HB2.out (b := w.heap.size + 1) (by omega) 0 (.int .i64 0) (.string { data := #[] }) (.int .i64 0) (.slice none 0 0) (.slice none 0 0)
    unfold set5 at z0 z1 z2 z3 z4 hbe5
    simp only [Nat.zero_add] at z0 z1 z2 z3 z4 hbe5
    refine bodyPost_ret (v := .tuple #[.agg #[.int .i64 0, .string { data := #[] }, .int .i64 0, .slice none 0 0, .slice none 0 0], .bool false]) (by simp [results, Try.results64, go_sem, z0, z1, z2, z3, z4]) rfl ?_
    exact ⟨_, rfl, zeroIn _ _, hbe5⟩
  | true =>
    go_wp2_with fail
    refine (specNameValid_any old _ HOL.out).mono ?_
    rintro e w3 ⟨rfl, hw3⟩
    subst hw3
    cases hob : nameB old.data.toList with
    | false =>
      obtain rfl : false = ok := by rw [← HOK.out, HREN.out, hfb, hob]; rfl
      obtain rfl : zeroForm = R := HR.out
      obtain ⟨r0, r1, r2, r3, r4, t0, t1, t2, t3, t4⟩ := zeroFacts HZ2.out
      have hth := Lib.hid (zeroThere HZ2.out)
      go_wp2_with fail
      obtain ⟨z0, z1, z2, z3, z4⟩ := set5_in w2 (w.heap.size + 1) 0 (.int .i64 0) (.string { data := #[] }) (.int .i64 0) (.slice none 0 0) (.slice none 0 0) hth.out
      have hbe5 := set5_below HB2.out (b := w.heap.size + 1) (by omega) 0 (.int .i64 0) (.string { data := #[] }) (.int .i64 0) (.slice none 0 0) (.slice none 0 0)
      unfold set5 at z0 z1 z2 z3 z4 hbe5
      simp only [Nat.zero_add] at z0 z1 z2 z3 z4 hbe5
      refine bodyPost_ret (v := .tuple #[.agg #[.int .i64 0, .string { data := #[] }, .int .i64 0, .slice none 0 0, .slice none 0 0], .bool false]) (by simp [results, Try.results64, go_sem, z0, z1, z2, z3, z4]) rfl ?_
      exact ⟨_, rfl, zeroIn _ _, hbe5⟩
    | true =>
      go_wp2_with fail
      refine (specNameValid_any now _ HNO.out).mono ?_
      rintro e w4 ⟨rfl, hw4⟩
      subst hw4
      cases hnb : nameB now.data.toList with
      | false =>
        obtain rfl : false = ok := by rw [← HOK.out, HREN.out, hfb, hob, hnb]; rfl
        obtain rfl : zeroForm = R := HR.out
        obtain ⟨r0, r1, r2, r3, r4, t0, t1, t2, t3, t4⟩ := zeroFacts HZ2.out
        have hth := Lib.hid (zeroThere HZ2.out)
        go_wp2_with fail
        obtain ⟨z0, z1, z2, z3, z4⟩ := set5_in w2 (w.heap.size + 1) 0 (.int .i64 0) (.string { data := #[] }) (.int .i64 0) (.slice none 0 0) (.slice none 0 0) hth.out
        have hbe5 := set5_below HB2.out (b := w.heap.size + 1) (by omega) 0 (.int .i64 0) (.string { data := #[] }) (.int .i64 0) (.slice none 0 0) (.slice none 0 0)
        unfold set5 at z0 z1 z2 z3 z4 hbe5
        simp only [Nat.zero_add] at z0 z1 z2 z3 z4 hbe5
        refine bodyPost_ret (v := .tuple #[.agg #[.int .i64 0, .string { data := #[] }, .int .i64 0, .slice none 0 0, .slice none 0 0], .bool false]) (by simp [results, Try.results64, go_sem, z0, z1, z2, z3, z4]) rfl ?_
        exact ⟨_, rfl, zeroIn _ _, hbe5⟩
      | true =>
        obtain rfl : true = ok := by rw [← HOK.out, HREN.out, hfb, hob, hnb]; rfl
        obtain ⟨x0, x1, x2, x3, x4⟩ := HX2.out
        have HNI : Hid (NoneIs old f) := noneIs_valid hob f 40 (formB_isB hfb)
        go_wp2_with fail
        refine (l9Rename_any B old now HNO.out f false _ w2 (by omega) (InV.later (same_below (HB2.out.mono hB)) _ _ HV.out) HSZ.out HNI.out).mono ?_
        rintro e w5 hp
        obtain ⟨G, hG⟩ : ∃ G, G = f.rn (nameR old now) := ⟨_, rfl⟩
        rw [← hG] at hp
        have hr5 : G = R := by have h := HR.out; rw [← hG] at h; simpa using h
        have HR5 := Lib.hid hr5
        clear hG HR hr5
        obtain ⟨cv, rfl, hc, hb5⟩ := hp
        obtain rfl := HR5.out
        obtain ⟨csa, cscap, ca, ccap, rfl⟩ := hc.form
        have hs5 := hb5.size
        have hz7 := (hb5.block _ (by omega)).trans HZ2.out
        have HB7 : Hid (Below w.heap.size w w5) := HB2.out.trans (hb5.mono (by omega))
        have HC : Hid (InV (fun k => w.heap.size ≤ k ∧ k < w5.heap.size ∧ k ≠ w.heap.size + 1) w5 G _) := InV.mono (fun k hk => by have h1 := hk.1; have h2 := hk.2; exact ⟨by omega, by omega, by omega⟩) _ _ hc
        clear hb5 hc x0 x1 x2 x3 x4
        obtain ⟨r0, r1, r2, r3, r4, t0, t1, t2, t3, t4⟩ := zeroFacts hz7
        have hth := Lib.hid (zeroThere hz7)
        clear hz7
        go_wp2_with fail
        obtain ⟨z0, z1, z2, z3, z4⟩ := set5_in w5 (w.heap.size + 1) 0 (.int .i64 G.kind) (.string G.name) (.int .i64 G.n) (.slice csa G.scopes.length cscap) (.slice ca G.kids.length ccap) hth.out
        have hz5 := set5_size w5 (w.heap.size + 1) 0 (.int .i64 G.kind) (.string G.name) (.int .i64 G.n) (.slice csa G.scopes.length cscap) (.slice ca G.kids.length ccap)
        have hbe5 := set5_below HB7.out (b := w.heap.size + 1) (by omega) 0 (.int .i64 G.kind) (.string G.name) (.int .i64 G.n) (.slice csa G.scopes.length cscap) (.slice ca G.kids.length ccap)
        have hss : Same (fun k => w.heap.size ≤ k ∧ k < w5.heap.size ∧ k ≠ w.heap.size + 1) w5 (set5 w5 (w.heap.size + 1) 0 (.int .i64 G.kind) (.string G.name) (.int .i64 G.n) (.slice csa G.scopes.length cscap) (.slice ca G.kids.length ccap)) := fun c hc => set5_block _ _ _ _ _ _ _ _ hc.2.2
        have hin5 := InV.mono (ψ := fun k' => w.heap.size ≤ k' ∧ k' < (set5 w5 (w.heap.size + 1) 0 (.int .i64 G.kind) (.string G.name) (.int .i64 G.n) (.slice csa G.scopes.length cscap) (.slice ca G.kids.length ccap)).heap.size) (fun k' hk => ⟨hk.1, by rw [hz5]; exact hk.2.1⟩) _ _ (InV.later hss _ _ HC.out)
        unfold set5 at z0 z1 z2 z3 z4 hbe5 hin5
        simp only [Nat.zero_add] at z0 z1 z2 z3 z4 hbe5 hin5
        refine bodyPost_ret (v := .tuple #[.agg #[.int .i64 G.kind, .string G.name, .int .i64 G.n, .slice csa G.scopes.length cscap, .slice ca G.kids.length ccap], .bool true]) (by simp [results, Try.results64, go_sem, z0, z1, z2, z3, z4]) rfl ?_
        exact ⟨_, rfl, hin5, hbe5⟩
end Go.Proofs.Ytnogpaflibghhaa
