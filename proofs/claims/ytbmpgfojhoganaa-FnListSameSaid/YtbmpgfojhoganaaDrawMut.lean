/- The contract of the model's change of a form in one place. -/
import Derived.Test.YtbmpgfojhoganaaCopyDress
namespace Go.Proofs.Ytbmpgfojhoganaa
open Go.RowKit
set_option linter.unusedVariables false
set_option linter.unusedSimpArgs false
def mutNames : List ByteArray := [⟨#[]⟩, ⟨#[65]⟩, ⟨#[116, 111, 111, 108, 111, 110, 103, 97, 110, 97, 109, 101, 49]⟩, ⟨#[122]⟩, ⟨#[120, 32, 121]⟩]
theorem mut_size : ∀ y ∈ mutNames, y.size ≤ 13 := by decide
theorem gen_world' {K : Act → World → Prop} {a : Act} {W : World} (h : ∀ W', W' = W → K a W') : K a W := h W rfl
/-- a form changed in one place -/
structure MutR (k : Nat) (f F : Fm) : Prop where
  count : F.count ≤ f.count
  slim : ∀ g ∈ F.pre, g.name.size ≤ 13 ∧ g.scopes.length ≤ k + 1
theorem MutR.of {k : Nat} {f : Fm} {kd : Int} {nm : ByteArray} {n : Int} {sc : List Int} {gs : List Fm} (hn : nm.size ≤ 13) (hs : sc.length ≤ k + 1) (h : SlimAll (countAll f.kids) 13 (k + 1) gs) : MutR k f (.mk kd nm n sc gs) := by
  have := Slim.node (kd := kd) (n := n) hn hs h
  exact ⟨by rw [count_eq f]; exact this.1, this.2⟩
/-- a list of numbers, written out -/
theorem row_new2 (w : World) (T : TypeId) (l : List Int) (hl : l.length ≤ 1000) (hb : ∀ n ∈ l, -1 ≤ n ∧ n ≤ 1000) :
    IntRow (fun k => k = w.heap.size) (w.alloc (.cells (l.map (Value.int .i64)).toArray T)) (.slice (some ⟨w.heap.size, 0, none⟩) l.length l.length) l := by
  refine ⟨_, l.length, rfl, Nat.le_refl _, by unfold maxLen; omega, fun n hn => by have := hb n hn; omega, .inr ⟨w.heap.size, 0, rfl, rfl, fun i hi => ?_⟩⟩
  rw [Nat.zero_add]
  exact (World.cell?_alloc_at _ _ _ _ rfl).trans (by simp [hi])
section
variable {T U : TypeId} {B b : Nat} {w wr : World} {rb ob lo hi q : Nat} {kd : Int} {nm : ByteArray} {n : Int} {sc : List Int} {gs : List Fm} {sa : Option Addr} {scap : Nat} {a : Option Addr} {cap : Nat} {xs : List Value}
/-- its scopes are grown by one, in place or anew -/
theorem DressMid.growScopes {x : Int} {gq qd : Nat} {w1 : World} (h : DressMid T U B b w wr rb ob lo hi q kd nm n sc gs sa scap a cap xs)
    (hown : w1.ownsRow lo U 1 (.slice (some ⟨gq, 0, none⟩) (sc.length + 1) qd) (sc.length + 1) (sc.map (Value.int .i64) ++ [.int .i64 x])) (hgrow : wr.grownBy w1 (Value.slice sa sc.length scap).ownBlock)
    (hat : (Value.slice sa sc.length scap).ownBlock = some gq ∨ gq = wr.heap.size) :
    DressMid T U B b w (w1.setCell ⟨ob, 3, none⟩ (.slice (some ⟨gq, 0, none⟩) (sc ++ [x]).length qd)) rb ob lo w1.heap.size q kd nm n (sc ++ [x]) gs (some ⟨gq, 0, none⟩) qd a cap xs := by
  obtain ⟨f1, f2, f3, f4, f5, f6⟩ := h.fix
  have hB := h.rd.1
  have hs := hgrow.size
  have hsb : ∀ k, (Value.slice sa sc.length scap).ownBlock = some k → lo ≤ k ∧ k < wr.heap.size := fun k e => h.srow.lt k e
  have hgb : lo ≤ gq ∧ gq < w1.heap.size := hown.lt gq rfl
  have hold3 : ∀ k, k < wr.heap.size → (Value.slice sa sc.length scap).ownBlock ≠ some k → w1.heap[k]? = wr.heap[k]? := fun k h1 h2 => hgrow.block k h1 (Ne.symm h2)
  have hlow : ∀ k, k < lo → (Value.slice sa sc.length scap).ownBlock ≠ some k := fun k hk e => by have := hsb k e; omega
  have hobn : (Value.slice sa sc.length scap).ownBlock ≠ some ob := fun e => (h.ne ob e).2.1 rfl
  have hz : (w1.setCell ⟨ob, 3, none⟩ (.slice (some ⟨gq, 0, none⟩) (sc ++ [x]).length qd)).heap.size = w1.heap.size := by simp [World.setCell]
  have hold : ∀ k, k < wr.heap.size → (Value.slice sa sc.length scap).ownBlock ≠ some k → k ≠ ob → (w1.setCell ⟨ob, 3, none⟩ (.slice (some ⟨gq, 0, none⟩) (sc ++ [x]).length qd)).heap[k]? = wr.heap[k]? := fun k h1 h2 h3 => by
    rw [Below.heap_setCell _ _ _ _ h3]; exact hold3 k h1 h2
  have hob : ∀ i, w1.cell? ⟨ob, i, none⟩ = wr.cell? ⟨ob, i, none⟩ := fun i => World.cell?_of_block (a := ⟨ob, i, none⟩) (hold3 ob (by omega) hobn)
  have hgq : gq ≠ ob := by
    rcases hat with e | e
    · exact (h.ne gq e).2.1
    · omega
  have hgk : (Value.slice a gs.length cap).ownBlock ≠ some gq := by
    rcases hat with e | e
    · exact (h.ne gq e).2.2
    · intro e2; have := h.nk gq e2; omega
  have hr1 : Rd B w1 b q := h.rd.same fun k hk => hold3 k (by have := h.rd.lt; omega) (hlow k (by omega))
  have hk1 : Kept b 1 2 w w1 := ⟨hgrow.os.trans h.kept.os, hgrow.tape.trans h.kept.tape, hgrow.output.trans h.kept.output, by have := h.kept.size; omega,
    fun k h1 h2 => (hold3 k (by omega) (hlow k (by omega))).trans (h.kept.block k h1 h2),
    fun o ho => (World.cell?_of_block (a := ⟨b, o, none⟩) (hold3 b (by omega) (hlow b (by omega)))).trans (h.kept.cell o ho), fun o => (World.frozen?_of_block (a := ⟨b, o, none⟩) (hold3 b (by omega) (hlow b (by omega)))).trans (h.kept.frozen o)⟩
  refine ⟨(hold rb (by omega) (hlow rb (by omega)) (by omega)).trans h.zero, ?_, ?_, ?_, World.cell?_setCell_same _ _ _ ((hob 3).trans h.o3), ?_, fun i => ?_, ?_, ?_, ?_, ?_, fun k e => by have := h.nk k e; exact ⟨by omega, this.2⟩, hk1.setNew f1 (by omega), hr1.setOther (by omega) (by omega), f1, f2, f3, f4, by omega, by rw [hz]; exact Nat.le_refl _⟩
  · rw [World.cell?_setCell_other _ _ _ _ (addr_ne (by omega)), hob]; exact h.o0
  · rw [World.cell?_setCell_other _ _ _ _ (addr_ne (by omega)), hob]; exact h.o1
  · rw [World.cell?_setCell_other _ _ _ _ (addr_ne (by omega)), hob]; exact h.o2
  · rw [World.cell?_setCell_other _ _ _ _ (addr_ne (by omega)), hob]; exact h.o4
  · rw [World.frozen?_setCell]
    exact (World.frozen?_of_block (a := ⟨ob, i, none⟩) (hold3 ob (by omega) hobn)).trans (h.free i)
  · have := ownsRow_setFar (b := ob) (o := 3) (u := .slice (some ⟨gq, 0, none⟩) (sc ++ [x]).length qd) hown hgq
    simpa using this
  · exact ownsRow_same h.krow fun k e => hold k (h.krow.lt k e).2 (fun e2 => (h.ne k e2).2.2 e) (h.nk k e).2
  · refine h.vals.keep (fun k hk => hold k (by omega) hk.2.2.2.2 hk.2.2.1) fun k hk => ⟨hk.1, by omega, hk.2.2.1, hk.2.2.2.1, fun e => ?_⟩
    simp only [Value.ownBlock, Option.some.injEq] at e
    subst e
    rcases hat with e | e
    · exact hk.2.2.2.2 e
    · omega
  · intro k e
    simp only [Value.ownBlock, Option.some.injEq] at e
    subst e
    exact ⟨hgb.2, hgq, hgk⟩
/-- the form is handed back -/
theorem DressMid.out5 (h : DressMid T U B b w wr rb ob lo hi q kd nm n sc gs sa scap a cap xs) (hk : -9223372036854775808 ≤ kd ∧ kd ≤ 9223372036854775807) (hn : -9223372036854775808 ≤ n ∧ n ≤ 9223372036854775807) (hm : nm.size ≤ maxLen)
    (hs : ∀ n ∈ sc, -9223372036854775808 ≤ n ∧ n ≤ 9223372036854775807) (W : World) (hW : W = set5 wr rb 0 (.int .i64 kd) (.string nm) (.int .i64 n) (.slice sa sc.length scap) (.slice a gs.length cap)) :
    (W.cell? ⟨rb, 0, none⟩ = some (.int .i64 kd) ∧ W.cell? ⟨rb, 1, none⟩ = some (.string nm) ∧ W.cell? ⟨rb, 2, none⟩ = some (.int .i64 n) ∧ W.cell? ⟨rb, 3, none⟩ = some (.slice sa sc.length scap) ∧ W.cell? ⟨rb, 4, none⟩ = some (.slice a gs.length cap)) ∧
      InV (fun k => w.heap.size ≤ k ∧ k < W.heap.size) W (.mk kd nm n sc gs) (.agg #[.int .i64 kd, .string nm, .int .i64 n, .slice sa sc.length scap, .slice a gs.length cap]) ∧ Rd B W b q ∧ Kept b 1 2 w W := by
  obtain ⟨f1, f2, f3, f4, f5, f6⟩ := h.fix
  have hB := h.rd.1
  have hz5 := set5_size wr rb 0 (.int .i64 kd) (.string nm) (.int .i64 n) (.slice sa sc.length scap) (.slice a gs.length cap)
  have hth := zeroThere h.zero
  subst hW
  refine ⟨set5_in wr rb 0 _ _ _ _ _ hth, InV.mono (fun k' hk => ⟨hk.1, by rw [hz5]; exact hk.2.1⟩) _ _ (InV.later (fun c hc => set5_block _ _ _ _ _ _ _ _ hc.2.2) _ _ (h.ends hk hn hm hs)), ?_, ?_⟩
  · unfold set5
    exact ((((h.rd.setOther (by omega) (by omega)).setOther (by omega) (by omega)).setOther (by omega) (by omega)).setOther (by omega) (by omega)).setOther (by omega) (by omega)
  · unfold set5
    exact ((((h.kept.setNew f1 (by omega)).setNew f1 (by omega)).setNew f1 (by omega)).setNew f1 (by omega)).setNew f1 (by omega)
end
set_option maxRecDepth 100000 in
set_option maxHeartbeats 8000000 in
theorem l1Mutate_aux (N : Nat) : ∀ (f : Fm) (v : Value) (B b p k : Nat) (w : World), f.count ≤ N → Rd B w b p → p + 2 * f.count ≤ 300000 → InV (· < w.heap.size) w f v → f.sz ≤ 1048576 → (∀ g ∈ f.pre, g.name.size ≤ 13 ∧ g.scopes.length ≤ k) →
    Calls Try.prog 53 #[.pointer (some ⟨b, 0, none⟩), v] w (SomePost B b p (2 * f.count + 1) (MutR k f) w) := by
  induction N with
  | zero => intro f v B b p k w h; have := f.count_pos; omega
  | succ N ih =>
    intro f v B b p k w hN hr hp hv hsz hslim
    have HIH := Lib.hid ih
    have HV := Lib.hid hv
    have HSL := Lib.hid hslim
    have HBD := Lib.hid hv.bounds
    have hbw := hr.lt
    have hBb := hr.1
    have hce := count_eq f
    have hkl : f.kids.length ≤ 1048576 := Nat.le_trans (sz_scopes f).2 hsz
    obtain ⟨sa, scap, a, cap, rfl⟩ := hv.form
    have hhead := hslim f (by rw [pre_eq]; simp)
    have HHEAD := Lib.hid hhead
    have hb0 : Below w.heap.size w ((w.alloc (.cells #[.int .i64 f.kind, .string f.name, .int .i64 f.n, .slice sa f.scopes.length scap, .slice a f.kids.length cap] 26)).alloc (.cells #[.int .i64 0, .string { data := #[] }, .int .i64 0, .slice none 0 0, .slice none 0 0] 26)) := (below_alloc w _).alloc (by simp) _
    have HB0 := Lib.hid hb0
    have hz0 := heap_alloc_new (w.alloc (.cells #[.int .i64 f.kind, .string f.name, .int .i64 f.n, .slice sa f.scopes.length scap, .slice a f.kids.length cap] 26)) (.cells #[.int .i64 0, .string { data := #[] }, .int .i64 0, .slice none 0 0, .slice none 0 0] 26)
    rw [size_alloc'] at hz0
    have HZ0 := Lib.hid hz0
    have HX0 := Lib.hid ((FormBox.fresh w f sa a scap cap 26).later (below_alloc (w.alloc (.cells #[.int .i64 f.kind, .string f.name, .int .i64 f.n, .slice sa f.scopes.length scap, .slice a f.kids.length cap] 26)) (.cells #[.int .i64 0, .string { data := #[] }, .int .i64 0, .slice none 0 0, .slice none 0 0] 26)))
    have HR0 := Lib.hid (hr.later hb0)
    obtain ⟨i0, hi0, hzz0, hzz1, hzz2⟩ := info_parts Try.infoFm
    obtain ⟨l0, hl0, hlz0, hlz1, hlz2⟩ := info_parts Try.infoInt
    clear hv hslim hb0 hz0 hr ih hhead
    go_enter Try.func53, Try.ntmps53
    go_wp2_with fail
    refine (specCopyT_any w.heap.size f _ _ (by simp; omega) (InV.later (same_below HB0.out) _ _ HV.out) hsz).mono ?_
    rintro e w2 ⟨ca, ccap, ka, kcap, xs0, rfl, ht, hb2⟩
    rw [size_alloc', size_alloc'] at ht
    have hs2 : w.heap.size + 1 + 1 ≤ w2.heap.size := by have := hb2.size; simpa using this
    have HT := Lib.hid ht
    have HZ2 := Lib.hid ((hb2.block _ (by simp)).trans HZ0.out)
    have HK2 : Hid (Kept b 1 2 w w2) := (Kept.of_below HB0.out hbw).later hb2 hbw
    have HR2 := Lib.hid (HR0.out.later hb2)
    have HD0 := Lib.hid (DressMid.start (T := 26) (U := 3) (O := 0) ht HZ2.out HK2.out HR2.out hbw (show w.heap.size ≤ w.heap.size + 1 by omega) (Nat.lt_succ_self _) hs2)
    have HX2 := Lib.hid ((HX0.out.later hb2).later (below_alloc w2 (.cells #[.int .i64 f.kind, .string f.name, .int .i64 f.n, .slice ca f.scopes.length ccap, .slice ka f.kids.length kcap] 26)))
    have hs3 : (w2.alloc (.cells #[.int .i64 f.kind, .string f.name, .int .i64 f.n, .slice ca f.scopes.length ccap, .slice ka f.kids.length kcap] 26)).heap.size = w2.heap.size + 1 := size_alloc' _ _
    obtain ⟨w3, hw3⟩ : ∃ w3, w3 = w2.alloc (.cells #[.int .i64 f.kind, .string f.name, .int .i64 f.n, .slice ca f.scopes.length ccap, .slice ka f.kids.length kcap] 26) := ⟨_, rfl⟩
    rw [← hw3] at HD0 HX2 hs3
    have HW3 := Lib.hid hw3
    clear hw3 ht hb2
    obtain ⟨x0, x1, x2, x3, x4⟩ := HX2.out
    rw [HW3.out] at x0 x1 x2 x3 x4
    have y4 := HD0.out.o4
    have y4' := y4
    rw [HW3.out] at y4'
    by_cases hkl0 : 0 < f.kids.length
    · have hl1 : (0 : Int) < (f.kids.length : Int) := by omega
      go_wp2_with fail
      rw [← HW3.out]
      clear x0 x1 x2 x3 x4 y4'
      refine (pick_any b p 2 w3 HD0.out.rd (by omega) (by omega) (by omega)).mono ?_
      rintro e w4 ⟨x, hx, rfl, hr4, hk4⟩
      have hs4 := hk4.size
      have HD4 := Lib.hid (HD0.out.keep hk4 hr4)
      clear hr4 hk4 y4
      by_cases hx0 : x = 0
      · subst hx0
        go_wp2_with fail
        refine (pick_any b (p + 1) 14 w4 HD4.out.rd (by omega) (by omega) (by omega)).mono ?_
        rintro e w5 ⟨x, hx, rfl, hr5, hk5⟩
        have hs5 := hk5.size
        have HD5 := Lib.hid (HD4.out.keep hk5 hr5)
        clear hr5 hk5
        obtain ⟨f1, f2, f3, f4, f5, f6⟩ := HD5.out.fix
        by_cases h0 : x = 0
        · subst h0
          have hbA := below_alloc w5 (.cells ([0, 4, 1, 3].map (Value.int .i64)).toArray 3)
          have HBA := Lib.hid hbA
          have HROW := Lib.hid ((row_new2 w5 3 [0, 4, 1, 3] (by simp) (by decide)).mono (ψ := fun k => k < (w5.alloc (.cells ([0, 4, 1, 3].map (Value.int .i64)).toArray 3)).heap.size ∧ k ≠ b) (fun k (hk : k = w5.heap.size) => ⟨by rw [size_alloc']; omega, by omega⟩))
          clear hbA
          go_wp2_with fail
          refine (num_any b (p + 1 + 1) [0, 4, 1, 3] _ _ (HD5.out.rd.later HBA.out) (by omega) HROW.out (by simp) (by simp)).mono ?_
          rintro e w6 ⟨y, hy, rfl, hr6, hk6⟩
          have hs6 : w5.heap.size + 1 ≤ w6.heap.size := by have := hk6.size; simpa using this
          have hd6 := (HD5.out.later HBA.out).keep hk6 hr6
          have HY : Hid (-1 ≤ y ∧ y ≤ 1000) := by
            have h : ∀ y ∈ ([0, 4, 1, 3] : List Int), -1 ≤ y ∧ y ≤ 1000 := by decide
            exact h y hy
          have o0 := hd6.o0
          have o1 := hd6.o1
          have o2 := hd6.o2
          have o3 := hd6.o3
          have o4 := hd6.o4
          have fr := hd6.free 0
          obtain ⟨r0, r1, r2, r3, r4, t0, t1, t2, t3, t4⟩ := zeroFacts hd6.zero
          have hne : w.heap.size + 1 ≠ w2.heap.size := by omega
          obtain ⟨w7, hw7⟩ : ∃ w7, w7 = w6.setCell ⟨w2.heap.size, 0, none⟩ (.int .i64 y) := ⟨_, rfl⟩
          have hd7 := hd6.setKind (kd' := y)
          rw [← hw7] at hd7
          have HD7 := Lib.hid hd7
          have HW7 := Lib.hid hw7
          clear hd7 hw7
          clear hk6 hr6 hy hd6 HROW HBA
          have HEND := Lib.hid (HD7.out.out5 (show -9223372036854775808 ≤ y ∧ y ≤ 9223372036854775807 by have := HY.out; omega) HBD.out.2.1 HBD.out.2.2 HT.out.sb _ rfl)
          rw [HW7.out] at HEND
          go_wp2_with fail
          obtain ⟨⟨z0, z1, z2, z3, z4⟩, hin5, hr5, hk5⟩ := HEND.out
          unfold set5 at z0 z1 z2 z3 z4 hin5 hr5 hk5
          simp only [Nat.zero_add] at z0 z1 z2 z3 z4 hin5 hr5 hk5
          refine bodyPost_ret (v := .agg #[.int .i64 y, .string f.name, .int .i64 f.n, .slice ca f.scopes.length ccap, .slice ka f.kids.length kcap]) (by simp [results, Try.results53, go_sem, z0, z1, z2, z3, z4]) rfl ?_
          refine ⟨.mk y f.name f.n f.scopes f.kids, _, p + 1 + 2, rfl, hin5, MutR.of HHEAD.out.1 (Nat.le_succ_of_le HHEAD.out.2) (show SlimAll (countAll f.kids) 13 (k + 1) f.kids from ⟨Nat.le_refl _, fun g hg => by have := HSL.out g (by rw [pre_eq]; exact List.mem_cons_of_mem _ hg); omega⟩), by omega, hr5, hk5⟩
        · have h0' : ((x : Int) == 0) = false := by rw [beq_eq_false_iff_ne]; omega
          by_cases h1 : x = 1
          · subst h1
            have HBA := Lib.hid (below_alloc w5 (.cells (mutNames.map Value.string).toArray 9))
            have HCN : Hid (∀ i, (h : i < mutNames.length) → (w5.alloc (.cells (mutNames.map Value.string).toArray 9)).cell? ⟨w5.heap.size, 0 + i, none⟩ = some (.string mutNames[i])) := fun i h => by
              rw [Nat.zero_add]
              exact (World.cell?_alloc_at _ _ _ _ rfl).trans (by simp [h])
            go_wp2_with fail
            refine (of_any b (p + 1 + 1) mutNames w5.heap.size 0 5 _ (HD5.out.rd.later HBA.out) (by omega) (by omega) HCN.out (by simp [mutNames]) (by simp [mutNames]) (by simp [mutNames])).mono ?_
            rintro e w6 ⟨y, hy, rfl, hr6, hk6⟩
            have hs6 : w5.heap.size + 1 ≤ w6.heap.size := by have := hk6.size; simpa using this
            have hd6 := (HD5.out.later HBA.out).keep hk6 hr6
            have HY := Lib.hid (mut_size y hy)
            have o0 := hd6.o0
            have o1 := hd6.o1
            have o2 := hd6.o2
            have o3 := hd6.o3
            have o4 := hd6.o4
            have fr := hd6.free 1
            obtain ⟨r0, r1, r2, r3, r4, t0, t1, t2, t3, t4⟩ := zeroFacts hd6.zero
            have hne : w.heap.size + 1 ≠ w2.heap.size := by omega
            obtain ⟨w7, hw7⟩ : ∃ w7, w7 = w6.setCell ⟨w2.heap.size, 1, none⟩ (.string y) := ⟨_, rfl⟩
            have hd7 := hd6.setName (nm' := y)
            rw [← hw7] at hd7
            have HD7 := Lib.hid hd7
            have HW7 := Lib.hid hw7
            clear hd7 hw7
            clear hk6 hr6 hy hd6 HCN HBA
            have HEND := Lib.hid (HD7.out.out5 HBD.out.1 HBD.out.2.1 (show y.size ≤ maxLen by have := HY.out; unfold maxLen; omega) HT.out.sb _ rfl)
            rw [HW7.out] at HEND
            go_wp2_with fail
            obtain ⟨⟨z0, z1, z2, z3, z4⟩, hin5, hr5, hk5⟩ := HEND.out
            unfold set5 at z0 z1 z2 z3 z4 hin5 hr5 hk5
            simp only [Nat.zero_add] at z0 z1 z2 z3 z4 hin5 hr5 hk5
            refine bodyPost_ret (v := .agg #[.int .i64 f.kind, .string y, .int .i64 f.n, .slice ca f.scopes.length ccap, .slice ka f.kids.length kcap]) (by simp [results, Try.results53, go_sem, z0, z1, z2, z3, z4]) rfl ?_
            refine ⟨.mk f.kind y f.n f.scopes f.kids, _, p + 1 + 2, rfl, hin5, MutR.of HY.out (Nat.le_succ_of_le HHEAD.out.2) (show SlimAll (countAll f.kids) 13 (k + 1) f.kids from ⟨Nat.le_refl _, fun g hg => by have := HSL.out g (by rw [pre_eq]; exact List.mem_cons_of_mem _ hg); omega⟩), by omega, hr5, hk5⟩
          · have h1' : ((x : Int) == 1) = false := by rw [beq_eq_false_iff_ne]; omega
            by_cases h2 : x = 2
            · subst h2
              have hbA := below_alloc w5 (.cells ([1000, -1, 5].map (Value.int .i64)).toArray 3)
              have HBA := Lib.hid hbA
              have HROW := Lib.hid ((row_new2 w5 3 [1000, -1, 5] (by simp) (by decide)).mono (ψ := fun k => k < (w5.alloc (.cells ([1000, -1, 5].map (Value.int .i64)).toArray 3)).heap.size ∧ k ≠ b) (fun k (hk : k = w5.heap.size) => ⟨by rw [size_alloc']; omega, by omega⟩))
              clear hbA
              go_wp2_with fail
              refine (num_any b (p + 1 + 1) [1000, -1, 5] _ _ (HD5.out.rd.later HBA.out) (by omega) HROW.out (by simp) (by simp)).mono ?_
              rintro e w6 ⟨y, hy, rfl, hr6, hk6⟩
              have hs6 : w5.heap.size + 1 ≤ w6.heap.size := by have := hk6.size; simpa using this
              have hd6 := (HD5.out.later HBA.out).keep hk6 hr6
              have HY : Hid (-1 ≤ y ∧ y ≤ 1000) := by
                have h : ∀ y ∈ ([1000, -1, 5] : List Int), -1 ≤ y ∧ y ≤ 1000 := by decide
                exact h y hy
              have o0 := hd6.o0
              have o1 := hd6.o1
              have o2 := hd6.o2
              have o3 := hd6.o3
              have o4 := hd6.o4
              have fr := hd6.free 2
              obtain ⟨r0, r1, r2, r3, r4, t0, t1, t2, t3, t4⟩ := zeroFacts hd6.zero
              have hne : w.heap.size + 1 ≠ w2.heap.size := by omega
              obtain ⟨w7, hw7⟩ : ∃ w7, w7 = w6.setCell ⟨w2.heap.size, 2, none⟩ (.int .i64 y) := ⟨_, rfl⟩
              have hd7 := hd6.setN (n' := y)
              rw [← hw7] at hd7
              have HD7 := Lib.hid hd7
              have HW7 := Lib.hid hw7
              clear hd7 hw7
              clear hk6 hr6 hy hd6 HROW HBA
              have HEND := Lib.hid (HD7.out.out5 HBD.out.1 (show -9223372036854775808 ≤ y ∧ y ≤ 9223372036854775807 by have := HY.out; omega) HBD.out.2.2 HT.out.sb _ rfl)
              rw [HW7.out] at HEND
              go_wp2_with fail
              obtain ⟨⟨z0, z1, z2, z3, z4⟩, hin5, hr5, hk5⟩ := HEND.out
              unfold set5 at z0 z1 z2 z3 z4 hin5 hr5 hk5
              simp only [Nat.zero_add] at z0 z1 z2 z3 z4 hin5 hr5 hk5
              refine bodyPost_ret (v := .agg #[.int .i64 f.kind, .string f.name, .int .i64 y, .slice ca f.scopes.length ccap, .slice ka f.kids.length kcap]) (by simp [results, Try.results53, go_sem, z0, z1, z2, z3, z4]) rfl ?_
              refine ⟨.mk f.kind f.name y f.scopes f.kids, _, p + 1 + 2, rfl, hin5, MutR.of HHEAD.out.1 (Nat.le_succ_of_le HHEAD.out.2) (show SlimAll (countAll f.kids) 13 (k + 1) f.kids from ⟨Nat.le_refl _, fun g hg => by have := HSL.out g (by rw [pre_eq]; exact List.mem_cons_of_mem _ hg); omega⟩), by omega, hr5, hk5⟩
            · have h2' : ((x : Int) == 2) = false := by rw [beq_eq_false_iff_ne]; omega
              by_cases h3 : x = 3
              · subst h3
                have hS0 : (fun w' : World => w'.cell? ⟨w2.heap.size, 3, none⟩ = some (.slice ca f.scopes.length ccap)) w5.drew := HD5.out.o3
                go_wp2_with fail
                refine upto_begin (fun w' : World => w'.cell? ⟨w2.heap.size, 3, none⟩ = some (.slice ca f.scopes.length ccap)) 8 (by kernel_rfl) ?_
                refine upto_take (i := 0) (d := some 57) (v := ?_) rfl rfl (by kernel_rfl) (by kernel_rfl) (by kernel_rfl) (by kernel_rfl) (fun _ _ _ h => h) (Or.inl ⟨by rfl, ?_⟩) hS0 ?_
                rotate_left
                · (intro wS hSw; go_simp; try with_reducible rfl)
                try simp only [Act.put, List.setIfInBounds_toArray, List.set_cons_zero, List.set_cons_succ]
                refine upto_take (i := 1) (d := some 58) (v := ?_) rfl rfl (by kernel_rfl) (by kernel_rfl) (by kernel_rfl) (by kernel_rfl) (fun _ _ _ h => h) (Or.inl ⟨by rfl, ?_⟩) hS0 ?_
                rotate_left
                · (intro wS hSw; go_simp; try with_reducible rfl)
                try simp only [Act.put, List.setIfInBounds_toArray, List.set_cons_zero, List.set_cons_succ]
                refine upto_take (i := 2) (d := some 59) (v := ?_) rfl rfl (by kernel_rfl) (by kernel_rfl) (by kernel_rfl) (by kernel_rfl) (fun _ _ _ h => h) (Or.inl ⟨by rfl, ?_⟩) hS0 ?_
                rotate_left
                · (intro wS hSw; go_simp; try with_reducible rfl)
                try simp only [Act.put, List.setIfInBounds_toArray, List.set_cons_zero, List.set_cons_succ]
                refine upto_one (i := 3) (by kernel_rfl) rfl (fun K hK => ?_)
                go_simp
                have hbA : Below w5.drew.heap.size w5.drew (w5.drew.alloc (.cells ([0, 100, 1, 50].map (Value.int .i64)).toArray 3)) := below_alloc _ _
                have HROW := Lib.hid ((row_new2 w5.drew 3 [0, 100, 1, 50] (by simp) (by decide)).mono (ψ := fun k => k < (w5.drew.alloc (.cells ([0, 100, 1, 50].map (Value.int .i64)).toArray 3)).heap.size ∧ k ≠ b) (fun k (hk : k = w5.drew.heap.size) => ⟨by rw [size_alloc']; omega, by have h : w5.drew.heap.size = w5.heap.size := rfl; omega⟩))
                have hS1 : (fun w' : World => w'.cell? ⟨w2.heap.size, 3, none⟩ = some (.slice ca f.scopes.length ccap)) (w5.drew.alloc (.cells ([0, 100, 1, 50].map (Value.int .i64)).toArray 3)) := cell_later' hbA hS0
                refine hK.out _ _ (.inr hS1) ?_
                clear hK K
                have hbA' : Below w5.heap.size w5 (w5.drew.alloc (.cells ([0, 100, 1, 50].map (Value.int .i64)).toArray 3)) := below_drew hbA
                have HBA := Lib.hid hbA'
                clear hbA hbA'
                refine upto_one (i := 4) (by kernel_rfl) rfl (fun K hK => ?_)
                go_simp
                refine (num_any b (p + 1 + 1) [0, 100, 1, 50] _ _ (HD5.out.rd.later HBA.out) (by omega) HROW.out (by simp) (by simp)).mono ?_
                rintro e w6 ⟨y, hy, rfl, hr6, hk6⟩
                have hs6 : w5.heap.size + 1 ≤ w6.heap.size := by have h := hk6.size; rw [size_alloc'] at h; exact h
                have hd6 := (HD5.out.later HBA.out).keep hk6 hr6
                have HD6 := Lib.hid hd6
                have HY : Hid (-1 ≤ y ∧ y ≤ 1000) := by
                  have h : ∀ y ∈ ([0, 100, 1, 50] : List Int), -1 ≤ y ∧ y ≤ 1000 := by decide
                  exact h y hy
                have hS2 : (fun w' : World => w'.cell? ⟨w2.heap.size, 3, none⟩ = some (.slice ca f.scopes.length ccap)) w6 := hd6.o3
                refine hK.out _ _ (.inr hS2) ?_
                clear hK K hk6 hr6 hy HROW HBA hd6 hS1 hS0
                refine upto_one (i := 5) (by kernel_rfl) rfl (fun K hK => ?_)
                go_simp
                have hbB := below_alloc w6 (.cells #[.int .i64 y] 3)
                have hS3 : (fun w' : World => w'.cell? ⟨w2.heap.size, 3, none⟩ = some (.slice ca f.scopes.length ccap)) (w6.alloc (.cells #[.int .i64 y] 3)) := cell_later' hbB hS2
                refine hK.out _ _ (.inr hS3) ?_
                clear hK K
                have hdB := HD6.out.later hbB
                have hsl : f.scopes.length ≤ 1048576 := Nat.le_trans (sz_scopes f).1 hsz
                have hL1 : f.scopes.length + 1 ≤ maxLen := by unfold maxLen; omega
                have hL2 : (f.scopes.length + 1) * 8 ≤ 2 ^ 47 := by omega
                refine upto_oper (i := 6) ⟨some 63, .call { callee := .builtin .append, args := #[.tmp 58, .tmp 62], argTypes := #[23, 23] }, 23, _, _, _⟩ (by kernel_rfl) rfl rfl (fun K hK => ?_)
                refine wp_append_lies _ (.tmp 58) (.tmp 62) 23 rfl (w.heap.size + 1 + 1) 3 l0 _ 1 8 Try.underlying23 hl0 hlz0 hlz1 hlz2 rfl (by omega) _ f.scopes.length (f.scopes.map (Value.int .i64)) (by rfl) hdB.srow
                          ⟨w6.heap.size, 0, none⟩ 1 1 [.int .i64 y] (by rfl) (by rfl) (World.news_of_block (cs := #[.int .i64 y]) (t := 3) (fr := (0, 0)) (heap_alloc_new w6 _)) (by simp [Value.oneCell'])
                          (by omega) hL1 hL2 (by simp; omega) (w6.heap.size + 1) (by simp) ?_
                intro gq qd w8 hown8 hgrow hat hlt8
                have hd8 := DressMid.growScopes (x := y) hdB (by simpa using hown8) hgrow (by simpa using hat)
                have HD8 := Lib.hid hd8
                have hob8 : w8.heap[w2.heap.size]? = (w6.alloc (.cells #[.int .i64 y] 3)).heap[w2.heap.size]? := hgrow.block _ (by have := hdB.fix; omega) (fun e => (hdB.ne _ e.symm).2.1 rfl)
                have hS4 : (fun w' : World => w'.cell? ⟨w2.heap.size, 3, none⟩ = some (.slice ca f.scopes.length ccap)) w8 := (World.cell?_of_block (a := ⟨w2.heap.size, 3, none⟩) hob8).trans hS3
                have fr := (World.frozen?_of_block (a := ⟨w2.heap.size, 3, none⟩) hob8).trans (hdB.free 3)
                refine hK.out _ _ (.inr hS4) ?_
                clear hK K hown8 hgrow hat hlt8 hd8 hob8 hdB hbB hS3 hS2
                have c8 := hS4
                refine upto_one (i := 7) (by kernel_rfl) rfl (fun K hK => ?_)
                go_simp
                refine hK.out _ _ (.inr hS4) ?_
                clear hK K
                refine upto_one (i := 8) (by kernel_rfl) rfl (fun K hK => ?_)
                go_simp
                refine gen_world' (fun w9 h9 => ?_)
                refine hK.out _ _ (.inl rfl) ?_
                clear hK K
                refine upto_done (by kernel_rfl) ?_ _
                have HD9 : Hid (DressMid 26 3 B b w w9 (w.heap.size + 1) w2.heap.size (w.heap.size + 1 + 1) w8.heap.size (p + 1 + 1 + 1) f.kind f.name f.n (f.scopes ++ [y]) f.kids (some ⟨gq, 0, none⟩) qd ka kcap xs0) := by
                  unfold Hid
                  rw [h9]
                  have h := HD8.out
                  rw [List.length_append, List.length_singleton] at h
                  exact h
                have HSB : Hid (∀ n ∈ f.scopes ++ [y], -9223372036854775808 ≤ n ∧ n ≤ 9223372036854775807) := fun n hn => by
                  rcases List.mem_append.1 hn with h | h
                  · exact HT.out.sb n h
                  · obtain rfl := List.mem_singleton.1 h
                    have := HY.out
                    omega
                have HSN : Hid ((f.scopes ++ [y]).length ≤ k + 1) := by
                  unfold Hid
                  rw [List.length_append, List.length_singleton]
                  exact Nat.succ_le_succ HHEAD.out.2
                obtain ⟨sc', hsc'⟩ : ∃ sc', sc' = f.scopes ++ [y] := ⟨_, rfl⟩
                rw [← hsc'] at HD9 HSB HSN
                clear h9 fr hS4 c8 HD8 HD6 hsc'
                obtain ⟨r0, r1, r2, r3, r4, t0, t1, t2, t3, t4⟩ := zeroFacts HD9.out.zero
                have o0 := HD9.out.o0
                have o1 := HD9.out.o1
                have o2 := HD9.out.o2
                have o3 := HD9.out.o3
                have o4 := HD9.out.o4
                have HEND := Lib.hid (HD9.out.out5 HBD.out.1 HBD.out.2.1 HBD.out.2.2 HSB.out _ rfl)
                go_wp2_with fail
                obtain ⟨⟨z0, z1, z2, z3, z4⟩, hin5, hr5, hk5⟩ := HEND.out
                unfold set5 at z0 z1 z2 z3 z4 hin5 hr5 hk5
                simp only [Nat.zero_add] at z0 z1 z2 z3 z4 hin5 hr5 hk5
                refine bodyPost_ret (v := .agg #[.int .i64 f.kind, .string f.name, .int .i64 f.n, .slice (some ⟨gq, 0, none⟩) sc'.length qd, .slice ka f.kids.length kcap]) (by simp [results, Try.results53, go_sem, z0, z1, z2, z3, z4]) rfl ?_
                refine ⟨.mk f.kind f.name f.n sc' f.kids, _, p + 1 + 2, rfl, hin5, MutR.of HHEAD.out.1 HSN.out (show SlimAll (countAll f.kids) 13 (k + 1) f.kids from ⟨Nat.le_refl _, fun g hg => by have := HSL.out g (by rw [pre_eq]; exact List.mem_cons_of_mem _ hg); omega⟩), by omega, hr5, hk5⟩
              · have h3' : ((x : Int) == 3) = false := by rw [beq_eq_false_iff_ne]; omega
                clear h0 h1 h2 h3
                obtain ⟨r0, r1, r2, r3, r4, t0, t1, t2, t3, t4⟩ := zeroFacts HD5.out.zero
                have o0 := HD5.out.o0
                have o1 := HD5.out.o1
                have o2 := HD5.out.o2
                have o3 := HD5.out.o3
                have o4 := HD5.out.o4
                have HEND := Lib.hid (HD5.out.out5 HBD.out.1 HBD.out.2.1 HBD.out.2.2 HT.out.sb _ rfl)
                go_wp2_with fail
                obtain ⟨⟨z0, z1, z2, z3, z4⟩, hin5, hr5, hk5⟩ := HEND.out
                unfold set5 at z0 z1 z2 z3 z4 hin5 hr5 hk5
                simp only [Nat.zero_add] at z0 z1 z2 z3 z4 hin5 hr5 hk5
                refine bodyPost_ret (v := .agg #[.int .i64 f.kind, .string f.name, .int .i64 f.n, .slice ca f.scopes.length ccap, .slice ka f.kids.length kcap]) (by simp [results, Try.results53, go_sem, z0, z1, z2, z3, z4]) rfl ?_
                refine ⟨.mk f.kind f.name f.n f.scopes f.kids, _, p + 1 + 1, rfl, hin5, MutR.of HHEAD.out.1 (Nat.le_succ_of_le HHEAD.out.2) (show SlimAll (countAll f.kids) 13 (k + 1) f.kids from ⟨Nat.le_refl _, fun g hg => by have := HSL.out g (by rw [pre_eq]; exact List.mem_cons_of_mem _ hg); omega⟩), by omega, hr5, hk5⟩
      · obtain rfl : x = 1 := by omega
        clear hx0 hx
        have y4 := HD4.out.o4
        go_wp2_with fail
        refine (pick_any b (p + 1) f.kids.length w4 HD4.out.rd (by omega) (by omega) (by have := length_countAll f.kids; omega)).mono ?_
        rintro e w5 ⟨j, hlt, rfl, hr5, hk5⟩
        have hs5 := hk5.size
        have hm := HD4.out.keep hk5 hr5
        have HM := Lib.hid hm
        clear hr5 hk5 y4
        obtain ⟨f1, f2, f3, f4, f5, f6⟩ := hm.fix
        have ho4 := hm.o4
        obtain ⟨g, rfl⟩ : ∃ g, ka = some ⟨g, 0, none⟩ := by
          rcases hm.krow.2 with ⟨_, h0⟩ | ⟨g, cp, cur, e, _⟩
          · omega
          · injection e with e1 _ _; exact ⟨g, e1⟩
        obtain ⟨c0, c1, c2, c3, c4, q0, q1, q2, q3, q4, hin⟩ := RowVals.at j hlt hm.vals
        replace q0 := cells_at hm.krow q0
        replace q1 := cells_at hm.krow q1
        replace q2 := cells_at hm.krow q2
        replace q3 := cells_at hm.krow q3
        replace q4 := cells_at hm.krow q4
        obtain ⟨G0, hG0⟩ : ∃ G0, f.kids[j] = G0 := ⟨_, rfl⟩
        rw [hG0] at hin
        have hin2 : InV (· < w5.heap.size) w5 G0 (.agg #[c0, c1, c2, c3, c4]) := InV.mono (fun k hk => by omega) _ _ hin
        obtain ⟨sa1, scap1, a1, cap1, e⟩ := hin2.form
        simp only [Value.agg.injEq, Array.mk.injEq, List.cons.injEq, and_true] at e
        obtain ⟨rfl, rfl, rfl, rfl, rfl⟩ := e
        have hgnk := hm.nk g rfl
        have hglt := hm.krow.lt g rfl
        have HIN := Lib.hid hin2
        have hmem : G0 ∈ f.kids := by rw [← hG0]; exact List.getElem_mem hlt
        have hcm := count_mem hmem
        have HC1 : Hid (G0.count ≤ N) := by unfold Hid; omega
        have HC2 : Hid (G0.sz ≤ 1048576) := Nat.le_trans (sz_kid hmem) hsz
        have HC3 : Hid (∀ g ∈ G0.pre, g.name.size ≤ 13 ∧ g.scopes.length ≤ k) := fun x hx => HSL.out x (by rw [pre_eq]; exact List.mem_cons_of_mem _ (mem_preAll'.2 ⟨G0, hmem, hx⟩))
        have HG0 := Lib.hid hG0
        have hj0 : (0 : Int) ≤ (j : Int) := by omega
        have hj1 : (j : Int) < (f.kids.length : Int) := by omega
        have hcm2 : G0.count + 1 ≤ f.count := by omega
        clear hm hin hin2 hmem hG0 HD4 HD0 hcm
        go_wp2_with fail
        have hS0 : KidHeld w2.heap.size w2.heap.size g (j * 5) (.slice (some ⟨g, 0, none⟩) f.kids.length kcap) (.slice (some ⟨g, 0, none⟩) f.kids.length kcap) (.int .i64 G0.kind) (.string G0.name) (.int .i64 G0.n) (.slice sa1 G0.scopes.length scap1) (.slice a1 G0.kids.length cap1) w5.drew := ⟨ho4, ho4, q0, q1, q2, q3, q4⟩
        refine upto_begin (KidHeld w2.heap.size w2.heap.size g (j * 5) (.slice (some ⟨g, 0, none⟩) f.kids.length kcap) (.slice (some ⟨g, 0, none⟩) f.kids.length kcap) (.int .i64 G0.kind) (.string G0.name) (.int .i64 G0.n) (.slice sa1 G0.scopes.length scap1) (.slice a1 G0.kids.length cap1)) 11 (by kernel_rfl) ?_
        refine upto_take (i := 0) (d := some 23) (v := ?_) rfl rfl (by kernel_rfl) (by kernel_rfl) (by kernel_rfl) (by kernel_rfl) (fun _ _ _ h => h) (Or.inl ⟨by rfl, ?_⟩) hS0 ?_
        rotate_left
        · (intro wS hSw; obtain ⟨_, _, _, _, _, _, _⟩ := hSw; go_simp; try with_reducible rfl)
        try simp only [Act.put, List.setIfInBounds_toArray, List.set_cons_zero, List.set_cons_succ]
        refine upto_take (i := 1) (d := some 24) (v := ?_) rfl rfl (by kernel_rfl) (by kernel_rfl) (by kernel_rfl) (by kernel_rfl) (fun _ _ _ h => h) (Or.inl ⟨by rfl, ?_⟩) hS0 ?_
        rotate_left
        · (intro wS hSw; obtain ⟨_, _, _, _, _, _, _⟩ := hSw; go_simp; try with_reducible rfl)
        try simp only [Act.put, List.setIfInBounds_toArray, List.set_cons_zero, List.set_cons_succ]
        refine upto_take (i := 2) (d := some 25) (v := ?_) rfl rfl (by kernel_rfl) (by kernel_rfl) (by kernel_rfl) (by kernel_rfl) (fun _ _ _ h => h) (Or.inl ⟨by rfl, ?_⟩) hS0 ?_
        rotate_left
        · (intro wS hSw; obtain ⟨_, _, _, _, _, _, _⟩ := hSw; go_simp; try with_reducible rfl)
        try simp only [Act.put, List.setIfInBounds_toArray, List.set_cons_zero, List.set_cons_succ]
        refine upto_take (i := 3) (d := some 26) (v := ?_) rfl rfl (by kernel_rfl) (by kernel_rfl) (by kernel_rfl) (by kernel_rfl) (fun _ _ _ h => h) (Or.inl ⟨by rfl, ?_⟩) hS0 ?_
        rotate_left
        · (intro wS hSw; obtain ⟨_, _, _, _, _, _, _⟩ := hSw; go_simp; try with_reducible rfl)
        try simp only [Act.put, List.setIfInBounds_toArray, List.set_cons_zero, List.set_cons_succ]
        refine upto_take (i := 4) (d := some 27) (v := ?_) rfl rfl (by kernel_rfl) (by kernel_rfl) (by kernel_rfl) (by kernel_rfl) (fun _ _ _ h => h) (Or.inl ⟨by rfl, ?_⟩) hS0 ?_
        rotate_left
        · (intro wS hSw; obtain ⟨_, _, _, _, _, _, _⟩ := hSw; go_simp; try with_reducible rfl)
        try simp only [Act.put, List.setIfInBounds_toArray, List.set_cons_zero, List.set_cons_succ]
        refine upto_take (i := 5) (d := some 28) (v := ?_) rfl rfl (by kernel_rfl) (by kernel_rfl) (by kernel_rfl) (by kernel_rfl) (fun _ _ _ h => h) (Or.inl ⟨by rfl, ?_⟩) hS0 ?_
        rotate_left
        · (intro wS hSw; obtain ⟨_, _, _, _, _, _, _⟩ := hSw; go_simp; try with_reducible rfl)
        try simp only [Act.put, List.setIfInBounds_toArray, List.set_cons_zero, List.set_cons_succ]
        refine upto_take (i := 6) (d := some 29) (v := ?_) rfl rfl (by kernel_rfl) (by kernel_rfl) (by kernel_rfl) (by kernel_rfl) (fun _ _ _ h => h) (Or.inl ⟨by rfl, ?_⟩) hS0 ?_
        rotate_left
        · (intro wS hSw; obtain ⟨_, _, _, _, _, _, _⟩ := hSw; go_simp; try with_reducible rfl)
        try simp only [Act.put, List.setIfInBounds_toArray, List.set_cons_zero, List.set_cons_succ]
        refine upto_take (i := 7) (d := some 30) (v := ?_) rfl rfl (by kernel_rfl) (by kernel_rfl) (by kernel_rfl) (by kernel_rfl) (fun _ _ _ h => h) (Or.inl ⟨by rfl, ?_⟩) hS0 ?_
        rotate_left
        · (intro wS hSw; obtain ⟨_, _, _, _, _, _, _⟩ := hSw; go_simp; try with_reducible rfl)
        try simp only [Act.put, List.setIfInBounds_toArray, List.set_cons_zero, List.set_cons_succ]
        refine upto_take (i := 8) (d := some 31) (v := ?_) rfl rfl (by kernel_rfl) (by kernel_rfl) (by kernel_rfl) (by kernel_rfl) (fun _ _ _ h => h) (Or.inl ⟨by rfl, ?_⟩) hS0 ?_
        rotate_left
        · (intro wS hSw; obtain ⟨_, _, _, _, _, _, _⟩ := hSw; go_simp; try with_reducible rfl)
        try simp only [Act.put, List.setIfInBounds_toArray, List.set_cons_zero, List.set_cons_succ]
        refine upto_one (i := 9) (by kernel_rfl) rfl (fun K hK => ?_)
        go_simp
        refine (HIH.out G0 _ B b (p + 1 + 1) k w5.drew HC1.out HM.out.rd.drew (by omega) (InV.later (w := w5) (w' := w5.drew) (fun _ _ => rfl) _ _ HIN.out) HC2.out HC3.out).mono ?_
        rintro e w1 ⟨G, kv, p', rfl, hkv, hGs, hp', hr1, hk1⟩
        obtain ⟨ksa, kscap, kna, kncap, rfl⟩ := hkv.form
        have hk1' : Kept b 1 2 w5 w1 := ((Kept.refl b 1 2 w5).drew).trans hk1
        have hS1 := KidHeld.keep (w := w5) (w' := w1) hS0 (fun k hk => hk1'.block k (by rcases hk with rfl | rfl | rfl <;> omega) (by rcases hk with rfl | rfl | rfl <;> omega))
        have HKV : Hid (InV (fun k => w5.heap.size ≤ k ∧ k < w1.heap.size) w1 G (.agg #[.int .i64 G.kind, .string G.name, .int .i64 G.n, .slice ksa G.scopes.length kscap, .slice kna G.kids.length kncap])) := hkv
        refine hK.out _ _ (.inr hS1) ?_
        have hM1 := HM.out.keep hk1' hr1
        have hn := hM1.setKid (i := j) hlt HKV.out (fun k hk => by omega)
        have HGS : Hid (SlimAll (countAll f.kids) 13 (k + 1) (f.kids.set j G)) := SlimAll.set hlt ⟨Nat.le_refl _, fun g hg => by have := HSL.out g (by rw [pre_eq]; exact List.mem_cons_of_mem _ hg); omega⟩ (by rw [HG0.out]; exact hGs.count) hGs.slim
        have HP : Hid (p' ≤ p + 1 + 1 + (2 * G0.count + 1)) := hp'
        have t0 := frozen_at hM1.krow (j * 5)
        have t1 := frozen_at hM1.krow (j * 5 + 1)
        have t2 := frozen_at hM1.krow (j * 5 + 2)
        have t3 := frozen_at hM1.krow (j * 5 + 3)
        have t4 := frozen_at hM1.krow (j * 5 + 4)
        have hlen : (f.kids.set j G).length = f.kids.length := by simp
        unfold set5 at hn
        have HN := Lib.hid hn
        clear hK K hkv hGs hp' hr1 hk1 hk1' hM1 hn
        refine upto_one (i := 10) (by kernel_rfl) rfl (fun K hK => ?_)
        go_simp
        refine hK.out _ _ (.inr hS1) ?_
        clear hK K
        obtain ⟨u0, u00, u1, u2, u3, u4, u5⟩ := hS1
        refine upto_one (i := 11) (by kernel_rfl) rfl (fun K hK => ?_)
        go_simp
        refine gen_world' (fun w9 h9 => ?_)
        refine hK.out _ _ (.inl rfl) ?_
        clear hK K
        refine upto_done (by kernel_rfl) ?_ _
        rw [← h9] at HN
        clear h9 u0 u00 u1 u2 u3 u4 u5 t0 t1 t2 t3 t4 q0 q1 q2 q3 q4 ho4 hS0
        obtain ⟨gs', hgs'⟩ : ∃ gs', gs' = f.kids.set j G := ⟨_, rfl⟩
        rw [← hgs'] at HN HGS hlen
        clear hgs' hlen
        obtain ⟨r0, r1, r2, r3, r4, t0, t1, t2, t3, t4⟩ := zeroFacts HN.out.zero
        have o0 := HN.out.o0
        have o1 := HN.out.o1
        have o2 := HN.out.o2
        have o3 := HN.out.o3
        have o4 := HN.out.o4
        have HEND := Lib.hid (HN.out.out5 HBD.out.1 HBD.out.2.1 HBD.out.2.2 HT.out.sb _ rfl)
        go_wp2_with fail
        obtain ⟨⟨z0, z1, z2, z3, z4⟩, hin5, hr5, hk5⟩ := HEND.out
        unfold set5 at z0 z1 z2 z3 z4 hin5 hr5 hk5
        simp only [Nat.zero_add] at z0 z1 z2 z3 z4 hin5 hr5 hk5
        refine bodyPost_ret (v := .agg #[.int .i64 f.kind, .string f.name, .int .i64 f.n, .slice ca f.scopes.length ccap, .slice (some ⟨g, 0, none⟩) gs'.length kcap]) (by simp [results, Try.results53, go_sem, z0, z1, z2, z3, z4]) rfl ?_
        refine ⟨.mk f.kind f.name f.n f.scopes gs', _, p', rfl, hin5, MutR.of HHEAD.out.1 (Nat.le_succ_of_le HHEAD.out.2) HGS.out, by have := HP.out; omega, hr5, hk5⟩
    · have hl1 : ¬ (0 : Int) < (f.kids.length : Int) := by omega
      go_wp2_with fail
      rw [← HW3.out]
      clear x0 x1 x2 x3 x4 y4 y4'
      refine (pick_any b (p) 14 w3 HD0.out.rd (by omega) (by omega) (by omega)).mono ?_
      rintro e w5 ⟨x, hx, rfl, hr5, hk5⟩
      have hs5 := hk5.size
      have HD5 := Lib.hid (HD0.out.keep hk5 hr5)
      clear hr5 hk5
      obtain ⟨f1, f2, f3, f4, f5, f6⟩ := HD5.out.fix
      by_cases h0 : x = 0
      · subst h0
        have hbA := below_alloc w5 (.cells ([0, 4, 1, 3].map (Value.int .i64)).toArray 3)
        have HBA := Lib.hid hbA
        have HROW := Lib.hid ((row_new2 w5 3 [0, 4, 1, 3] (by simp) (by decide)).mono (ψ := fun k => k < (w5.alloc (.cells ([0, 4, 1, 3].map (Value.int .i64)).toArray 3)).heap.size ∧ k ≠ b) (fun k (hk : k = w5.heap.size) => ⟨by rw [size_alloc']; omega, by omega⟩))
        clear hbA
        go_wp2_with fail
        refine (num_any b (p + 1) [0, 4, 1, 3] _ _ (HD5.out.rd.later HBA.out) (by omega) HROW.out (by simp) (by simp)).mono ?_
        rintro e w6 ⟨y, hy, rfl, hr6, hk6⟩
        have hs6 : w5.heap.size + 1 ≤ w6.heap.size := by have := hk6.size; simpa using this
        have hd6 := (HD5.out.later HBA.out).keep hk6 hr6
        have HY : Hid (-1 ≤ y ∧ y ≤ 1000) := by
          have h : ∀ y ∈ ([0, 4, 1, 3] : List Int), -1 ≤ y ∧ y ≤ 1000 := by decide
          exact h y hy
        have o0 := hd6.o0
        have o1 := hd6.o1
        have o2 := hd6.o2
        have o3 := hd6.o3
        have o4 := hd6.o4
        have fr := hd6.free 0
        obtain ⟨r0, r1, r2, r3, r4, t0, t1, t2, t3, t4⟩ := zeroFacts hd6.zero
        have hne : w.heap.size + 1 ≠ w2.heap.size := by omega
        obtain ⟨w7, hw7⟩ : ∃ w7, w7 = w6.setCell ⟨w2.heap.size, 0, none⟩ (.int .i64 y) := ⟨_, rfl⟩
        have hd7 := hd6.setKind (kd' := y)
        rw [← hw7] at hd7
        have HD7 := Lib.hid hd7
        have HW7 := Lib.hid hw7
        clear hd7 hw7
        clear hk6 hr6 hy hd6 HROW HBA
        have HEND := Lib.hid (HD7.out.out5 (show -9223372036854775808 ≤ y ∧ y ≤ 9223372036854775807 by have := HY.out; omega) HBD.out.2.1 HBD.out.2.2 HT.out.sb _ rfl)
        rw [HW7.out] at HEND
        go_wp2_with fail
        obtain ⟨⟨z0, z1, z2, z3, z4⟩, hin5, hr5, hk5⟩ := HEND.out
        unfold set5 at z0 z1 z2 z3 z4 hin5 hr5 hk5
        simp only [Nat.zero_add] at z0 z1 z2 z3 z4 hin5 hr5 hk5
        refine bodyPost_ret (v := .agg #[.int .i64 y, .string f.name, .int .i64 f.n, .slice ca f.scopes.length ccap, .slice ka f.kids.length kcap]) (by simp [results, Try.results53, go_sem, z0, z1, z2, z3, z4]) rfl ?_
        refine ⟨.mk y f.name f.n f.scopes f.kids, _, p + 2, rfl, hin5, MutR.of HHEAD.out.1 (Nat.le_succ_of_le HHEAD.out.2) (show SlimAll (countAll f.kids) 13 (k + 1) f.kids from ⟨Nat.le_refl _, fun g hg => by have := HSL.out g (by rw [pre_eq]; exact List.mem_cons_of_mem _ hg); omega⟩), by omega, hr5, hk5⟩
      · have h0' : ((x : Int) == 0) = false := by rw [beq_eq_false_iff_ne]; omega
        by_cases h1 : x = 1
        · subst h1
          have HBA := Lib.hid (below_alloc w5 (.cells (mutNames.map Value.string).toArray 9))
          have HCN : Hid (∀ i, (h : i < mutNames.length) → (w5.alloc (.cells (mutNames.map Value.string).toArray 9)).cell? ⟨w5.heap.size, 0 + i, none⟩ = some (.string mutNames[i])) := fun i h => by
            rw [Nat.zero_add]
            exact (World.cell?_alloc_at _ _ _ _ rfl).trans (by simp [h])
          go_wp2_with fail
          refine (of_any b (p + 1) mutNames w5.heap.size 0 5 _ (HD5.out.rd.later HBA.out) (by omega) (by omega) HCN.out (by simp [mutNames]) (by simp [mutNames]) (by simp [mutNames])).mono ?_
          rintro e w6 ⟨y, hy, rfl, hr6, hk6⟩
          have hs6 : w5.heap.size + 1 ≤ w6.heap.size := by have := hk6.size; simpa using this
          have hd6 := (HD5.out.later HBA.out).keep hk6 hr6
          have HY := Lib.hid (mut_size y hy)
          have o0 := hd6.o0
          have o1 := hd6.o1
          have o2 := hd6.o2
          have o3 := hd6.o3
          have o4 := hd6.o4
          have fr := hd6.free 1
          obtain ⟨r0, r1, r2, r3, r4, t0, t1, t2, t3, t4⟩ := zeroFacts hd6.zero
          have hne : w.heap.size + 1 ≠ w2.heap.size := by omega
          obtain ⟨w7, hw7⟩ : ∃ w7, w7 = w6.setCell ⟨w2.heap.size, 1, none⟩ (.string y) := ⟨_, rfl⟩
          have hd7 := hd6.setName (nm' := y)
          rw [← hw7] at hd7
          have HD7 := Lib.hid hd7
          have HW7 := Lib.hid hw7
          clear hd7 hw7
          clear hk6 hr6 hy hd6 HCN HBA
          have HEND := Lib.hid (HD7.out.out5 HBD.out.1 HBD.out.2.1 (show y.size ≤ maxLen by have := HY.out; unfold maxLen; omega) HT.out.sb _ rfl)
          rw [HW7.out] at HEND
          go_wp2_with fail
          obtain ⟨⟨z0, z1, z2, z3, z4⟩, hin5, hr5, hk5⟩ := HEND.out
          unfold set5 at z0 z1 z2 z3 z4 hin5 hr5 hk5
          simp only [Nat.zero_add] at z0 z1 z2 z3 z4 hin5 hr5 hk5
          refine bodyPost_ret (v := .agg #[.int .i64 f.kind, .string y, .int .i64 f.n, .slice ca f.scopes.length ccap, .slice ka f.kids.length kcap]) (by simp [results, Try.results53, go_sem, z0, z1, z2, z3, z4]) rfl ?_
          refine ⟨.mk f.kind y f.n f.scopes f.kids, _, p + 2, rfl, hin5, MutR.of HY.out (Nat.le_succ_of_le HHEAD.out.2) (show SlimAll (countAll f.kids) 13 (k + 1) f.kids from ⟨Nat.le_refl _, fun g hg => by have := HSL.out g (by rw [pre_eq]; exact List.mem_cons_of_mem _ hg); omega⟩), by omega, hr5, hk5⟩
        · have h1' : ((x : Int) == 1) = false := by rw [beq_eq_false_iff_ne]; omega
          by_cases h2 : x = 2
          · subst h2
            have hbA := below_alloc w5 (.cells ([1000, -1, 5].map (Value.int .i64)).toArray 3)
            have HBA := Lib.hid hbA
            have HROW := Lib.hid ((row_new2 w5 3 [1000, -1, 5] (by simp) (by decide)).mono (ψ := fun k => k < (w5.alloc (.cells ([1000, -1, 5].map (Value.int .i64)).toArray 3)).heap.size ∧ k ≠ b) (fun k (hk : k = w5.heap.size) => ⟨by rw [size_alloc']; omega, by omega⟩))
            clear hbA
            go_wp2_with fail
            refine (num_any b (p + 1) [1000, -1, 5] _ _ (HD5.out.rd.later HBA.out) (by omega) HROW.out (by simp) (by simp)).mono ?_
            rintro e w6 ⟨y, hy, rfl, hr6, hk6⟩
            have hs6 : w5.heap.size + 1 ≤ w6.heap.size := by have := hk6.size; simpa using this
            have hd6 := (HD5.out.later HBA.out).keep hk6 hr6
            have HY : Hid (-1 ≤ y ∧ y ≤ 1000) := by
              have h : ∀ y ∈ ([1000, -1, 5] : List Int), -1 ≤ y ∧ y ≤ 1000 := by decide
              exact h y hy
            have o0 := hd6.o0
            have o1 := hd6.o1
            have o2 := hd6.o2
            have o3 := hd6.o3
            have o4 := hd6.o4
            have fr := hd6.free 2
            obtain ⟨r0, r1, r2, r3, r4, t0, t1, t2, t3, t4⟩ := zeroFacts hd6.zero
            have hne : w.heap.size + 1 ≠ w2.heap.size := by omega
            obtain ⟨w7, hw7⟩ : ∃ w7, w7 = w6.setCell ⟨w2.heap.size, 2, none⟩ (.int .i64 y) := ⟨_, rfl⟩
            have hd7 := hd6.setN (n' := y)
            rw [← hw7] at hd7
            have HD7 := Lib.hid hd7
            have HW7 := Lib.hid hw7
            clear hd7 hw7
            clear hk6 hr6 hy hd6 HROW HBA
            have HEND := Lib.hid (HD7.out.out5 HBD.out.1 (show -9223372036854775808 ≤ y ∧ y ≤ 9223372036854775807 by have := HY.out; omega) HBD.out.2.2 HT.out.sb _ rfl)
            rw [HW7.out] at HEND
            go_wp2_with fail
            obtain ⟨⟨z0, z1, z2, z3, z4⟩, hin5, hr5, hk5⟩ := HEND.out
            unfold set5 at z0 z1 z2 z3 z4 hin5 hr5 hk5
            simp only [Nat.zero_add] at z0 z1 z2 z3 z4 hin5 hr5 hk5
            refine bodyPost_ret (v := .agg #[.int .i64 f.kind, .string f.name, .int .i64 y, .slice ca f.scopes.length ccap, .slice ka f.kids.length kcap]) (by simp [results, Try.results53, go_sem, z0, z1, z2, z3, z4]) rfl ?_
            refine ⟨.mk f.kind f.name y f.scopes f.kids, _, p + 2, rfl, hin5, MutR.of HHEAD.out.1 (Nat.le_succ_of_le HHEAD.out.2) (show SlimAll (countAll f.kids) 13 (k + 1) f.kids from ⟨Nat.le_refl _, fun g hg => by have := HSL.out g (by rw [pre_eq]; exact List.mem_cons_of_mem _ hg); omega⟩), by omega, hr5, hk5⟩
          · have h2' : ((x : Int) == 2) = false := by rw [beq_eq_false_iff_ne]; omega
            by_cases h3 : x = 3
            · subst h3
              have hS0 : (fun w' : World => w'.cell? ⟨w2.heap.size, 3, none⟩ = some (.slice ca f.scopes.length ccap)) w5.drew := HD5.out.o3
              go_wp2_with fail
              refine upto_begin (fun w' : World => w'.cell? ⟨w2.heap.size, 3, none⟩ = some (.slice ca f.scopes.length ccap)) 8 (by kernel_rfl) ?_
              refine upto_take (i := 0) (d := some 57) (v := ?_) rfl rfl (by kernel_rfl) (by kernel_rfl) (by kernel_rfl) (by kernel_rfl) (fun _ _ _ h => h) (Or.inl ⟨by rfl, ?_⟩) hS0 ?_
              rotate_left
              · (intro wS hSw; go_simp; try with_reducible rfl)
              try simp only [Act.put, List.setIfInBounds_toArray, List.set_cons_zero, List.set_cons_succ]
              refine upto_take (i := 1) (d := some 58) (v := ?_) rfl rfl (by kernel_rfl) (by kernel_rfl) (by kernel_rfl) (by kernel_rfl) (fun _ _ _ h => h) (Or.inl ⟨by rfl, ?_⟩) hS0 ?_
              rotate_left
              · (intro wS hSw; go_simp; try with_reducible rfl)
              try simp only [Act.put, List.setIfInBounds_toArray, List.set_cons_zero, List.set_cons_succ]
              refine upto_take (i := 2) (d := some 59) (v := ?_) rfl rfl (by kernel_rfl) (by kernel_rfl) (by kernel_rfl) (by kernel_rfl) (fun _ _ _ h => h) (Or.inl ⟨by rfl, ?_⟩) hS0 ?_
              rotate_left
              · (intro wS hSw; go_simp; try with_reducible rfl)
              try simp only [Act.put, List.setIfInBounds_toArray, List.set_cons_zero, List.set_cons_succ]
              refine upto_one (i := 3) (by kernel_rfl) rfl (fun K hK => ?_)
              go_simp
              have hbA : Below w5.drew.heap.size w5.drew (w5.drew.alloc (.cells ([0, 100, 1, 50].map (Value.int .i64)).toArray 3)) := below_alloc _ _
              have HROW := Lib.hid ((row_new2 w5.drew 3 [0, 100, 1, 50] (by simp) (by decide)).mono (ψ := fun k => k < (w5.drew.alloc (.cells ([0, 100, 1, 50].map (Value.int .i64)).toArray 3)).heap.size ∧ k ≠ b) (fun k (hk : k = w5.drew.heap.size) => ⟨by rw [size_alloc']; omega, by have h : w5.drew.heap.size = w5.heap.size := rfl; omega⟩))
              have hS1 : (fun w' : World => w'.cell? ⟨w2.heap.size, 3, none⟩ = some (.slice ca f.scopes.length ccap)) (w5.drew.alloc (.cells ([0, 100, 1, 50].map (Value.int .i64)).toArray 3)) := cell_later' hbA hS0
              refine hK.out _ _ (.inr hS1) ?_
              clear hK K
              have hbA' : Below w5.heap.size w5 (w5.drew.alloc (.cells ([0, 100, 1, 50].map (Value.int .i64)).toArray 3)) := below_drew hbA
              have HBA := Lib.hid hbA'
              clear hbA hbA'
              refine upto_one (i := 4) (by kernel_rfl) rfl (fun K hK => ?_)
              go_simp
              refine (num_any b (p + 1) [0, 100, 1, 50] _ _ (HD5.out.rd.later HBA.out) (by omega) HROW.out (by simp) (by simp)).mono ?_
              rintro e w6 ⟨y, hy, rfl, hr6, hk6⟩
              have hs6 : w5.heap.size + 1 ≤ w6.heap.size := by have h := hk6.size; rw [size_alloc'] at h; exact h
              have hd6 := (HD5.out.later HBA.out).keep hk6 hr6
              have HD6 := Lib.hid hd6
              have HY : Hid (-1 ≤ y ∧ y ≤ 1000) := by
                have h : ∀ y ∈ ([0, 100, 1, 50] : List Int), -1 ≤ y ∧ y ≤ 1000 := by decide
                exact h y hy
              have hS2 : (fun w' : World => w'.cell? ⟨w2.heap.size, 3, none⟩ = some (.slice ca f.scopes.length ccap)) w6 := hd6.o3
              refine hK.out _ _ (.inr hS2) ?_
              clear hK K hk6 hr6 hy HROW HBA hd6 hS1 hS0
              refine upto_one (i := 5) (by kernel_rfl) rfl (fun K hK => ?_)
              go_simp
              have hbB := below_alloc w6 (.cells #[.int .i64 y] 3)
              have hS3 : (fun w' : World => w'.cell? ⟨w2.heap.size, 3, none⟩ = some (.slice ca f.scopes.length ccap)) (w6.alloc (.cells #[.int .i64 y] 3)) := cell_later' hbB hS2
              refine hK.out _ _ (.inr hS3) ?_
              clear hK K
              have hdB := HD6.out.later hbB
              have hsl : f.scopes.length ≤ 1048576 := Nat.le_trans (sz_scopes f).1 hsz
              have hL1 : f.scopes.length + 1 ≤ maxLen := by unfold maxLen; omega
              have hL2 : (f.scopes.length + 1) * 8 ≤ 2 ^ 47 := by omega
              refine upto_oper (i := 6) ⟨some 63, .call { callee := .builtin .append, args := #[.tmp 58, .tmp 62], argTypes := #[23, 23] }, 23, _, _, _⟩ (by kernel_rfl) rfl rfl (fun K hK => ?_)
              refine wp_append_lies _ (.tmp 58) (.tmp 62) 23 rfl (w.heap.size + 1 + 1) 3 l0 _ 1 8 Try.underlying23 hl0 hlz0 hlz1 hlz2 rfl (by omega) _ f.scopes.length (f.scopes.map (Value.int .i64)) (by rfl) hdB.srow
                        ⟨w6.heap.size, 0, none⟩ 1 1 [.int .i64 y] (by rfl) (by rfl) (World.news_of_block (cs := #[.int .i64 y]) (t := 3) (fr := (0, 0)) (heap_alloc_new w6 _)) (by simp [Value.oneCell'])
                        (by omega) hL1 hL2 (by simp; omega) (w6.heap.size + 1) (by simp) ?_
              intro gq qd w8 hown8 hgrow hat hlt8
              have hd8 := DressMid.growScopes (x := y) hdB (by simpa using hown8) hgrow (by simpa using hat)
              have HD8 := Lib.hid hd8
              have hob8 : w8.heap[w2.heap.size]? = (w6.alloc (.cells #[.int .i64 y] 3)).heap[w2.heap.size]? := hgrow.block _ (by have := hdB.fix; omega) (fun e => (hdB.ne _ e.symm).2.1 rfl)
              have hS4 : (fun w' : World => w'.cell? ⟨w2.heap.size, 3, none⟩ = some (.slice ca f.scopes.length ccap)) w8 := (World.cell?_of_block (a := ⟨w2.heap.size, 3, none⟩) hob8).trans hS3
              have fr := (World.frozen?_of_block (a := ⟨w2.heap.size, 3, none⟩) hob8).trans (hdB.free 3)
              refine hK.out _ _ (.inr hS4) ?_
              clear hK K hown8 hgrow hat hlt8 hd8 hob8 hdB hbB hS3 hS2
              have c8 := hS4
              refine upto_one (i := 7) (by kernel_rfl) rfl (fun K hK => ?_)
              go_simp
              refine hK.out _ _ (.inr hS4) ?_
              clear hK K
              refine upto_one (i := 8) (by kernel_rfl) rfl (fun K hK => ?_)
              go_simp
              refine gen_world' (fun w9 h9 => ?_)
              refine hK.out _ _ (.inl rfl) ?_
              clear hK K
              refine upto_done (by kernel_rfl) ?_ _
              have HD9 : Hid (DressMid 26 3 B b w w9 (w.heap.size + 1) w2.heap.size (w.heap.size + 1 + 1) w8.heap.size (p + 1 + 1) f.kind f.name f.n (f.scopes ++ [y]) f.kids (some ⟨gq, 0, none⟩) qd ka kcap xs0) := by
                unfold Hid
                rw [h9]
                have h := HD8.out
                rw [List.length_append, List.length_singleton] at h
                exact h
              have HSB : Hid (∀ n ∈ f.scopes ++ [y], -9223372036854775808 ≤ n ∧ n ≤ 9223372036854775807) := fun n hn => by
                rcases List.mem_append.1 hn with h | h
                · exact HT.out.sb n h
                · obtain rfl := List.mem_singleton.1 h
                  have := HY.out
                  omega
              have HSN : Hid ((f.scopes ++ [y]).length ≤ k + 1) := by
                unfold Hid
                rw [List.length_append, List.length_singleton]
                exact Nat.succ_le_succ HHEAD.out.2
              obtain ⟨sc', hsc'⟩ : ∃ sc', sc' = f.scopes ++ [y] := ⟨_, rfl⟩
              rw [← hsc'] at HD9 HSB HSN
              clear h9 fr hS4 c8 HD8 HD6 hsc'
              obtain ⟨r0, r1, r2, r3, r4, t0, t1, t2, t3, t4⟩ := zeroFacts HD9.out.zero
              have o0 := HD9.out.o0
              have o1 := HD9.out.o1
              have o2 := HD9.out.o2
              have o3 := HD9.out.o3
              have o4 := HD9.out.o4
              have HEND := Lib.hid (HD9.out.out5 HBD.out.1 HBD.out.2.1 HBD.out.2.2 HSB.out _ rfl)
              go_wp2_with fail
              obtain ⟨⟨z0, z1, z2, z3, z4⟩, hin5, hr5, hk5⟩ := HEND.out
              unfold set5 at z0 z1 z2 z3 z4 hin5 hr5 hk5
              simp only [Nat.zero_add] at z0 z1 z2 z3 z4 hin5 hr5 hk5
              refine bodyPost_ret (v := .agg #[.int .i64 f.kind, .string f.name, .int .i64 f.n, .slice (some ⟨gq, 0, none⟩) sc'.length qd, .slice ka f.kids.length kcap]) (by simp [results, Try.results53, go_sem, z0, z1, z2, z3, z4]) rfl ?_
              refine ⟨.mk f.kind f.name f.n sc' f.kids, _, p + 2, rfl, hin5, MutR.of HHEAD.out.1 HSN.out (show SlimAll (countAll f.kids) 13 (k + 1) f.kids from ⟨Nat.le_refl _, fun g hg => by have := HSL.out g (by rw [pre_eq]; exact List.mem_cons_of_mem _ hg); omega⟩), by omega, hr5, hk5⟩
            · have h3' : ((x : Int) == 3) = false := by rw [beq_eq_false_iff_ne]; omega
              clear h0 h1 h2 h3
              obtain ⟨r0, r1, r2, r3, r4, t0, t1, t2, t3, t4⟩ := zeroFacts HD5.out.zero
              have o0 := HD5.out.o0
              have o1 := HD5.out.o1
              have o2 := HD5.out.o2
              have o3 := HD5.out.o3
              have o4 := HD5.out.o4
              have HEND := Lib.hid (HD5.out.out5 HBD.out.1 HBD.out.2.1 HBD.out.2.2 HT.out.sb _ rfl)
              go_wp2_with fail
              obtain ⟨⟨z0, z1, z2, z3, z4⟩, hin5, hr5, hk5⟩ := HEND.out
              unfold set5 at z0 z1 z2 z3 z4 hin5 hr5 hk5
              simp only [Nat.zero_add] at z0 z1 z2 z3 z4 hin5 hr5 hk5
              refine bodyPost_ret (v := .agg #[.int .i64 f.kind, .string f.name, .int .i64 f.n, .slice ca f.scopes.length ccap, .slice ka f.kids.length kcap]) (by simp [results, Try.results53, go_sem, z0, z1, z2, z3, z4]) rfl ?_
              refine ⟨.mk f.kind f.name f.n f.scopes f.kids, _, p + 1, rfl, hin5, MutR.of HHEAD.out.1 (Nat.le_succ_of_le HHEAD.out.2) (show SlimAll (countAll f.kids) 13 (k + 1) f.kids from ⟨Nat.le_refl _, fun g hg => by have := HSL.out g (by rw [pre_eq]; exact List.mem_cons_of_mem _ hg); omega⟩), by omega, hr5, hk5⟩
theorem l1Mutate_any {f : Fm} {v : Value} {B b p k : Nat} {w : World} (hr : Rd B w b p) (hp : p + 2 * f.count ≤ 300000) (hv : InV (· < w.heap.size) w f v) (hsz : f.sz ≤ 1048576) (hs : ∀ g ∈ f.pre, g.name.size ≤ 13 ∧ g.scopes.length ≤ k) :
    Calls Try.prog 53 #[.pointer (some ⟨b, 0, none⟩), v] w (SomePost B b p (2 * f.count + 1) (MutR k f) w) := l1Mutate_aux f.count f v B b p k w (Nat.le_refl _) hr hp hv hsz hs
end Go.Proofs.Ytbmpgfojhoganaa
