/- The contract of the model's draw of bindings that may be wrong: its walk. -/
import Derived.Test.YtcckhcedfmadeaaDrawWrong
namespace Go.Proofs.Ytcckhcedfmadeaa
open Go.RowKit
set_option linter.unusedVariables false
set_option linter.unusedSimpArgs false
theorem rowW (w : World) (T : TypeId) (l : List Int) (hl : l.length ≤ 1000) (hb : ∀ n ∈ l, -1 ≤ n ∧ n ≤ 1000) :
    IntRow (fun k => k = w.heap.size) (w.alloc (.cells (l.map (Value.int .i64)).toArray T)) (.slice (some ⟨w.heap.size, 0, none⟩) l.length l.length) l := by
  refine ⟨_, l.length, rfl, Nat.le_refl _, by unfold maxLen; omega, fun n hn => by have := hb n hn; omega, .inr ⟨w.heap.size, 0, rfl, rfl, fun i hi => ?_⟩⟩
  rw [Nat.zero_add]
  exact (World.cell?_alloc_at _ _ _ _ rfl).trans (by simp [hi])
/-- what the draw leaves -/
def WrongPost (B b p n m : Nat) (w : World) (e : Ending) (w' : World) : Prop :=
  ∃ l' v p', e = .returned v ∧ BdRow (fun k => w.heap.size ≤ k ∧ k < w'.heap.size) w' v l' ∧ l'.length ≤ n + 1 ∧ (∀ x ∈ l', x.scopes.length ≤ m + 1) ∧ p' ≤ p + 3 ∧ Rd B w' b p' ∧ Kept b 1 2 w w'
set_option maxRecDepth 100000 in
set_option maxHeartbeats 4000000 in
theorem l3Wrong_any {B b p m : Nat} {w : World} (l : List Bd) (v : Value) (hr : Rd B w b p) (hp : p ≤ 200000) (hv : BdRow (· < w.heap.size) w v l) (hl : l.length ≤ 1000) (hm : m ≤ 1000) (hsc : ∀ x ∈ l, x.scopes.length ≤ m) :
    Calls Try.prog 66 #[.pointer (some ⟨b, 0, none⟩), v] w (WrongPost B b p l.length m w) := by
  have HV := Lib.hid hv
  have HBND := Lib.hid hv.bounds
  have HR := Lib.hid hr
  have hbw := hr.lt
  have HSC := Lib.hid hsc
  have HWF : Hid (∀ y ∈ l, y.name.size ≤ maxLen ∧ -9223372036854775808 ≤ y.id ∧ y.id ≤ 9223372036854775807) := by obtain ⟨_, _, _, _, _, h, _⟩ := hv; exact h
  obtain ⟨i0, hi0, hz0, hz1, hz2⟩ := info_parts Try.infoBd3
  clear hv hr hsc
  go_enter Try.func66, Try.ntmps66
  go_wp2_with fail
  refine (l3CopyO_any w.heap.size l v w (Nat.le_refl _) HV.out (fun x hx => by have := HSC.out x hx; omega) (by omega)).mono ?_
  rintro e w1 ⟨v1, xs, rfl, hmid, hb1⟩
  obtain ⟨va, vc, rfl⟩ : ∃ va vc, v1 = .slice va l.length vc := by
    rcases hmid.own.2 with ⟨h, h0⟩ | ⟨g, cp, _, h, _⟩
    · exact ⟨none, 0, by rw [h, h0]⟩
    · exact ⟨_, cp, h⟩
  have hs1 := hb1.size
  have HM1 := Lib.hid hmid
  have HB1 := Lib.hid hb1
  have HR1 := Lib.hid (HR.out.later hb1)
  clear hmid hb1
  by_cases h0 : l.length = 0
  · have h0' : ((l.length : Int) == 0) = true := by rw [h0]; rfl
    have HZ := Lib.hid h0
    clear h0
    go_wp2_with fail
    go_ret
    exact ⟨l, _, p, rfl, (HM1.out.mid HBND.out).ends HWF.out, by omega, fun x hx => by have := HSC.out x hx; omega, by omega, HR1.out, Kept.of_below HB1.out hbw⟩
  · have h0' : ((l.length : Int) == 0) = false := beq_false_of_ne (by omega)
    obtain ⟨g, rfl⟩ : ∃ g, va = some ⟨g, 0, none⟩ := by
      rcases HM1.out.own.2 with ⟨_, h1⟩ | ⟨g, cp, _, h, _⟩
      · exact absurd h1 h0
      · injection h with h; exact ⟨g, h⟩
    have hgb := HM1.out.own.lt g rfl
    go_wp2_with fail
    refine (pick_any b p l.length w1 HR1.out (by omega) (by omega) (by omega)).mono ?_
    rintro e w2 ⟨k, hk, rfl, hr2, hk2⟩
    have hs2 := hk2.size
    have HK2 := Lib.hid hk2
    have HR2 := Lib.hid hr2
    clear hr2 hk2 HR1
    go_wp2_with fail
    refine (pick_any b (p + 1) 20 w2 HR2.out (by omega) (by omega) (by omega)).mono ?_
    rintro e w3 ⟨y, hy, rfl, hr3, hk3⟩
    have hs3 := hk3.size
    have HK3 : Hid (Kept b 1 2 w1 w3) := HK2.out.trans hk3
    have HR3 := Lib.hid hr3
    have HM3 : Hid (BdMidO 89 3 w.heap.size w3 l (.slice (some ⟨g, 0, none⟩) l.length vc) xs) := HM1.out.kept (fun q h1 h2 => HK3.out.block q h2 (by omega)) HK3.out.size
    have HKW : Hid (Kept b 1 2 w w3) := (Kept.of_below HB1.out hbw).trans HK3.out
    have hkI : (k : Int) < (l.length : Int) := by omega
    have hk0 : (0 : Int) ≤ (k : Int) := by omega
    have hgw : w.heap.size ≤ g ∧ g < w3.heap.size := by omega
    have hcp : Hid (l.length ≤ vc ∧ vc ≤ maxLen) := by
      rcases HM3.out.own.2 with ⟨h, _⟩ | ⟨g2, cp, _, h, _, _, h1, h2, _⟩
      · cases h
      · injection h with _ _ h3
        subst h3
        exact ⟨h1, h2⟩
    clear hr3 hk3 HK2 HR2 HM1 HB1 HK3
    by_cases y0 : y = 0
    · subst y0
      obtain ⟨sa, scap, c0, c1, c2, hrk⟩ := (HM3.out.mid HBND.out).at' k hk
      have hf2 : w3.frozen? ⟨g, k * 3 + 2, none⟩ = false := frozen_at HM3.out.own _
      have HBA := Lib.hid (below_alloc w3 (.cells (([0, 1000, 5] : List Int).map (Value.int .i64)).toArray 3))
      have HRA := Lib.hid (HR3.out.later HBA.out)
      have HROW := Lib.hid ((rowW w3 3 ([0, 1000, 5] : List Int) (by simp) (by decide)).mono (ψ := fun q => q < (w3.alloc (.cells (([0, 1000, 5] : List Int).map (Value.int .i64)).toArray 3)).heap.size ∧ q ≠ b) (fun q (hq : q = w3.heap.size) => ⟨by rw [size_alloc']; omega, by omega⟩))
      have HC2 := Lib.hid c2
      have HF2 := Lib.hid hf2
      clear c0 c1 c2 hrk hf2
      go_wp2_with fail
      refine (num_any b (p + 1 + 1) ([0, 1000, 5] : List Int) _ _ HRA.out (by omega) HROW.out (by simp) (by simp)).mono ?_
      rintro e w4 ⟨n, hn, rfl, hr4, hk4⟩
      have hs4 : w3.heap.size + 1 ≤ w4.heap.size := by have := hk4.size; rw [size_alloc'] at this; exact this
      have HN : Hid (0 ≤ n ∧ n ≤ 1000) := by
        have h : ∀ y ∈ ([0, 1000, 5] : List Int), 0 ≤ y ∧ y ≤ 1000 := by decide
        exact h n hn
      have HK4 : Hid (Kept b 1 2 w3 w4) := (Kept.of_below HBA.out (by omega)).trans hk4
      have HR4 := Lib.hid hr4
      have HM4 : Hid (BdMidO 89 3 w.heap.size w4 l (.slice (some ⟨g, 0, none⟩) l.length vc) xs) := HM3.out.kept (fun q h1 h2 => HK4.out.block q h2 (by omega)) HK4.out.size
      obtain ⟨sa, scap, c0, c1, c2, hrk⟩ := (HM4.out.mid HBND.out).at' k hk
      have hf2 : w4.frozen? ⟨g, k * 3 + 2, none⟩ = false := frozen_at HM4.out.own _
      clear hn hr4 hk4 HBA HRA HROW HC2 HF2
      go_wp2_with fail
      go_ret
      refine ⟨l.set k ⟨l[k].name, l[k].scopes, n⟩, _, p + 1 + 1 + 1, rfl, ?_, by rw [List.length_set]; omega, fun x hx => ?_, by omega, HR4.out.setOther (by have := HR4.out.1; omega) (by omega), (HKW.out.trans HK4.out).setNew hbw hgw.1⟩
      · refine bdRow_set hcp.out.1 hcp.out.2 HWF.out ⟨(HWF.out _ (List.getElem_mem hk)).1, by have := HN.out; show -9223372036854775808 ≤ n; omega, by have := HN.out; show n ≤ 9223372036854775807; omega⟩ ⟨hgw.1, by simp [World.setCell]; omega⟩ (fun i hi hne => bdAt_set ((HM4.out.mid HBND.out).at' i hi) (by omega) fun q hq => ⟨hq.2.2, hq.1, by simp [World.setCell]; exact hq.2.1⟩) ?_
        exact ⟨sa, scap, (World.cell?_setCell_other _ _ _ _ (addr_ne (by omega))).trans c0, (World.cell?_setCell_other _ _ _ _ (addr_ne (by omega))).trans c1, World.cell?_setCell_same _ _ _ c2, (hrk.later fun q hq => Below.heap_setCell _ _ _ _ hq.2.2).mono fun q hq => ⟨hq.1, by simp [World.setCell]; exact hq.2.1⟩⟩
      · rcases List.mem_or_eq_of_mem_set hx with h | rfl
        · have := HSC.out x h; omega
        · have := HSC.out _ (List.getElem_mem hk); show l[k].scopes.length ≤ m + 1; omega
    · by_cases y1 : y = 1
      · subst y1
        obtain ⟨sa, scap, la, hla, cx1, hrow, hblk, hoth⟩ := HM3.out.others HBND.out k hk
        obtain ⟨_, _, d0, _, d2, _⟩ := (HM3.out.mid HBND.out).at' k hk
        obtain ⟨x, hx⟩ : ∃ x, l[k] = x := ⟨_, rfl⟩
        rw [hx] at cx1 hrow hblk hoth d0 d2
        have HXE := Lib.hid hx
        have HROWK := Lib.hid hrow
        have HBLK := Lib.hid hblk
        have HOTH := Lib.hid hoth
        have HD0 := Lib.hid d0
        have HD2 := Lib.hid d2
        have c1 := cells_at HM3.out.own cx1
        have HC1 := Lib.hid c1
        obtain ⟨l0, hl0, hlz0, hlz1, hlz2⟩ := info_parts Try.infoInt
        have hxs : x.scopes.length ≤ m := by rw [← hx]; exact HSC.out _ (List.getElem_mem hk)
        clear cx1 hrow hblk hoth hx d0 d2
        go_wp2_with fail
        refine upto_begin (fun w' : World => w'.cell? ⟨g, k * 3 + 1, none⟩ = some (.slice sa x.scopes.length scap)) 14 (by kernel_rfl) ?_
        refine gen_upto (fun u0 hu0 => ?_)
        have hb0 : Below w3.heap.size w3 u0 := by rw [hu0]; exact (Below.refl _ _).drew
        have hsu0 := hb0.size
        have hS0 : (fun w' : World => w'.cell? ⟨g, k * 3 + 1, none⟩ = some (.slice sa x.scopes.length scap)) u0 := cell_later' hb0 c1
        have HB0 := Lib.hid hb0
        clear hu0 hb0
        refine upto_take (i := 0) (d := some 30) (v := ?_) rfl rfl (by kernel_rfl) (by kernel_rfl) (by kernel_rfl) (by kernel_rfl) (fun _ _ _ h => h) (Or.inl ⟨by rfl, ?_⟩) hS0 ?_
        rotate_left
        · (intro wS hSw; go_simp; try with_reducible rfl)
        try simp only [Act.put, List.setIfInBounds_toArray, List.set_cons_zero, List.set_cons_succ]
        refine upto_take (i := 1) (d := some 31) (v := ?_) rfl rfl (by kernel_rfl) (by kernel_rfl) (by kernel_rfl) (by kernel_rfl) (fun _ _ _ h => h) (Or.inl ⟨by rfl, ?_⟩) hS0 ?_
        rotate_left
        · (intro wS hSw; go_simp; try with_reducible rfl)
        try simp only [Act.put, List.setIfInBounds_toArray, List.set_cons_zero, List.set_cons_succ]
        refine upto_take (i := 2) (d := some 32) (v := ?_) rfl rfl (by kernel_rfl) (by kernel_rfl) (by kernel_rfl) (by kernel_rfl) (fun _ _ _ h => h) (Or.inl ⟨by rfl, ?_⟩) hS0 ?_
        rotate_left
        · (intro wS hSw; go_simp; try with_reducible rfl)
        try simp only [Act.put, List.setIfInBounds_toArray, List.set_cons_zero, List.set_cons_succ]
        refine upto_take (i := 3) (d := some 33) (v := ?_) rfl rfl (by kernel_rfl) (by kernel_rfl) (by kernel_rfl) (by kernel_rfl) (fun _ _ _ h => h) (Or.inl ⟨by rfl, ?_⟩) hS0 ?_
        rotate_left
        · (intro wS hSw; go_simp; try with_reducible rfl)
        try simp only [Act.put, List.setIfInBounds_toArray, List.set_cons_zero, List.set_cons_succ]
        refine upto_take (i := 4) (d := some 34) (v := ?_) rfl rfl (by kernel_rfl) (by kernel_rfl) (by kernel_rfl) (by kernel_rfl) (fun _ _ _ h => h) (Or.inl ⟨by rfl, ?_⟩) hS0 ?_
        rotate_left
        · (intro wS hSw; go_simp; try with_reducible rfl)
        try simp only [Act.put, List.setIfInBounds_toArray, List.set_cons_zero, List.set_cons_succ]
        refine upto_take (i := 5) (d := some 35) (v := ?_) rfl rfl (by kernel_rfl) (by kernel_rfl) (by kernel_rfl) (by kernel_rfl) (fun _ _ _ h => h) (Or.inl ⟨by rfl, ?_⟩) hS0 ?_
        rotate_left
        · (intro wS hSw; go_simp; try with_reducible rfl)
        try simp only [Act.put, List.setIfInBounds_toArray, List.set_cons_zero, List.set_cons_succ]
        refine upto_take (i := 6) (d := some 36) (v := ?_) rfl rfl (by kernel_rfl) (by kernel_rfl) (by kernel_rfl) (by kernel_rfl) (fun _ _ _ h => h) (Or.inl ⟨by rfl, ?_⟩) hS0 ?_
        rotate_left
        · (intro wS hSw; go_simp; try with_reducible rfl)
        try simp only [Act.put, List.setIfInBounds_toArray, List.set_cons_zero, List.set_cons_succ]
        refine upto_take (i := 7) (d := some 37) (v := ?_) rfl rfl (by kernel_rfl) (by kernel_rfl) (by kernel_rfl) (by kernel_rfl) (fun _ _ _ h => h) (Or.inl ⟨by rfl, ?_⟩) hS0 ?_
        rotate_left
        · (intro wS hSw; go_simp; try with_reducible rfl)
        try simp only [Act.put, List.setIfInBounds_toArray, List.set_cons_zero, List.set_cons_succ]
        have hbA := below_alloc u0 (.cells (([0, 1, 98] : List Int).map (Value.int .i64)).toArray 3)
        have hS1 : (fun w' : World => w'.cell? ⟨g, k * 3 + 1, none⟩ = some (.slice sa x.scopes.length scap)) (u0.alloc (.cells (([0, 1, 98] : List Int).map (Value.int .i64)).toArray 3)) := cell_later' hbA hS0
        have HBA : Hid (Below w3.heap.size w3 (u0.alloc (.cells (([0, 1, 98] : List Int).map (Value.int .i64)).toArray 3))) := HB0.out.trans (hbA.mono (by omega))
        have HROW := Lib.hid ((rowW u0 3 ([0, 1, 98] : List Int) (by simp) (by decide)).mono (ψ := fun q => q < (u0.alloc (.cells (([0, 1, 98] : List Int).map (Value.int .i64)).toArray 3)).heap.size ∧ q ≠ b) (fun q (hq : q = u0.heap.size) => ⟨by rw [size_alloc']; omega, by omega⟩))
        refine upto_one (i := 8) (by kernel_rfl) rfl (fun K hK => ?_)
        go_simp
        refine hK.out _ _ (.inr hS1) ?_
        clear hK K hbA
        refine upto_one (i := 9) (by kernel_rfl) rfl (fun K hK => ?_)
        go_simp
        refine (num_any b (p + 1 + 1) ([0, 1, 98] : List Int) _ _ (HR3.out.later HBA.out) (by omega) HROW.out (by simp) (by simp)).mono ?_
        rintro e w4 ⟨n, hn, rfl, hr4, hk4⟩
        have hs4 : u0.heap.size + 1 ≤ w4.heap.size := by have := hk4.size; rw [size_alloc'] at this; exact this
        have HN : Hid (0 ≤ n ∧ n ≤ 1000) := by
          have h : ∀ y ∈ ([0, 1, 98] : List Int), 0 ≤ y ∧ y ≤ 1000 := by decide
          exact h n hn
        have HK4 : Hid (Kept b 1 2 w3 w4) := (Kept.of_below HBA.out (by omega)).trans hk4
        have HR4 := Lib.hid hr4
        have hS2 : (fun w' : World => w'.cell? ⟨g, k * 3 + 1, none⟩ = some (.slice sa x.scopes.length scap)) w4 := (World.cell?_of_block (a := ⟨g, k * 3 + 1, none⟩) (HK4.out.block g hgw.2 (by omega))).trans c1
        refine hK.out _ _ (.inr hS2) ?_
        clear hK K hk4 hr4 hn HROW HBA hS1 hS0 c1
        refine upto_one (i := 10) (by kernel_rfl) rfl (fun K hK => ?_)
        go_simp
        have hbB := below_alloc w4 (.cells #[.int .i64 n] 3)
        have hS3 : (fun w' : World => w'.cell? ⟨g, k * 3 + 1, none⟩ = some (.slice sa x.scopes.length scap)) (w4.alloc (.cells #[.int .i64 n] 3)) := cell_later' hbB hS2
        refine hK.out _ _ (.inr hS3) ?_
        clear hK K
        have hrow4 : w4.ownsRow la 3 1 (.slice sa x.scopes.length scap) x.scopes.length (x.scopes.map (Value.int .i64)) := ownsRow_same HROWK.out fun q hq => HK4.out.block q (HROWK.out.lt q hq).2 (by have := (HROWK.out.lt q hq).1; omega)
        have hL1 : x.scopes.length + 1 ≤ maxLen := by unfold maxLen; omega
        have hL2 : (x.scopes.length + 1) * 8 ≤ 2 ^ 47 := by omega
        refine upto_oper (i := 11) ⟨some 41, .call { callee := .builtin .append, args := #[.tmp 36, .tmp 40], argTypes := #[23, 23] }, 23, _, _, _⟩ (by kernel_rfl) rfl rfl (fun K hK => ?_)
        refine wp_append_lies _ (.tmp 36) (.tmp 40) 23 rfl la 3 l0 _ 1 8 Try.underlying23 hl0 hlz0 hlz1 hlz2 rfl (by omega) _ x.scopes.length (x.scopes.map (Value.int .i64)) (by rfl) (hrow4.alloc _)
          ⟨w4.heap.size, 0, none⟩ 1 1 [.int .i64 n] (by rfl) (by rfl) (World.news_of_block (cs := #[.int .i64 n]) (t := 3) (fr := (0, 0)) (heap_alloc_new w4 _)) (by simp [Value.oneCell'])
          (by omega) hL1 hL2 (by simp; omega) (w4.heap.size + 1) (by simp) ?_
        intro gq qd w8 hown8 hgrow hat hlt8
        have hgs := hgrow.size
        rw [size_alloc'] at hgs
        have hne : ∀ q, (Value.slice sa x.scopes.length scap).ownBlock = some q → la ≤ q ∧ q < w3.heap.size ∧ q ≠ g := fun q hq => ⟨(HROWK.out.lt q hq).1, (HROWK.out.lt q hq).2, HBLK.out q hq⟩
        have hob8 : w8.heap[g]? = w4.heap[g]? := (hgrow.block g (by rw [size_alloc']; omega) (fun e => (hne g e.symm).2.2 rfl)).trans (hbB.block g (by omega))
        have hS4 : (fun w' : World => w'.cell? ⟨g, k * 3 + 1, none⟩ = some (.slice sa x.scopes.length scap)) w8 := (World.cell?_of_block (a := ⟨g, k * 3 + 1, none⟩) hob8).trans hS2
        have HM4 : Hid (BdMidO 89 3 w.heap.size w4 l (.slice (some ⟨g, 0, none⟩) l.length vc) xs) := HM3.out.kept (fun q h1 h2 => HK4.out.block q h2 (by omega)) HK4.out.size
        have fr : w8.frozen? ⟨g, k * 3 + 1, none⟩ = false := (World.frozen?_of_block (a := ⟨g, k * 3 + 1, none⟩) hob8).trans (frozen_at HM4.out.own _)
        have c8 : w8.cell? ⟨g, k * 3 + 1, none⟩ = some (.slice sa x.scopes.length scap) := hS4
        refine hK.out _ _ (.inr hS4) ?_
        clear hK K
        refine upto_one (i := 12) (by kernel_rfl) rfl (fun K hK => ?_)
        go_simp
        refine hK.out _ _ (.inr hS4) ?_
        clear hK K
        refine upto_one (i := 13) (by kernel_rfl) rfl (fun K hK => ?_)
        go_simp
        refine hK.out _ _ (.inr hS4) ?_
        clear hK K
        refine upto_one (i := 14) (by kernel_rfl) rfl (fun K hK => ?_)
        go_simp
        refine hK.out _ _ (.inl rfl) ?_
        clear hK K
        refine upto_done (by kernel_rfl) ?_ _
        have HBB := Lib.hid hbB
        have HOWN8 := Lib.hid hown8
        have HGROW := Lib.hid hgrow
        have HAT := Lib.hid hat
        have HR8 : Hid (Rd B w8 b (p + 1 + 1 + 1)) := HR4.out.same fun q hq => by
          have hBb := HR4.out.1
          exact (HGROW.out.block q (by rw [size_alloc']; rcases hq with h | h <;> omega) (fun e => by have := hne q e.symm; rcases hq with h | h <;> omega)).trans (HBB.out.block q (by rcases hq with h | h <;> omega))
        have HK8 : Hid (Kept b 1 2 w w8) := by
          have h1 : Below w.heap.size w4 w8 := (HBB.out.mono (by omega)).grown HGROW.out (by simp; omega) (fun q hq => by have := hne q hq; omega)
          have hb := h1.block b hbw
          have h0 := HKW.out.trans HK4.out
          exact ⟨h1.os.trans h0.os, h1.tape.trans h0.tape, h1.output.trans h0.output, Nat.le_trans h0.size h1.size, fun q h2 h3 => (h1.block q h2).trans (h0.block q h2 h3), fun o ho => (World.cell?_of_block (a := ⟨b, o, none⟩) hb).trans (h0.cell o ho), fun o => (World.frozen?_of_block (a := ⟨b, o, none⟩) hb).trans (h0.frozen o)⟩
        have hg8 : w8.heap[g]? = w3.heap[g]? := hob8.trans (HK4.out.block g hgw.2 (by omega))
        have HG8 := Lib.hid hg8
        have hgqg : gq ≠ g := by
          rcases HAT.out with h | h
          · exact (hne gq h).2.2
          · omega
        have hgql := HOWN8.out.lt gq rfl
        have HNE := Lib.hid hne
        clear hown8 hgrow hat hbB hob8 hg8 hS2 hS3 hS4 c8 fr hrow4 hne
        go_wp2_with fail
        go_ret
        have hz9 : ∀ u, (w8.setCell ⟨g, k * 3 + 1, none⟩ u).heap.size = w8.heap.size := fun u => by simp [World.setCell]
        refine ⟨l.set k ⟨x.name, x.scopes ++ [n], x.id⟩, _, p + 1 + 1 + 1, rfl, ?_, by rw [List.length_set]; omega, fun z hz => ?_, by omega, HR8.out.setOther (by have := HR8.out.1; omega) (by omega), HK8.out.setNew hbw hgw.1⟩
        · refine bdRow_set hcp.out.1 hcp.out.2 HWF.out (by have := HWF.out _ (List.getElem_mem hk); rw [HXE.out] at this; exact this) ⟨hgw.1, by rw [hz9]; omega⟩ (fun i hi hne => ?_) ?_
          · obtain ⟨sb, sbc, c0, c1, c2, hr⟩ := HOTH.out i hi hne
            have hat8 : BdAt (fun q => w.heap.size ≤ q ∧ q < w3.heap.size ∧ q ≠ g ∧ (Value.slice sa x.scopes.length scap).ownBlock ≠ some q) w8 g (i * 3) l[i] := ⟨sb, sbc, (World.cell?_of_block (a := ⟨g, i * 3, none⟩) HG8.out).trans c0, (World.cell?_of_block (a := ⟨g, i * 3 + 1, none⟩) HG8.out).trans c1, (World.cell?_of_block (a := ⟨g, i * 3 + 2, none⟩) HG8.out).trans c2,
              hr.later fun q hq => (HGROW.out.block q (by rw [size_alloc']; omega) (Ne.symm hq.2.2.2)).trans ((HBB.out.block q (by omega)).trans (HK4.out.block q hq.2.1 (by omega)))⟩
            exact bdAt_set hat8 (by omega) fun q hq => ⟨hq.2.2.1, hq.1, by rw [hz9]; omega⟩
          · have e : (x.scopes ++ [n]).length = x.scopes.length + 1 := by simp
            have hown9 : w8.ownsRow la 3 1 (.slice (some ⟨gq, 0, none⟩) (x.scopes ++ [n]).length qd) (x.scopes ++ [n]).length ((x.scopes ++ [n]).map (Value.int .i64)) := by
              rw [e, List.map_append]
              exact HOWN8.out
            have hint : IntRow (fun q => q = gq) w8 (.slice (some ⟨gq, 0, none⟩) (x.scopes ++ [n]).length qd) (x.scopes ++ [n]) := ownsRow_introw hown9 (fun z hz => by
              rcases List.mem_append.1 hz with hz | hz
              · exact HBND.out x (by rw [← HXE.out]; exact List.getElem_mem hk) z hz
              · rw [List.mem_singleton] at hz
                have := HN.out
                omega) (fun q hq => (Option.some.inj hq).symm)
            refine ⟨some ⟨gq, 0, none⟩, qd, (World.cell?_setCell_other _ _ _ _ (addr_ne (by omega))).trans ((World.cell?_of_block (a := ⟨g, k * 3, none⟩) HG8.out).trans HD0.out), ?_, (World.cell?_setCell_other _ _ _ _ (addr_ne (by omega))).trans ((World.cell?_of_block (a := ⟨g, k * 3 + 2, none⟩) HG8.out).trans HD2.out), (hint.later fun q hq => ?_).mono fun q hq => ?_⟩
            · show _ = some (Value.slice (some ⟨gq, 0, none⟩) (x.scopes ++ [n]).length qd)
              rw [e]
              exact World.cell?_setCell_same _ _ _ ((World.cell?_of_block (a := ⟨g, k * 3 + 1, none⟩) HG8.out).trans HC1.out)
            · exact Below.heap_setCell _ _ _ _ (by rw [hq]; exact hgqg)
            · subst hq
              exact ⟨by omega, by rw [hz9]; omega⟩
        · rcases List.mem_or_eq_of_mem_set hz with h | rfl
          · have := HSC.out z h; omega
          · show (x.scopes ++ [n]).length ≤ m + 1
            simp
            omega
      · by_cases y2 : y = 2
        · subst y2
          have hmid := HM3.out.mid HBND.out
          obtain ⟨sa, scap, c0, c1, c2, hrk⟩ := hmid.at' k hk
          obtain ⟨x, hx⟩ : ∃ x, l[k] = x := ⟨_, rfl⟩
          rw [hx] at c0 c1 c2 hrk
          have HXE := Lib.hid hx
          have HRK := Lib.hid hrk
          have HMID := Lib.hid hmid
          have hown3 := HM3.out.own
          have hL1 : l.length + 1 ≤ maxLen := by unfold maxLen; omega
          have hL2 : (l.length + 1) * 48 ≤ 140737488355328 := by omega
          clear hx hrk hmid
          go_wp2_with (at_builtin; refine wpList_append_lies _ rfl _ _ 38 rfl w.heap.size 89 i0 _ 3 48 Try.underlying38 hi0 hz0 hz1 hz2 rfl (by decide) (.slice (some ⟨g, 0, none⟩) l.length vc) _ _ rfl (hown3.alloc _) ⟨w3.heap.size, 0, none⟩ 1 1 [.string x.name, .slice sa x.scopes.length scap, .int .i64 x.id] rfl rfl (World.news_of_block (cs := #[.string x.name, .slice sa x.scopes.length scap, .int .i64 x.id]) (t := 89) (fr := (0, 0)) (heap_alloc_new w3 _)) (by simp [Value.oneCell']) (by omega) hL1 hL2 (by simp; omega) (w3.heap.size + 1) (by simp) ?_; intro gg qcap w5 hown5 hgrow hat hlt5; have HOWN5 := Lib.hid hown5; have HGROW := Lib.hid hgrow; have HAT := Lib.hid hat; clear hown5 hgrow hat)
          have hbT := below_alloc w3 (.cells #[.string x.name, .slice sa x.scopes.length scap, .int .i64 x.id] 89)
          have hgs := HGROW.out.size
          rw [size_alloc'] at hgs
          have hm5 := HMID.out.step (x := x) (sa := sa) (scap := scap) (w2 := w3.alloc (.cells #[.string x.name, .slice sa x.scopes.length scap, .int .i64 x.id] 89)) (by omega) (fun q _ hq => hbT.block q hq) (by simp) ((HRK.out.later (Same.of_below hbT fun q hq => hq.2.1)).mono fun q hq => ⟨hq.1, by simp; omega, fun e => hq.2.2 (by simp only [Value.ownBlock, Option.some.injEq] at e; exact e.symm)⟩) HOWN5.out HGROW.out (HAT.out.imp (fun h => h) (fun h => by simpa using h))
          have HEND := Lib.hid (hm5.ends (fun z hz => by
            rcases List.mem_append.1 hz with hz | hz
            · exact HWF.out z hz
            · rw [List.mem_singleton] at hz
              subst hz
              rw [← HXE.out]
              exact HWF.out _ (List.getElem_mem hk)))
          have HR5 : Hid (Rd B w5 b (p + 1 + 1)) := HR3.out.same fun q hq => by
            have hBb := HR3.out.1
            have h1 : q < w.heap.size := by rcases hq with h | h <;> omega
            exact (HGROW.out.block q (by rw [size_alloc']; omega) (by simp only [Value.ownBlock]; intro e; have := Option.some.inj e; omega)).trans (hbT.block q (by omega))
          have HK5 : Hid (Kept b 1 2 w w5) := by
            have h1 : Below w.heap.size w3 w5 := (hbT.mono (by omega)).grown HGROW.out (by simp; omega) (fun q hq => by simp only [Value.ownBlock, Option.some.injEq] at hq; omega)
            have hb := h1.block b hbw
            exact ⟨h1.os.trans HKW.out.os, h1.tape.trans HKW.out.tape, h1.output.trans HKW.out.output, Nat.le_trans HKW.out.size h1.size, fun q h2 h3 => (h1.block q h2).trans (HKW.out.block q h2 h3), fun o ho => (World.cell?_of_block (a := ⟨b, o, none⟩) hb).trans (HKW.out.cell o ho), fun o => (World.frozen?_of_block (a := ⟨b, o, none⟩) hb).trans (HKW.out.frozen o)⟩
          clear hm5 hbT HOWN5 HGROW HAT
          go_wp2_with fail
          go_ret
          refine ⟨l ++ [x], _, p + 1 + 1, rfl, HEND.out, by simp, fun z hz => ?_, by omega, HR5.out, HK5.out⟩
          rcases List.mem_append.1 hz with hz | hz
          · have := HSC.out z hz; omega
          · rw [List.mem_singleton] at hz
            subst hz
            have := HSC.out _ (List.getElem_mem hk)
            rw [HXE.out] at this
            omega
        · have e0 : ((y : Int) == 0) = false := beq_false_of_ne (by omega)
          have e1 : ((y : Int) == 1) = false := beq_false_of_ne (by omega)
          have e2 : ((y : Int) == 2) = false := beq_false_of_ne (by omega)
          go_wp2_with fail
          go_ret
          exact ⟨l, _, p + 1 + 1, rfl, (HM3.out.mid HBND.out).ends HWF.out, by omega, fun x hx => by have := HSC.out x hx; omega, by omega, HR3.out, HKW.out⟩
end Go.Proofs.Ytcckhcedfmadeaa
