/- The contract of the change of one node that combines the scopes of a name with given ones. -/
import Derived.Test.YtmakaoomdnlebaaSetFns
import Derived.Test.YtmakaoomdnlebaaData
namespace Go.Proofs.Ytmakaoomdnlebaa
open Go.RowKit
set_option linter.unusedVariables false
set_option linter.unusedSimpArgs false
/-- the change of a node -/
def dressF (comb : List Int → List Int → List Int) (gs : List Int) : Int → List Int → List Int := fun k sc => if k = 1 then comb sc gs else []
/-- what the loads of the region read -/
def RedHeld (cb sb b o cf : Nat) (sa : Option Addr) (n scap : Nat) (pg : Option Addr) (m cg : Nat) (w' : World) : Prop :=
  w'.cell? ⟨cb, 0, none⟩ = some (.func (.func cf) #[] #[]) ∧ w'.cell? ⟨sb, 0, none⟩ = some (.slice pg m cg) ∧ w'.cell? ⟨b, o + 3, none⟩ = some (.slice sa n scap)
set_option maxRecDepth 100000 in
set_option maxHeartbeats 1000000 in
theorem redress_any (comb : List Int → List Int → List Int) (cf : Nat) (gs : List Int) (pg : Option Addr) (cg cb sb b o : Nat) (k : Int) (l : List Int) (sa : Option Addr) (scap : Nat) (w : World)
    (hk : w.cell? ⟨b, o, none⟩ = some (.int .i64 k)) (hc : w.cell? ⟨b, o + 3, none⟩ = some (.slice sa l.length scap)) (hf : w.frozen? ⟨b, o + 3, none⟩ = false)
    (hcb : w.cell? ⟨cb, 0, none⟩ = some (.func (.func cf) #[] #[])) (hsb : w.cell? ⟨sb, 0, none⟩ = some (.slice pg gs.length cg)) (hbd : ∀ n ∈ comb l gs, -9223372036854775808 ≤ n ∧ n ≤ 9223372036854775807)
    (eg : ∀ args w, (callFunc cf args).run Try.prog w = .ok (.enter cf args) w)
    (hcomb : ∀ W, Below w.heap.size w W → Calls Try.prog cf #[.slice sa l.length scap, .slice pg gs.length cg] W (MadeSet (comb l gs) W)) :
    Calls Try.prog 81 #[.pointer (some ⟨b, o, none⟩), .pointer (some ⟨cb, 0, none⟩), .pointer (some ⟨sb, 0, none⟩)] w fun e w' => e = .returned (.tuple #[]) ∧ Changed (dressF comb gs k l) b o w w' := by
  have HC := Lib.hid hc
  have HF := Lib.hid hf
  have HCO := Lib.hid hcomb
  have HBD := Lib.hid hbd
  have hbl : b < w.heap.size := cell_lt hc
  clear hcomb hbd
  by_cases h1 : k = 1
  · subst h1
    have HD : Hid (dressF comb gs 1 l = comb l gs) := by unfold Hid dressF; rw [if_pos rfl]
    go_enter Try.func81, Try.ntmps81
    go_wp2_with fail
    have hS0 : RedHeld cb sb b o cf sa l.length scap pg gs.length cg w.drew := ⟨hcb, hsb, HC.out⟩
    refine upto_begin (RedHeld cb sb b o cf sa l.length scap pg gs.length cg) 10 (by kernel_rfl) ?_
    refine upto_take (i := 0) (d := some 9) (v := ?_) rfl rfl (by kernel_rfl) (by kernel_rfl) (by kernel_rfl) (by kernel_rfl) (fun _ _ _ h => h) (Or.inl ⟨by rfl, ?_⟩) hS0 ?_
    rotate_left
    · (intro wS hSw; obtain ⟨_, _, _⟩ := hSw; go_simp; try with_reducible rfl)
    try simp only [Act.put, List.setIfInBounds_toArray, List.set_cons_zero, List.set_cons_succ]
    refine upto_take (i := 1) (d := some 10) (v := ?_) rfl rfl (by kernel_rfl) (by kernel_rfl) (by kernel_rfl) (by kernel_rfl) (fun _ _ _ h => h) (Or.inl ⟨by rfl, ?_⟩) hS0 ?_
    rotate_left
    · (intro wS hSw; obtain ⟨_, _, _⟩ := hSw; go_simp; try with_reducible rfl)
    try simp only [Act.put, List.setIfInBounds_toArray, List.set_cons_zero, List.set_cons_succ]
    refine upto_take (i := 2) (d := some 11) (v := ?_) rfl rfl (by kernel_rfl) (by kernel_rfl) (by kernel_rfl) (by kernel_rfl) (fun _ _ _ h => h) (Or.inl ⟨by rfl, ?_⟩) hS0 ?_
    rotate_left
    · (intro wS hSw; obtain ⟨_, _, _⟩ := hSw; go_simp; try with_reducible rfl)
    try simp only [Act.put, List.setIfInBounds_toArray, List.set_cons_zero, List.set_cons_succ]
    refine upto_take (i := 3) (d := some 12) (v := ?_) rfl rfl (by kernel_rfl) (by kernel_rfl) (by kernel_rfl) (by kernel_rfl) (fun _ _ _ h => h) (Or.inl ⟨by rfl, ?_⟩) hS0 ?_
    rotate_left
    · (intro wS hSw; obtain ⟨_, _, _⟩ := hSw; go_simp; try with_reducible rfl)
    try simp only [Act.put, List.setIfInBounds_toArray, List.set_cons_zero, List.set_cons_succ]
    refine upto_take (i := 4) (d := some 13) (v := ?_) rfl rfl (by kernel_rfl) (by kernel_rfl) (by kernel_rfl) (by kernel_rfl) (fun _ _ _ h => h) (Or.inl ⟨by rfl, ?_⟩) hS0 ?_
    rotate_left
    · (intro wS hSw; obtain ⟨_, _, _⟩ := hSw; go_simp; try with_reducible rfl)
    try simp only [Act.put, List.setIfInBounds_toArray, List.set_cons_zero, List.set_cons_succ]
    refine upto_take (i := 5) (d := some 14) (v := ?_) rfl rfl (by kernel_rfl) (by kernel_rfl) (by kernel_rfl) (by kernel_rfl) (fun _ _ _ h => h) (Or.inl ⟨by rfl, ?_⟩) hS0 ?_
    rotate_left
    · (intro wS hSw; obtain ⟨_, _, _⟩ := hSw; go_simp; try with_reducible rfl)
    try simp only [Act.put, List.setIfInBounds_toArray, List.set_cons_zero, List.set_cons_succ]
    refine upto_take (i := 6) (d := some 15) (v := ?_) rfl rfl (by kernel_rfl) (by kernel_rfl) (by kernel_rfl) (by kernel_rfl) (fun _ _ _ h => h) (Or.inl ⟨by rfl, ?_⟩) hS0 ?_
    rotate_left
    · (intro wS hSw; obtain ⟨_, _, _⟩ := hSw; go_simp; try with_reducible rfl)
    try simp only [Act.put, List.setIfInBounds_toArray, List.set_cons_zero, List.set_cons_succ]
    have hw7 : Below w.heap.size w w.drew := (Below.refl _ w).drew
    refine upto_one (i := 7) (by kernel_rfl) rfl (fun K hK => ?_)
    go_simp
    refine (HCO.out w.drew hw7).mono ?_
    rintro e w3 ⟨g, gcap, rfl, hown, hb3'⟩
    have hb3 : Below w.heap.size w w3 := hw7.trans hb3'
    have hS3 : RedHeld cb sb b o cf sa l.length scap pg gs.length cg w3 := ⟨cell_later' hb3 hcb, cell_later' hb3 hsb, cell_later' hb3 HC.out⟩
    refine hK.out _ _ (.inr hS3) ?_
    clear hK K
    refine upto_one (i := 8) (by kernel_rfl) rfl (fun K hK => ?_)
    go_simp
    refine hK.out _ _ (.inr hS3) ?_
    clear hK K
    refine upto_one (i := 9) (by kernel_rfl) rfl (fun K hK => ?_)
    go_simp
    refine hK.out _ _ (.inr hS3) ?_
    clear hK K
    have hc3 := hS3.2.2
    have hf3 : w3.frozen? ⟨b, o + 3, none⟩ = false := (World.frozen?_of_block (a := ⟨b, o + 3, none⟩) (hb3.block b hbl)).trans HF.out
    refine upto_one (i := 10) (by kernel_rfl) rfl (fun K hK => ?_)
    go_simp
    refine hK.out _ _ (.inl rfl) ?_
    clear hK K
    refine upto_done (by kernel_rfl) ?_ _
    have HOWN := Lib.hid hown
    have HB3 := Lib.hid hb3
    clear hown hb3 hS3 hS0
    go_wp2_with fail
    refine bodyPost_ret (results_none rfl _ _ _) rfl ?_
    rw [HD.out]
    have hown3 : w3.ownsRow w.heap.size 3 1 (.slice (some ⟨g, 0, none⟩) (comb l gs).length gcap) (comb l gs).length ((comb l gs).map (Value.int .i64)) := HOWN.out
    have hb3 := HB3.out
    have hgl := hown3.lt g rfl
    have hgb : g ≠ b := by omega
    have hown5 := ownsRow_setFar (o := o + 3) (u := .slice (some ⟨g, 0, none⟩) (comb l gs).length gcap) hown3 hgb
    refine ⟨rfl, Only.setCell ⟨hb3.os, hb3.tape, hb3.output, hb3.size, fun k hk _ => hb3.block k hk⟩ _ _ _ (by simp), ⟨_, gcap, [g], World.cell?_setCell_same _ _ _ hc3, ownsRow_ints hown5 HBD.out, ⟨by simp, fun c hc => ?_⟩, fun c hc => ?_⟩, fun i hi => ?_, fun i => ?_, fun h => ?_⟩
    · rw [List.mem_singleton] at hc
      subst hc
      exact ⟨by omega, by simp [World.setCell]; omega⟩
    · rw [List.mem_singleton] at hc
      subst hc
      exact ownsRow_plain hown5
    · rw [World.cell?_setCell_other _ _ _ _ (addr_ne (by omega))]
      exact World.cell?_of_block (a := ⟨b, i, none⟩) (hb3.block b hbl)
    · rw [World.frozen?_setCell]
      exact World.frozen?_of_block (a := ⟨b, i, none⟩) (hb3.block b hbl)
    · exact (h.same (hb3.block b hbl)).setCell _ _ _
  · have HD : Hid (dressF comb gs k l = []) := by unfold Hid dressF; rw [if_neg h1]
    have hkb : (k == 1) = false := beq_eq_false_iff_ne.2 h1
    go_enter Try.func81, Try.ntmps81
    go_wp2_with fail
    go_end0
    rw [HD.out]
    refine ⟨rfl, (Only.refl _ _).setCell _ _ _ (by simp), ⟨none, 0, [], World.cell?_setCell_same _ _ _ HC.out, ⟨none, 0, rfl, Nat.le_refl _, Nat.zero_le _, by simp, .inl ⟨rfl, rfl⟩⟩, NewBs.nil _ _, AllPlain.nil _⟩, fun i hi => World.cell?_setCell_other _ _ _ _ (addr_ne (by omega)), fun i => World.frozen?_setCell _ _ _ _, fun h => h.setCell _ _ _⟩
end Go.Proofs.Ytmakaoomdnlebaa
