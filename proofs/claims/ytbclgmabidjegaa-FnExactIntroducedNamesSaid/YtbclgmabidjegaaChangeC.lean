/- The contract of a change of one node: scopes copied. -/
import Derived.Test.YtbclgmabidjegaaMids
import Derived.OwnWalk
namespace Go.Proofs.Ytbclgmabidjegaa
open Go.RowKit
set_option linter.unusedVariables false
set_option maxRecDepth 100000 in
set_option maxHeartbeats 400000 in
theorem copyScopes_any (φ : Nat → Prop) (b o : Nat) (l : List Int) (sa : Option Addr) (scap : Nat) (w : World) (hc : w.cell? ⟨b, o + 3, none⟩ = some (.slice sa l.length scap)) (hf : w.frozen? ⟨b, o + 3, none⟩ = false)
    (hv : IntRow φ w (.slice sa l.length scap) l) (hl : l.length ≤ 1048576) :
    Calls Try.prog 185 #[.pointer (some ⟨b, o, none⟩)] w fun e w' => e = .returned (.tuple #[]) ∧ Changed l b o w w' := by
  obtain ⟨a, cap, e, hcap, hmax, hwf, hrow⟩ := hv
  injection e with e1 _ e3
  subst e1 e3
  have hbl : b < w.heap.size := cell_lt hc
  have HWF := Lib.hid hwf
  have HF := Lib.hid hf
  obtain ⟨i0, hi0, hz0, hz1, hz2⟩ := info_parts Try.infoInt
  by_cases h0 : l = []
  · subst h0
    have HC := Lib.hid hc
    clear hrow hwf
    go_enter Try.func185, Try.ntmps185
    go_wp2_with (at_builtin; refine wpList_append_empty rfl _ _ 22 rfl 3 i0 Try.underlying22 hi0 rfl _ _ rfl ?_)
    go_end0
    refine ⟨rfl, (Only.refl _ _).setCell _ _ _ (by simp), ⟨none, 0, [], World.cell?_setCell_same _ _ _ hc, ⟨none, 0, rfl, Nat.le_refl _, Nat.zero_le _, by simp, .inl ⟨rfl, rfl⟩⟩, NewBs.nil _ _, AllPlain.nil _⟩, fun i hi => World.cell?_setCell_other _ _ _ _ (addr_ne (by omega)), fun i => World.frozen?_setCell _ _ _ _, fun h => h.setCell _ _ _⟩
  · rcases hrow with h | ⟨sb, soff, rfl, _, hcells⟩
    · exact absurd h h0
    have hpos : 0 < l.length := by cases l with | nil => exact absurd rfl h0 | cons _ _ => simp
    have HN : Hid (∀ j u, (l.map (Value.int .i64))[j]? = some u → w.cell? ((⟨sb, soff, none⟩ : Addr).add j) = some u) := by
      intro j u hj
      rw [List.getElem?_map] at hj
      obtain ⟨x, hx, rfl⟩ := Option.map_eq_some_iff.1 hj
      obtain ⟨hj', rfl⟩ := List.getElem?_eq_some_iff.1 hx
      have := hcells j hj'
      unfold Addr.add
      split
      · rename_i h; subst h; simpa using this
      · exact this
    have hL1 : 0 + l.length ≤ maxLen := by unfold maxLen; omega
    have hL2 : (0 + l.length) * 8 ≤ 140737488355328 := by omega
    clear hcells hwf hf h0
    have hfz := HF.out
    go_enter Try.func185, Try.ntmps185
    go_wp2_with (at_builtin; refine wpList_append_lies _ rfl _ _ 22 rfl w.heap.size 3 i0 _ 1 8 Try.underlying22 hi0 hz0 hz1 hz2 rfl (by decide) _ 0 [] rfl (World.ownsRow_nil _ _ _ _) ⟨sb, soff, none⟩ l.length scap (l.map (Value.int .i64)) rfl (by simp) HN.out (by intro u hu; obtain ⟨x, _, rfl⟩ := List.mem_map.1 hu; rfl) hpos hL1 hL2 (Nat.le_refl _) w.heap.size rfl ?_; intro gg qcap w4 hown1 hgrow hat hlt4; have HOWN1 := Lib.hid hown1; have HGROW := Lib.hid hgrow; have HAT := Lib.hid hat; have hc4 := (hgrow.cell_far ⟨b, o + 3, none⟩ hbl (show some b ≠ none from by simp)).trans hc; have hf4 := (hgrow.frozen_far ⟨b, o + 3, none⟩ hbl (show some b ≠ none from by simp)).trans hfz; clear hown1 hgrow hat)
    go_end0
    have hgg : gg = w.heap.size := by
      rcases HAT.out with h | h
      · exact absurd (show (none : Option Nat) = some gg from h) (by simp)
      · exact h
    have hown : w4.ownsRow w.heap.size 3 1 (.slice (some ⟨gg, 0, none⟩) l.length qcap) l.length (l.map (Value.int .i64)) := by
      have := HOWN1.out
      rw [Nat.zero_add, List.nil_append] at this
      exact this
    have hnb : gg ≠ b := by omega
    have hown5 := ownsRow_setFar (o := o + 3) (u := .slice (some ⟨gg, 0, none⟩) l.length qcap) hown hnb
    have hsame : ∀ k, k < w.heap.size → w4.heap[k]? = w.heap[k]? := fun k hk => HGROW.out.block k hk (show some k ≠ none from by simp)
    refine ⟨rfl, ?_, ⟨_, qcap, [gg], World.cell?_setCell_same _ _ _ hc4, ownsRow_ints hown5 HWF.out, ⟨by simp, fun c hc => ?_⟩, fun c hc => ?_⟩, fun i hi => ?_, fun i => ?_, fun h => ?_⟩
    · exact Only.setCell ⟨HGROW.out.os, HGROW.out.tape, HGROW.out.output, HGROW.out.size, fun k hk _ => hsame k hk⟩ _ _ _ (by simp)
    · rw [List.mem_singleton] at hc
      subst hc
      exact ⟨by omega, by simp [World.setCell]; exact hlt4⟩
    · rw [List.mem_singleton] at hc
      subst hc
      exact ownsRow_plain hown5
    · rw [World.cell?_setCell_other _ _ _ _ (addr_ne (by omega))]
      exact World.cell?_of_block (a := ⟨b, i, none⟩) (hsame b hbl)
    · rw [World.frozen?_setCell]
      exact World.frozen?_of_block (a := ⟨b, i, none⟩) (hsame b hbl)
    · exact (h.same (hsame b hbl)).setCell _ _ _
end Go.Proofs.Ytbclgmabidjegaa
