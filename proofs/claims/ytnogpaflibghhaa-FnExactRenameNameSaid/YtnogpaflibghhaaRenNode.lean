/- The contract of the program's change of one node: scopes copied, a name put for another. -/
import Derived.Test.YtnogpaflibghhaaRenData
import Derived.OwnWalk
namespace Go.Proofs.Ytnogpaflibghhaa
open Go.RowKit
set_option linter.unusedVariables false
set_option linter.unusedSimpArgs false
/-- the new name -/
def nameR (old now nm : ByteArray) : ByteArray := if (nm.toList == old.toList) = true then now else nm
theorem Changed.drewN {l : List Int} {b o : Nat} {w w' : World} (h : Changed l b o w w') (n : Nat) : Changed l b o w (w'.drewN n) := ⟨h.only.drewN n, h.sc, h.cell, h.frozen, h.plain⟩
theorem chR_keep {nm : ByteArray} {l : List Int} {b o : Nat} {w w' : World} (h : Changed l b o w w') (hn : w'.cell? ⟨b, o + 1, none⟩ = some (.string nm)) : ChangedR nm l b o w w' :=
  ⟨h.only, h.sc, hn, fun i h1 _ => h.cell i h1, h.frozen, h.plain⟩
theorem chR_set {nm now : ByteArray} {l : List Int} {b o : Nat} {w w' : World} (h : Changed l b o w w') (hn : w'.cell? ⟨b, o + 1, none⟩ = some (.string nm)) : ChangedR now l b o w (w'.setCell ⟨b, o + 1, none⟩ (.string now)) := by
  obtain ⟨sa, scap, bs, s1, s2, s3, s4⟩ := h.sc
  have hz : (w'.setCell ⟨b, o + 1, none⟩ (.string now)).heap.size = w'.heap.size := by simp [World.setCell]
  have hbs : ∀ c ∈ bs, c ≠ b := fun c hm e => by
    have h1 := (s3.2 c hm).1
    have h2 := h.cell (o + 1) (by omega)
    have h3 := cell_lt (h2.symm.trans hn)
    omega
  have hss : ∀ c ∈ bs, (w'.setCell ⟨b, o + 1, none⟩ (.string now)).heap[c]? = w'.heap[c]? := fun c hm => Below.heap_setCell _ _ _ _ (hbs c hm)
  exact ⟨h.only.setCell _ _ _ (by simp), ⟨sa, scap, bs, by rw [World.cell?_setCell_other _ _ _ _ (addr_ne (by omega))]; exact s1, s2.later hss, by rw [hz]; exact s3, s4.same hss⟩,
    World.cell?_setCell_same _ _ _ hn, fun i h1 h2 => by rw [World.cell?_setCell_other _ _ _ _ (addr_ne (by omega))]; exact h.cell i h1, fun i => by rw [World.frozen?_setCell]; exact h.frozen i, fun hp => (h.plain hp).setCell _ _ _⟩
set_option maxRecDepth 100000 in
set_option maxHeartbeats 1000000 in
theorem renNode_any (φ : Nat → Prop) (old now : ByteArray) (ob nb b o : Nat) (nm : ByteArray) (l : List Int) (sa : Option Addr) (scap : Nat) (w : World)
    (hn : w.cell? ⟨b, o + 1, none⟩ = some (.string nm)) (hfn : w.frozen? ⟨b, o + 1, none⟩ = false) (ho : w.cell? ⟨ob, 0, none⟩ = some (.string old)) (hw : w.cell? ⟨nb, 0, none⟩ = some (.string now)) (hob : ob ≠ b) (hnb : nb ≠ b)
    (hc : w.cell? ⟨b, o + 3, none⟩ = some (.slice sa l.length scap)) (hf : w.frozen? ⟨b, o + 3, none⟩ = false) (hv : IntRow φ w (.slice sa l.length scap) l) (hl : l.length ≤ 1048576) :
    Calls Try.prog 187 #[.pointer (some ⟨b, o, none⟩), .pointer (some ⟨ob, 0, none⟩), .pointer (some ⟨nb, 0, none⟩)] w fun e w' => e = .returned (.tuple #[]) ∧ ChangedR (nameR old now nm) l b o w w' := by
  obtain ⟨a, cap, e, hcap, hmax, hwf, hrow⟩ := hv
  injection e with e1 _ e3
  subst e1 e3
  have hbl : b < w.heap.size := cell_lt hc
  have HWF := Lib.hid hwf
  have HF := Lib.hid hf
  obtain ⟨i0, hi0, hz0, hz1, hz2⟩ := info_parts Try.infoInt
  rcases Bool.eq_false_or_eq_true (nm.toList == old.toList) with hE | hE
  · have hR : nameR old now nm = now := by unfold nameR; rw [hE]; rfl
    rw [hR]
    clear hR
    by_cases h0 : l = []
    · subst h0
      clear hrow hwf
      have hc5 : (w.setCell ⟨b, o + 3, none⟩ (.slice none 0 0)).cell? ⟨b, o + 1, none⟩ = some (.string nm) := by rw [World.cell?_setCell_other _ _ _ _ (addr_ne (by omega))]; exact hn
      have ho5 : (w.setCell ⟨b, o + 3, none⟩ (.slice none 0 0)).cell? ⟨ob, 0, none⟩ = some (.string old) := by rw [World.cell?_setCell_other _ _ _ _ (by intro e; injection e with e1 _; exact hob e1.symm)]; exact ho
      have hw5 : (w.setCell ⟨b, o + 3, none⟩ (.slice none 0 0)).cell? ⟨nb, 0, none⟩ = some (.string now) := by rw [World.cell?_setCell_other _ _ _ _ (by intro e; injection e with e1 _; exact hnb e1.symm)]; exact hw
      have hf5 : (w.setCell ⟨b, o + 3, none⟩ (.slice none 0 0)).frozen? ⟨b, o + 1, none⟩ = false := by rw [World.frozen?_setCell]; exact hfn
      go_enter Try.func187, Try.ntmps187
      go_wp2_with (at_builtin; refine wpList_append_empty rfl _ _ 22 rfl 3 i0 Try.underlying22 hi0 rfl _ _ rfl ?_)
      go_quiet (fail)
      go_wp2_with fail
      go_end0
      have hch : Changed [] b o w (w.setCell ⟨b, o + 3, none⟩ (.slice none 0 0)) := ⟨(Only.refl _ _).setCell _ _ _ (by simp), ⟨none, 0, [], World.cell?_setCell_same _ _ _ hc, ⟨none, 0, rfl, Nat.le_refl _, Nat.zero_le _, by simp, .inl ⟨rfl, rfl⟩⟩, NewBs.nil _ _, AllPlain.nil _⟩, fun i hi => World.cell?_setCell_other _ _ _ _ (addr_ne (by omega)), fun i => World.frozen?_setCell _ _ _ _, fun h => h.setCell _ _ _⟩
      exact ⟨rfl, chR_set (hch.drewN _) hc5⟩
    · rcases hrow with h | ⟨sb, soff, rfl, _, hcells⟩
      · exact absurd h h0
      have hpos : 0 < l.length := by cases l with | nil => exact absurd rfl h0 | cons _ _ => simp
      have HN : Hid (∀ j u, (l.map (Value.int .i64))[j]? = some u → w.cell? ((⟨sb, soff, none⟩ : Addr).add j) = some u) := by
        intro j u hj
        rw [List.getElem?_map] at hj
        obtain ⟨x, hx, rfl⟩ := Option.map_eq_some_iff.1 hj
        obtain ⟨hj', rfl⟩ := List.getElem?_eq_some_iff.1 hx
        have := hcells j hj'
        unfold Addr.add
        split
        · rename_i h; subst h; simpa using this
        · exact this
      have hL1 : 0 + l.length ≤ maxLen := by unfold maxLen; omega
      have hL2 : (0 + l.length) * 8 ≤ 140737488355328 := by omega
      clear hcells hwf hf h0
      have hfz := HF.out
      go_enter Try.func187, Try.ntmps187
      go_wp2_with (at_builtin; refine wpList_append_lies _ rfl _ _ 22 rfl w.heap.size 3 i0 _ 1 8 Try.underlying22 hi0 hz0 hz1 hz2 rfl (by decide) _ 0 [] rfl (World.ownsRow_nil _ _ _ _) ⟨sb, soff, none⟩ l.length scap (l.map (Value.int .i64)) rfl (by simp) HN.out (by intro u hu; obtain ⟨x, _, rfl⟩ := List.mem_map.1 hu; rfl) hpos hL1 hL2 (Nat.le_refl _) w.heap.size rfl ?_; intro gg qcap w4 hown1 hgrow hat hlt4; have HOWN1 := Lib.hid hown1; have HGROW := Lib.hid hgrow; have HAT := Lib.hid hat; have hc4 := (hgrow.cell_far ⟨b, o + 3, none⟩ hbl (show some b ≠ none from by simp)).trans hc; have hf4 := (hgrow.frozen_far ⟨b, o + 3, none⟩ hbl (show some b ≠ none from by simp)).trans hfz; have hs4 : ∀ k, k < w.heap.size → w4.heap[k]? = w.heap[k]? := fun k hk => hgrow.block k hk (show some k ≠ none from by simp); rw [Nat.zero_add]; have hc5 : (w4.setCell ⟨b, o + 3, none⟩ (.slice (some ⟨gg, 0, none⟩) l.length qcap)).cell? ⟨b, o + 1, none⟩ = some (.string nm) := (by rw [World.cell?_setCell_other _ _ _ _ (addr_ne (by omega))]; exact (World.cell?_of_block (a := ⟨b, o + 1, none⟩) (hs4 _ (cell_lt hn))).trans hn); have ho5 : (w4.setCell ⟨b, o + 3, none⟩ (.slice (some ⟨gg, 0, none⟩) l.length qcap)).cell? ⟨ob, 0, none⟩ = some (.string old) := (by rw [World.cell?_setCell_other _ _ _ _ (by intro e; injection e with e1 _; exact hob e1.symm)]; exact (World.cell?_of_block (a := ⟨ob, 0, none⟩) (hs4 _ (cell_lt ho))).trans ho); have hw5 : (w4.setCell ⟨b, o + 3, none⟩ (.slice (some ⟨gg, 0, none⟩) l.length qcap)).cell? ⟨nb, 0, none⟩ = some (.string now) := (by rw [World.cell?_setCell_other _ _ _ _ (by intro e; injection e with e1 _; exact hnb e1.symm)]; exact (World.cell?_of_block (a := ⟨nb, 0, none⟩) (hs4 _ (cell_lt hw))).trans hw); have hf5 : (w4.setCell ⟨b, o + 3, none⟩ (.slice (some ⟨gg, 0, none⟩) l.length qcap)).frozen? ⟨b, o + 1, none⟩ = false := (by rw [World.frozen?_setCell, World.frozen?_of_block (a := ⟨b, o + 1, none⟩) (hs4 _ hbl)]; exact hfn); have HS4 := Lib.hid hs4; clear hown1 hgrow hat hs4)
      go_quiet (fail)
      go_wp2_with fail
      go_end0
      have hgg : gg = w.heap.size := by
        rcases HAT.out with h | h
        · exact absurd (show (none : Option Nat) = some gg from h) (by simp)
        · exact h
      have hown : w4.ownsRow w.heap.size 3 1 (.slice (some ⟨gg, 0, none⟩) l.length qcap) l.length (l.map (Value.int .i64)) := by
        have := HOWN1.out
        rw [Nat.zero_add, List.nil_append] at this
        exact this
      have hnb2 : gg ≠ b := by omega
      have hown5 := ownsRow_setFar (o := o + 3) (u := .slice (some ⟨gg, 0, none⟩) l.length qcap) hown hnb2
      have hsame := HS4.out
      have hch : Changed l b o w (w4.setCell ⟨b, o + 3, none⟩ (.slice (some ⟨gg, 0, none⟩) l.length qcap)) := by
        refine ⟨?_, ⟨_, qcap, [gg], World.cell?_setCell_same _ _ _ hc4, ownsRow_ints hown5 HWF.out, ⟨by simp, fun c hc => ?_⟩, fun c hc => ?_⟩, fun i hi => ?_, fun i => ?_, fun h => ?_⟩
        · exact Only.setCell ⟨HGROW.out.os, HGROW.out.tape, HGROW.out.output, HGROW.out.size, fun k hk _ => hsame k hk⟩ _ _ _ (by simp)
        · rw [List.mem_singleton] at hc
          subst hc
          exact ⟨by omega, by simp [World.setCell]; exact hlt4⟩
        · rw [List.mem_singleton] at hc
          subst hc
          exact ownsRow_plain hown5
        · rw [World.cell?_setCell_other _ _ _ _ (addr_ne (by omega))]
          exact World.cell?_of_block (a := ⟨b, i, none⟩) (hsame b hbl)
        · rw [World.frozen?_setCell]
          exact World.frozen?_of_block (a := ⟨b, i, none⟩) (hsame b hbl)
        · exact (h.same (hsame b hbl)).setCell _ _ _
      exact ⟨rfl, chR_set (hch.drewN _) hc5⟩
  · have hR : nameR old now nm = nm := by unfold nameR; rw [hE]; rfl
    rw [hR]
    clear hR
    by_cases h0 : l = []
    · subst h0
      clear hrow hwf
      have hc5 : (w.setCell ⟨b, o + 3, none⟩ (.slice none 0 0)).cell? ⟨b, o + 1, none⟩ = some (.string nm) := by rw [World.cell?_setCell_other _ _ _ _ (addr_ne (by omega))]; exact hn
      have ho5 : (w.setCell ⟨b, o + 3, none⟩ (.slice none 0 0)).cell? ⟨ob, 0, none⟩ = some (.string old) := by rw [World.cell?_setCell_other _ _ _ _ (by intro e; injection e with e1 _; exact hob e1.symm)]; exact ho
      have hw5 : (w.setCell ⟨b, o + 3, none⟩ (.slice none 0 0)).cell? ⟨nb, 0, none⟩ = some (.string now) := by rw [World.cell?_setCell_other _ _ _ _ (by intro e; injection e with e1 _; exact hnb e1.symm)]; exact hw
      have hf5 : (w.setCell ⟨b, o + 3, none⟩ (.slice none 0 0)).frozen? ⟨b, o + 1, none⟩ = false := by rw [World.frozen?_setCell]; exact hfn
      go_enter Try.func187, Try.ntmps187
      go_wp2_with (at_builtin; refine wpList_append_empty rfl _ _ 22 rfl 3 i0 Try.underlying22 hi0 rfl _ _ rfl ?_)
      go_quiet (fail)
      go_wp2_with fail
      go_end0
      have hch : Changed [] b o w (w.setCell ⟨b, o + 3, none⟩ (.slice none 0 0)) := ⟨(Only.refl _ _).setCell _ _ _ (by simp), ⟨none, 0, [], World.cell?_setCell_same _ _ _ hc, ⟨none, 0, rfl, Nat.le_refl _, Nat.zero_le _, by simp, .inl ⟨rfl, rfl⟩⟩, NewBs.nil _ _, AllPlain.nil _⟩, fun i hi => World.cell?_setCell_other _ _ _ _ (addr_ne (by omega)), fun i => World.frozen?_setCell _ _ _ _, fun h => h.setCell _ _ _⟩
      exact ⟨rfl, chR_keep (hch.drewN _) hc5⟩
    · rcases hrow with h | ⟨sb, soff, rfl, _, hcells⟩
      · exact absurd h h0
      have hpos : 0 < l.length := by cases l with | nil => exact absurd rfl h0 | cons _ _ => simp
      have HN : Hid (∀ j u, (l.map (Value.int .i64))[j]? = some u → w.cell? ((⟨sb, soff, none⟩ : Addr).add j) = some u) := by
        intro j u hj
        rw [List.getElem?_map] at hj
        obtain ⟨x, hx, rfl⟩ := Option.map_eq_some_iff.1 hj
        obtain ⟨hj', rfl⟩ := List.getElem?_eq_some_iff.1 hx
        have := hcells j hj'
        unfold Addr.add
        split
        · rename_i h; subst h; simpa using this
        · exact this
      have hL1 : 0 + l.length ≤ maxLen := by unfold maxLen; omega
      have hL2 : (0 + l.length) * 8 ≤ 140737488355328 := by omega
      clear hcells hwf hf h0
      have hfz := HF.out
      go_enter Try.func187, Try.ntmps187
      go_wp2_with (at_builtin; refine wpList_append_lies _ rfl _ _ 22 rfl w.heap.size 3 i0 _ 1 8 Try.underlying22 hi0 hz0 hz1 hz2 rfl (by decide) _ 0 [] rfl (World.ownsRow_nil _ _ _ _) ⟨sb, soff, none⟩ l.length scap (l.map (Value.int .i64)) rfl (by simp) HN.out (by intro u hu; obtain ⟨x, _, rfl⟩ := List.mem_map.1 hu; rfl) hpos hL1 hL2 (Nat.le_refl _) w.heap.size rfl ?_; intro gg qcap w4 hown1 hgrow hat hlt4; have HOWN1 := Lib.hid hown1; have HGROW := Lib.hid hgrow; have HAT := Lib.hid hat; have hc4 := (hgrow.cell_far ⟨b, o + 3, none⟩ hbl (show some b ≠ none from by simp)).trans hc; have hf4 := (hgrow.frozen_far ⟨b, o + 3, none⟩ hbl (show some b ≠ none from by simp)).trans hfz; have hs4 : ∀ k, k < w.heap.size → w4.heap[k]? = w.heap[k]? := fun k hk => hgrow.block k hk (show some k ≠ none from by simp); rw [Nat.zero_add]; have hc5 : (w4.setCell ⟨b, o + 3, none⟩ (.slice (some ⟨gg, 0, none⟩) l.length qcap)).cell? ⟨b, o + 1, none⟩ = some (.string nm) := (by rw [World.cell?_setCell_other _ _ _ _ (addr_ne (by omega))]; exact (World.cell?_of_block (a := ⟨b, o + 1, none⟩) (hs4 _ (cell_lt hn))).trans hn); have ho5 : (w4.setCell ⟨b, o + 3, none⟩ (.slice (some ⟨gg, 0, none⟩) l.length qcap)).cell? ⟨ob, 0, none⟩ = some (.string old) := (by rw [World.cell?_setCell_other _ _ _ _ (by intro e; injection e with e1 _; exact hob e1.symm)]; exact (World.cell?_of_block (a := ⟨ob, 0, none⟩) (hs4 _ (cell_lt ho))).trans ho); have hw5 : (w4.setCell ⟨b, o + 3, none⟩ (.slice (some ⟨gg, 0, none⟩) l.length qcap)).cell? ⟨nb, 0, none⟩ = some (.string now) := (by rw [World.cell?_setCell_other _ _ _ _ (by intro e; injection e with e1 _; exact hnb e1.symm)]; exact (World.cell?_of_block (a := ⟨nb, 0, none⟩) (hs4 _ (cell_lt hw))).trans hw); have hf5 : (w4.setCell ⟨b, o + 3, none⟩ (.slice (some ⟨gg, 0, none⟩) l.length qcap)).frozen? ⟨b, o + 1, none⟩ = false := (by rw [World.frozen?_setCell, World.frozen?_of_block (a := ⟨b, o + 1, none⟩) (hs4 _ hbl)]; exact hfn); have HS4 := Lib.hid hs4; clear hown1 hgrow hat hs4)
      go_quiet (fail)
      go_wp2_with fail
      go_end0
      have hgg : gg = w.heap.size := by
        rcases HAT.out with h | h
        · exact absurd (show (none : Option Nat) = some gg from h) (by simp)
        · exact h
      have hown : w4.ownsRow w.heap.size 3 1 (.slice (some ⟨gg, 0, none⟩) l.length qcap) l.length (l.map (Value.int .i64)) := by
        have := HOWN1.out
        rw [Nat.zero_add, List.nil_append] at this
        exact this
      have hnb2 : gg ≠ b := by omega
      have hown5 := ownsRow_setFar (o := o + 3) (u := .slice (some ⟨gg, 0, none⟩) l.length qcap) hown hnb2
      have hsame := HS4.out
      have hch : Changed l b o w (w4.setCell ⟨b, o + 3, none⟩ (.slice (some ⟨gg, 0, none⟩) l.length qcap)) := by
        refine ⟨?_, ⟨_, qcap, [gg], World.cell?_setCell_same _ _ _ hc4, ownsRow_ints hown5 HWF.out, ⟨by simp, fun c hc => ?_⟩, fun c hc => ?_⟩, fun i hi => ?_, fun i => ?_, fun h => ?_⟩
        · exact Only.setCell ⟨HGROW.out.os, HGROW.out.tape, HGROW.out.output, HGROW.out.size, fun k hk _ => hsame k hk⟩ _ _ _ (by simp)
        · rw [List.mem_singleton] at hc
          subst hc
          exact ⟨by omega, by simp [World.setCell]; exact hlt4⟩
        · rw [List.mem_singleton] at hc
          subst hc
          exact ownsRow_plain hown5
        · rw [World.cell?_setCell_other _ _ _ _ (addr_ne (by omega))]
          exact World.cell?_of_block (a := ⟨b, i, none⟩) (hsame b hbl)
        · rw [World.frozen?_setCell]
          exact World.frozen?_of_block (a := ⟨b, i, none⟩) (hsame b hbl)
        · exact (h.same (hsame b hbl)).setCell _ _ _
      exact ⟨rfl, chR_keep (hch.drewN _) hc5⟩
end Go.Proofs.Ytnogpaflibghhaa
