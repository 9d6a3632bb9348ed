/- The contracts of VarDepths, the model's and the program's. -/
import Derived.Test.YtbbihbapmbjbgaaImplPat5
namespace Go.Proofs.Ytbbihbapmbjbgaa
open Go.RowKit
set_option linter.unusedVariables false
set_option linter.unusedSimpArgs false
/-- in how many rows the variables of a pattern are; none, where it is no pattern -/
def depthsB (f : Fm) (ls : List Fm) : List Int := if patternB f ls = true then depF ls f 0 else []
mutual
theorem depF_low (ls : List Fm) : ∀ (f : Fm) (d : Int), ∀ x ∈ depF ls f d, d ≤ x
  | .mk k nm n sc ks, d, x, h => by
    rw [depF_eq] at h
    rcases List.mem_append.1 h with h | h
    · split at h
      · rw [List.mem_singleton] at h; omega
      · cases h
    · exact depAll_low ls ks d x h
theorem depAll_low (ls : List Fm) : ∀ (ks : List Fm) (d : Int), ∀ x ∈ depAll ls ks d, d ≤ x
  | [], _, x, h => by simp [depAll] at h
  | f :: r, d, x, h => by
    simp only [depAll] at h
    rcases List.mem_append.1 h with h | h
    · have := depF_low ls f _ x h
      split at this <;> omega
    · exact depAll_low ls r d x h
end
theorem patternB_shallow {f : Fm} {ls : List Fm} (h : patternB f ls = true) : (∀ x ∈ depF ls f 0, 0 ≤ x ∧ x ≤ 3) ∧ (depF ls f 0).length ≤ 20 := by
  rw [patternB_eq] at h
  simp only [Bool.and_eq_true, restB, decide_eq_true_eq] at h
  obtain ⟨_, _, _, _, h1, h2⟩ := h
  refine ⟨fun x hx => ⟨depF_low ls f 0 x hx, ?_⟩, by rw [depF_length]; exact h2⟩
  unfold shallowB at h1
  have := List.all_eq_true.1 h1 x hx
  simpa using this
theorem depthsB_length (f : Fm) (ls : List Fm) : (depthsB f ls).length ≤ 20 := by
  unfold depthsB
  split
  · rename_i h; exact (patternB_shallow h).2
  · simp
theorem depths_own {w : World} {base : Nat} {v : Value} {l : List Int} {e : TypeId} (h : w.ownsRow base e 1 v l.length (l.map (Value.int .i64))) (hb : ∀ n ∈ l, -9223372036854775808 ≤ n ∧ n ≤ 9223372036854775807) :
    ∃ a cap bs, v = .slice a l.length cap ∧ IntOwn w v l bs ∧ bs.Nodup ∧ ∀ b ∈ bs, base ≤ b ∧ b < w.heap.size := by
  rcases h.2 with ⟨rfl, h0⟩ | ⟨g, cap, cur, rfl, hg, hr, _⟩
  · obtain rfl : l = [] := List.eq_nil_of_length_eq_zero h0
    exact ⟨none, 0, [], rfl, ⟨none, 0, rfl, Nat.le_refl _, Nat.zero_le _, by simp, .inl ⟨rfl, rfl⟩⟩, List.nodup_nil, by simp⟩
  · exact ⟨_, cap, [g], rfl, ownsRow_ints h hb, by simp, fun b hb2 => by rw [List.mem_singleton] at hb2; subst hb2; exact ⟨hg, (Array.getElem?_eq_some_iff.1 hr).1⟩⟩
set_option maxRecDepth 100000 in
set_option maxHeartbeats 1000000 in
theorem specVarDepths_any (B : Nat) (f : Fm) (ls : List Fm) (la : Option Addr) (lcap : Nat) (v : Value) (w : World) (hB : B ≤ w.heap.size) (hl : FormsIn (· < B) w la lcap ls) (hv : InV (· < B) w f v) (hcn : ∀ g ∈ ls, g.count ≤ 1048577) (hcf : f.count ≤ 1048577) :
    Calls Try.prog 28 #[v, .slice la ls.length lcap] w fun e w' => ∃ a cap, e = .returned (.slice a (depthsB f ls).length cap) ∧ IntRow (· < w'.heap.size) w' (.slice a (depthsB f ls).length cap) (depthsB f ls) ∧ Below w.heap.size w w' := by
  have HL := Lib.hid hl
  have HV := Lib.hid hv
  have HCN := Lib.hid hcn
  obtain ⟨sa, scap, a, cap, rfl⟩ := hv.form
  clear hl hv hcn
  go_enter Try.func28, Try.ntmps28
  go_wp2_with fail
  refine (l4Is_any B f ls la lcap sa scap a cap _ (by simp; omega) (HL.out.later (same_below ((below_alloc w _).mono hB))) (InV.later (same_below ((below_alloc w _).mono hB)) _ _ HV.out) HCN.out hcf).mono ?_
  rintro e w1 ⟨rfl, hb1⟩
  have hs1 : w.heap.size + 1 ≤ w1.heap.size := by have := hb1.size; simpa using this
  have HB1 : Hid (Below w.heap.size w w1) := (below_alloc w _).trans (hb1.mono (by simp))
  have HBX1 := Lib.hid ((FormBox.fresh w f sa a scap cap 31).later hb1)
  clear hb1
  cases hp : patternB f ls with
  | false =>
    have HE : Hid (depthsB f ls = []) := by unfold Hid depthsB; rw [hp]; rfl
    clear hp
    go_wp2_with fail
    go_ret
    rw [HE.out]
    exact ⟨_, _, rfl, ⟨_, _, rfl, Nat.le_refl _, Nat.zero_le _, by simp, .inl rfl⟩, HB1.out.alloc HB1.out.size _⟩
  | true =>
    have HE : Hid (depthsB f ls = depF ls f 0) := by unfold Hid depthsB; rw [hp]; rfl
    have HSH := Lib.hid (patternB_shallow hp)
    clear hp
    have HOE := Lib.hid (ownsRow_empty w1 3 1 w1.heap.size (Nat.le_refl _))
    have hb2 := below_alloc w1 (.cells #[] 3)
    have HBA : Hid (Below w.heap.size w (w1.alloc (.cells #[] 3))) := HB1.out.trans (hb2.mono (by omega))
    obtain ⟨x0, x1, x2, x3, x4⟩ := HBX1.out.later hb2
    clear hb2
    go_wp2_with fail
    refine (l4Depths_any B ls la lcap f sa scap a cap [] 0 _ w1.heap.size _ (by omega) (by simp) (HL.out.later (same_below (HBA.out.mono hB))) (by simpa using HOE.out) (InV.later (same_below (HBA.out.mono hB)) _ _ HV.out) (by simp; omega) ⟨by omega, by omega⟩).mono ?_
    rintro e w2 ⟨v2, rfl, hr2, hg2, _⟩
    simp only [List.nil_append] at hr2
    obtain ⟨da, dcap, bs, rfl, hio, _, hbs⟩ := depths_own hr2 (fun n hn => by have := HSH.out.1 n hn; omega)
    have HB2 : Hid (Below w.heap.size w w2) := HBA.out.trans (below_grownP hg2 (by simp; omega) (fun q h => by simp [Value.ownBlock] at h; omega))
    have HR2 := Lib.hid (hio.inRow (φ := (· < w2.heap.size)) (fun b hb => (hbs b hb).2))
    clear hr2 hg2 hio hbs x0 x1 x2 x3 x4
    go_wp2_with fail
    go_ret
    rw [HE.out]
    exact ⟨_, _, rfl, HR2.out, HB2.out⟩
set_option maxRecDepth 100000 in
set_option maxHeartbeats 1000000 in
theorem implVarDepths_any (B : Nat) (f : Fm) (ls : List Fm) (la : Option Addr) (lcap : Nat) (v : Value) (w : World) (hB : B ≤ w.heap.size) (hl : FormsIn (· < B) w la lcap ls) (hv : InV (· < B) w f v) (hcf : f.count ≤ 1048577) :
    Calls Try.prog 29 #[v, .slice la ls.length lcap] w fun e w' => ∃ a cap bs, e = .returned (.slice a (depthsB f ls).length cap) ∧ IntOwn w' (.slice a (depthsB f ls).length cap) (depthsB f ls) bs ∧ NewBs bs w.heap.size w'.heap.size ∧ Below w.heap.size w w' := by
  have HL := Lib.hid hl
  have HV := Lib.hid hv
  obtain ⟨sa, scap, a, cap, rfl⟩ := hv.form
  clear hl hv
  go_enter Try.func29, Try.ntmps29
  go_wp2_with fail
  refine (variablesOf_any B f ls la lcap _ _ (by simp; omega) (HL.out.later (same_below ((below_alloc w _).mono hB))) (InV.later (same_below ((below_alloc w _).mono hB)) _ _ HV.out) hcf).mono ?_
  rintro e w1 ⟨⟨na, nl, nc, da, dl, dc, rfl, hr⟩, hb1⟩
  have HB1 : Hid (Below w.heap.size w w1) := (below_alloc w _).trans (hb1.mono (by simp))
  have HF : Hid (dl = (depthsB f ls).length ∧ ∃ bs, IntOwn w1 (.slice da (depthsB f ls).length dc) (depthsB f ls) bs ∧ bs.Nodup ∧ ∀ b ∈ bs, w.heap.size ≤ b ∧ b < w1.heap.size) := by
    rcases hr with ⟨hp, _, rfl, rfl, rfl⟩ | ⟨hp, its, _, _, _, hd⟩
    · have e : depthsB f ls = [] := by unfold depthsB; rw [hp]; rfl
      rw [e]
      exact ⟨rfl, [], ⟨none, 0, rfl, Nat.le_refl _, Nat.zero_le _, by simp, .inl ⟨rfl, rfl⟩⟩, List.nodup_nil, by simp⟩
    · have e : depthsB f ls = depF ls f 0 := by unfold depthsB; rw [hp]; rfl
      rw [e]
      obtain ⟨a', cap', bs, e1, h1, h2, h3⟩ := depths_own hd (fun n hn => by have := (patternB_shallow hp).1 n hn; omega)
      have e1' := e1
      injection e1' with e2 e3 e4
      subst e3
      exact ⟨rfl, bs, h1, h2, fun b hb => by have := h3 b hb; rw [size_alloc'] at this; omega⟩
  obtain ⟨R, hR⟩ : ∃ R, patternB f ls = R := ⟨_, rfl⟩
  rw [hR]
  obtain ⟨hdl, _⟩ := HF.out
  subst hdl
  clear hR hr hb1
  go_wp2_with fail
  go_ret
  obtain ⟨_, bs, h1, h2, h3⟩ := HF.out
  have hbz := below_alloc w1 (.cells #[.slice na nl nc, .slice da (depthsB f ls).length dc] 78)
  exact ⟨_, _, bs, rfl, IntOwn.later (SameOn.of_below hbz (fun c hm => (h3 c hm).2)) h1, ⟨h2, fun b hb => by have := h3 b hb; simp; omega⟩, HB1.out.alloc HB1.out.size _⟩
end Go.Proofs.Ytbbihbapmbjbgaa
