/- The contracts of PatternVars, the model's and the program's. -/
import Derived.Test.YtbbihbapmbjbgaaImplPat5
import Derived.Test.YtbbihbapmbjbgaaOwnForm
import Derived.Test.YtbbihbapmbjbgaaCopyForm
import Derived.Test.YtbbihbapmbjbgaaFormsS
namespace Go.Proofs.Ytbbihbapmbjbgaa
open Go.RowKit
set_option linter.unusedVariables false
set_option linter.unusedSimpArgs false
/-- the variables of a pattern; none, where it is no pattern -/
def pvarsB (f : Fm) (ls : List Fm) : List Fm := if patternB f ls = true then varsF ls f else []
theorem name_sz36 {g : Fm} (h : isNameB g = true) : g.sz ≤ 36 := by
  unfold isNameB at h
  rw [Bool.and_eq_true, beq_iff_eq] at h
  obtain ⟨h1, h2⟩ := h
  have h3 := formB_is h2
  have hk := name_kids h3 h1
  obtain ⟨k, nm, n, sc, ks⟩ := g
  simp only [Fm.kind, Fm.kids] at h1 hk
  subst h1 hk
  rw [show (40 : Nat) = 39 + 1 from rfl] at h3
  simp [isB] at h3
  have hl := scopes_length h3.2
  have hn : nm.size ≤ 12 := by
    have h4 := h3.1.1
    unfold nameB at h4
    simp only [Bool.or_eq_true, beq_iff_eq, Bool.and_eq_true, decide_eq_true_eq] at h4
    have e : nm.size = nm.data.toList.length := by rw [Array.length_toList]; rfl
    rcases h4 with (h4 | h4) | h4
    · rw [e, h4]; simp
    · rw [e, h4]; simp
    · rw [e]; exact h4.1.2
  simp only [Fm.sz, szAll]
  omega
theorem names_sz : ∀ (l : List Fm), (∀ g ∈ l, isNameB g = true) → szAll l ≤ 37 * l.length
  | [], _ => by simp [szAll]
  | g :: r, h => by
    have h1 := name_sz36 (h g (by simp))
    have h2 := names_sz r (fun x hx => h x (by simp [hx]))
    simp only [szAll, List.length_cons]
    omega
theorem patternB_form {f : Fm} {ls : List Fm} (h : patternB f ls = true) : formB f = true ∧ (varsF ls f).length ≤ 20 := by
  rw [patternB_eq] at h
  simp only [Bool.and_eq_true, restB, decide_eq_true_eq] at h
  exact ⟨h.1, h.2.2.2.2.2⟩
theorem pvarsB_sz (f : Fm) (ls : List Fm) : szAll (pvarsB f ls) ≤ 740 ∧ (pvarsB f ls).length ≤ 20 := by
  unfold pvarsB
  split
  · rename_i h
    obtain ⟨h1, h2⟩ := patternB_form h
    have := names_sz (varsF ls f) (fun g hg => (vars_names h1 g hg).1)
    exact ⟨by omega, h2⟩
  · simp [szAll]
set_option maxRecDepth 100000 in
set_option maxHeartbeats 1000000 in
theorem specPatternVars_any (B : Nat) (f : Fm) (ls : List Fm) (la : Option Addr) (lcap : Nat) (v : Value) (w : World) (hB : B ≤ w.heap.size) (hl : FormsIn (· < B) w la lcap ls) (hv : InV (· < B) w f v) (hcn : ∀ g ∈ ls, g.count ≤ 1048577) (hsz : f.sz ≤ 1048576) :
    Calls Try.prog 23 #[v, .slice la ls.length lcap] w fun e w' => ∃ a cap, e = .returned (.slice a (pvarsB f ls).length cap) ∧ FormsIn (· < w'.heap.size) w' a cap (pvarsB f ls) ∧ Below w.heap.size w w' := by
  have HL := Lib.hid hl
  have HV := Lib.hid hv
  have HCN := Lib.hid hcn
  have hcf := f.count_le
  obtain ⟨sa, scap, a, cap, rfl⟩ := hv.form
  clear hl hv hcn
  go_enter Try.func23, Try.ntmps23
  go_wp2_with fail
  refine (ownForm_any f sa scap a cap B _ (by simp; omega) (InV.later (same_below ((below_alloc w _).mono hB)) _ _ HV.out) hsz).mono ?_
  rintro e w1 ⟨ra, rb, rc, rd, rfl, hr, hb1⟩
  rw [size_alloc'] at hr
  have hs1 : w.heap.size + 1 ≤ w1.heap.size := by have := hb1.size; simpa using this
  obtain ⟨x0, x1, x2, x3, x4⟩ := (FormBox.fresh w f sa a scap cap 31).later hb1
  have hpl : Plain w1 w.heap.size := (Plain.fresh w _ _).later hb1
  have t0 := hpl.frozen 0
  have t1 := hpl.frozen 1
  have t2 := hpl.frozen 2
  have t3 := hpl.frozen 3
  have t4 := hpl.frozen 4
  have HB1 : Hid (Below w.heap.size w w1) := (below_alloc w _).trans (hb1.mono (by simp))
  have hth : ∀ j, j < 5 → ∃ u, w1.cell? ⟨w.heap.size, 0 + j, none⟩ = some u := fun j hj => by
    rw [Nat.zero_add]
    match j, hj with
    | 0, _ => exact ⟨_, x0⟩
    | 1, _ => exact ⟨_, x1⟩
    | 2, _ => exact ⟨_, x2⟩
    | 3, _ => exact ⟨_, x3⟩
    | 4, _ => exact ⟨_, x4⟩
  obtain ⟨W2, hW2⟩ : ∃ W2, W2 = ((((w1.setCell ⟨w.heap.size, 0, none⟩ (.int .i64 f.kind)).setCell ⟨w.heap.size, 1, none⟩ (.string f.name)).setCell ⟨w.heap.size, 2, none⟩ (.int .i64 f.n)).setCell ⟨w.heap.size, 3, none⟩ (.slice ra f.scopes.length rb)).setCell ⟨w.heap.size, 4, none⟩ (.slice rc f.kids.length rd) := ⟨_, rfl⟩
  have h5 : W2 = set5 w1 w.heap.size 0 (.int .i64 f.kind) (.string f.name) (.int .i64 f.n) (.slice ra f.scopes.length rb) (.slice rc f.kids.length rd) := by rw [hW2]; simp only [set5, Nat.zero_add]
  have hz2 : W2.heap.size = w1.heap.size := by rw [h5, set5_size]
  have hbx2 : FormBox W2 w.heap.size f ra rb rc rd := by
    have := set5_in w1 w.heap.size 0 (.int .i64 f.kind) (.string f.name) (.int .i64 f.n) (.slice ra f.scopes.length rb) (.slice rc f.kids.length rd) hth
    rw [← h5] at this
    exact this
  have hk2 : ∀ q, q ≠ w.heap.size → W2.heap[q]? = w1.heap[q]? := fun q hq => by rw [h5]; exact set5_block _ _ _ _ _ _ _ _ hq
  have HB2 : Hid (Below w.heap.size w W2) := by unfold Hid; rw [h5]; exact set5_below HB1.out (Nat.le_refl _) 0 _ _ _ _ _
  have HV2 : Hid (InV (· < W2.heap.size) W2 f (.agg #[.int .i64 f.kind, .string f.name, .int .i64 f.n, .slice ra f.scopes.length rb, .slice rc f.kids.length rd])) := InV.mono (fun k hk => by show k < W2.heap.size; rw [hz2]; exact hk.2) _ _ (InV.later (w := w1) (w' := W2) (fun k hk => hk2 k (by have := hk.1; omega)) _ _ hr)
  have HL2 : Hid (FormsIn (· < W2.heap.size) W2 la lcap ls) := FormsIn.mono (fun k (hk : k < B) => by show k < W2.heap.size; omega) (HL.out.later (same_below (HB2.out.mono hB)))
  have HBX2 := Lib.hid hbx2
  have HW2 := Lib.hid hW2
  clear hr hb1 hth hW2 h5 hk2 hpl
  go_wp2_with fail
  rw [← HW2.out]
  clear x0 x1 x2 x3 x4 t0 t1 t2 t3 t4
  obtain ⟨x0, x1, x2, x3, x4⟩ := hbx2
  try go_wp2_with fail
  refine (l4Is_any W2.heap.size f ls la lcap ra rb rc rd W2 (Nat.le_refl _) HL2.out HV2.out HCN.out (by omega)).mono ?_
  rintro e w3 ⟨rfl, hb3⟩
  have hs3 := hb3.size
  have HB3 : Hid (Below w.heap.size w w3) := HB2.out.trans (hb3.mono (by omega))
  have HBX3 := Lib.hid (HBX2.out.later hb3)
  have HV3 := Lib.hid (InV.later (same_below hb3) _ _ HV2.out)
  have HL3 := Lib.hid (HL2.out.later (same_below hb3))
  clear hb3 x0 x1 x2 x3 x4
  cases hp : patternB f ls with
  | false =>
    have HE : Hid (pvarsB f ls = []) := by unfold Hid pvarsB; rw [hp]; rfl
    clear hp
    go_wp2_with fail
    go_ret
    rw [HE.out]
    exact ⟨_, _, rfl, ⟨Nat.le_refl _, Nat.zero_le _, .inl rfl⟩, HB3.out.alloc HB3.out.size _⟩
  | true =>
    have HE : Hid (pvarsB f ls = varsF ls f) := by unfold Hid pvarsB; rw [hp]; rfl
    clear hp
    have hb4 := below_alloc w3 (.cells #[] 31)
    have HOE := Lib.hid (ownsRow_empty w3 31 5 w3.heap.size (Nat.le_refl _))
    have HB4 : Hid (Below w.heap.size w (w3.alloc (.cells #[] 31))) := HB3.out.trans (hb4.mono (by have := HB3.out.size; omega))
    have HV4 := Lib.hid (InV.later (same_below (hb4.mono hs3)) _ _ HV3.out)
    have HL4 := Lib.hid (HL3.out.later (same_below (hb4.mono hs3)))
    obtain ⟨x0, x1, x2, x3, x4⟩ := HBX3.out.later hb4
    clear hb4
    go_wp2_with fail
    refine (l4Vars_any W2.heap.size ls la lcap f ra rb rc rd [] _ w3.heap.size _ hs3 (by simp) HL4.out HOE.out HV4.out (by simp; omega)).mono ?_
    rintro e w5 ⟨v5, new, rfl, hnew, hins, hr5, hg5, _⟩
    simp only [List.nil_append] at hr5
    have hb35 : Below w3.heap.size w3 w5 := (below_alloc w3 _).trans (below_grownP hg5 (by simp) (fun q h => by simp [Value.ownBlock] at h; omega))
    obtain ⟨va, vcap, rfl, hvc, hvm⟩ := ownsRow_slice hr5
    have hcard : new.length = (varsF ls f).length := by rw [← hnew, List.length_map]
    have hs5 := hb35.size
    have HB5 : Hid (Below w.heap.size w w5) := HB3.out.trans (hb35.mono (by have := HB3.out.size; omega))
    have HFI : Hid (FormsIn (· < w5.heap.size) w5 va vcap (varsF ls f)) := by
      have h1 : ∀ y ∈ new, InV (· < w5.heap.size) w5 y.f y.val := fun y hy => InV.mono (fun k (hk : k < W2.heap.size) => by show k < w5.heap.size; omega) _ _ (InV.later (w := w3.alloc (.cells #[] 31)) (w' := w5) (fun k (hk : k < W2.heap.size) => by rw [hb35.block k (by omega), (below_alloc w3 _).block k (by omega)]) _ _ (hins y hy))
      have h2 := formsIn_items (φ := (· < w5.heap.size)) hr5 h1 (fun k _ hk => hk)
      rw [hnew] at h2
      exact h2
    rw [hcard]
    clear hnew hins hr5 hg5 hb35 hcard x0 x1 x2 x3 x4
    go_wp2_with fail
    go_ret
    rw [HE.out]
    exact ⟨_, _, rfl, HFI.out, HB5.out⟩
set_option maxRecDepth 100000 in
set_option maxHeartbeats 1000000 in
theorem copyForms_any (ks : List Fm) (a : Option Addr) (cap : Nat) (w : World) (hl : FormsIn (· < w.heap.size) w a cap ks) (hsz : szAll ks ≤ 1048576) :
    Calls Try.prog 70 #[.slice a ks.length cap] w fun e w' => ∃ ra rc bs, e = .returned (.slice ra ks.length rc) ∧ KidsOwn w' ra rc ks bs ∧ NewBs bs w.heap.size w'.heap.size ∧ Below w.heap.size w w' := by
  have HL := Lib.hid hl
  have HIV : Hid (InV (· < w.heap.size) w (.mk 0 { data := #[] } 0 [] ks) (.agg #[.int .i64 0, .string { data := #[] }, .int .i64 0, .slice none 0 0, .slice a ks.length cap])) := by
    unfold Hid InV
    exact ⟨_, a, cap, rfl, by omega, by omega, by decide, ⟨none, 0, rfl, Nat.le_refl _, Nat.zero_le _, by simp, .inl rfl⟩, hl.1, hl.2.1, hl.2.2⟩
  have hss : (Fm.mk 0 { data := #[] } 0 [] ks).sz ≤ 1048576 := by
    simp only [Fm.sz, List.length_nil]
    have : ({ data := #[] } : ByteArray).size = 0 := rfl
    omega
  clear hl
  have hfd : ∀ (w : World) (rsa ra : Option Addr) (rscap rc : Nat), (Instr.field 31 (.agg #[.int .i64 0, .string { data := #[] }, .int .i64 0, .slice rsa 0 rscap, .slice ra ks.length rc]) 4).run Try.prog w = .ok (.slice ra ks.length rc) w := fun _ _ _ _ _ => rfl
  go_enter Try.func70, Try.ntmps70
  go_wp2_with fail
  refine (copyForm_any (.mk 0 { data := #[] } 0 [] ks) _ w HIV.out hss).mono ?_
  rintro e w1 ⟨rsa, rscap, ra, rc, bs, rfl, hown, hnew, _, hb1⟩
  simp only [Fm.kind, Fm.name, Fm.n, Fm.scopes, Fm.kids] at hown ⊢
  have HB1 := Lib.hid hb1
  have HK : Hid (∃ bs, KidsOwn w1 ra rc ks bs ∧ NewBs bs w.heap.size w1.heap.size) := by
    obtain ⟨sa', scap', a', cap', bs1, bs2, e, _, _, _, _, hk, rfl⟩ := hown.kids
    injection e with e
    injection e with e
    simp only [List.cons.injEq, and_true, Value.slice.injEq] at e
    obtain ⟨_, _, _, _, rfl, _, rfl⟩ := e
    exact ⟨bs2, hk, (List.nodup_append.1 hnew.1).2.1, fun b hb => hnew.2 b (List.mem_append_right _ hb)⟩
  clear hown hnew hb1
  go_wp2_with fail
  go_ret
  obtain ⟨bs', h1, h2⟩ := HK.out
  exact ⟨ra, rc, bs', rfl, h1, h2, HB1.out⟩
set_option maxRecDepth 100000 in
set_option maxHeartbeats 1000000 in
theorem implPatternVars_any (B : Nat) (f : Fm) (ls : List Fm) (la : Option Addr) (lcap : Nat) (v : Value) (w : World) (hB : B ≤ w.heap.size) (hl : FormsIn (· < B) w la lcap ls) (hv : InV (· < B) w f v) (hcf : f.count ≤ 1048577) :
    Calls Try.prog 24 #[v, .slice la ls.length lcap] w fun e w' => ∃ a cap bs, e = .returned (.slice a (pvarsB f ls).length cap) ∧ KidsOwn w' a cap (pvarsB f ls) bs ∧ NewBs bs w.heap.size w'.heap.size ∧ Below w.heap.size w w' := by
  have HL := Lib.hid hl
  have HV := Lib.hid hv
  have hps := pvarsB_sz f ls
  obtain ⟨sa, scap, a, cap, rfl⟩ := hv.form
  clear hl hv
  go_enter Try.func24, Try.ntmps24
  go_wp2_with fail
  refine (variablesOf_any B f ls la lcap _ _ (by simp; omega) (HL.out.later (same_below ((below_alloc w _).mono hB))) (InV.later (same_below ((below_alloc w _).mono hB)) _ _ HV.out) hcf).mono ?_
  rintro e w1 ⟨⟨na, nl, nc, da, dl, dc, rfl, hr⟩, hb1⟩
  have HB1 : Hid (Below w.heap.size w w1) := (below_alloc w _).trans (hb1.mono (by simp))
  have hs1 := HB1.out.size
  have HF : Hid (nl = (pvarsB f ls).length ∧ FormsIn (· < w1.heap.size) w1 na nc (pvarsB f ls)) := by
    rcases hr with ⟨hp, ⟨rfl, rfl, rfl⟩, _⟩ | ⟨hp, its, hm, hi, ho, _⟩
    · have e : pvarsB f ls = [] := by unfold pvarsB; rw [hp]; rfl
      rw [e]
      exact ⟨rfl, Nat.le_refl _, Nat.zero_le _, .inl rfl⟩
    · have e : pvarsB f ls = varsF ls f := by unfold pvarsB; rw [hp]; rfl
      rw [e]
      obtain ⟨a', cap', e1, _, _⟩ := ownsRow_slice ho
      injection e1 with e2 e3 e4
      have hcard : its.length = (varsF ls f).length := by rw [← hm, List.length_map]
      refine ⟨e3.trans hcard, ?_⟩
      rw [e3] at ho
      have h1 : ∀ y ∈ its, InV (· < w1.heap.size) w1 y.f y.val := fun y hy => InV.mono (fun k (hk : k < B) => by show k < w1.heap.size; omega) _ _ (InV.later (w := w.alloc (.cells #[.int .i64 f.kind, .string f.name, .int .i64 f.n, .slice sa f.scopes.length scap, .slice a f.kids.length cap] 31)) (w' := w1) (fun k (hk : k < B) => hb1.block k (by simp; omega)) _ _ (hi y hy))
      have h2 := formsIn_items (φ := (· < w1.heap.size)) ho h1 (fun k _ hk => hk)
      rw [hm] at h2
      exact h2
  obtain ⟨R, hR⟩ : ∃ R, patternB f ls = R := ⟨_, rfl⟩
  rw [hR]
  obtain ⟨hnl, hfi⟩ := HF.out
  subst hnl
  have hbz := below_alloc w1 (.cells #[.slice na (pvarsB f ls).length nc, .slice da dl dc] 78)
  have HFZ := Lib.hid (FormsIn.mono (ψ := fun k => k < (w1.alloc (.cells #[.slice na (pvarsB f ls).length nc, .slice da dl dc] 78)).heap.size) (fun k (hk : k < w1.heap.size) => by simp; omega) (hfi.later (same_below hbz)))
  have HBZ : Hid (Below w.heap.size w (w1.alloc (.cells #[.slice na (pvarsB f ls).length nc, .slice da dl dc] 78))) := HB1.out.trans (hbz.mono hs1)
  clear hR hr hb1 hfi hbz
  go_wp2_with fail
  refine (copyForms_any (pvarsB f ls) na nc _ HFZ.out (by omega)).mono ?_
  rintro e w2 ⟨ra, rc, bs, rfl, hk, hn, hb2⟩
  have HK := Lib.hid hk
  have HB2 : Hid (Below w.heap.size w w2) := HBZ.out.trans (hb2.mono (by simp; omega))
  have HN : Hid (NewBs bs w.heap.size w2.heap.size) := hn.mono (by simp; omega) (Nat.le_refl _)
  clear hk hn hb2
  go_wp2_with fail
  go_ret
  exact ⟨ra, rc, bs, rfl, HK.out, HN.out, HB2.out⟩
end Go.Proofs.Ytbbihbapmbjbgaa
