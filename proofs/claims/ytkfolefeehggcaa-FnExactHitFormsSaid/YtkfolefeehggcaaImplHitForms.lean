/- The contract of the program's HitForms. -/
import Derived.Test.YtkfolefeehggcaaFormsHit
import Derived.Test.YtkfolefeehggcaaImplFormsH
import Derived.Test.YtkfolefeehggcaaImplHV
import Derived.Test.YtkfolefeehggcaaCopyFs
namespace Go.Proofs.Ytkfolefeehggcaa
open Go.RowKit
set_option linter.unusedVariables false
set_option linter.unusedSimpArgs false
theorem isName_pos {g : Fm} (h : isNameB g = true) : 1 ≤ g.sz := by
  unfold isNameB at h
  rw [Bool.and_eq_true, beq_iff_eq] at h
  obtain ⟨h1, h2⟩ := h
  have h3 := formB_is h2
  obtain ⟨k, nm, n, sc, ks⟩ := g
  simp only [Fm.kind] at h1
  subst h1
  rw [show (40 : Nat) = 39 + 1 from rfl] at h3
  simp [isB] at h3
  have hn : 1 ≤ nm.size := by
    have h4 := h3.1.1
    unfold nameB at h4
    simp only [Bool.or_eq_true, beq_iff_eq, Bool.and_eq_true, decide_eq_true_eq] at h4
    have e : nm.size = nm.data.toList.length := by rw [Array.length_toList]; rfl
    rcases h4 with (h4 | h4) | h4
    · rw [e, h4]; simp
    · rw [e, h4]; simp
    · rw [e]; exact h4.1.1
  simp only [Fm.sz]
  omega
theorem Ht.forms_szN (x : Ht) : szAll x.forms + x.name.sz ≤ x.sz + 1 := by
  cases x with
  | mk nm d one many =>
    have := formsHs_sz many
    unfold Ht.forms
    simp only [Ht.name, Ht.sz]
    split
    · simp only [szAll]; omega
    · omega
theorem hvOne (h : Ht) : hitsValidB [h] = hitB h h.depth := by
  unfold hitsValidB
  rw [show [h].length = 0 + 1 from rfl, hvTo_succ (by simp)]
  simp [hvTo, apartB]
set_option maxRecDepth 100000 in
set_option maxHeartbeats 2000000 in
theorem implHitForms_any (h : Ht) (v : Value) (w : World) (hv : InH (Pl w.heap.size w) w h v) (hsz : h.sz ≤ 1048576) :
    Calls Try.prog 33 #[v] w fun e w' => ∃ a cap bs, e = .returned (.slice a (hformsB h).length cap) ∧ KidsOwn w' a cap (hformsB h) bs ∧ NewBs bs w.heap.size w'.heap.size ∧ Below w.heap.size w w' := by
  have HV := Lib.hid hv
  cases h with
  | mk nm d one many =>
  unfold InH at hv
  obtain ⟨s1, t1, k1, l1, s2, t2, k2, l2, a, cap, rfl, hd, _⟩ := hv
  obtain ⟨W, hW⟩ : ∃ W, W = (w.alloc (.cells #[.int .i64 nm.kind, .string nm.name, .int .i64 nm.n, .slice s1 nm.scopes.length t1, .slice k1 nm.kids.length l1, .int .i64 d, .int .i64 one.kind, .string one.name, .int .i64 one.n, .slice s2 one.scopes.length t2, .slice k2 one.kids.length l2, .slice a many.length cap] 38)).alloc (.cells #[.int .i64 nm.kind, .string nm.name, .int .i64 nm.n, .slice s1 nm.scopes.length t1, .slice k1 nm.kids.length l1, .int .i64 d, .int .i64 one.kind, .string one.name, .int .i64 one.n, .slice s2 one.scopes.length t2, .slice k2 one.kids.length l2, .slice a many.length cap] 38) := ⟨_, rfl⟩
  have hbW : Below w.heap.size w W := by rw [hW]; exact (below_alloc w _).alloc (by simp) _
  have hsW : W.heap.size = w.heap.size + 2 := by rw [hW]; simp
  have HX : Hid (HitBox W w.heap.size nm d one many s1 t1 k1 l1 s2 t2 k2 l2 a cap) := by unfold Hid; rw [hW]; exact (HitBox.fresh w nm d one many s1 t1 k1 l1 s2 t2 k2 l2 a cap 38).later (below_alloc _ _)
  have hY : HitBox W (w.heap.size + 1) nm d one many s1 t1 k1 l1 s2 t2 k2 l2 a cap := by
    rw [hW]
    have := HitBox.fresh (w.alloc (.cells #[.int .i64 nm.kind, .string nm.name, .int .i64 nm.n, .slice s1 nm.scopes.length t1, .slice k1 nm.kids.length l1, .int .i64 d, .int .i64 one.kind, .string one.name, .int .i64 one.n, .slice s2 one.scopes.length t2, .slice k2 one.kids.length l2, .slice a many.length cap] 38)) nm d one many s1 t1 k1 l1 s2 t2 k2 l2 a cap 38
    rw [size_alloc'] at this
    exact this
  have hpy : Plain W (w.heap.size + 1) := by
    rw [hW]
    have := Plain.fresh (w.alloc (.cells #[.int .i64 nm.kind, .string nm.name, .int .i64 nm.n, .slice s1 nm.scopes.length t1, .slice k1 nm.kids.length l1, .int .i64 d, .int .i64 one.kind, .string one.name, .int .i64 one.n, .slice s2 one.scopes.length t2, .slice k2 one.kids.length l2, .slice a many.length cap] 38)) #[.int .i64 nm.kind, .string nm.name, .int .i64 nm.n, .slice s1 nm.scopes.length t1, .slice k1 nm.kids.length l1, .int .i64 d, .int .i64 one.kind, .string one.name, .int .i64 one.n, .slice s2 one.scopes.length t2, .slice k2 one.kids.length l2, .slice a many.length cap] 38
    rw [size_alloc'] at this
    exact this
  have HVW := Lib.hid (InH.pl hbW HV.out)
  have HL : Hid (HitsIn (Pl W.heap.size W) W (some ⟨w.heap.size + 1, 0, none⟩) 1 [Ht.mk nm d one many]) := by
    refine ⟨Nat.le_refl _, by unfold maxLen; omega, .inr ⟨w.heap.size + 1, 0, rfl, ⟨by omega, hpy⟩, ?_⟩⟩
    obtain ⟨y0, y1, y2, y3, y4, y5, y6, y7, y8, y9, y10, y11⟩ := hY
    unfold RowH
    exact ⟨⟨_, _, _, _, _, _, _, _, _, _, _, _, y0, y1, y2, y3, y4, y5, y6, y7, y8, y9, y10, y11, HVW.out⟩, by unfold RowH; trivial⟩
  have HBW := Lib.hid hbW
  have HW := Lib.hid hW
  clear hW hbW hY hpy
  go_enter Try.func33, Try.ntmps33
  go_wp2_with fail
  rw [← HW.out]
  clear HW
  refine (implHitsValid_any [Ht.mk nm d one many] (some ⟨w.heap.size + 1, 0, none⟩) 1 W HL.out (by simp only [szHs]; omega)).mono ?_
  rintro e w1 ⟨rfl, hb1⟩
  rw [hvOne]
  have hs1 := hb1.size
  have HX1 := Lib.hid (HX.out.later hb1)
  have HB1 : Hid (Below w.heap.size w w1) := HBW.out.trans (hb1.mono (by omega))
  clear hb1 HX HL HVW
  cases h1 : hitB (Ht.mk nm d one many) (Ht.mk nm d one many).depth with
  | false =>
    have HE : Hid (hformsB (.mk nm d one many) = []) := if_neg (by rw [h1]; decide)
    clear h1
    go_wp2_with fail
    go_ret
    rw [HE.out]
    exact ⟨none, 0, [], rfl, ⟨Nat.le_refl _, Nat.zero_le _, .inl ⟨rfl, rfl⟩⟩, ⟨List.nodup_nil, by simp⟩, HB1.out⟩
  | true =>
    have HE : Hid (hformsB (.mk nm d one many) = (Ht.mk nm d one many).forms) := if_pos h1
    have HZ : Hid (szAll (Ht.mk nm d one many).forms ≤ 1048576) := by
      have g1 := (Ht.mk nm d one many).forms_szN
      have g2 := hitB_head h1
      unfold headB at g2
      rw [Bool.and_eq_true] at g2
      have g3 := isName_pos g2.1
      unfold Hid
      omega
    clear h1
    obtain ⟨x0, x1, x2, x3, x4, x5, x6, x7, x8, x9, x10, x11⟩ := HX1.out
    go_wp2_with fail
    refine (hitForms_any w1.heap.size (.mk nm d one many) _ w1 (Nat.le_refl _) (InH.mono (fun k hk => hk.1) _ _ (InH.pl HB1.out HV.out)) hsz).mono ?_
    rintro e w2 ⟨fa, fcap, its, rfl, hits, hins, hr, hb2⟩
    have hs2 := hb2.size
    have hcard : its.length = (Ht.mk nm d one many).forms.length := by rw [← hits, List.length_map]
    have HFI : Hid (FormsIn (· < w2.heap.size) w2 fa fcap (Ht.mk nm d one many).forms) := by
      have h2 := formsIn_items (φ := (· < w2.heap.size)) hr (fun y hy => InV.mono (fun k (hk : k < w1.heap.size) => by show k < w2.heap.size; omega) _ _ (InV.later (same_below hb2) _ _ (hins y hy))) (fun k _ hk => hk)
      rw [hits] at h2
      exact h2
    have HB2 : Hid (Below w.heap.size w w2) := HB1.out.trans (hb2.mono (by omega))
    rw [hcard]
    clear hits hins hr hb2 hcard x0 x1 x2 x3 x4 x5 x6 x7 x8 x9 x10 x11
    go_wp2_with fail
    refine (copyForms_any (Ht.mk nm d one many).forms fa fcap w2 HFI.out HZ.out).mono ?_
    rintro e w3 ⟨ra, rc, bs, rfl, hk, hn, hb3⟩
    have HB3 : Hid (Below w.heap.size w w3) := HB2.out.trans (hb3.mono (by omega))
    have HK := Lib.hid hk
    have HN : Hid (NewBs bs w.heap.size w3.heap.size) := ⟨hn.1, fun c hc => ⟨by have := (hn.2 c hc).1; omega, (hn.2 c hc).2⟩⟩
    clear hk hn hb3
    go_wp2_with fail
    go_ret
    rw [HE.out]
    exact ⟨ra, rc, bs, rfl, HK.out, HN.out, HB3.out⟩
end Go.Proofs.Ytkfolefeehggcaa
