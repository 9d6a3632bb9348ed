/- The contract of the program's dotsFit. -/
import Derived.Test.YtbclgmabidjegaaImplPat2
namespace Go.Proofs.Ytbclgmabidjegaa
open Go.RowKit
set_option linter.unusedVariables false
set_option linter.unusedSimpArgs false
theorem formsIn_kids {B : Nat} {w : World} {x : Item} (h : InV (· < B) w x.f x.val) : FormsIn (· < B) w x.a x.cap x.f.kids := by
  unfold Item.val at h
  obtain ⟨_, h1, h2, h3⟩ := h.kids
  exact ⟨h1, h2, h3⟩
theorem formsIn_drop {φ : Nat → Prop} {w : World} {a : Option Addr} {cap n : Nat} {ks : List Fm} (h : FormsIn φ w a cap ks) (hn : n ≤ ks.length) (a' : Option Addr) (ha : ∀ b off, a = some ⟨b, off, none⟩ → n < cap → a' = some ⟨b, off + n * 5, none⟩) : FormsIn φ w a' (cap - n) (ks.drop n) := by
  refine ⟨by have := h.1; rw [List.length_drop]; omega, by have := h.2.1; omega, ?_⟩
  by_cases hl : n < ks.length
  · rcases h.2.2 with h0 | ⟨b, off, e1, e2, h3⟩
    · exfalso; rw [h0] at hl; simp at hl
    · exact .inr ⟨b, off + n * 5, ha b off e1 (by have := h.1; omega), e2, RowIn.drop n h3⟩
  · exact .inl (List.drop_eq_nil_of_le (by omega))
theorem containsFunc_drop (B : Nat) (ks : List Fm) (n : Nat) (hn : n ≤ ks.length) (a : Option Addr) (cap : Nat) (w : World) (hB : B ≤ w.heap.size) (hl : FormsIn (· < B) w a cap (ks.drop n)) :
    Calls Try.prog 181 #[.slice a (ks.length - n) cap, .func (.func 154) #[] #[]] w fun e w' => e = .returned (.bool ((ks.drop n).any dotsB)) ∧ Below w.heap.size w w' := by
  have := containsFunc_any B 154 #[] dotsB (ks.drop n) _ (isDots_pred B _) a cap w hB hl trivial
  rw [List.length_drop] at this
  exact this
set_option maxRecDepth 100000 in
set_option maxHeartbeats 2000000 in
theorem dotsVisitor (B fb : Nat) (hB : B ≤ fb) (b0 : Bool) : Visitor (fun _ => True) B 196 #[.pointer (some ⟨fb, 0, none⟩)]
    (fun pre E W => (∀ k, E k ↔ k = fb) ∧ W.cell? ⟨fb, 0, none⟩ = some (.bool (b0 && pre.all nodeOk)) ∧ W.frozen? ⟨fb, 0, none⟩ = false) := by
  refine ⟨enters_of Try.func196 (by kernel_rfl) rfl, ?_, ?_⟩
  · rintro pre E W W' ⟨h1, h2, h3⟩ _ _ _ _ hs _
    have e := hs fb ((h1 fb).2 rfl)
    exact ⟨h1, (World.cell?_of_block (a := ⟨fb, 0, none⟩) e).trans h2, (World.frozen?_of_block (a := ⟨fb, 0, none⟩) e).trans h3⟩
  · rintro pre E x W ⟨h1, h2, h3⟩ hl _ hE hin
    have hfl : fb < W.heap.size := cell_lt h2
    have H1 := Lib.hid h1
    have HE := Lib.hid hE
    have HB0 := Lib.hid (below_alloc W (.cells #[.int .i64 x.f.kind, .string x.f.name, .int .i64 x.f.n, .slice x.sa x.f.scopes.length x.scap, .slice x.a x.f.kids.length x.cap] 33))
    have HFI := Lib.hid (formsIn_kids hin)
    have HPA : Hid ((pre ++ [x.f]).all nodeOk = (pre.all nodeOk && kidsOk x.f.kids)) := by unfold Hid; rw [List.all_append]; simp [nodeOk]
    have hBW : B ≤ W.heap.size := by omega
    have hkl : x.f.kids.length ≤ x.cap := (formsIn_kids hin).1
    have hkm : x.cap ≤ maxLen := (formsIn_kids hin).2.1
    unfold maxLen at hkm
    have hbx := FormBox.fresh W x.f x.sa x.a x.scap x.cap 33
    have HBX := Lib.hid hbx
    obtain ⟨x0, x1, x2, x3, x4⟩ := hbx
    have HC2 := Lib.hid h2
    have HC3 := Lib.hid h3
    clear h1 hE hin h2 h3
    unfold Item.val
    show Calls Try.prog 196 #[.agg #[.int .i64 x.f.kind, .string x.f.name, .int .i64 x.f.n, .slice x.sa x.f.scopes.length x.scap, .slice x.a x.f.kids.length x.cap], .pointer (some ⟨fb, 0, none⟩)] W _
    go_enter Try.func196, Try.ntmps196
    go_wp2_with fail
    refine (indexFunc_any B _ _ dotsB x.f.kids _ (isDots_pred B x.f.kids) x.a x.cap _ (by simp; omega) (HFI.out.later (same_below (HB0.out.mono hBW))) trivial).mono ?_
    rintro e w1 ⟨⟨r, rfl, hi⟩, hb1⟩
    have HKO := Lib.hid (kidsOk_idx hi)
    have hs1 : W.heap.size + 1 ≤ w1.heap.size := by have := hb1.size; simpa using this
    have HB1 : Hid (Below W.heap.size W w1) := HB0.out.trans (hb1.mono (by simp))
    have HIDX := Lib.hid hi
    obtain ⟨y0, y1, y2, y3, y4⟩ := HBX.out.later hb1
    have hc1 : w1.cell? ⟨fb, 0, none⟩ = some (.bool (b0 && pre.all nodeOk)) := cell_later' HB1.out HC2.out
    have hf1 : w1.frozen? ⟨fb, 0, none⟩ = false := (HB1.out.frozen (p := ⟨fb, 0, none⟩) hfl).trans HC3.out
    have FINF : Hid (∀ W', Below W.heap.size W W' → kidsOk x.f.kids = false → W'.cell? ⟨fb, 0, none⟩ = some (.bool (b0 && pre.all nodeOk)) → W'.frozen? ⟨fb, 0, none⟩ = false → ∃ E' : Nat → Prop, ((∀ k, E' k ↔ k = fb) ∧ (W'.setCell ⟨fb, 0, none⟩ (.bool false)).cell? ⟨fb, 0, none⟩ = some (.bool (b0 && (pre ++ [x.f]).all nodeOk)) ∧ (W'.setCell ⟨fb, 0, none⟩ (.bool false)).frozen? ⟨fb, 0, none⟩ = false) ∧ OnlyE E W (W'.setCell ⟨fb, 0, none⟩ (.bool false)) ∧ (∀ k, E' k → (E k ∨ W.heap.size ≤ k) ∧ k < (W'.setCell ⟨fb, 0, none⟩ (.bool false)).heap.size)) := by
      intro W' hb hk hc hf
      have hz : (W'.setCell ⟨fb, 0, none⟩ (.bool false)).heap.size = W'.heap.size := by simp [World.setCell]
      refine ⟨E, ⟨H1.out, ?_, by rw [World.frozen?_setCell]; exact hf⟩, ⟨hb.os, hb.tape, hb.output, by rw [hz]; exact hb.size, fun k hk2 hn => ?_⟩, fun k hk2 => ⟨.inl hk2, by rw [hz]; have := (HE.out k hk2).2; have := hb.size; omega⟩⟩
      · rw [HPA.out, hk, Bool.and_false, Bool.and_false]
        exact World.cell?_setCell_same _ _ _ hc
      · rw [Below.heap_setCell _ _ _ _ (fun e => hn ((H1.out k).2 e))]
        exact hb.block k hk2
    have FINT : Hid (∀ W', Below W.heap.size W W' → kidsOk x.f.kids = true → ∃ E' : Nat → Prop, ((∀ k, E' k ↔ k = fb) ∧ W'.cell? ⟨fb, 0, none⟩ = some (.bool (b0 && (pre ++ [x.f]).all nodeOk)) ∧ W'.frozen? ⟨fb, 0, none⟩ = false) ∧ OnlyE E W W' ∧ (∀ k, E' k → (E k ∨ W.heap.size ≤ k) ∧ k < W'.heap.size)) := by
      intro W' hb hk
      refine ⟨E, ⟨H1.out, ?_, (hb.frozen (p := ⟨fb, 0, none⟩) hfl).trans HC3.out⟩, ⟨hb.os, hb.tape, hb.output, hb.size, fun k hk2 _ => hb.block k hk2⟩, fun k hk2 => ⟨.inl hk2, by have := (HE.out k hk2).2; have := hb.size; omega⟩⟩
      rw [HPA.out, hk, Bool.and_true]
      exact cell_later' hb HC2.out
    clear hb1 hi x0 x1 x2 x3 x4
    by_cases hr0 : r = 0
    · have HKF : Hid (kidsOk x.f.kids = false) := by unfold Hid; rw [HKO.out, decide_eq_true hr0]; rfl
      subst hr0
      go_wp2_with fail
      go_end0
      exact ⟨rfl, FINF.out _ HB1.out HKF.out hc1 hf1⟩
    · obtain ⟨n, hrn, hnl⟩ : ∃ n : Nat, r + 1 = (n : Int) ∧ n ≤ x.f.kids.length := by
        rcases HIDX.out with ⟨rfl, _⟩ | ⟨j, hj, rfl, _⟩
        · exact ⟨0, rfl, Nat.zero_le _⟩
        · exact ⟨j + 1, by omega, by omega⟩
      have HKO2 : Hid (kidsOk x.f.kids = !((x.f.kids.drop n).any dotsB)) := by unfold Hid; rw [HKO.out, decide_eq_false hr0, hrn]; simp
      obtain rfl : r = (n : Int) - 1 := by omega
      have hnc : n ≤ x.cap := by omega
      have hni : (n : Int) - 1 + 1 = (n : Int) := by omega
      clear hrn
      by_cases hcn : x.cap = n
      · have HDR := Lib.hid (formsIn_drop (HFI.out.later (same_below (HB1.out.mono hBW))) hnl x.a (fun b off _ h => by omega))
        go_wp2_with fail
        refine (containsFunc_drop B x.f.kids n hnl x.a 0 w1 (by omega) (by have := HDR.out; rw [show x.cap - n = 0 from by omega] at this; exact this)).mono ?_
        rintro e w2 ⟨rfl, hb2⟩
        have hs2 := hb2.size
        have HB2 : Hid (Below W.heap.size W w2) := HB1.out.trans (hb2.mono (by omega))
        have hc2 : w2.cell? ⟨fb, 0, none⟩ = some (.bool (b0 && pre.all nodeOk)) := cell_later' hb2 hc1
        have hf2 : w2.frozen? ⟨fb, 0, none⟩ = false := (hb2.frozen (p := ⟨fb, 0, none⟩) (show fb < w1.heap.size by omega)).trans hf1
        clear hb2 y0 y1 y2 y3 y4 hc1 hf1 HDR
        cases hany : (x.f.kids.drop n).any dotsB with
        | true =>
          have HKF : Hid (kidsOk x.f.kids = false) := by unfold Hid; rw [HKO2.out, hany]; rfl
          clear hany
          go_wp2_with fail
          go_end0
          exact ⟨rfl, FINF.out _ HB2.out HKF.out hc2 hf2⟩
        | false =>
          have HKF : Hid (kidsOk x.f.kids = true) := by unfold Hid; rw [HKO2.out, hany]; rfl
          clear hany hc2 hf2
          go_wp2_with fail
          go_end0
          exact ⟨rfl, FINT.out _ HB2.out HKF.out⟩
      · have HDR := Lib.hid (formsIn_drop (HFI.out.later (same_below (HB1.out.mono hBW))) hnl (Option.map (fun p => p.add (n * 5)) x.a) (fun b off e _ => by rw [e]; simp [Addr.add]))
        go_wp2_with fail
        refine (containsFunc_drop B x.f.kids n hnl _ (x.cap - n) w1 (by omega) HDR.out).mono ?_
        rintro e w2 ⟨rfl, hb2⟩
        have hs2 := hb2.size
        have HB2 : Hid (Below W.heap.size W w2) := HB1.out.trans (hb2.mono (by omega))
        have hc2 : w2.cell? ⟨fb, 0, none⟩ = some (.bool (b0 && pre.all nodeOk)) := cell_later' hb2 hc1
        have hf2 : w2.frozen? ⟨fb, 0, none⟩ = false := (hb2.frozen (p := ⟨fb, 0, none⟩) (show fb < w1.heap.size by omega)).trans hf1
        clear hb2 y0 y1 y2 y3 y4 hc1 hf1 HDR
        cases hany : (x.f.kids.drop n).any dotsB with
        | true =>
          have HKF : Hid (kidsOk x.f.kids = false) := by unfold Hid; rw [HKO2.out, hany]; rfl
          clear hany
          go_wp2_with fail
          go_end0
          exact ⟨rfl, FINF.out _ HB2.out HKF.out hc2 hf2⟩
        | false =>
          have HKF : Hid (kidsOk x.f.kids = true) := by unfold Hid; rw [HKO2.out, hany]; rfl
          clear hany hc2 hf2
          go_wp2_with fail
          go_end0
          exact ⟨rfl, FINT.out _ HB2.out HKF.out⟩
set_option maxRecDepth 100000 in
set_option maxHeartbeats 1000000 in
theorem dotsFit_any (B : Nat) (f : Fm) (v : Value) (w : World) (hB : B ≤ w.heap.size) (hv : InV (· < B) w f v) (hf : formB f = true) (hcf : f.count ≤ 1048577) :
    Calls Try.prog 147 #[v] w fun e w' => e = .returned (.bool (shapeF f)) ∧ Below w.heap.size w w' := by
  have HV := Lib.hid hv
  have HF := Lib.hid hf
  have HSV := Lib.hid (shape_visit hf)
  have HEV := Lib.hid (endlessAt_valid f hf B v w hB hv)
  obtain ⟨sa, scap, a, cap, rfl⟩ := hv.form
  clear hv hf
  go_enter Try.func147, Try.ntmps147
  go_wp2_with fail
  refine (isDots_any f sa scap a cap _).mono ?_
  rintro e w1 ⟨rfl, hb1⟩
  have hs1 : w.heap.size + 1 ≤ w1.heap.size := by have := hb1.size; simpa using this
  have hbx := (FormBox.fresh w f sa a scap cap 33).later hb1
  have HB1 : Hid (Below w.heap.size w w1) := (below_alloc w _).trans (hb1.mono (by simp))
  clear hb1
  obtain ⟨d, hd⟩ : ∃ d, dotsB f = d := ⟨_, rfl⟩
  have HD := Lib.hid hd
  rw [hd]
  clear hd
  have hb2 := below_alloc w1 (.cells #[.bool (!d)] 4)
  obtain ⟨x0, x1, x2, x3, x4⟩ := hbx.later hb2
  have HB2 : Hid (Below w.heap.size w (w1.alloc (.cells #[.bool (!d)] 4))) := HB1.out.trans (hb2.mono (by omega))
  clear hb2 hbx
  go_wp2_with fail
  refine (visit_any (fun _ => True) (fun _ _ _ _ => trivial) B _ _ _ (dotsVisitor B w1.heap.size (by omega) (!d)) ⟨f, sa, scap, a, cap⟩ (fun k => k = w1.heap.size) _ (by simp; omega) (fun k hk => by subst hk; simp; omega)
    ⟨fun k => Iff.rfl, (World.cell?_alloc_at _ _ _ _ rfl).trans (by simp), World.frozen?_alloc_at _ _ _ _ rfl⟩ (InV.later (same_below (HB2.out.mono hB)) _ _ HV.out) hcf (HEV.out.later HB2.out) trivial).mono ?_
  rintro e w3 ⟨rfl, E', ⟨h1, h2, h3⟩, ho, hE'⟩
  have HB3 : Hid (Below w.heap.size w w3) := ⟨ho.os.trans HB2.out.os, ho.tape.trans HB2.out.tape, ho.output.trans HB2.out.output, by have := ho.size; simp at this; omega, fun k hk => (ho.block k (by simp; omega) (by omega)).trans (HB2.out.block k hk)⟩
  have HE : Hid (shapeF f = (!d && f.pre.all nodeOk)) := by unfold Hid; rw [HSV.out, HD.out]
  clear h1 h3 ho hE' x0 x1 x2 x3 x4
  go_wp2_with fail
  go_ret
  exact ⟨ret_bool HE.out.symm, HB3.out⟩
end Go.Proofs.Ytbclgmabidjegaa
