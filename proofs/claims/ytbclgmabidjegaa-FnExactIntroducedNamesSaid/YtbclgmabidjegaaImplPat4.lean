/- The contract of the program's list of variables. -/
import Derived.Test.YtbclgmabidjegaaImplPat3
import Derived.Test.YtbclgmabidjegaaSpecPat2
import Derived.Test.YtbclgmabidjegaaUptos
import Derived.Test.YtbclgmabidjegaaUptoMany
import Derived.Deep.LoopGhost
namespace Go.Proofs.Ytbclgmabidjegaa
open Go.RowKit
set_option linter.unusedVariables false
set_option linter.unusedSimpArgs false
/-- variables and their depths, in their box -/
structure VarsAt (base vb : Nat) (its : List Item) (ds : List Int) (nv dv : Value) (W : World) : Prop where
  c0 : W.cell? ⟨vb, 0, none⟩ = some nv
  c1 : W.cell? ⟨vb, 1, none⟩ = some dv
  f0 : W.frozen? ⟨vb, 0, none⟩ = false
  f1 : W.frozen? ⟨vb, 1, none⟩ = false
  rn : W.ownsRow base 33 5 nv its.length (rowOf its)
  rd : W.ownsRow base 3 1 dv ds.length (ds.map (Value.int .i64))
  n0 : nv.ownBlock ≠ some vb
  d0 : dv.ownBlock ≠ some vb
  nd : ∀ g, nv.ownBlock = some g → dv.ownBlock ≠ some g
  lo : base ≤ vb
theorem VarsAt.later {base vb : Nat} {its : List Item} {ds : List Int} {nv dv : Value} {W W' : World} (h : VarsAt base vb its ds nv dv W) (hb : Below W.heap.size W W') : VarsAt base vb its ds nv dv W' := by
  have hl : vb < W.heap.size := cell_lt h.c0
  exact ⟨cell_later' hb h.c0, cell_later' hb h.c1, (hb.frozen (p := ⟨vb, 0, none⟩) hl).trans h.f0, (hb.frozen (p := ⟨vb, 1, none⟩) hl).trans h.f1, ownsRow_later h.rn hb, ownsRow_later h.rd hb, h.n0, h.d0, h.nd, h.lo⟩
/-- only the box and its two rows may turn -/
structure VFrame (vb : Nat) (nv dv nv' dv' : Value) (W W' : World) : Prop where
  os : W'.os = W.os
  tape : W'.tape = W.tape
  output : W'.output = W.output
  size : W.heap.size ≤ W'.heap.size
  block : ∀ k, k < W.heap.size → k ≠ vb → nv.ownBlock ≠ some k → dv.ownBlock ≠ some k → W'.heap[k]? = W.heap[k]?
  own : ∀ q, nv'.ownBlock = some q ∨ dv'.ownBlock = some q → W.heap.size ≤ q ∨ nv.ownBlock = some q ∨ dv.ownBlock = some q
theorem VFrame.of_below {vb : Nat} {nv dv : Value} {W W' : World} (hb : Below W.heap.size W W') : VFrame vb nv dv nv dv W W' :=
  ⟨hb.os, hb.tape, hb.output, hb.size, fun k hk _ _ _ => hb.block k hk, fun q h => .inr h⟩
theorem VFrame.trans {vb : Nat} {nv dv nv1 dv1 nv2 dv2 : Value} {U V W : World} (h : VFrame vb nv dv nv1 dv1 U V) (g : VFrame vb nv1 dv1 nv2 dv2 V W) : VFrame vb nv dv nv2 dv2 U W := by
  refine ⟨g.os.trans h.os, g.tape.trans h.tape, g.output.trans h.output, Nat.le_trans h.size g.size, fun k h1 h2 h3 h4 => ?_, fun q hq => ?_⟩
  · have hs := h.size
    rw [g.block k (by omega) h2 (fun e => ?_) (fun e => ?_), h.block k h1 h2 h3 h4]
    · rcases h.own k (.inl e) with h5 | h5 | h5
      · omega
      · exact h3 h5
      · exact h4 h5
    · rcases h.own k (.inr e) with h5 | h5 | h5
      · omega
      · exact h3 h5
      · exact h4 h5
  · have hs := h.size
    rcases g.own q hq with h5 | h5 | h5
    · exact .inl (by omega)
    · exact h.own q (.inl h5)
    · exact h.own q (.inr h5)
theorem VFrame.below {base vb : Nat} {its : List Item} {ds : List Int} {nv dv nv' dv' : Value} {W W' : World} (h : VFrame vb nv dv nv' dv' W W') (hv : VarsAt base vb its ds nv dv W) (hb : base ≤ W.heap.size) : Below base W W' :=
  ⟨h.os, h.tape, h.output, h.size, fun k hk => h.block k (by omega) (by have := hv.lo; omega) (fun e => by have := (hv.rn.lt k e).1; omega) (fun e => by have := (hv.rd.lt k e).1; omega)⟩
/-- the test for variables, as the program makes it -/
theorem varB_prog {ls : List Fm} {f : Fm} {d : Nat} (h : isB d f = true) : varB ls f = (f.kind == 1 && (!resB f.name && !inN ls f)) := by
  unfold varB
  cases hk : (f.kind == 1) with
  | false => rfl
  | true =>
    rw [inN_inF (isB_lone h (by simpa using hk))]
    unfold resB
    cases (f.name.toList == [46, 46, 46]) <;> cases (f.name.toList == [95]) <;> rfl
theorem cut_vars {A : Prop} {F G : Nat → Nat → World → Prop} (h1 : (∀ g d Z, F g d Z → G g d Z) → A) (h2 : ∀ g d Z, F g d Z → G g d Z) : A := h1 h2
theorem gen_worldV {K : Act → World → Prop} {a : Act} {W : World} (h : ∀ W', W' = W → K a W') : K a W := h W rfl
/-- what the loads of the region read -/
def AddHeld (pb vb : Nat) (f : Fm) (sa : Option Addr) (scap : Nat) (a : Option Addr) (cap : Nat) (nv : Value) (W : World) : Prop := FormBox W pb f sa scap a cap ∧ W.cell? ⟨vb, 0, none⟩ = some nv
theorem ownsRow_sliceV {w : World} {base n : Nat} {T : TypeId} {size : Nat} {v : Value} {xs : List Value} (h : w.ownsRow base T size v n xs) : ∃ a cap, v = .slice a n cap ∧ n ≤ cap ∧ cap ≤ maxLen := by
  rcases h.2 with ⟨rfl, h0⟩ | ⟨g, cap, cur, rfl, hb, hg, hn, hm, _⟩
  · exact ⟨none, 0, by rw [h0], by omega, by unfold maxLen; omega⟩
  · exact ⟨_, cap, rfl, hn, hm⟩
theorem set5_setCell' (w : World) (g o pb : Nat) (c0 c1 c2 c3 c4 v : Value) (h : g ≠ pb) : set5 (w.setCell ⟨pb, 0, none⟩ v) g o c0 c1 c2 c3 c4 = (set5 w g o c0 c1 c2 c3 c4).setCell ⟨pb, 0, none⟩ v := set5_setCell w g o pb c0 c1 c2 c3 c4 v h
set_option maxRecDepth 100000 in
set_option maxHeartbeats 8000000 in
theorem vaddP_any (B : Nat) (φ : Nat → Prop) (hφ : ∀ q, φ q → q < B) (ls : List Fm) (la : Option Addr) (lcap : Nat) (f : Fm) : (∃ d', isB d' f = true) → ∀ (sa : Option Addr) (scap : Nat) (a : Option Addr) (cap : Nat) (its : List Item) (ds : List Int) (d : Int) (vb : Nat) (nv dv : Value) (base : Nat) (w : World), B ≤ base → base ≤ w.heap.size → FormsIn (· < B) w la lcap ls →
    VarsAt base vb its ds nv dv w → InV φ w f (.agg #[.int .i64 f.kind, .string f.name, .int .i64 f.n, .slice sa f.scopes.length scap, .slice a f.kids.length cap]) → its.length + f.count ≤ 4194304 → ds.length + f.count ≤ 4194304 → 0 ≤ d ∧ d + f.count ≤ 1073741824 →
    Calls Try.prog 148 #[.pointer (some ⟨vb, 0, none⟩), (.agg #[.int .i64 f.kind, .string f.name, .int .i64 f.n, .slice sa f.scopes.length scap, .slice a f.kids.length cap]), .slice la ls.length lcap, .int .i64 d] w fun e w' => e = .returned (.tuple #[]) ∧ ∃ new nv' dv', new.map (·.f) = varsF ls f ∧ (∀ y ∈ new, InV φ w y.f y.val) ∧ VarsAt base vb (its ++ new) (ds ++ depF ls f d) nv' dv' w' ∧ VFrame vb nv dv nv' dv' w w' := by
  have HP := Lib.hid hφ
  clear hφ
  induction f using Fm.ind with
  | h k nm n sc ks ih =>
    rintro ⟨d0, hd0⟩ sa scap a cap its ds d vb nv dv base w hB hbase hl hva hv hcnt hdnt hdd
    have HD0 := Lib.hid hd0
    have HVP := Lib.hid (varB_prog (ls := ls) hd0)
    simp only [Fm.kind, Fm.name, Fm.n, Fm.scopes, Fm.kids] at hv ⊢
    have HV := Lib.hid hv
    obtain ⟨_, hcap, hmax, hks⟩ := hv.kids
    simp only [Fm.kids] at hcap hks
    unfold maxLen at hmax
    have hcnt2 : its.length + countAll ks + 1 ≤ 4194304 := by simp only [Fm.count] at hcnt; omega
    have hdnt2 : ds.length + countAll ks + 1 ≤ 4194304 := by simp only [Fm.count] at hdnt; omega
    have hdz : 0 ≤ d := hdd.1
    have hd1 : d + 1 + countAll ks ≤ 1073741824 := by have := hdd.2; simp only [Fm.count] at this; omega
    obtain ⟨i0, hi0, hz0, hz1, hz2⟩ := info_parts Try.infoFm
    obtain ⟨j0, hj0, hjz0, hjz1, hjz2⟩ := info_parts infoIntP
    have HVA := Lib.hid hva
    have hvbl : vb < w.heap.size := cell_lt hva.c0
    have HVL : Hid (∀ q, nv.ownBlock = some q ∨ dv.ownBlock = some q → q < w.heap.size) := fun q h => by
      rcases h with h | h
      · exact (hva.rn.lt q h).2
      · exact (hva.rd.lt q h).2
    have HIH := Lib.hid ih
    have HKS := Lib.hid hks
    have HL := Lib.hid hl
    clear hv ih hks hcnt hdnt hl hdd hd0 hva
    have hb0 := below_alloc w (.cells #[.int .i64 k, .string nm, .int .i64 n, .slice sa sc.length scap, .slice a ks.length cap] 33)
    have hBw : B ≤ w.heap.size := by omega
    have HL0 := Lib.hid (HL.out.later (same_below (hb0.mono hBw)))
    have HV0 := Lib.hid (InV.later (fun q hq => same_below (hb0.mono hBw) q (HP.out q hq)) _ _ HV.out)
    have HB0 := Lib.hid hb0
    have HBX0 := Lib.hid (FormBox.fresh w (Fm.mk k nm n sc ks) sa a scap cap 33)
    clear hb0
    go_enter Try.func148, Try.ntmps148
    have FROM : Hid (∀ w1, Below w.heap.size w w1 → w.heap.size + 1 ≤ w1.heap.size → VarsAt base vb its ds nv dv w1) := fun w1 hb _ => HVA.out.later hb
    cases hk : (k == 1) with
    | false =>
      have HVB : Hid (varB ls (Fm.mk k nm n sc ks) = false) := by unfold Hid; rw [HVP.out]; simp only [Fm.kind, hk]; rfl
      obtain ⟨w1, hw1⟩ : ∃ w1, w1 = w.alloc (.cells #[.int .i64 k, .string nm, .int .i64 n, .slice sa sc.length scap, .slice a ks.length cap] 33) := ⟨_, rfl⟩
      have HB1 : Hid (Below w.heap.size w w1) := by unfold Hid; rw [hw1]; exact HB0.out
      have hs1 : w.heap.size + 1 ≤ w1.heap.size := by rw [hw1]; simp
      have HVA1 := Lib.hid (FROM.out w1 HB1.out hs1)
      have HX4 : Hid (w1.cell? ⟨w.heap.size, 4, none⟩ = some (.slice a ks.length cap)) := by unfold Hid; rw [hw1]; exact HBX0.out.2.2.2.2
      have HW1 := Lib.hid hw1
      clear hw1
      go_wp2_with fail
      rw [← HW1.out]
      go_loopw [49, 8, 9] (fun i c p wr => ∃ (j : Nat) (new : List Item) (nj dj : Value), j ≤ ks.length ∧ i = .int .i64 j ∧ new.map (·.f) = ([] : List Fm) ++ varsAll ls (ks.take j) ∧ (∀ y ∈ new, InV φ w y.f y.val) ∧ VarsAt base vb (its ++ new) (ds ++ ([] : List Int) ++ depUp ls ks d j) nj dj wr ∧ VFrame vb nv dv nj dj w1 wr) (fun i _ _ _ => ks.length - (intOf i).toNat)
      case atStart => exact ⟨0, [], nv, dv, Nat.zero_le _, rfl, by simp [varsAll, preAll], by simp, by simpa [depUp] using HVA1.out, VFrame.of_below (Below.refl _ _)⟩
      case round =>
        obtain ⟨j, new, nj, dj, hj, rfl, hnew, hins, hva, hfr⟩ := hrel
        have HNEW := Lib.hid hnew
        have HINS := Lib.hid hins
        have HVA := Lib.hid hva
        have HFR := Lib.hid hfr
        have hsz := hfr.size
        have HBL : Hid (Below base w wr) := (HB1.out.mono hbase).trans (hfr.below HVA1.out (by omega))
        have HPB : Hid (wr.heap[w.heap.size]? = w1.heap[w.heap.size]?) := hfr.block _ (by omega) (by omega) (fun e => by have := (HVL.out _ (.inl e)); omega) (fun e => by have := (HVL.out _ (.inr e)); omega)
        have HCN : Hid ((its ++ new).length ≤ its.length + 1 + countAll (ks.take j)) := by
          have h1 := congrArg List.length hnew
          have h2 := varsAll_length ls (ks.take j)
          rw [List.length_map, List.length_append] at h1
          have h3 : (([] : List Fm) : List Fm).length ≤ 1 := by simp
          unfold Hid
          rw [List.length_append]
          omega
        have HDN : Hid ((ds ++ ([] : List Int) ++ depUp ls ks d j).length ≤ ds.length + 1 + countAll (ks.take j)) := by
          have h2 := depUp_length ls ks d j hj
          have h3 : (([] : List Int) : List Int).length ≤ 1 := by simp
          unfold Hid
          rw [List.length_append, List.length_append]
          omega
        clear hnew hins hva hfr
        by_cases hlt : j < ks.length
        · rcases HKS.out with h0 | ⟨b, off, rfl, hbB, hrow⟩
          · exfalso; rw [h0] at hlt; simp at hlt
          · have hroww := hrow.later (fun q hq => same_below (HBL.out.mono hB) q (HP.out q hq)) b hbB
            have hbBB : b < B := HP.out b hbB
            obtain ⟨ga, gcap, ka, kcap, c0, c1, c2, c3, c4, hin⟩ := hroww.at' j hlt
            have HIN := Lib.hid hin
            have HCT := Lib.hid (countAll_take_succ ks j hlt)
            have HCL := Lib.hid (countAll_take_le ks (j + 1))
            have HVS := Lib.hid (varsAll_take_succ ls ks j hlt)
            have hji : (0 : Int) ≤ (j : Int) := by omega
            have hjl : (j : Int) < (ks.length : Int) := by omega
            have hba := below_alloc wr (.cells #[.int .i64 ks[j].kind, .string ks[j].name, .int .i64 ks[j].n, .slice ga ks[j].scopes.length gcap, .slice ka ks[j].kids.length kcap] 33)
            have HFK : Hid (FormsIn φ (wr.alloc (.cells #[.int .i64 ks[j].kind, .string ks[j].name, .int .i64 ks[j].n, .slice ga ks[j].scopes.length gcap, .slice ka ks[j].kids.length kcap] 33)) (some ⟨b, off, none⟩) cap ks) := ⟨hcap, by unfold maxLen; omega, .inr ⟨b, off, rfl, hbB, hroww.later (fun q (hq : φ q) => hba.block q (by have := HP.out q hq; omega)) b hbB⟩⟩
            have x4 : (wr.alloc (.cells #[.int .i64 ks[j].kind, .string ks[j].name, .int .i64 ks[j].n, .slice ga ks[j].scopes.length gcap, .slice ka ks[j].kids.length kcap] 33)).cell? ⟨w.heap.size, 4, none⟩ = some (.slice (some ⟨b, off, none⟩) ks.length cap) := cell_later' hba ((World.cell?_of_block (a := ⟨w.heap.size, 4, none⟩) HPB.out).trans HX4.out)
            have HKB := Lib.hid (FormBox.fresh wr ks[j] ga ka gcap kcap 33)
            clear hin hrow hroww hba
            go_wp2_with fail
            refine (isRow_any B ks _ cap j _ (by simp; omega) (HFK.out.mono HP.out) hlt).mono ?_
            rintro e w3 ⟨rfl, hb3⟩
            have hs3 : wr.heap.size + 1 ≤ w3.heap.size := by have := hb3.size; simpa using this
            have hbr : Below wr.heap.size wr w3 := (below_alloc wr _).trans (hb3.mono (by simp))
            obtain ⟨q0, q1, q2, q3, q4⟩ := HKB.out.later hb3
            have HVA3 := Lib.hid (HVA.out.later hbr)
            have HB3 : Hid (Below base w w3) := HBL.out.trans (hbr.mono (by omega))
            have HWR : Hid (∀ q, q < wr.heap.size → w3.heap[q]? = wr.heap[q]?) := hbr.block
            have HFR3 : Hid (VFrame vb nv dv nj dj w1 w3) := HFR.out.trans (VFrame.of_below hbr)
            clear hb3 hbr c0 c1 c2 c3 c4 x4
            cases hdt : dotsAt ks (j + 1) with
            | true =>
              have HDT := Lib.hid hdt
              clear hdt
              go_wp2_with fail
              have HDV : Hid ((if dotsAt ks (j + 1) = true then d + 1 else d) = d + 1) := by unfold Hid; rw [HDT.out]; rfl
              refine (HIH.out ks[j] (List.getElem_mem hlt) (kid_isB HD0.out _ (List.getElem_mem hlt)) ga gcap ka kcap (its ++ new) (ds ++ ([] : List Int) ++ depUp ls ks d j) (d + 1) vb nj dj base w3 hB (by omega) (HL.out.later (same_below (HB3.out.mono (by omega)))) HVA3.out (InV.later (w := wr) (w' := w3) (fun q (hq : φ q) => HWR.out q (by have := HP.out q hq; omega)) _ _ HIN.out) (by have h1 := HCN.out; have h2 := HCT.out; have h3 := HCL.out; omega) (by have h1 := HDN.out; have h2 := HCT.out; have h3 := HCL.out; omega) (by have h2 := HCT.out; have h3 := HCL.out; omega)).mono ?_
              rintro e w4 ⟨rfl, nw, n2, d2, hn2, hi2, hva2, hfr2⟩
              have HN1 : Hid ((new ++ nw).map (·.f) = ([] : List Fm) ++ varsAll ls (ks.take (j + 1))) := by
                unfold Hid
                rw [List.map_append, HNEW.out, hn2, HVS.out, List.append_assoc]
              have HI1 : Hid (∀ y ∈ new ++ nw, InV φ w y.f y.val) := fun y hy => by
                rcases List.mem_append.1 hy with h | h
                · exact HINS.out y h
                · exact InV.later (fun q (hq : φ q) => (HB3.out.block q (by have := HP.out q hq; omega)).symm) _ _ (hi2 y h)
              have HVA4 : Hid (VarsAt base vb (its ++ (new ++ nw)) (ds ++ ([] : List Int) ++ depUp ls ks d (j + 1)) n2 d2 w4) := by
                unfold Hid
                rw [← List.append_assoc, depUp_succ hlt, HDV.out, ← List.append_assoc]
                exact hva2
              have HFR4 : Hid (VFrame vb nv dv n2 d2 w1 w4) := HFR3.out.trans hfr2
              have hs4 := hfr2.size
              clear hn2 hi2 hva2 hfr2
              go_wp2_with fail
              go_roundw
              case rel => exact ⟨j + 1, new ++ nw, n2, d2, by omega, by go_num, HN1.out, HI1.out, HVA4.out, HFR4.out⟩
              case measure => simp [intOf]; omega
            | false =>
              have HDT := Lib.hid hdt
              clear hdt
              go_wp2_with fail
              have HDV : Hid ((if dotsAt ks (j + 1) = true then d + 1 else d) = d) := by unfold Hid; rw [HDT.out]; rfl
              refine (HIH.out ks[j] (List.getElem_mem hlt) (kid_isB HD0.out _ (List.getElem_mem hlt)) ga gcap ka kcap (its ++ new) (ds ++ ([] : List Int) ++ depUp ls ks d j) (d) vb nj dj base w3 hB (by omega) (HL.out.later (same_below (HB3.out.mono (by omega)))) HVA3.out (InV.later (w := wr) (w' := w3) (fun q (hq : φ q) => HWR.out q (by have := HP.out q hq; omega)) _ _ HIN.out) (by have h1 := HCN.out; have h2 := HCT.out; have h3 := HCL.out; omega) (by have h1 := HDN.out; have h2 := HCT.out; have h3 := HCL.out; omega) (by have h2 := HCT.out; have h3 := HCL.out; omega)).mono ?_
              rintro e w4 ⟨rfl, nw, n2, d2, hn2, hi2, hva2, hfr2⟩
              have HN1 : Hid ((new ++ nw).map (·.f) = ([] : List Fm) ++ varsAll ls (ks.take (j + 1))) := by
                unfold Hid
                rw [List.map_append, HNEW.out, hn2, HVS.out, List.append_assoc]
              have HI1 : Hid (∀ y ∈ new ++ nw, InV φ w y.f y.val) := fun y hy => by
                rcases List.mem_append.1 hy with h | h
                · exact HINS.out y h
                · exact InV.later (fun q (hq : φ q) => (HB3.out.block q (by have := HP.out q hq; omega)).symm) _ _ (hi2 y h)
              have HVA4 : Hid (VarsAt base vb (its ++ (new ++ nw)) (ds ++ ([] : List Int) ++ depUp ls ks d (j + 1)) n2 d2 w4) := by
                unfold Hid
                rw [← List.append_assoc, depUp_succ hlt, HDV.out, ← List.append_assoc]
                exact hva2
              have HFR4 : Hid (VFrame vb nv dv n2 d2 w1 w4) := HFR3.out.trans hfr2
              have hs4 := hfr2.size
              clear hn2 hi2 hva2 hfr2
              go_wp2_with fail
              go_roundw
              case rel => exact ⟨j + 1, new ++ nw, n2, d2, by omega, by go_num, HN1.out, HI1.out, HVA4.out, HFR4.out⟩
              case measure => simp [intOf]; omega
        · obtain rfl : j = ks.length := by omega
          have HE : Hid (new.map (·.f) = varsF ls (Fm.mk k nm n sc ks) ∧ ds ++ depF ls (Fm.mk k nm n sc ks) d = ds ++ ([] : List Int) ++ depUp ls ks d ks.length) := by
            refine ⟨?_, ?_⟩
            · rw [HNEW.out, List.take_length, varsF_eq, HVB.out]
              simp [Fm.kids]
            · rw [depF_eq, HVB.out, depUp_all]
              simp [Fm.kids]
          have HFF : Hid (VFrame vb nv dv nj dj w wr) := (VFrame.of_below HB1.out).trans HFR.out
          go_wp2_with fail
          go_end0
          exact ⟨rfl, new, nj, dj, HE.out.1, HINS.out, by rw [HE.out.2]; exact HVA.out, HFF.out⟩
    | true =>
      cases hr : resB nm with
      | true =>
        have HVB : Hid (varB ls (Fm.mk k nm n sc ks) = false) := by unfold Hid; rw [HVP.out]; simp only [Fm.kind, Fm.name, hk, hr]; rfl
        have HRS := Lib.hid hr
        clear hr
        go_wp2_with fail
        refine (isReserved_any nm _).mono ?_
        rintro e w1 ⟨rfl, hw1⟩
        rw [HRS.out]
        have HB1 : Hid (Below w.heap.size w w1) := by unfold Hid; rw [hw1]; exact HB0.out
        have hs1 : w.heap.size + 1 ≤ w1.heap.size := by rw [hw1]; simp
        have HVA1 := Lib.hid (FROM.out w1 HB1.out hs1)
        have HX4 : Hid (w1.cell? ⟨w.heap.size, 4, none⟩ = some (.slice a ks.length cap)) := by unfold Hid; rw [hw1]; exact HBX0.out.2.2.2.2
        have x4 := HX4.out
        clear hw1
        go_wp2_with fail
        go_loopw [49, 8, 9] (fun i c p wr => ∃ (j : Nat) (new : List Item) (nj dj : Value), j ≤ ks.length ∧ i = .int .i64 j ∧ new.map (·.f) = ([] : List Fm) ++ varsAll ls (ks.take j) ∧ (∀ y ∈ new, InV φ w y.f y.val) ∧ VarsAt base vb (its ++ new) (ds ++ ([] : List Int) ++ depUp ls ks d j) nj dj wr ∧ VFrame vb nv dv nj dj w1 wr) (fun i _ _ _ => ks.length - (intOf i).toNat)
        case atStart => exact ⟨0, [], nv, dv, Nat.zero_le _, rfl, by simp [varsAll, preAll], by simp, by simpa [depUp] using HVA1.out, VFrame.of_below (Below.refl _ _)⟩
        case round =>
          obtain ⟨j, new, nj, dj, hj, rfl, hnew, hins, hva, hfr⟩ := hrel
          have HNEW := Lib.hid hnew
          have HINS := Lib.hid hins
          have HVA := Lib.hid hva
          have HFR := Lib.hid hfr
          have hsz := hfr.size
          have HBL : Hid (Below base w wr) := (HB1.out.mono hbase).trans (hfr.below HVA1.out (by omega))
          have HPB : Hid (wr.heap[w.heap.size]? = w1.heap[w.heap.size]?) := hfr.block _ (by omega) (by omega) (fun e => by have := (HVL.out _ (.inl e)); omega) (fun e => by have := (HVL.out _ (.inr e)); omega)
          have HCN : Hid ((its ++ new).length ≤ its.length + 1 + countAll (ks.take j)) := by
            have h1 := congrArg List.length hnew
            have h2 := varsAll_length ls (ks.take j)
            rw [List.length_map, List.length_append] at h1
            have h3 : (([] : List Fm) : List Fm).length ≤ 1 := by simp
            unfold Hid
            rw [List.length_append]
            omega
          have HDN : Hid ((ds ++ ([] : List Int) ++ depUp ls ks d j).length ≤ ds.length + 1 + countAll (ks.take j)) := by
            have h2 := depUp_length ls ks d j hj
            have h3 : (([] : List Int) : List Int).length ≤ 1 := by simp
            unfold Hid
            rw [List.length_append, List.length_append]
            omega
          clear hnew hins hva hfr
          by_cases hlt : j < ks.length
          · rcases HKS.out with h0 | ⟨b, off, rfl, hbB, hrow⟩
            · exfalso; rw [h0] at hlt; simp at hlt
            · have hroww := hrow.later (fun q hq => same_below (HBL.out.mono hB) q (HP.out q hq)) b hbB
              have hbBB : b < B := HP.out b hbB
              obtain ⟨ga, gcap, ka, kcap, c0, c1, c2, c3, c4, hin⟩ := hroww.at' j hlt
              have HIN := Lib.hid hin
              have HCT := Lib.hid (countAll_take_succ ks j hlt)
              have HCL := Lib.hid (countAll_take_le ks (j + 1))
              have HVS := Lib.hid (varsAll_take_succ ls ks j hlt)
              have hji : (0 : Int) ≤ (j : Int) := by omega
              have hjl : (j : Int) < (ks.length : Int) := by omega
              have hba := below_alloc wr (.cells #[.int .i64 ks[j].kind, .string ks[j].name, .int .i64 ks[j].n, .slice ga ks[j].scopes.length gcap, .slice ka ks[j].kids.length kcap] 33)
              have HFK : Hid (FormsIn φ (wr.alloc (.cells #[.int .i64 ks[j].kind, .string ks[j].name, .int .i64 ks[j].n, .slice ga ks[j].scopes.length gcap, .slice ka ks[j].kids.length kcap] 33)) (some ⟨b, off, none⟩) cap ks) := ⟨hcap, by unfold maxLen; omega, .inr ⟨b, off, rfl, hbB, hroww.later (fun q (hq : φ q) => hba.block q (by have := HP.out q hq; omega)) b hbB⟩⟩
              have x4 : (wr.alloc (.cells #[.int .i64 ks[j].kind, .string ks[j].name, .int .i64 ks[j].n, .slice ga ks[j].scopes.length gcap, .slice ka ks[j].kids.length kcap] 33)).cell? ⟨w.heap.size, 4, none⟩ = some (.slice (some ⟨b, off, none⟩) ks.length cap) := cell_later' hba ((World.cell?_of_block (a := ⟨w.heap.size, 4, none⟩) HPB.out).trans HX4.out)
              have HKB := Lib.hid (FormBox.fresh wr ks[j] ga ka gcap kcap 33)
              clear hin hrow hroww hba
              go_wp2_with fail
              refine (isRow_any B ks _ cap j _ (by simp; omega) (HFK.out.mono HP.out) hlt).mono ?_
              rintro e w3 ⟨rfl, hb3⟩
              have hs3 : wr.heap.size + 1 ≤ w3.heap.size := by have := hb3.size; simpa using this
              have hbr : Below wr.heap.size wr w3 := (below_alloc wr _).trans (hb3.mono (by simp))
              obtain ⟨q0, q1, q2, q3, q4⟩ := HKB.out.later hb3
              have HVA3 := Lib.hid (HVA.out.later hbr)
              have HB3 : Hid (Below base w w3) := HBL.out.trans (hbr.mono (by omega))
              have HWR : Hid (∀ q, q < wr.heap.size → w3.heap[q]? = wr.heap[q]?) := hbr.block
              have HFR3 : Hid (VFrame vb nv dv nj dj w1 w3) := HFR.out.trans (VFrame.of_below hbr)
              clear hb3 hbr c0 c1 c2 c3 c4 x4
              cases hdt : dotsAt ks (j + 1) with
              | true =>
                have HDT := Lib.hid hdt
                clear hdt
                go_wp2_with fail
                have HDV : Hid ((if dotsAt ks (j + 1) = true then d + 1 else d) = d + 1) := by unfold Hid; rw [HDT.out]; rfl
                refine (HIH.out ks[j] (List.getElem_mem hlt) (kid_isB HD0.out _ (List.getElem_mem hlt)) ga gcap ka kcap (its ++ new) (ds ++ ([] : List Int) ++ depUp ls ks d j) (d + 1) vb nj dj base w3 hB (by omega) (HL.out.later (same_below (HB3.out.mono (by omega)))) HVA3.out (InV.later (w := wr) (w' := w3) (fun q (hq : φ q) => HWR.out q (by have := HP.out q hq; omega)) _ _ HIN.out) (by have h1 := HCN.out; have h2 := HCT.out; have h3 := HCL.out; omega) (by have h1 := HDN.out; have h2 := HCT.out; have h3 := HCL.out; omega) (by have h2 := HCT.out; have h3 := HCL.out; omega)).mono ?_
                rintro e w4 ⟨rfl, nw, n2, d2, hn2, hi2, hva2, hfr2⟩
                have HN1 : Hid ((new ++ nw).map (·.f) = ([] : List Fm) ++ varsAll ls (ks.take (j + 1))) := by
                  unfold Hid
                  rw [List.map_append, HNEW.out, hn2, HVS.out, List.append_assoc]
                have HI1 : Hid (∀ y ∈ new ++ nw, InV φ w y.f y.val) := fun y hy => by
                  rcases List.mem_append.1 hy with h | h
                  · exact HINS.out y h
                  · exact InV.later (fun q (hq : φ q) => (HB3.out.block q (by have := HP.out q hq; omega)).symm) _ _ (hi2 y h)
                have HVA4 : Hid (VarsAt base vb (its ++ (new ++ nw)) (ds ++ ([] : List Int) ++ depUp ls ks d (j + 1)) n2 d2 w4) := by
                  unfold Hid
                  rw [← List.append_assoc, depUp_succ hlt, HDV.out, ← List.append_assoc]
                  exact hva2
                have HFR4 : Hid (VFrame vb nv dv n2 d2 w1 w4) := HFR3.out.trans hfr2
                have hs4 := hfr2.size
                clear hn2 hi2 hva2 hfr2
                go_wp2_with fail
                go_roundw
                case rel => exact ⟨j + 1, new ++ nw, n2, d2, by omega, by go_num, HN1.out, HI1.out, HVA4.out, HFR4.out⟩
                case measure => simp [intOf]; omega
              | false =>
                have HDT := Lib.hid hdt
                clear hdt
                go_wp2_with fail
                have HDV : Hid ((if dotsAt ks (j + 1) = true then d + 1 else d) = d) := by unfold Hid; rw [HDT.out]; rfl
                refine (HIH.out ks[j] (List.getElem_mem hlt) (kid_isB HD0.out _ (List.getElem_mem hlt)) ga gcap ka kcap (its ++ new) (ds ++ ([] : List Int) ++ depUp ls ks d j) (d) vb nj dj base w3 hB (by omega) (HL.out.later (same_below (HB3.out.mono (by omega)))) HVA3.out (InV.later (w := wr) (w' := w3) (fun q (hq : φ q) => HWR.out q (by have := HP.out q hq; omega)) _ _ HIN.out) (by have h1 := HCN.out; have h2 := HCT.out; have h3 := HCL.out; omega) (by have h1 := HDN.out; have h2 := HCT.out; have h3 := HCL.out; omega) (by have h2 := HCT.out; have h3 := HCL.out; omega)).mono ?_
                rintro e w4 ⟨rfl, nw, n2, d2, hn2, hi2, hva2, hfr2⟩
                have HN1 : Hid ((new ++ nw).map (·.f) = ([] : List Fm) ++ varsAll ls (ks.take (j + 1))) := by
                  unfold Hid
                  rw [List.map_append, HNEW.out, hn2, HVS.out, List.append_assoc]
                have HI1 : Hid (∀ y ∈ new ++ nw, InV φ w y.f y.val) := fun y hy => by
                  rcases List.mem_append.1 hy with h | h
                  · exact HINS.out y h
                  · exact InV.later (fun q (hq : φ q) => (HB3.out.block q (by have := HP.out q hq; omega)).symm) _ _ (hi2 y h)
                have HVA4 : Hid (VarsAt base vb (its ++ (new ++ nw)) (ds ++ ([] : List Int) ++ depUp ls ks d (j + 1)) n2 d2 w4) := by
                  unfold Hid
                  rw [← List.append_assoc, depUp_succ hlt, HDV.out, ← List.append_assoc]
                  exact hva2
                have HFR4 : Hid (VFrame vb nv dv n2 d2 w1 w4) := HFR3.out.trans hfr2
                have hs4 := hfr2.size
                clear hn2 hi2 hva2 hfr2
                go_wp2_with fail
                go_roundw
                case rel => exact ⟨j + 1, new ++ nw, n2, d2, by omega, by go_num, HN1.out, HI1.out, HVA4.out, HFR4.out⟩
                case measure => simp [intOf]; omega
          · obtain rfl : j = ks.length := by omega
            have HE : Hid (new.map (·.f) = varsF ls (Fm.mk k nm n sc ks) ∧ ds ++ depF ls (Fm.mk k nm n sc ks) d = ds ++ ([] : List Int) ++ depUp ls ks d ks.length) := by
              refine ⟨?_, ?_⟩
              · rw [HNEW.out, List.take_length, varsF_eq, HVB.out]
                simp [Fm.kids]
              · rw [depF_eq, HVB.out, depUp_all]
                simp [Fm.kids]
            have HFF : Hid (VFrame vb nv dv nj dj w wr) := (VFrame.of_below HB1.out).trans HFR.out
            go_wp2_with fail
            go_end0
            exact ⟨rfl, new, nj, dj, HE.out.1, HINS.out, by rw [HE.out.2]; exact HVA.out, HFF.out⟩
      | false =>
        have HRS := Lib.hid hr
        clear hr
        go_wp2_with fail
        refine (isReserved_any nm _).mono ?_
        rintro e w0 ⟨rfl, hw0⟩
        rw [HRS.out]
        have HW0 := Lib.hid hw0
        have HB00 : Hid (Below w.heap.size w w0) := by unfold Hid; rw [hw0]; exact HB0.out
        have hs0 : w.heap.size + 1 ≤ w0.heap.size := by rw [hw0]; simp
        have hbx0 : FormBox w0 w.heap.size (Fm.mk k nm n sc ks) sa scap a cap := by rw [hw0]; exact HBX0.out
        have HBX00 := Lib.hid hbx0
        obtain ⟨x0, x1, x2, x3, x4⟩ := hbx0
        simp only [Fm.kind, Fm.name, Fm.n, Fm.scopes, Fm.kids] at x0 x1 x2 x3 x4
        clear hw0
        go_wp2_with fail
        refine (hasName_any B ls la lcap (Fm.mk k nm n sc ks) _ w0 (by omega) (HL.out.later (same_below (HB00.out.mono hBw))) (InV.mono HP.out _ _ (InV.later (fun q hq => same_below (HB00.out.mono hBw) q (HP.out q hq)) _ _ HV.out))).mono ?_
        rintro e w1 ⟨rfl, hb1⟩
        have HB1 : Hid (Below w.heap.size w w1) := HB00.out.trans (hb1.mono (by omega))
        have hs1 : w.heap.size + 1 ≤ w1.heap.size := by have := hb1.size; omega
        have HVA1 := Lib.hid (FROM.out w1 HB1.out hs1)
        have HBX1 := Lib.hid (HBX00.out.later hb1)
        have HX4 : Hid (w1.cell? ⟨w.heap.size, 4, none⟩ = some (.slice a ks.length cap)) := HBX1.out.2.2.2.2
        clear hb1 x0 x1 x2 x3 x4
        cases hin : inN ls (Fm.mk k nm n sc ks) with
        | true =>
          have HVB : Hid (varB ls (Fm.mk k nm n sc ks) = false) := by unfold Hid; rw [HVP.out, hin]; simp
          have x4 := HX4.out
          clear hin
          go_wp2_with fail
          go_loopw [49, 8, 9] (fun i c p wr => ∃ (j : Nat) (new : List Item) (nj dj : Value), j ≤ ks.length ∧ i = .int .i64 j ∧ new.map (·.f) = ([] : List Fm) ++ varsAll ls (ks.take j) ∧ (∀ y ∈ new, InV φ w y.f y.val) ∧ VarsAt base vb (its ++ new) (ds ++ ([] : List Int) ++ depUp ls ks d j) nj dj wr ∧ VFrame vb nv dv nj dj w1 wr) (fun i _ _ _ => ks.length - (intOf i).toNat)
          case atStart => exact ⟨0, [], nv, dv, Nat.zero_le _, rfl, by simp [varsAll, preAll], by simp, by simpa [depUp] using HVA1.out, VFrame.of_below (Below.refl _ _)⟩
          case round =>
            obtain ⟨j, new, nj, dj, hj, rfl, hnew, hins, hva, hfr⟩ := hrel
            have HNEW := Lib.hid hnew
            have HINS := Lib.hid hins
            have HVA := Lib.hid hva
            have HFR := Lib.hid hfr
            have hsz := hfr.size
            have HBL : Hid (Below base w wr) := (HB1.out.mono hbase).trans (hfr.below HVA1.out (by omega))
            have HPB : Hid (wr.heap[w.heap.size]? = w1.heap[w.heap.size]?) := hfr.block _ (by omega) (by omega) (fun e => by have := (HVL.out _ (.inl e)); omega) (fun e => by have := (HVL.out _ (.inr e)); omega)
            have HCN : Hid ((its ++ new).length ≤ its.length + 1 + countAll (ks.take j)) := by
              have h1 := congrArg List.length hnew
              have h2 := varsAll_length ls (ks.take j)
              rw [List.length_map, List.length_append] at h1
              have h3 : (([] : List Fm) : List Fm).length ≤ 1 := by simp
              unfold Hid
              rw [List.length_append]
              omega
            have HDN : Hid ((ds ++ ([] : List Int) ++ depUp ls ks d j).length ≤ ds.length + 1 + countAll (ks.take j)) := by
              have h2 := depUp_length ls ks d j hj
              have h3 : (([] : List Int) : List Int).length ≤ 1 := by simp
              unfold Hid
              rw [List.length_append, List.length_append]
              omega
            clear hnew hins hva hfr
            by_cases hlt : j < ks.length
            · rcases HKS.out with h0 | ⟨b, off, rfl, hbB, hrow⟩
              · exfalso; rw [h0] at hlt; simp at hlt
              · have hroww := hrow.later (fun q hq => same_below (HBL.out.mono hB) q (HP.out q hq)) b hbB
                have hbBB : b < B := HP.out b hbB
                obtain ⟨ga, gcap, ka, kcap, c0, c1, c2, c3, c4, hin⟩ := hroww.at' j hlt
                have HIN := Lib.hid hin
                have HCT := Lib.hid (countAll_take_succ ks j hlt)
                have HCL := Lib.hid (countAll_take_le ks (j + 1))
                have HVS := Lib.hid (varsAll_take_succ ls ks j hlt)
                have hji : (0 : Int) ≤ (j : Int) := by omega
                have hjl : (j : Int) < (ks.length : Int) := by omega
                have hba := below_alloc wr (.cells #[.int .i64 ks[j].kind, .string ks[j].name, .int .i64 ks[j].n, .slice ga ks[j].scopes.length gcap, .slice ka ks[j].kids.length kcap] 33)
                have HFK : Hid (FormsIn φ (wr.alloc (.cells #[.int .i64 ks[j].kind, .string ks[j].name, .int .i64 ks[j].n, .slice ga ks[j].scopes.length gcap, .slice ka ks[j].kids.length kcap] 33)) (some ⟨b, off, none⟩) cap ks) := ⟨hcap, by unfold maxLen; omega, .inr ⟨b, off, rfl, hbB, hroww.later (fun q (hq : φ q) => hba.block q (by have := HP.out q hq; omega)) b hbB⟩⟩
                have x4 : (wr.alloc (.cells #[.int .i64 ks[j].kind, .string ks[j].name, .int .i64 ks[j].n, .slice ga ks[j].scopes.length gcap, .slice ka ks[j].kids.length kcap] 33)).cell? ⟨w.heap.size, 4, none⟩ = some (.slice (some ⟨b, off, none⟩) ks.length cap) := cell_later' hba ((World.cell?_of_block (a := ⟨w.heap.size, 4, none⟩) HPB.out).trans HX4.out)
                have HKB := Lib.hid (FormBox.fresh wr ks[j] ga ka gcap kcap 33)
                clear hin hrow hroww hba
                go_wp2_with fail
                refine (isRow_any B ks _ cap j _ (by simp; omega) (HFK.out.mono HP.out) hlt).mono ?_
                rintro e w3 ⟨rfl, hb3⟩
                have hs3 : wr.heap.size + 1 ≤ w3.heap.size := by have := hb3.size; simpa using this
                have hbr : Below wr.heap.size wr w3 := (below_alloc wr _).trans (hb3.mono (by simp))
                obtain ⟨q0, q1, q2, q3, q4⟩ := HKB.out.later hb3
                have HVA3 := Lib.hid (HVA.out.later hbr)
                have HB3 : Hid (Below base w w3) := HBL.out.trans (hbr.mono (by omega))
                have HWR : Hid (∀ q, q < wr.heap.size → w3.heap[q]? = wr.heap[q]?) := hbr.block
                have HFR3 : Hid (VFrame vb nv dv nj dj w1 w3) := HFR.out.trans (VFrame.of_below hbr)
                clear hb3 hbr c0 c1 c2 c3 c4 x4
                cases hdt : dotsAt ks (j + 1) with
                | true =>
                  have HDT := Lib.hid hdt
                  clear hdt
                  go_wp2_with fail
                  have HDV : Hid ((if dotsAt ks (j + 1) = true then d + 1 else d) = d + 1) := by unfold Hid; rw [HDT.out]; rfl
                  refine (HIH.out ks[j] (List.getElem_mem hlt) (kid_isB HD0.out _ (List.getElem_mem hlt)) ga gcap ka kcap (its ++ new) (ds ++ ([] : List Int) ++ depUp ls ks d j) (d + 1) vb nj dj base w3 hB (by omega) (HL.out.later (same_below (HB3.out.mono (by omega)))) HVA3.out (InV.later (w := wr) (w' := w3) (fun q (hq : φ q) => HWR.out q (by have := HP.out q hq; omega)) _ _ HIN.out) (by have h1 := HCN.out; have h2 := HCT.out; have h3 := HCL.out; omega) (by have h1 := HDN.out; have h2 := HCT.out; have h3 := HCL.out; omega) (by have h2 := HCT.out; have h3 := HCL.out; omega)).mono ?_
                  rintro e w4 ⟨rfl, nw, n2, d2, hn2, hi2, hva2, hfr2⟩
                  have HN1 : Hid ((new ++ nw).map (·.f) = ([] : List Fm) ++ varsAll ls (ks.take (j + 1))) := by
                    unfold Hid
                    rw [List.map_append, HNEW.out, hn2, HVS.out, List.append_assoc]
                  have HI1 : Hid (∀ y ∈ new ++ nw, InV φ w y.f y.val) := fun y hy => by
                    rcases List.mem_append.1 hy with h | h
                    · exact HINS.out y h
                    · exact InV.later (fun q (hq : φ q) => (HB3.out.block q (by have := HP.out q hq; omega)).symm) _ _ (hi2 y h)
                  have HVA4 : Hid (VarsAt base vb (its ++ (new ++ nw)) (ds ++ ([] : List Int) ++ depUp ls ks d (j + 1)) n2 d2 w4) := by
                    unfold Hid
                    rw [← List.append_assoc, depUp_succ hlt, HDV.out, ← List.append_assoc]
                    exact hva2
                  have HFR4 : Hid (VFrame vb nv dv n2 d2 w1 w4) := HFR3.out.trans hfr2
                  have hs4 := hfr2.size
                  clear hn2 hi2 hva2 hfr2
                  go_wp2_with fail
                  go_roundw
                  case rel => exact ⟨j + 1, new ++ nw, n2, d2, by omega, by go_num, HN1.out, HI1.out, HVA4.out, HFR4.out⟩
                  case measure => simp [intOf]; omega
                | false =>
                  have HDT := Lib.hid hdt
                  clear hdt
                  go_wp2_with fail
                  have HDV : Hid ((if dotsAt ks (j + 1) = true then d + 1 else d) = d) := by unfold Hid; rw [HDT.out]; rfl
                  refine (HIH.out ks[j] (List.getElem_mem hlt) (kid_isB HD0.out _ (List.getElem_mem hlt)) ga gcap ka kcap (its ++ new) (ds ++ ([] : List Int) ++ depUp ls ks d j) (d) vb nj dj base w3 hB (by omega) (HL.out.later (same_below (HB3.out.mono (by omega)))) HVA3.out (InV.later (w := wr) (w' := w3) (fun q (hq : φ q) => HWR.out q (by have := HP.out q hq; omega)) _ _ HIN.out) (by have h1 := HCN.out; have h2 := HCT.out; have h3 := HCL.out; omega) (by have h1 := HDN.out; have h2 := HCT.out; have h3 := HCL.out; omega) (by have h2 := HCT.out; have h3 := HCL.out; omega)).mono ?_
                  rintro e w4 ⟨rfl, nw, n2, d2, hn2, hi2, hva2, hfr2⟩
                  have HN1 : Hid ((new ++ nw).map (·.f) = ([] : List Fm) ++ varsAll ls (ks.take (j + 1))) := by
                    unfold Hid
                    rw [List.map_append, HNEW.out, hn2, HVS.out, List.append_assoc]
                  have HI1 : Hid (∀ y ∈ new ++ nw, InV φ w y.f y.val) := fun y hy => by
                    rcases List.mem_append.1 hy with h | h
                    · exact HINS.out y h
                    · exact InV.later (fun q (hq : φ q) => (HB3.out.block q (by have := HP.out q hq; omega)).symm) _ _ (hi2 y h)
                  have HVA4 : Hid (VarsAt base vb (its ++ (new ++ nw)) (ds ++ ([] : List Int) ++ depUp ls ks d (j + 1)) n2 d2 w4) := by
                    unfold Hid
                    rw [← List.append_assoc, depUp_succ hlt, HDV.out, ← List.append_assoc]
                    exact hva2
                  have HFR4 : Hid (VFrame vb nv dv n2 d2 w1 w4) := HFR3.out.trans hfr2
                  have hs4 := hfr2.size
                  clear hn2 hi2 hva2 hfr2
                  go_wp2_with fail
                  go_roundw
                  case rel => exact ⟨j + 1, new ++ nw, n2, d2, by omega, by go_num, HN1.out, HI1.out, HVA4.out, HFR4.out⟩
                  case measure => simp [intOf]; omega
            · obtain rfl : j = ks.length := by omega
              have HE : Hid (new.map (·.f) = varsF ls (Fm.mk k nm n sc ks) ∧ ds ++ depF ls (Fm.mk k nm n sc ks) d = ds ++ ([] : List Int) ++ depUp ls ks d ks.length) := by
                refine ⟨?_, ?_⟩
                · rw [HNEW.out, List.take_length, varsF_eq, HVB.out]
                  simp [Fm.kids]
                · rw [depF_eq, HVB.out, depUp_all]
                  simp [Fm.kids]
              have HFF : Hid (VFrame vb nv dv nj dj w wr) := (VFrame.of_below HB1.out).trans HFR.out
              go_wp2_with fail
              go_end0
              exact ⟨rfl, new, nj, dj, HE.out.1, HINS.out, by rw [HE.out.2]; exact HVA.out, HFF.out⟩
        | false =>
          have HVB : Hid (varB ls (Fm.mk k nm n sc ks) = true) := by unfold Hid; rw [HVP.out, hin]; simp only [Fm.kind, Fm.name, hk, HRS.out]; rfl
          clear hin
          obtain ⟨va, vcap, hva0, hvc, hvm⟩ := ownsRow_sliceV HVA1.out.rn
          unfold maxLen at hvm
          subst hva0
          have hc0 := HVA1.out.c0
          have hf0 := HVA1.out.f0
          have hL1 : its.length + 1 ≤ maxLen := by unfold maxLen; omega
          have hL2 : (its.length + 1) * 80 ≤ 140737488355328 := by omega
          have hn0 : (Value.slice va its.length vcap).ownBlock ≠ some vb := HVA1.out.n0
          have hnpb : (Value.slice va its.length vcap).ownBlock ≠ some w.heap.size := fun e => by have := HVL.out _ (.inl e); omega
          obtain ⟨x0, x1, x2, x3, x4⟩ := HBX1.out
          simp only [Fm.kind, Fm.name, Fm.n, Fm.scopes, Fm.kids] at x0 x1 x2 x3 x4
          go_wp2_with fail
          apply cut_vars (F := fun g dq Z => VarsAt base vb (its ++ [(⟨Fm.mk k nm n sc ks, sa, scap, a, cap⟩ : Item)]) ds (.slice (some ⟨g, 0, none⟩) (its.length + 1) dq) dv Z ∧ VFrame vb (.slice va its.length vcap) dv (.slice (some ⟨g, 0, none⟩) (its.length + 1) dq) dv w1 Z)
          case h1 =>
            intro HCONT0
            have HCONT := Lib.hid HCONT0
            clear HCONT0
            have hS0 : (AddHeld w.heap.size vb (Fm.mk k nm n sc ks) sa scap a cap (.slice va its.length vcap)) w1.drew := ⟨HBX1.out, hc0⟩
            refine uptos_begin (AddHeld w.heap.size vb (Fm.mk k nm n sc ks) sa scap a cap (.slice va its.length vcap)) [8, 9, 10, 11, 12] (by kernel_rfl) ?_
            refine uptos_take (i := 0) (d := some 25) (v := ?_) rfl rfl (by kernel_rfl) (by kernel_rfl) (by kernel_rfl) (by kernel_rfl) (fun _ _ _ h => h) (Or.inl ⟨by rfl, ?_⟩) hS0 ?_
            rotate_left
            · (intro wS hSw; obtain ⟨⟨y0, y1, y2, y3, y4⟩, _⟩ := hSw; simp only [Fm.kind, Fm.name, Fm.n, Fm.scopes, Fm.kids] at y0 y1 y2 y3 y4; go_simp; try with_reducible rfl)
            try simp only [Act.put, List.setIfInBounds_toArray, List.set_cons_zero, List.set_cons_succ]
            refine uptos_take (i := 1) (d := some 26) (v := ?_) rfl rfl (by kernel_rfl) (by kernel_rfl) (by kernel_rfl) (by kernel_rfl) (fun _ _ _ h => h) (Or.inl ⟨by rfl, ?_⟩) hS0 ?_
            rotate_left
            · (intro wS hSw; obtain ⟨⟨y0, y1, y2, y3, y4⟩, _⟩ := hSw; simp only [Fm.kind, Fm.name, Fm.n, Fm.scopes, Fm.kids] at y0 y1 y2 y3 y4; go_simp; try with_reducible rfl)
            try simp only [Act.put, List.setIfInBounds_toArray, List.set_cons_zero, List.set_cons_succ]
            refine uptos_take (i := 2) (d := some 27) (v := ?_) rfl rfl (by kernel_rfl) (by kernel_rfl) (by kernel_rfl) (by kernel_rfl) (fun _ _ _ h => h) (Or.inl ⟨by rfl, ?_⟩) hS0 ?_
            rotate_left
            · (intro wS hSw; obtain ⟨⟨y0, y1, y2, y3, y4⟩, _⟩ := hSw; simp only [Fm.kind, Fm.name, Fm.n, Fm.scopes, Fm.kids] at y0 y1 y2 y3 y4; go_simp; try with_reducible rfl)
            try simp only [Act.put, List.setIfInBounds_toArray, List.set_cons_zero, List.set_cons_succ]
            refine uptos_take (i := 3) (d := some 28) (v := ?_) rfl rfl (by kernel_rfl) (by kernel_rfl) (by kernel_rfl) (by kernel_rfl) (fun _ _ _ h => h) (Or.inl ⟨by rfl, ?_⟩) hS0 ?_
            rotate_left
            · (intro wS hSw; obtain ⟨⟨y0, y1, y2, y3, y4⟩, _⟩ := hSw; simp only [Fm.kind, Fm.name, Fm.n, Fm.scopes, Fm.kids] at y0 y1 y2 y3 y4; go_simp; try with_reducible rfl)
            try simp only [Act.put, List.setIfInBounds_toArray, List.set_cons_zero, List.set_cons_succ]
            refine uptos_take (i := 4) (d := some 29) (v := ?_) rfl rfl (by kernel_rfl) (by kernel_rfl) (by kernel_rfl) (by kernel_rfl) (fun _ _ _ h => h) (Or.inl ⟨by rfl, ?_⟩) hS0 ?_
            rotate_left
            · (intro wS hSw; obtain ⟨⟨y0, y1, y2, y3, y4⟩, _⟩ := hSw; simp only [Fm.kind, Fm.name, Fm.n, Fm.scopes, Fm.kids] at y0 y1 y2 y3 y4; go_simp; try with_reducible rfl)
            try simp only [Act.put, List.setIfInBounds_toArray, List.set_cons_zero, List.set_cons_succ]
            refine uptos_take (i := 5) (d := some 30) (v := ?_) rfl rfl (by kernel_rfl) (by kernel_rfl) (by kernel_rfl) (by kernel_rfl) (fun _ _ _ h => h) (Or.inl ⟨by rfl, ?_⟩) hS0 ?_
            rotate_left
            · (intro wS hSw; obtain ⟨⟨y0, y1, y2, y3, y4⟩, _⟩ := hSw; simp only [Fm.kind, Fm.name, Fm.n, Fm.scopes, Fm.kids] at y0 y1 y2 y3 y4; go_simp; try with_reducible rfl)
            try simp only [Act.put, List.setIfInBounds_toArray, List.set_cons_zero, List.set_cons_succ]
            refine uptos_one (i := 6) (by kernel_rfl) rfl (fun K2 hK2 => ?_)
            go_simp
            have hbA : Below w1.heap.size w1 (w1.alloc (Obj.cells #[.int .i64 0, .string { data := #[] }, .int .i64 0, .slice none 0 0, .slice none 0 0] 33)).drew := ((Below.refl _ w1).alloc (Nat.le_refl _) _).drew
            have hS1 : (AddHeld w.heap.size vb (Fm.mk k nm n sc ks) sa scap a cap (.slice va its.length vcap)) (w1.alloc (Obj.cells #[.int .i64 0, .string { data := #[] }, .int .i64 0, .slice none 0 0, .slice none 0 0] 33)).drew := ⟨HBX1.out.later hbA, cell_later' hbA hc0⟩
            refine hK2.out _ _ (.inr hS1) ?_
            clear hK2 K2
            refine uptos_oper (i := 7) ⟨some 32, .call { callee := .builtin .append, args := #[.tmp 28, .tmp 31], argTypes := #[31, 31] }, 31, _, _, _⟩ (by kernel_rfl) rfl rfl (fun K3 hK3 => ?_)
            refine wp_append_lies _ (.tmp 28) (.tmp 31) 31 rfl base 33 i0 _ 5 80 Try.underlying31 hi0 hz0 hz1 hz2 rfl (by omega) _ its.length (rowOf its) (by rfl) ((HVA1.out.rn.alloc _).drew)
              ⟨w1.heap.size, 0, none⟩ 1 1 [.int .i64 0, .string { data := #[] }, .int .i64 0, .slice none 0 0, .slice none 0 0] (by rfl) (by rfl) (World.news_of_block (cs := #[.int .i64 0, .string { data := #[] }, .int .i64 0, .slice none 0 0, .slice none 0 0]) (t := 33) (fr := (0, 0)) (heap_alloc_new w1 _)) (by simp [Value.oneCell'])
              (by omega) hL1 hL2 (by simp; omega) (w1.heap.size + 1) (by simp) ?_
            intro gq qd w6 hown1 hgrow hat hlt4
            have hgq : (Value.slice va its.length vcap).ownBlock = some gq ∨ gq = w1.heap.size + 1 := hat
            have hgv2 : gq ≠ vb := by
              rcases hgq with h | h
              · intro e; rw [e] at h; exact hn0 h
              · omega
            have hsame6 : ∀ q, q < w1.heap.size → (Value.slice va its.length vcap).ownBlock ≠ some q → w6.heap[q]? = w1.heap[q]? := fun q h1 h2 => (hgrow.block q (by simp; omega) (fun e => h2 e.symm)).trans (hbA.block q h1)
            have hvl : vb < w1.heap.size := cell_lt hc0
            have hS6 : (AddHeld w.heap.size vb (Fm.mk k nm n sc ks) sa scap a cap (.slice va its.length vcap)) w6 := by
              have e1 := hsame6 vb hvl hn0
              have e2 := hsame6 w.heap.size (by omega) hnpb
              exact ⟨⟨(World.cell?_of_block (a := ⟨w.heap.size, 0, none⟩) e2).trans HBX1.out.1, (World.cell?_of_block (a := ⟨w.heap.size, 1, none⟩) e2).trans HBX1.out.2.1, (World.cell?_of_block (a := ⟨w.heap.size, 2, none⟩) e2).trans HBX1.out.2.2.1, (World.cell?_of_block (a := ⟨w.heap.size, 3, none⟩) e2).trans HBX1.out.2.2.2.1, (World.cell?_of_block (a := ⟨w.heap.size, 4, none⟩) e2).trans HBX1.out.2.2.2.2⟩, (World.cell?_of_block (a := ⟨vb, 0, none⟩) e1).trans hc0⟩
            refine hK3.out _ _ (.inr hS6) ?_
            clear hK3 K3
            have hc6 := hS6.2
            have hf6 : w6.frozen? ⟨vb, 0, none⟩ = false := (World.frozen?_of_block (a := ⟨vb, 0, none⟩) (hsame6 vb hvl hn0)).trans hf0
            have hcells : ∀ j, j < 5 → ∃ u, w6.cell? ⟨gq, its.length * 5 + j, none⟩ = some u := fun j hj => by
              rw [hown1.cellAt (its.length * 5 + j) (by omega)]
              exact ⟨_, List.getElem?_eq_getElem (by rw [List.length_append, rowOf_length]; simp; omega)⟩
            obtain ⟨u0, k0⟩ := hcells 0 (by omega)
            obtain ⟨u1, k1⟩ := hcells 1 (by omega)
            obtain ⟨u2, k2⟩ := hcells 2 (by omega)
            obtain ⟨u3, k3⟩ := hcells 3 (by omega)
            obtain ⟨u4, k4⟩ := hcells 4 (by omega)
            rw [Nat.add_zero] at k0
            have m0 := hown1.frozenAt (its.length * 5)
            have m1 := hown1.frozenAt (its.length * 5 + 1)
            have m2 := hown1.frozenAt (its.length * 5 + 2)
            have m3 := hown1.frozenAt (its.length * 5 + 3)
            have m4 := hown1.frozenAt (its.length * 5 + 4)
            have KEY : Hid (∀ Z, Z = (set5 w6 gq (its.length * 5) (.int .i64 k) (.string nm) (.int .i64 n) (.slice sa sc.length scap) (.slice a ks.length cap)).setCell ⟨vb, 0, none⟩ (.slice (some ⟨gq, 0, none⟩) (its.length + 1) qd) →
                VarsAt base vb (its ++ [(⟨Fm.mk k nm n sc ks, sa, scap, a, cap⟩ : Item)]) ds (.slice (some ⟨gq, 0, none⟩) (its.length + 1) qd) dv Z ∧ VFrame vb (.slice va its.length vcap) dv (.slice (some ⟨gq, 0, none⟩) (its.length + 1) qd) dv w1 Z) := by
              intro Z hZ
              have hz6 : w1.heap.size ≤ w6.heap.size := by have := hgrow.size; simp at this; omega
              obtain ⟨n1, n2, n3, n4⟩ := set5_world w6 gq (its.length * 5) vb (.int .i64 k) (.string nm) (.int .i64 n) (.slice sa sc.length scap) (.slice a ks.length cap) (.slice (some ⟨gq, 0, none⟩) (its.length + 1) qd)
              rw [← hZ] at n1 n2 n3 n4
              have hblk : ∀ q, q ≠ vb → q ≠ gq → Z.heap[q]? = w6.heap[q]? := fun q h1 h2 => by
                rw [hZ, Below.heap_setCell _ _ _ _ h1, set5_block _ _ _ _ _ _ _ _ h2]
              have hg5 : ∀ q : Nat, (set5 w6 gq (its.length * 5) (.int .i64 k) (.string nm) (.int .i64 n) (.slice sa sc.length scap) (.slice a ks.length cap)).heap[vb]? = w6.heap[vb]? := fun _ => set5_block _ _ _ _ _ _ _ _ (Ne.symm hgv2)
              have hrow5 := ownsRow_set5v (.int .i64 k) (.string nm) (.int .i64 n) (.slice sa sc.length scap) (.slice a ks.length cap) (rowOf_length its) hown1
              have hdvl : ∀ q, dv.ownBlock = some q → q < w1.heap.size ∧ q ≠ vb ∧ q ≠ gq := fun q hq => by
                refine ⟨(HVA1.out.rd.lt q hq).2, fun e => HVA1.out.d0 (by rw [← e]; exact hq), fun e => ?_⟩
                rcases hgq with h | h
                · exact HVA1.out.nd gq h (by rw [← e]; exact hq)
                · have := (HVA1.out.rd.lt q hq).2; omega
              refine ⟨⟨?_, ?_, ?_, ?_, ?_, ?_, ?_, HVA1.out.d0, ?_, HVA1.out.lo⟩, ⟨?_, ?_, ?_, by omega, ?_, ?_⟩⟩
              · rw [hZ]; exact World.cell?_setCell_same _ _ _ ((World.cell?_of_block (a := ⟨vb, 0, none⟩) (hg5 0)).trans hc6)
              · rw [hZ, World.cell?_setCell_other _ _ _ _ (addr_ne (by omega))]
                exact (World.cell?_of_block (a := ⟨vb, 1, none⟩) (hg5 0)).trans ((World.cell?_of_block (a := ⟨vb, 1, none⟩) (hsame6 vb hvl hn0)).trans HVA1.out.c1)
              · rw [hZ, World.frozen?_setCell]; exact (World.frozen?_of_block (a := ⟨vb, 0, none⟩) (hg5 0)).trans hf6
              · rw [hZ, World.frozen?_setCell]; exact (World.frozen?_of_block (a := ⟨vb, 1, none⟩) (hg5 0)).trans ((World.frozen?_of_block (a := ⟨vb, 1, none⟩) (hsame6 vb hvl hn0)).trans HVA1.out.f1)
              · have h2 := ownsRow_setFar (o := 0) (u := .slice (some ⟨gq, 0, none⟩) (its.length + 1) qd) hrow5 hgv2
                rw [← hZ] at h2
                rw [rowOf_snoc, List.length_append]
                exact h2
              · exact ownsRow_same' HVA1.out.rd (fun q hq => by
                  obtain ⟨e1, e2, e3⟩ := hdvl q hq
                  rw [hblk q e2 e3]
                  exact hsame6 q e1 (fun e => HVA1.out.nd q e hq))
              · simp [Value.ownBlock, hgv2]
              · intro q hq e
                have h2 : some gq = some q := hq
                injection h2 with h2
                exact (hdvl q e).2.2 h2.symm
              · exact n1.trans (hgrow.os.trans hbA.os)
              · exact n2.trans (hgrow.tape.trans hbA.tape)
              · exact n3.trans (hgrow.output.trans hbA.output)
              · intro q h1 h2 h3 h4
                rw [hblk q h2 (by
                  rcases hgq with h | h
                  · intro e; rw [← e] at h; exact h3 h
                  · omega)]
                exact hsame6 q h1 h3
              · intro q hq
                rcases hq with hq | hq
                · have h2 : some gq = some q := hq
                  injection h2 with h2
                  rcases hgq with h | h
                  · exact .inr (.inl (by rw [← h2]; exact h))
                  · exact .inl (by omega)
                · exact .inr (.inr hq)
            clear hat hsame6 hcells hown1 hgrow hS1 hS6 hbA
            have hix : (its.length : Int) < (its.length : Int) + 1 := by omega
            refine uptos_rest (by kernel_rfl) ?_
            refine any_two (i := 8) (j := 10) (by kernel_rfl) rfl rfl (fun K4 hK4 => ?_) (fun K4 hK4 => ?_)
            · go_simp
              refine hK4.out _ _ ?_
              clear hK4 K4
              refine any_two (i := 9) (j := 10) (by kernel_rfl) rfl rfl (fun K4 hK4 => ?_) (fun K4 hK4 => ?_)
              · go_simp
                refine hK4.out _ _ ?_
                clear hK4 K4
                refine any_one (i := 10) (by kernel_rfl) rfl (fun K4 hK4 => ?_)
                go_simp
                refine hK4.out _ _ ?_
                clear hK4 K4
                refine any_one (i := 11) (by kernel_rfl) rfl (fun K4 hK4 => ?_)
                go_simp
                refine hK4.out _ _ ?_
                clear hK4 K4
                refine any_one (i := 12) (by kernel_rfl) rfl (fun K4 hK4 => ?_)
                go_simp
                refine hK4.out _ _ (any_done (by kernel_rfl) ?_ _)
                refine gen_worldV (fun Z hZ => ?_)
                exact HCONT.out gq qd Z (KEY.out Z (hZ.trans (by simp only [set5])))
              · go_simp
                refine hK4.out _ _ ?_
                clear hK4 K4
                refine any_two (i := 9) (j := 11) (by kernel_rfl) rfl rfl (fun K4 hK4 => ?_) (fun K4 hK4 => ?_)
                · go_simp
                  refine hK4.out _ _ ?_
                  clear hK4 K4
                  refine any_one (i := 11) (by kernel_rfl) rfl (fun K4 hK4 => ?_)
                  go_simp
                  refine hK4.out _ _ ?_
                  clear hK4 K4
                  refine any_one (i := 12) (by kernel_rfl) rfl (fun K4 hK4 => ?_)
                  go_simp
                  refine hK4.out _ _ (any_done (by kernel_rfl) ?_ _)
                  refine gen_worldV (fun Z hZ => ?_)
                  exact HCONT.out gq qd Z (KEY.out Z (hZ.trans (by simp only [set5])))
                · go_simp
                  refine hK4.out _ _ ?_
                  clear hK4 K4
                  refine any_two (i := 9) (j := 12) (by kernel_rfl) rfl rfl (fun K4 hK4 => ?_) (fun K4 hK4 => ?_)
                  · go_simp
                    refine hK4.out _ _ ?_
                    clear hK4 K4
                    refine any_one (i := 12) (by kernel_rfl) rfl (fun K4 hK4 => ?_)
                    go_simp
                    refine hK4.out _ _ (any_done (by kernel_rfl) ?_ _)
                    refine gen_worldV (fun Z hZ => ?_)
                    exact HCONT.out gq qd Z (KEY.out Z (hZ.trans (by simp only [set5])))
                  · go_simp
                    refine hK4.out _ _ ?_
                    clear hK4 K4
                    refine any_one (i := 9) (by kernel_rfl) rfl (fun K4 hK4 => ?_)
                    go_simp
                    refine hK4.out _ _ (any_done (by kernel_rfl) ?_ _)
                    refine gen_worldV (fun Z hZ => ?_)
                    exact HCONT.out gq qd Z (KEY.out Z (hZ.trans (by have h := set5_setCell' w6 gq (its.length * 5) vb (.int .i64 k) (.string nm) (.int .i64 n) (.slice sa sc.length scap) (.slice a ks.length cap) (.slice (some ⟨gq, 0, none⟩) (its.length + 1) qd) hgv2; unfold set5 at h ⊢; exact h)))
            · go_simp
              refine hK4.out _ _ ?_
              clear hK4 K4
              refine any_two (i := 8) (j := 11) (by kernel_rfl) rfl rfl (fun K4 hK4 => ?_) (fun K4 hK4 => ?_)
              · go_simp
                refine hK4.out _ _ ?_
                clear hK4 K4
                refine any_two (i := 9) (j := 11) (by kernel_rfl) rfl rfl (fun K4 hK4 => ?_) (fun K4 hK4 => ?_)
                · go_simp
                  refine hK4.out _ _ ?_
                  clear hK4 K4
                  refine any_one (i := 11) (by kernel_rfl) rfl (fun K4 hK4 => ?_)
                  go_simp
                  refine hK4.out _ _ ?_
                  clear hK4 K4
                  refine any_one (i := 12) (by kernel_rfl) rfl (fun K4 hK4 => ?_)
                  go_simp
                  refine hK4.out _ _ (any_done (by kernel_rfl) ?_ _)
                  refine gen_worldV (fun Z hZ => ?_)
                  exact HCONT.out gq qd Z (KEY.out Z (hZ.trans (by simp only [set5])))
                · go_simp
                  refine hK4.out _ _ ?_
                  clear hK4 K4
                  refine any_two (i := 9) (j := 12) (by kernel_rfl) rfl rfl (fun K4 hK4 => ?_) (fun K4 hK4 => ?_)
                  · go_simp
                    refine hK4.out _ _ ?_
                    clear hK4 K4
                    refine any_one (i := 12) (by kernel_rfl) rfl (fun K4 hK4 => ?_)
                    go_simp
                    refine hK4.out _ _ (any_done (by kernel_rfl) ?_ _)
                    refine gen_worldV (fun Z hZ => ?_)
                    exact HCONT.out gq qd Z (KEY.out Z (hZ.trans (by simp only [set5])))
                  · go_simp
                    refine hK4.out _ _ ?_
                    clear hK4 K4
                    refine any_one (i := 9) (by kernel_rfl) rfl (fun K4 hK4 => ?_)
                    go_simp
                    refine hK4.out _ _ (any_done (by kernel_rfl) ?_ _)
                    refine gen_worldV (fun Z hZ => ?_)
                    exact HCONT.out gq qd Z (KEY.out Z (hZ.trans (by have h := set5_setCell' w6 gq (its.length * 5) vb (.int .i64 k) (.string nm) (.int .i64 n) (.slice sa sc.length scap) (.slice a ks.length cap) (.slice (some ⟨gq, 0, none⟩) (its.length + 1) qd) hgv2; unfold set5 at h ⊢; exact h)))
              · go_simp
                refine hK4.out _ _ ?_
                clear hK4 K4
                refine any_two (i := 8) (j := 12) (by kernel_rfl) rfl rfl (fun K4 hK4 => ?_) (fun K4 hK4 => ?_)
                · go_simp
                  refine hK4.out _ _ ?_
                  clear hK4 K4
                  refine any_two (i := 9) (j := 12) (by kernel_rfl) rfl rfl (fun K4 hK4 => ?_) (fun K4 hK4 => ?_)
                  · go_simp
                    refine hK4.out _ _ ?_
                    clear hK4 K4
                    refine any_one (i := 12) (by kernel_rfl) rfl (fun K4 hK4 => ?_)
                    go_simp
                    refine hK4.out _ _ (any_done (by kernel_rfl) ?_ _)
                    refine gen_worldV (fun Z hZ => ?_)
                    exact HCONT.out gq qd Z (KEY.out Z (hZ.trans (by simp only [set5])))
                  · go_simp
                    refine hK4.out _ _ ?_
                    clear hK4 K4
                    refine any_one (i := 9) (by kernel_rfl) rfl (fun K4 hK4 => ?_)
                    go_simp
                    refine hK4.out _ _ (any_done (by kernel_rfl) ?_ _)
                    refine gen_worldV (fun Z hZ => ?_)
                    exact HCONT.out gq qd Z (KEY.out Z (hZ.trans (by have h := set5_setCell' w6 gq (its.length * 5) vb (.int .i64 k) (.string nm) (.int .i64 n) (.slice sa sc.length scap) (.slice a ks.length cap) (.slice (some ⟨gq, 0, none⟩) (its.length + 1) qd) hgv2; unfold set5 at h ⊢; exact h)))
                · go_simp
                  refine hK4.out _ _ ?_
                  clear hK4 K4
                  refine any_one (i := 8) (by kernel_rfl) rfl (fun K4 hK4 => ?_)
                  go_simp
                  refine hK4.out _ _ ?_
                  clear hK4 K4
                  refine any_one (i := 9) (by kernel_rfl) rfl (fun K4 hK4 => ?_)
                  go_simp
                  refine hK4.out _ _ (any_done (by kernel_rfl) ?_ _)
                  refine gen_worldV (fun Z hZ => ?_)
                  exact HCONT.out gq qd Z (KEY.out Z (hZ.trans (by have h := set5_setCell' w6 gq (its.length * 5) vb (.int .i64 k) (.string nm) (.int .i64 n) (.slice sa sc.length scap) (.slice a ks.length cap) (.slice (some ⟨gq, 0, none⟩) (its.length + 1) qd) hgv2; unfold set5 at h ⊢; exact h)))
          case h2 =>
            rintro gq qd Z ⟨hva2, hfr2⟩
            have HVA2 := Lib.hid hva2
            have HFR2 := Lib.hid hfr2
            have hsZ := hfr2.size
            have hxb : Z.heap[w.heap.size]? = w1.heap[w.heap.size]? := hfr2.block _ (by omega) (by omega) hnpb (fun e => by have := HVL.out _ (.inr e); omega)
            have y4 : Z.cell? ⟨w.heap.size, 4, none⟩ = some (.slice a ks.length cap) := (World.cell?_of_block (a := ⟨w.heap.size, 4, none⟩) hxb).trans x4
            obtain ⟨da, dcap, hda0, hdc, hdm⟩ := ownsRow_sliceV hva2.rd
            unfold maxLen at hdm
            subst hda0
            have z1 := hva2.c1
            have z1f := hva2.f1
            have hM1 : ds.length + 1 ≤ maxLen := by unfold maxLen; omega
            have hM2 : (ds.length + 1) * 8 ≤ 140737488355328 := by omega
            have hd0 : (Value.slice da ds.length dcap).ownBlock ≠ some vb := hva2.d0
            have hne : some vb ≠ (Value.slice da ds.length dcap).ownBlock := fun h => hd0 h.symm
            have hnx : some w.heap.size ≠ (Value.slice da ds.length dcap).ownBlock := fun h => by have := HVL.out _ (.inr h.symm); omega
            have hvz : vb < Z.heap.size := cell_lt z1
            clear hva2 hfr2 hxb x0 x1 x2 x3 x4 hc0 hf0
            go_wp2_with (at_builtin; refine wpList_append_lies _ rfl _ _ 22 rfl base 3 j0 _ 1 8 Try.underlying22 hj0 hjz0 hjz1 hjz2 rfl (by decide) _ ds.length (ds.map (Value.int .i64)) rfl (HVA2.out.rd.alloc _) ⟨Z.heap.size, 0, none⟩ 1 1 [.int .i64 d] rfl rfl (World.news_of_block (cs := #[.int .i64 d]) (t := 3) (fr := (0, 0)) (heap_alloc_new Z _)) (by simp [Value.oneCell']) (by omega) hM1 hM2 (by simp; omega) (Z.heap.size + 1) (by simp) ?_; intro gr rd w7 hown7 hgrow7 hat7 hlt7; have q1 := hgrow7.cell (cell_later' (below_alloc Z (.cells #[.int .i64 d] 3)) z1) hne; have q1f := (World.frozen?_of_block (a := ⟨vb, 1, none⟩) (hgrow7.block vb (by simp; omega) hne)).trans (((below_alloc Z (.cells #[.int .i64 d] 3)).frozen (p := ⟨vb, 1, none⟩) hvz).trans z1f); have qy4 := hgrow7.cell (cell_later' (below_alloc Z (.cells #[.int .i64 d] 3)) y4) hnx; have HOWN7 := Lib.hid hown7; have HGROW7 := Lib.hid hgrow7; have HAT7 : Hid ((Value.slice da ds.length dcap).ownBlock = some gr ∨ gr = Z.heap.size + 1) := hat7; clear hown7 hgrow7 hat7)
            have hgr : gr ≠ vb := by
              rcases HAT7.out with h | h
              · intro e; rw [e] at h; exact hd0 h
              · omega
            have HVF9 : Hid (VarsAt base vb (its ++ [(⟨Fm.mk k nm n sc ks, sa, scap, a, cap⟩ : Item)]) (ds ++ [d]) (.slice (some ⟨gq, 0, none⟩) (its.length + 1) qd) (.slice (some ⟨gr, 0, none⟩) (ds.length + 1) rd) (w7.setCell ⟨vb, 1, none⟩ (.slice (some ⟨gr, 0, none⟩) (ds.length + 1) rd)) ∧
                VFrame vb (.slice va its.length vcap) (.slice da ds.length dcap) (.slice (some ⟨gq, 0, none⟩) (its.length + 1) qd) (.slice (some ⟨gr, 0, none⟩) (ds.length + 1) rd) w1 (w7.setCell ⟨vb, 1, none⟩ (.slice (some ⟨gr, 0, none⟩) (ds.length + 1) rd))) := by
              have hz : (w7.setCell ⟨vb, 1, none⟩ (.slice (some ⟨gr, 0, none⟩) (ds.length + 1) rd)).heap.size = w7.heap.size := by simp [World.setCell]
              have hs7 : Z.heap.size + 1 ≤ w7.heap.size := by have := HGROW7.out.size; simp at this; omega
              have hsame7 : ∀ q, q < Z.heap.size → (Value.slice da ds.length dcap).ownBlock ≠ some q → w7.heap[q]? = Z.heap[q]? := fun q h1 h2 => (HGROW7.out.block q (by simp; omega) (fun e => h2 e.symm)).trans ((below_alloc Z _).block q h1)
              have hset : ∀ q, q ≠ vb → (w7.setCell ⟨vb, 1, none⟩ (.slice (some ⟨gr, 0, none⟩) (ds.length + 1) rd)).heap[q]? = w7.heap[q]? := fun q h => Below.heap_setCell _ _ _ _ h
              have hgl : gq < Z.heap.size := (HVA2.out.rn.lt gq rfl).2
              have hgd : (Value.slice da ds.length dcap).ownBlock ≠ some gq := HVA2.out.nd gq rfl
              have hgv : gq ≠ vb := fun e => HVA2.out.n0 (by simp [Value.ownBlock, e])
              have hvb7 := hsame7 vb hvz hd0
              refine ⟨⟨?_, ?_, ?_, ?_, ?_, ?_, HVA2.out.n0, by simp [Value.ownBlock, hgr], ?_, HVA2.out.lo⟩, HFR2.out.trans ⟨HGROW7.out.os, HGROW7.out.tape, HGROW7.out.output, by rw [hz]; omega, fun q h1 h2 h3 h4 => ?_, fun q hq => ?_⟩⟩
              · rw [World.cell?_setCell_other _ _ _ _ (addr_ne (by omega))]; exact (World.cell?_of_block (a := ⟨vb, 0, none⟩) hvb7).trans HVA2.out.c0
              · exact World.cell?_setCell_same _ _ _ q1
              · rw [World.frozen?_setCell]; exact (World.frozen?_of_block (a := ⟨vb, 0, none⟩) hvb7).trans HVA2.out.f0
              · rw [World.frozen?_setCell]; exact q1f
              · exact ownsRow_same' HVA2.out.rn (fun q hq => by
                  have h2 : some gq = some q := hq
                  injection h2 with h2
                  rw [← h2, hset gq hgv, hsame7 gq hgl hgd])
              · have := ownsRow_setFar (o := 1) (u := .slice (some ⟨gr, 0, none⟩) (ds.length + 1) rd) HOWN7.out hgr
                rw [List.length_append, List.map_append]
                exact this
              · intro q hq e
                have h2 : some gq = some q := hq
                injection h2 with h2
                have h3 : some gr = some q := e
                injection h3 with h3
                rcases HAT7.out with h | h
                · exact hgd (by rw [h, h3, ← h2])
                · omega
              · rw [hset q h2]; exact hsame7 q h1 h4
              · rcases hq with hq | hq
                · exact .inr (.inl hq)
                · have h3 : some gr = some q := hq
                  injection h3 with h3
                  rcases HAT7.out with h | h
                  · exact .inr (.inr (by rw [← h3]; exact h))
                  · exact .inl (by omega)
            have HVA9 := Lib.hid HVF9.out.1
            have HFR9 := Lib.hid HVF9.out.2
            have HI9 : Hid (∀ y ∈ [(⟨Fm.mk k nm n sc ks, sa, scap, a, cap⟩ : Item)], InV φ w y.f y.val) := fun y hy => by
              rw [List.mem_singleton] at hy
              subst hy
              exact HV.out
            clear HAT7 hgr hlt7
            go_loopw [49, 8, 9] (fun i c p wr => ∃ (j : Nat) (new : List Item) (nj dj : Value), j ≤ ks.length ∧ i = .int .i64 j ∧ new.map (·.f) = [Fm.mk k nm n sc ks] ++ varsAll ls (ks.take j) ∧ (∀ y ∈ new, InV φ w y.f y.val) ∧ VarsAt base vb (its ++ new) (ds ++ [d] ++ depUp ls ks d j) nj dj wr ∧ VFrame vb (.slice va its.length vcap) (.slice da ds.length dcap) nj dj w1 wr) (fun i _ _ _ => ks.length - (intOf i).toNat)
            case atStart => exact ⟨0, [(⟨Fm.mk k nm n sc ks, sa, scap, a, cap⟩ : Item)], _, _, Nat.zero_le _, rfl, by simp [varsAll, preAll], HI9.out, by simpa [depUp] using HVA9.out, HFR9.out⟩
            case round =>
              obtain ⟨j, new, nj, dj, hj, rfl, hnew, hins, hva, hfr⟩ := hrel
              have HNEW := Lib.hid hnew
              have HINS := Lib.hid hins
              have HVA := Lib.hid hva
              have HFR := Lib.hid hfr
              have hsz := hfr.size
              have HBL : Hid (Below base w wr) := (HB1.out.mono hbase).trans (hfr.below HVA1.out (by omega))
              have HPB : Hid (wr.heap[w.heap.size]? = w1.heap[w.heap.size]?) := hfr.block _ (by omega) (by omega) (fun e => by have := (HVL.out _ (.inl e)); omega) (fun e => by have := (HVL.out _ (.inr e)); omega)
              have HCN : Hid ((its ++ new).length ≤ its.length + 1 + countAll (ks.take j)) := by
                have h1 := congrArg List.length hnew
                have h2 := varsAll_length ls (ks.take j)
                rw [List.length_map, List.length_append] at h1
                have h3 : ([Fm.mk k nm n sc ks] : List Fm).length ≤ 1 := by simp
                unfold Hid
                rw [List.length_append]
                omega
              have HDN : Hid ((ds ++ [d] ++ depUp ls ks d j).length ≤ ds.length + 1 + countAll (ks.take j)) := by
                have h2 := depUp_length ls ks d j hj
                have h3 : ([d] : List Int).length ≤ 1 := by simp
                unfold Hid
                rw [List.length_append, List.length_append]
                omega
              clear hnew hins hva hfr
              by_cases hlt : j < ks.length
              · rcases HKS.out with h0 | ⟨b, off, rfl, hbB, hrow⟩
                · exfalso; rw [h0] at hlt; simp at hlt
                · have hroww := hrow.later (fun q hq => same_below (HBL.out.mono hB) q (HP.out q hq)) b hbB
                  have hbBB : b < B := HP.out b hbB
                  obtain ⟨ga, gcap, ka, kcap, c0, c1, c2, c3, c4, hin⟩ := hroww.at' j hlt
                  have HIN := Lib.hid hin
                  have HCT := Lib.hid (countAll_take_succ ks j hlt)
                  have HCL := Lib.hid (countAll_take_le ks (j + 1))
                  have HVS := Lib.hid (varsAll_take_succ ls ks j hlt)
                  have hji : (0 : Int) ≤ (j : Int) := by omega
                  have hjl : (j : Int) < (ks.length : Int) := by omega
                  have hba := below_alloc wr (.cells #[.int .i64 ks[j].kind, .string ks[j].name, .int .i64 ks[j].n, .slice ga ks[j].scopes.length gcap, .slice ka ks[j].kids.length kcap] 33)
                  have HFK : Hid (FormsIn φ (wr.alloc (.cells #[.int .i64 ks[j].kind, .string ks[j].name, .int .i64 ks[j].n, .slice ga ks[j].scopes.length gcap, .slice ka ks[j].kids.length kcap] 33)) (some ⟨b, off, none⟩) cap ks) := ⟨hcap, by unfold maxLen; omega, .inr ⟨b, off, rfl, hbB, hroww.later (fun q (hq : φ q) => hba.block q (by have := HP.out q hq; omega)) b hbB⟩⟩
                  have x4 : (wr.alloc (.cells #[.int .i64 ks[j].kind, .string ks[j].name, .int .i64 ks[j].n, .slice ga ks[j].scopes.length gcap, .slice ka ks[j].kids.length kcap] 33)).cell? ⟨w.heap.size, 4, none⟩ = some (.slice (some ⟨b, off, none⟩) ks.length cap) := cell_later' hba ((World.cell?_of_block (a := ⟨w.heap.size, 4, none⟩) HPB.out).trans HX4.out)
                  have HKB := Lib.hid (FormBox.fresh wr ks[j] ga ka gcap kcap 33)
                  clear hin hrow hroww hba
                  go_wp2_with fail
                  refine (isRow_any B ks _ cap j _ (by simp; omega) (HFK.out.mono HP.out) hlt).mono ?_
                  rintro e w3 ⟨rfl, hb3⟩
                  have hs3 : wr.heap.size + 1 ≤ w3.heap.size := by have := hb3.size; simpa using this
                  have hbr : Below wr.heap.size wr w3 := (below_alloc wr _).trans (hb3.mono (by simp))
                  obtain ⟨q0, q1, q2, q3, q4⟩ := HKB.out.later hb3
                  have HVA3 := Lib.hid (HVA.out.later hbr)
                  have HB3 : Hid (Below base w w3) := HBL.out.trans (hbr.mono (by omega))
                  have HWR : Hid (∀ q, q < wr.heap.size → w3.heap[q]? = wr.heap[q]?) := hbr.block
                  have HFR3 : Hid (VFrame vb (.slice va its.length vcap) (.slice da ds.length dcap) nj dj w1 w3) := HFR.out.trans (VFrame.of_below hbr)
                  clear hb3 hbr c0 c1 c2 c3 c4 x4
                  cases hdt : dotsAt ks (j + 1) with
                  | true =>
                    have HDT := Lib.hid hdt
                    clear hdt
                    go_wp2_with fail
                    have HDV : Hid ((if dotsAt ks (j + 1) = true then d + 1 else d) = d + 1) := by unfold Hid; rw [HDT.out]; rfl
                    refine (HIH.out ks[j] (List.getElem_mem hlt) (kid_isB HD0.out _ (List.getElem_mem hlt)) ga gcap ka kcap (its ++ new) (ds ++ [d] ++ depUp ls ks d j) (d + 1) vb nj dj base w3 hB (by omega) (HL.out.later (same_below (HB3.out.mono (by omega)))) HVA3.out (InV.later (w := wr) (w' := w3) (fun q (hq : φ q) => HWR.out q (by have := HP.out q hq; omega)) _ _ HIN.out) (by have h1 := HCN.out; have h2 := HCT.out; have h3 := HCL.out; omega) (by have h1 := HDN.out; have h2 := HCT.out; have h3 := HCL.out; omega) (by have h2 := HCT.out; have h3 := HCL.out; omega)).mono ?_
                    rintro e w4 ⟨rfl, nw, n2, d2, hn2, hi2, hva2, hfr2⟩
                    have HN1 : Hid ((new ++ nw).map (·.f) = [Fm.mk k nm n sc ks] ++ varsAll ls (ks.take (j + 1))) := by
                      unfold Hid
                      rw [List.map_append, HNEW.out, hn2, HVS.out, List.append_assoc]
                    have HI1 : Hid (∀ y ∈ new ++ nw, InV φ w y.f y.val) := fun y hy => by
                      rcases List.mem_append.1 hy with h | h
                      · exact HINS.out y h
                      · exact InV.later (fun q (hq : φ q) => (HB3.out.block q (by have := HP.out q hq; omega)).symm) _ _ (hi2 y h)
                    have HVA4 : Hid (VarsAt base vb (its ++ (new ++ nw)) (ds ++ [d] ++ depUp ls ks d (j + 1)) n2 d2 w4) := by
                      unfold Hid
                      rw [← List.append_assoc, depUp_succ hlt, HDV.out, ← List.append_assoc]
                      exact hva2
                    have HFR4 : Hid (VFrame vb (.slice va its.length vcap) (.slice da ds.length dcap) n2 d2 w1 w4) := HFR3.out.trans hfr2
                    have hs4 := hfr2.size
                    clear hn2 hi2 hva2 hfr2
                    go_wp2_with fail
                    go_roundw
                    case rel => exact ⟨j + 1, new ++ nw, n2, d2, by omega, by go_num, HN1.out, HI1.out, HVA4.out, HFR4.out⟩
                    case measure => simp [intOf]; omega
                  | false =>
                    have HDT := Lib.hid hdt
                    clear hdt
                    go_wp2_with fail
                    have HDV : Hid ((if dotsAt ks (j + 1) = true then d + 1 else d) = d) := by unfold Hid; rw [HDT.out]; rfl
                    refine (HIH.out ks[j] (List.getElem_mem hlt) (kid_isB HD0.out _ (List.getElem_mem hlt)) ga gcap ka kcap (its ++ new) (ds ++ [d] ++ depUp ls ks d j) (d) vb nj dj base w3 hB (by omega) (HL.out.later (same_below (HB3.out.mono (by omega)))) HVA3.out (InV.later (w := wr) (w' := w3) (fun q (hq : φ q) => HWR.out q (by have := HP.out q hq; omega)) _ _ HIN.out) (by have h1 := HCN.out; have h2 := HCT.out; have h3 := HCL.out; omega) (by have h1 := HDN.out; have h2 := HCT.out; have h3 := HCL.out; omega) (by have h2 := HCT.out; have h3 := HCL.out; omega)).mono ?_
                    rintro e w4 ⟨rfl, nw, n2, d2, hn2, hi2, hva2, hfr2⟩
                    have HN1 : Hid ((new ++ nw).map (·.f) = [Fm.mk k nm n sc ks] ++ varsAll ls (ks.take (j + 1))) := by
                      unfold Hid
                      rw [List.map_append, HNEW.out, hn2, HVS.out, List.append_assoc]
                    have HI1 : Hid (∀ y ∈ new ++ nw, InV φ w y.f y.val) := fun y hy => by
                      rcases List.mem_append.1 hy with h | h
                      · exact HINS.out y h
                      · exact InV.later (fun q (hq : φ q) => (HB3.out.block q (by have := HP.out q hq; omega)).symm) _ _ (hi2 y h)
                    have HVA4 : Hid (VarsAt base vb (its ++ (new ++ nw)) (ds ++ [d] ++ depUp ls ks d (j + 1)) n2 d2 w4) := by
                      unfold Hid
                      rw [← List.append_assoc, depUp_succ hlt, HDV.out, ← List.append_assoc]
                      exact hva2
                    have HFR4 : Hid (VFrame vb (.slice va its.length vcap) (.slice da ds.length dcap) n2 d2 w1 w4) := HFR3.out.trans hfr2
                    have hs4 := hfr2.size
                    clear hn2 hi2 hva2 hfr2
                    go_wp2_with fail
                    go_roundw
                    case rel => exact ⟨j + 1, new ++ nw, n2, d2, by omega, by go_num, HN1.out, HI1.out, HVA4.out, HFR4.out⟩
                    case measure => simp [intOf]; omega
              · obtain rfl : j = ks.length := by omega
                have HE : Hid (new.map (·.f) = varsF ls (Fm.mk k nm n sc ks) ∧ ds ++ depF ls (Fm.mk k nm n sc ks) d = ds ++ [d] ++ depUp ls ks d ks.length) := by
                  refine ⟨?_, ?_⟩
                  · rw [HNEW.out, List.take_length, varsF_eq, HVB.out]
                    simp [Fm.kids]
                  · rw [depF_eq, HVB.out, depUp_all]
                    simp [Fm.kids]
                have HFF : Hid (VFrame vb (.slice va its.length vcap) (.slice da ds.length dcap) nj dj w wr) := (VFrame.of_below HB1.out).trans HFR.out
                go_wp2_with fail
                go_end0
                exact ⟨rfl, new, nj, dj, HE.out.1, HINS.out, by rw [HE.out.2]; exact HVA.out, HFF.out⟩
end Go.Proofs.Ytbclgmabidjegaa
