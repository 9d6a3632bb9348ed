/- For every list of bindings, every form and every number, the two lists with a binding more agree, with the same flags, the program's leaves its arguments as they were and shares no memory: the law FnExactAddBind returns true, whatever the input, with no condition beyond the statement's own. -/
import Derived.Test.YtbmpgfojhoganaaRows
import Derived.Test.YtbmpgfojhoganaaImplAdd
import Derived.Test.YtbmpgfojhoganaaMarkB
import Derived.Test.YtbmpgfojhoganaaBdLaw
import Derived.Test.YtbmpgfojhoganaaOpenB
import Derived.Test.YtbmpgfojhoganaaMids
import Derived.Test.YtbmpgfojhoganaaEq
import Derived.Test.YtbmpgfojhoganaaOpen
import Derived.Test.YtbmpgfojhoganaaMarkF
namespace Go.Proofs.Ytbmpgfojhoganaa.exAddBind
open Go.ChangeShapes Go.WideShapes Go.ChangeAt Go.RowKit
open Go.ChangeMaps (open_string shut_string)
set_option linter.unusedVariables false
set_option linter.unusedSimpArgs false
theorem left2 (n : Nat) : (leftOf 1048576 n < 0) ∨ (n ≤ 1048576 ∧ leftOf 1048576 n = 1048576 - n) := by
  unfold leftOf
  by_cases h : (n : Int) ≤ 1048576
  · rw [if_pos h]; exact .inr ⟨by omega, rfl⟩
  · rw [if_neg h]; exact .inl (by omega)
theorem left3 (n m : Nat) (h : n ≤ 1048576) : (leftOf (1048576 - n) m < 0) ∨ (n + m ≤ 1048576 ∧ 0 ≤ leftOf (1048576 - n) m) := by
  unfold leftOf
  by_cases h : (m : Int) ≤ 1048576 - n
  · rw [if_pos h]; exact .inr ⟨by omega, by omega⟩
  · rw [if_neg h]; exact .inl (by omega)
theorem int_bounds {n : Int} (h : (Lit.int .i64 n).wf = true) : -9223372036854775808 ≤ n ∧ n ≤ 9223372036854775807 := by
  simp only [Lit.wf, Bool.and_eq_true, decide_eq_true_eq] at h
  exact h
theorem row_up {w w' : World} {v : Value} {l : List Bd} (h : BdRow (· < w.heap.size) w v l) (hb : Below w.heap.size w w') : BdRow (· < w'.heap.size) w' v l :=
  bd_mono (fun k (hk : k < w.heap.size) => Nat.lt_of_lt_of_le hk hb.size) (h.later (same_below hb))
theorem form_up {w w' : World} {v : Value} {f : Fm} (h : InV (· < w.heap.size) w f v) (hb : Below w.heap.size w w') : InV (· < w'.heap.size) w' f v :=
  InV.mono (fun k (hk : k < w.heap.size) => Nat.lt_of_lt_of_le hk hb.size) _ _ (InV.later (same_below hb) _ _ h)
/-- a form's cells, in the order that a drawn region asks -/
def OneBox (b : Nat) (f : Fm) (sa a : Option Addr) (scap cap : Nat) (w : World) : Prop := FormBox w b f sa scap a cap
theorem gen_any {P : Program} {md : Region.Mode} {ops : Array Oper} {Q : Exit → Act → World → Prop} {S : World → Prop} {L fuel : Nat} {listed : Array Bool} {a : Act} {W : World}
    (h : ∀ W', W' = W → anyUpto P md ops Q S L fuel listed a W') : anyUpto P md ops Q S L fuel listed a W := h W rfl
theorem marksB_le : ∀ l : List Bd, marksB l ≤ 2 * l.length + szBds l
  | [] => by simp [marksB, szBds]
  | x :: r => by
    have := marksB_le r
    simp only [marksB, szBds, Bd.marks, Bd.sz, List.length_cons]
    omega
theorem marksB_append : ∀ (l m : List Bd), marksB (l ++ m) = marksB l + marksB m
  | [], m => by simp [marksB]
  | x :: r, m => by
    have := marksB_append r m
    simp only [List.cons_append, marksB, this, Nat.add_assoc]
theorem szBds_in : ∀ (l : List Bd) (x : Bd), x ∈ l → x.scopes.length ≤ szBds l
  | y :: r, x, h => by
    simp only [szBds, Bd.sz]
    rcases List.mem_cons.1 h with rfl | h
    · omega
    · have := szBds_in r x h
      omega
mutual
theorem marks_sz : ∀ f : Fm, f.marks ≤ 3 * f.sz
  | .mk _ _ _ sc ks => by
    have := marksAll_sz ks
    simp only [Fm.marks, Fm.sz] at *
    omega
theorem marksAll_sz : ∀ ks : List Fm, marksAll ks ≤ 3 * szAll ks
  | [] => by simp [marksAll, szAll]
  | f :: r => by
    have h1 := marks_sz f
    have h2 := marksAll_sz r
    cases f with
    | mk kd nm n sc ks =>
      simp only [marksAll, szAll, Fm.marks, Fm.sz] at *
      omega
end
set_option maxRecDepth 100000 in
set_option maxHeartbeats 4000000 in
theorem walk (w : World) (l : List Bd) (v : Value) (hv : BdRow (· < w.heap.size) w v l) (f : Fm) (u : Value) (hu : InV (· < w.heap.size) w f u) (id : Int) (hw : (Lit.int .i64 id).wf = true) :
    Calls Try.prog 10 #[v, u, .int .i64 id] w fun e w' => e = .returned (.bool true) ∧ Below w.heap.size w w' := by
  have HV := Lib.hid hv
  have HV2 := Lib.hid hu
  have hid := int_bounds hw
  have HID := Lib.hid hid
  obtain ⟨pa, pcap, rfl, _⟩ := (show BdRow (· < w.heap.size) w v l from hv)
  obtain ⟨sa, scap, a, cap, rfl⟩ := hu.form
  clear hv hu hid hw
  have HA0 : Hid (Below w.heap.size w (w.alloc (.cells #[.int .i64 f.kind, .string f.name, .int .i64 f.n, .slice sa f.scopes.length scap, .slice a f.kids.length cap] 44))) := below_alloc w _
  go_enter Try.func10, Try.ntmps10
  go_wp2_with fail
  refine (szBindS_any w.heap.size l _ 1048576 _ (by simp) (HV.out.later (same_below HA0.out)) ⟨by omega, by omega⟩).mono ?_
  rintro e w1 ⟨rfl, hb1⟩
  obtain ⟨x0, x1, x2, x3, x4⟩ := ((FormBox.fresh w f sa a scap cap 44)).later hb1
  have hs1 : w.heap.size + 1 ≤ w1.heap.size := by have := hb1.size; simpa using this
  have HB1 : Hid (Below w.heap.size w w1) := HA0.out.trans (hb1.mono (by simp))
  clear hb1 HA0
  obtain ⟨n0, hn0⟩ : ∃ n, l.length + szBds l = n := ⟨_, rfl⟩
  rw [hn0]
  rcases left2 n0 with hl | ⟨hsl, hl⟩
  · go_wp2_with fail
    go_ret
    exact ⟨rfl, HB1.out⟩
  · rw [hl]
    clear hl
    have hp1 : 0 ≤ (1048576 : Int) - n0 := by omega
    go_wp2_with fail
    refine (szForm_any w.heap.size f _ _ (1048576 - n0) (by omega) (InV.later (same_below HB1.out) _ _ HV2.out) (by omega)).mono ?_
    rintro e w2 ⟨rfl, hb2⟩
    have hs2 := hb2.size
    have hT := FormBox.later (f := f) ⟨x0, x1, x2, x3, x4⟩ hb2
    clear x0 x1 x2 x3 x4
    have HB : Hid (Below w.heap.size w w2) := HB1.out.trans (hb2.mono (by omega))
    clear hb2 HB1
    rcases left3 n0 f.sz hsl with hl | ⟨hsg, hl⟩
    · go_wp2_with fail
      go_ret
      exact ⟨rfl, HB.out⟩
    · have hszf : f.sz ≤ 1048576 := by omega
      have hszl : l.length + szBds l ≤ 1048576 := by omega
      have hlen : l.length ≤ 1048570 ∨ 1048570 < l.length := by omega
      obtain ⟨ok, hok⟩ : ∃ ok, addB l f id = ok := ⟨_, rfl⟩
      obtain ⟨R, hR⟩ : ∃ R, (if ok = true then l ++ [(⟨f.name, f.scopes, id⟩ : Bd)] else []) = R := ⟨_, rfl⟩
      have HML : Hid (marksB l ≤ 2097152) := by have := marksB_le l; unfold Hid; omega
      have HMF : Hid (f.marks ≤ 3145728) := by have := marks_sz f; unfold Hid; omega
      have HMR : Hid (marksB R ≤ 3145730) := by
        have h1 := marksB_le l
        have h2 := (sz_scopes f).1
        rw [← hR]
        unfold Hid
        split
        · rw [marksB_append]
          simp only [marksB, Bd.marks]
          omega
        · simp [marksB]
      have HSC : Hid (∀ x ∈ l, x.scopes.length ≤ 1048576) := fun x hx => by have := szBds_in l x hx; omega
      have HOK := Lib.hid hok
      have HR := Lib.hid hR
      have hbb : (ok != ok) = false := by simp
      clear hok hR
      have HT := Lib.hid hT
      clear hT
      go_wp2_with fail
      refine upto_begin (OneBox w.heap.size f sa a scap cap) 11 (by kernel_rfl) ?_
      refine gen_any (fun u0 hu0 => ?_)
      have hb : Below w2.heap.size w2 u0 := by rw [hu0]; exact (Below.refl _ _).drew
      have hs0 : w2.heap.size ≤ u0.heap.size := hb.size
      clear hu0
      have HB_1 := Lib.hid (HB.out.trans (hb.mono (by omega)))
      have HT_1 := Lib.hid (HT.out.later hb)
      clear HB HT
      clear hb
      have hS : (OneBox w.heap.size f sa a scap cap) u0 := HT_1.out
      refine upto_take (i := 0) (d := some 30) (v := ?_) rfl rfl (by kernel_rfl) (by kernel_rfl) (by kernel_rfl) (by kernel_rfl) (fun _ _ _ h => h) (Or.inl ⟨by rfl, ?_⟩) hS ?_
      rotate_left
      · (intro wS hSw; obtain ⟨_, _, _, _, _⟩ := hSw; go_simp; try with_reducible rfl)
      try simp only [Act.put, List.setIfInBounds_toArray, List.set_cons_zero, List.set_cons_succ]
      refine upto_take (i := 2) (d := some 32) (v := ?_) rfl rfl (by kernel_rfl) (by kernel_rfl) (by kernel_rfl) (by kernel_rfl) (fun _ _ _ h => h) (Or.inl ⟨by rfl, ?_⟩) hS ?_
      rotate_left
      · (intro wS hSw; obtain ⟨_, _, _, _, _⟩ := hSw; go_simp; try with_reducible rfl)
      try simp only [Act.put, List.setIfInBounds_toArray, List.set_cons_zero, List.set_cons_succ]
      refine upto_take (i := 4) (d := some 34) (v := ?_) rfl rfl (by kernel_rfl) (by kernel_rfl) (by kernel_rfl) (by kernel_rfl) (fun _ _ _ h => h) (Or.inl ⟨by rfl, ?_⟩) hS ?_
      rotate_left
      · (intro wS hSw; obtain ⟨_, _, _, _, _⟩ := hSw; go_simp; try with_reducible rfl)
      try simp only [Act.put, List.setIfInBounds_toArray, List.set_cons_zero, List.set_cons_succ]
      clear hS
      refine upto_one (i := 1) (by kernel_rfl) rfl (fun K hK => ?_)
      go_simp
      refine (toBindS_any w.heap.size l _ u0 (by omega) (HV.out.later (same_below HB_1.out)) hszl).mono ?_
      rintro e u1 ⟨qa, qc, bq, rfl, hqo, hqn, hqp, hb⟩
      have hs1 : u0.heap.size ≤ u1.heap.size := hb.size
      have HB_2 := Lib.hid (HB_1.out.trans (hb.mono (by omega)))
      have HT_2 := Lib.hid (HT_1.out.later hb)
      clear HB_1 HT_1
      have HQ := Lib.hid (hqo.inRow (φ := (· < u1.heap.size)) (fun c hc => (hqn.2 c hc).2))
      clear hqo hqn hqp hb
      refine hK.out _ _ (.inr (HT_2.out)) ?_
      clear hK K
      refine upto_one (i := 3) (by kernel_rfl) rfl (fun K hK => ?_)
      go_simp
      refine (toForm_any w.heap.size f _ u1 (by omega) (InV.later (same_below HB_2.out) _ _ HV2.out) hszf).mono ?_
      rintro e u2 hp
      obtain ⟨ya, yb, yc, yd, rfl, hy, hb⟩ := hp.weak
      have hs2 : u1.heap.size ≤ u2.heap.size := hb.size
      have HB_3 := Lib.hid (HB_2.out.trans (hb.mono (by omega)))
      have HT_3 := Lib.hid (HT_2.out.later hb)
      have HQ_1 := Lib.hid (row_up HQ.out hb)
      clear HB_2 HT_2 HQ
      have HY := Lib.hid hy
      clear hy hb hp
      refine hK.out _ _ (.inr (HT_3.out)) ?_
      clear hK K
      refine upto_one (i := 5) (by kernel_rfl) rfl (fun K hK => ?_)
      go_simp
      refine (specAddBind_any l _ f _ id u2 HQ_1.out HSC.out (by omega) HY.out hszf HID.out ok R HOK.out HR.out).mono ?_
      rintro e w3 ⟨ra, rb, rfl, hr, hb⟩
      have hs3 : u2.heap.size ≤ w3.heap.size := hb.size
      clear HQ_1 HY
      have HB_4 := Lib.hid (HB_3.out.trans (hb.mono (by omega)))
      have HT_4 := Lib.hid (HT_3.out.later hb)
      clear HB_3 HT_3
      have HW := Lib.hid (bd_mono (ψ := (· < w3.heap.size)) (fun k hk => hk.2) hr)
      clear hr hb
      refine hK.out _ _ (.inr (HT_4.out)) ?_
      clear hK K
      have hS : (OneBox w.heap.size f sa a scap cap) w3 := HT_4.out
      refine upto_take (i := 6) (d := some 29) (v := ?_) rfl rfl (by kernel_rfl) (by kernel_rfl) (by kernel_rfl) (by kernel_rfl) (fun _ _ _ h => h) (Or.inl ⟨by rfl, ?_⟩) hS ?_
      rotate_left
      · (intro wS hSw; go_simp; try with_reducible rfl)
      try simp only [Act.put, List.setIfInBounds_toArray, List.set_cons_zero, List.set_cons_succ]
      refine upto_take (i := 7) (d := some 36) (v := ?_) rfl rfl (by kernel_rfl) (by kernel_rfl) (by kernel_rfl) (by kernel_rfl) (fun _ _ _ h => h) (Or.inl ⟨by rfl, ?_⟩) hS ?_
      rotate_left
      · (intro wS hSw; go_simp; try with_reducible rfl)
      try simp only [Act.put, List.setIfInBounds_toArray, List.set_cons_zero, List.set_cons_succ]
      refine upto_take (i := 8) (d := some 37) (v := ?_) rfl rfl (by kernel_rfl) (by kernel_rfl) (by kernel_rfl) (by kernel_rfl) (fun _ _ _ h => h) (Or.inl ⟨by rfl, ?_⟩) hS ?_
      rotate_left
      · (intro wS hSw; go_simp; try with_reducible rfl)
      try simp only [Act.put, List.setIfInBounds_toArray, List.set_cons_zero, List.set_cons_succ]
      clear hS
      refine upto_one (i := 9) (by kernel_rfl) rfl (fun K hK => ?_)
      go_simp
      refine hK.out _ _ (.inr (HT_4.out)) ?_
      clear hK K
      refine upto_one (i := 10) (by kernel_rfl) rfl (fun K hK => ?_)
      go_simp
      refine hK.out _ _ (.inr (HT_4.out)) ?_
      clear hK K
      refine upto_done (by kernel_rfl) ?_ _
      go_wp2_with fail
      refine (toBindS_any w.heap.size l _ w3 (by omega) (HV.out.later (same_below HB_4.out)) hszl).mono ?_
      rintro e w4 ⟨xa, xb, bz, rfl, hzo, hzn, hzp, hb⟩
      have hs4 : w3.heap.size ≤ w4.heap.size := hb.size
      have HB_5 := Lib.hid (HB_4.out.trans (hb.mono (by omega)))
      have HT_5 := Lib.hid (HT_4.out.later hb)
      have HW_1 := Lib.hid (BdRow.later HW.out (same_below (hb.mono (by omega))))
      clear HB_4 HT_4 HW
      have HZO := Lib.hid hzo
      have HZN := Lib.hid hzn
      clear hzo hzn hzp hb
      obtain ⟨x0, x1, x2, x3, x4⟩ := HT_5.out
      have hl0 : w.heap.size < w4.heap.size := by omega
      go_wp2_with fail
      refine (toForm_any w.heap.size f _ w4 (by omega) (InV.later (same_below HB_5.out) _ _ HV2.out) hszf).mono ?_
      rintro e w5 hp
      obtain ⟨ta, tb, tc, td, bx, rfl, hto, htn, htp, hb⟩ := hp
      have hs5 : w4.heap.size ≤ w5.heap.size := hb.size
      clear x0 x1 x2 x3 x4
      have HB_6 := Lib.hid (HB_5.out.trans (hb.mono (by omega)))
      have HT_6 := Lib.hid (HT_5.out.later hb)
      have HW_2 := Lib.hid (BdRow.later HW_1.out (same_below (hb.mono (by omega))))
      have HZO_1 := Lib.hid (BdsOwn.later (SameOn.of_below hb (fun c hm => by have h := HZN.out.2 c hm; omega)) HZO.out)
      clear HB_5 HT_5 HW_1 HZO
      have HTO := Lib.hid hto
      have HTN := Lib.hid htn
      clear hto htn htp hb
      go_wp2_with fail
      have hba := below_alloc w5 (.cells #[.int .i64 f.kind, .string f.name, .int .i64 f.n, .slice ta f.scopes.length tb, .slice tc f.kids.length td] 26)
      refine (implAddBind_any l _ f _ id (w5.alloc (.cells #[.int .i64 f.kind, .string f.name, .int .i64 f.n, .slice ta f.scopes.length tb, .slice tc f.kids.length td] 26)) (row_up (HZO_1.out.inRow (φ := (· < w5.heap.size)) (fun c hm => by have h := HZN.out.2 c hm; omega)) hba) HSC.out (by omega) (form_up (OwnV.inV (φ := (· < w5.heap.size)) f _ bx (fun c hm => (HTN.out.2 c hm).2) HTO.out) hba) hszf HID.out ok R HOK.out HR.out).mono ?_
      rintro e w6 ⟨ga, gb, bg, rfl, hgo, hgn, hb0⟩
      rw [size_alloc'] at hgn
      have hb : Below w5.heap.size w5 w6 := hba.trans (hb0.mono (by simp))
      have hs6 : w5.heap.size + 1 ≤ w6.heap.size := by have := hb0.size; simpa using this
      have HB_7 := Lib.hid (HB_6.out.trans (hb.mono (by omega)))
      have HT_7 := Lib.hid (HT_6.out.later hb)
      have HW_3 := Lib.hid (BdRow.later HW_2.out (same_below (hb.mono (by omega))))
      have HZO_2 := Lib.hid (BdsOwn.later (SameOn.of_below hb (fun c hm => by have h := HZN.out.2 c hm; omega)) HZO_1.out)
      have HTO_1 := Lib.hid (OwnV.later _ _ _ (SameOn.of_below hb (fun c hm => by have h := HTN.out.2 c hm; omega)) HTO.out)
      clear HB_6 HT_6 HW_2 HZO_1 HTO
      have HX := Lib.hid (((FormBox.fresh w5 f ta tc tb td 26)).later hb0)
      have HGO := Lib.hid hgo
      have HGN := Lib.hid hgn
      clear hgo hgn hb hb0 hba
      go_wp2_with fail
      refine (eqBindS_any w6.heap.size R _ _ w6 (Nat.le_refl _) (HGO.out.inRow (φ := (· < w6.heap.size)) (fun c hm => by have h := HGN.out.2 c hm; omega)) (bd_mono (fun k (hk : k < w3.heap.size) => (by omega)) HW_3.out)).mono ?_
      rintro e w7 ⟨rfl, hb⟩
      have hs7 : w6.heap.size ≤ w7.heap.size := hb.size
      have HB_8 := Lib.hid (HB_7.out.trans (hb.mono (by omega)))
      have HT_8 := Lib.hid (HT_7.out.later hb)
      have HW_4 := Lib.hid (BdRow.later HW_3.out (same_below (hb.mono (by omega))))
      have HZO_3 := Lib.hid (BdsOwn.later (SameOn.of_below hb (fun c hm => by have h := HZN.out.2 c hm; omega)) HZO_2.out)
      have HTO_2 := Lib.hid (OwnV.later _ _ _ (SameOn.of_below hb (fun c hm => by have h := HTN.out.2 c hm; omega)) HTO_1.out)
      have HX_1 := Lib.hid (HX.out.later hb)
      have HGO_1 := Lib.hid (BdsOwn.later (SameOn.of_below hb (fun c hm => by have h := HGN.out.2 c hm; omega)) HGO.out)
      clear HB_7 HT_7 HW_3 HZO_2 HTO_1 HX HGO
      clear hb
      go_wp2_with fail
      refine (toBindS_any w.heap.size l _ w7 (by omega) (HV.out.later (same_below HB_8.out)) hszl).mono ?_
      rintro e w8 ⟨ca, cb, bc, rfl, hco, hcn, hcp, hb⟩
      have hs8 : w7.heap.size ≤ w8.heap.size := hb.size
      have HB_9 := Lib.hid (HB_8.out.trans (hb.mono (by omega)))
      have HT_9 := Lib.hid (HT_8.out.later hb)
      have HW_5 := Lib.hid (BdRow.later HW_4.out (same_below (hb.mono (by omega))))
      have HZO_4 := Lib.hid (BdsOwn.later (SameOn.of_below hb (fun c hm => by have h := HZN.out.2 c hm; omega)) HZO_3.out)
      have HTO_3 := Lib.hid (OwnV.later _ _ _ (SameOn.of_below hb (fun c hm => by have h := HTN.out.2 c hm; omega)) HTO_2.out)
      have HX_2 := Lib.hid (HX_1.out.later hb)
      have HGO_2 := Lib.hid (BdsOwn.later (SameOn.of_below hb (fun c hm => by have h := HGN.out.2 c hm; omega)) HGO_1.out)
      clear HB_8 HT_8 HW_4 HZO_3 HTO_2 HX_1 HGO_1
      have HC := Lib.hid (hco.inRow (φ := (· < w8.heap.size)) (fun c hc => (hcn.2 c hc).2))
      clear hco hcn hcp hb
      go_wp2_with fail
      refine (eqBindS_any w8.heap.size l _ _ w8 (Nat.le_refl _) (HZO_4.out.inRow (φ := (· < w8.heap.size)) (fun c hm => by have h := HZN.out.2 c hm; omega)) HC.out).mono ?_
      rintro e w9 ⟨rfl, hb⟩
      have hs9 : w8.heap.size ≤ w9.heap.size := hb.size
      have HB_10 := Lib.hid (HB_9.out.trans (hb.mono (by omega)))
      have HT_10 := Lib.hid (HT_9.out.later hb)
      have HW_6 := Lib.hid (BdRow.later HW_5.out (same_below (hb.mono (by omega))))
      have HZO_5 := Lib.hid (BdsOwn.later (SameOn.of_below hb (fun c hm => by have h := HZN.out.2 c hm; omega)) HZO_4.out)
      have HTO_4 := Lib.hid (OwnV.later _ _ _ (SameOn.of_below hb (fun c hm => by have h := HTN.out.2 c hm; omega)) HTO_3.out)
      have HX_3 := Lib.hid (HX_2.out.later hb)
      have HGO_3 := Lib.hid (BdsOwn.later (SameOn.of_below hb (fun c hm => by have h := HGN.out.2 c hm; omega)) HGO_2.out)
      clear HB_9 HT_9 HW_5 HZO_4 HTO_3 HX_2 HGO_2
      clear hb
      go_wp2_with fail
      clear HC
      refine upto_begin (TwoBox w5.heap.size w.heap.size f f ta tc sa a tb td scap cap) 9 (by kernel_rfl) ?_
      refine gen_any (fun w10 hu0 => ?_)
      have hb : Below w9.heap.size w9 w10 := by rw [hu0]; exact (Below.refl _ _).drew
      have hs10 : w9.heap.size ≤ w10.heap.size := hb.size
      clear hu0
      have HB_11 := Lib.hid (HB_10.out.trans (hb.mono (by omega)))
      have HT_11 := Lib.hid (HT_10.out.later hb)
      have HW_7 := Lib.hid (BdRow.later HW_6.out (same_below (hb.mono (by omega))))
      have HZO_6 := Lib.hid (BdsOwn.later (SameOn.of_below hb (fun c hm => by have h := HZN.out.2 c hm; omega)) HZO_5.out)
      have HTO_5 := Lib.hid (OwnV.later _ _ _ (SameOn.of_below hb (fun c hm => by have h := HTN.out.2 c hm; omega)) HTO_4.out)
      have HX_4 := Lib.hid (HX_3.out.later hb)
      have HGO_4 := Lib.hid (BdsOwn.later (SameOn.of_below hb (fun c hm => by have h := HGN.out.2 c hm; omega)) HGO_3.out)
      clear HB_10 HT_10 HW_6 HZO_5 HTO_4 HX_3 HGO_3
      clear hb
      have hS : (TwoBox w5.heap.size w.heap.size f f ta tc sa a tb td scap cap) w10 := ⟨HX_4.out, HT_11.out⟩
      refine upto_take (i := 0) (d := some 63) (v := ?_) rfl rfl (by kernel_rfl) (by kernel_rfl) (by kernel_rfl) (by kernel_rfl) (fun _ _ _ h => h) (Or.inl ⟨by rfl, ?_⟩) hS ?_
      rotate_left
      · (intro wS hSw; obtain ⟨⟨_, _, _, _, _⟩, ⟨_, _, _, _, _⟩⟩ := hSw; go_simp; try with_reducible rfl)
      try simp only [Act.put, List.setIfInBounds_toArray, List.set_cons_zero, List.set_cons_succ]
      refine upto_take (i := 1) (d := some 64) (v := ?_) rfl rfl (by kernel_rfl) (by kernel_rfl) (by kernel_rfl) (by kernel_rfl) (fun _ _ _ h => h) (Or.inl ⟨by rfl, ?_⟩) hS ?_
      rotate_left
      · (intro wS hSw; obtain ⟨⟨_, _, _, _, _⟩, ⟨_, _, _, _, _⟩⟩ := hSw; go_simp; try with_reducible rfl)
      try simp only [Act.put, List.setIfInBounds_toArray, List.set_cons_zero, List.set_cons_succ]
      clear hS
      refine upto_one (i := 2) (by kernel_rfl) rfl (fun K hK => ?_)
      go_simp
      refine (toForm_any w.heap.size f _ w10 (by omega) (InV.later (same_below HB_11.out) _ _ HV2.out) hszf).mono ?_
      rintro e w11 hp
      obtain ⟨ma, mb, mc, md, rfl, hm, hb⟩ := hp.weak
      have hs11 : w10.heap.size ≤ w11.heap.size := hb.size
      have HB_12 := Lib.hid (HB_11.out.trans (hb.mono (by omega)))
      have HT_12 := Lib.hid (HT_11.out.later hb)
      have HW_8 := Lib.hid (BdRow.later HW_7.out (same_below (hb.mono (by omega))))
      have HZO_7 := Lib.hid (BdsOwn.later (SameOn.of_below hb (fun c hm => by have h := HZN.out.2 c hm; omega)) HZO_6.out)
      have HTO_6 := Lib.hid (OwnV.later _ _ _ (SameOn.of_below hb (fun c hm => by have h := HTN.out.2 c hm; omega)) HTO_5.out)
      have HX_5 := Lib.hid (HX_4.out.later hb)
      have HGO_5 := Lib.hid (BdsOwn.later (SameOn.of_below hb (fun c hm => by have h := HGN.out.2 c hm; omega)) HGO_4.out)
      clear HB_11 HT_11 HW_7 HZO_6 HTO_5 HX_4 HGO_4
      have HM := Lib.hid hm
      clear hm hb hp
      refine hK.out _ _ (.inr ⟨HX_5.out, HT_12.out⟩) ?_
      clear hK K
      refine upto_one (i := 3) (by kernel_rfl) rfl (fun K hK => ?_)
      go_simp
      refine (eqForm_any w11.heap.size f f _ _ _ (Nat.le_refl _) (OwnV.inV (φ := (· < w11.heap.size)) f _ bx (fun c hm => by have h := HTN.out.2 c hm; omega) HTO_6.out) HM.out).mono ?_
      rintro e w12 ⟨rfl, hb⟩
      have hs12 : w11.heap.size ≤ w12.heap.size := hb.size
      have HSF := Lib.hid (sameB_refl f)
      have HB_13 := Lib.hid (HB_12.out.trans (hb.mono (by omega)))
      have HT_13 := Lib.hid (HT_12.out.later hb)
      have HW_9 := Lib.hid (BdRow.later HW_8.out (same_below (hb.mono (by omega))))
      have HZO_8 := Lib.hid (BdsOwn.later (SameOn.of_below hb (fun c hm => by have h := HZN.out.2 c hm; omega)) HZO_7.out)
      have HTO_7 := Lib.hid (OwnV.later _ _ _ (SameOn.of_below hb (fun c hm => by have h := HTN.out.2 c hm; omega)) HTO_6.out)
      have HX_6 := Lib.hid (HX_5.out.later hb)
      have HGO_6 := Lib.hid (BdsOwn.later (SameOn.of_below hb (fun c hm => by have h := HGN.out.2 c hm; omega)) HGO_5.out)
      clear HB_12 HT_12 HW_8 HZO_7 HTO_6 HX_5 HGO_5
      clear hb HM
      refine hK.out _ _ (.inr ⟨HX_6.out, HT_13.out⟩) ?_
      clear hK K
      rw [HSF.out]
      refine upto_one (i := 4) (by kernel_rfl) rfl (fun K hK => ?_)
      go_simp
      refine hK.out _ _ (.inr ⟨HX_6.out, HT_13.out⟩) ?_
      clear hK K HSF
      refine upto_done (by kernel_rfl) ?_ _
      go_wp2_with fail
      refine (markBindS_any l _ bz 1 w12 HZO_8.out HZN.out.1 (fun c hm => by have h := HZN.out.2 c hm; omega) (by omega) (by have := HML.out; omega)).mono ?_
      rintro e w13 ⟨rfl, hmz, ho⟩
      have hs13 : w12.heap.size ≤ w13.heap.size := ho.size
      clear hmz HZO_8
      have HB_14 := Lib.hid (HB_13.out.trans (ho.below (fun c hm => by have h := HZN.out.2 c hm; omega) (by omega)))
      have HT_14 := Lib.hid (HT_13.out.only ho (fun hm => by have h := HZN.out.2 _ hm; omega))
      have HW_10 := Lib.hid (BdRow.later HW_9.out (ho.same (fun k (hk : k < w3.heap.size) => ⟨by omega, fun hm => by have h := HZN.out.2 _ hm; omega⟩)))
      have HTO_8 := Lib.hid (OwnV.later _ _ _ (ho.sameOn (fun c hc => ⟨by have h := HTN.out.2 c hc; omega, fun hm => by have h1 := HZN.out.2 _ hm; have h2 := HTN.out.2 c hc; omega⟩)) HTO_7.out)
      have HX_7 := Lib.hid (HX_6.out.only ho (fun hm => by have h := HZN.out.2 _ hm; omega))
      have HGO_7 := Lib.hid (BdsOwn.later (ho.sameOn (fun c hc => ⟨by have h := HGN.out.2 c hc; omega, fun hm => by have h1 := HZN.out.2 _ hm; have h2 := HGN.out.2 c hc; omega⟩)) HGO_6.out)
      clear HB_13 HT_13 HW_9 HTO_7 HX_6 HGO_6
      clear ho
      obtain ⟨x0, x1, x2, x3, x4⟩ := HX_7.out
      have hl1 : w5.heap.size < w13.heap.size := by omega
      have hk0 : 0 ≤ (1 : Int) + marksB l := by omega
      go_wp2_with fail
      refine (markForm_any f _ bx (1 + marksB l) w13 HTO_8.out HTN.out.1 (fun c hm => by have h := HTN.out.2 c hm; omega) (by omega) (by have h1 := HMF.out; have h2 := HML.out; omega)).mono ?_
      rintro e w14 ⟨rfl, hmz, ho⟩
      have hs14 : w13.heap.size ≤ w14.heap.size := ho.size
      clear x0 x1 x2 x3 x4
      clear hmz HTO_8 HX_7
      have HB_15 := Lib.hid (HB_14.out.trans (ho.below (fun c hm => by have h := HTN.out.2 c hm; omega) (by omega)))
      have HT_15 := Lib.hid (HT_14.out.only ho (fun hm => by have h := HTN.out.2 _ hm; omega))
      have HW_11 := Lib.hid (BdRow.later HW_10.out (ho.same (fun k (hk : k < w3.heap.size) => ⟨by omega, fun hm => by have h := HTN.out.2 _ hm; omega⟩)))
      have HGO_8 := Lib.hid (BdsOwn.later (ho.sameOn (fun c hc => ⟨by have h := HGN.out.2 c hc; omega, fun hm => by have h1 := HTN.out.2 _ hm; have h2 := HGN.out.2 c hc; omega⟩)) HGO_7.out)
      clear HB_14 HT_14 HW_10 HGO_7
      clear ho
      have hk1 : 0 ≤ (1 : Int) + marksB l + f.marks := by omega
      go_wp2_with fail
      refine (eqBindS_any w14.heap.size R _ _ w14 (Nat.le_refl _) (HGO_8.out.inRow (φ := (· < w14.heap.size)) (fun c hm => by have h := HGN.out.2 c hm; omega)) (bd_mono (fun k (hk : k < w3.heap.size) => (by omega)) HW_11.out)).mono ?_
      rintro e w15 ⟨rfl, hb⟩
      have hs15 : w14.heap.size ≤ w15.heap.size := hb.size
      have HB_16 := Lib.hid (HB_15.out.trans (hb.mono (by omega)))
      have HT_16 := Lib.hid (HT_15.out.later hb)
      have HW_12 := Lib.hid (BdRow.later HW_11.out (same_below (hb.mono (by omega))))
      have HGO_9 := Lib.hid (BdsOwn.later (SameOn.of_below hb (fun c hm => by have h := HGN.out.2 c hm; omega)) HGO_8.out)
      clear HB_15 HT_15 HW_11 HGO_8
      clear hb
      go_wp2_with fail
      refine (markBindS_any R _ bg 1 w15 HGO_9.out HGN.out.1 (fun c hm => by have h := HGN.out.2 c hm; omega) (by omega) (by have := HMR.out; omega)).mono ?_
      rintro e w16 ⟨rfl, hmg, ho⟩
      have hs16 : w15.heap.size ≤ w16.heap.size := ho.size
      clear HGO_9
      have HB_17 := Lib.hid (HB_16.out.trans (ho.below (fun c hm => by have h := HGN.out.2 c hm; omega) (by omega)))
      have HT_17 := Lib.hid (HT_16.out.only ho (fun hm => by have h := HGN.out.2 _ hm; omega))
      have HW_13 := Lib.hid (BdRow.later HW_12.out (ho.same (fun k (hk : k < w3.heap.size) => ⟨by omega, fun hm => by have h := HGN.out.2 _ hm; omega⟩)))
      clear HB_16 HT_16 HW_12
      have HGM := Lib.hid (hmg.inRow (φ := (· < w6.heap.size)) (fun c hm => by have h := HGN.out.2 c hm; omega))
      clear hmg ho
      have hk2 : 0 ≤ (1 : Int) + marksB R := by omega
      go_wp2_with fail
      refine (heldBindS_any w6.heap.size R _ 1 w16 (by omega) HGM.out (by omega) (by have := HMR.out; omega)).mono ?_
      rintro e w17 ⟨rfl, hb⟩
      have hs17 : w16.heap.size ≤ w17.heap.size := hb.size
      have HB_18 := Lib.hid (HB_17.out.trans (hb.mono (by omega)))
      have HT_18 := Lib.hid (HT_17.out.later hb)
      have HW_14 := Lib.hid (BdRow.later HW_13.out (same_below (hb.mono (by omega))))
      have HGM_1 := Lib.hid (BdRow.later HGM.out (same_below (hb.mono (by omega))))
      clear HB_17 HT_17 HW_13 HGM
      clear hb
      go_wp2_with fail
      refine upto_begin (OneBox w.heap.size f sa a scap cap) 11 (by kernel_rfl) ?_
      refine gen_any (fun u3 hu0 => ?_)
      have hb : Below w17.heap.size w17 u3 := by rw [hu0]; exact (Below.refl _ _).drew
      have hs3 : w17.heap.size ≤ u3.heap.size := hb.size
      clear hu0
      have HB_19 := Lib.hid (HB_18.out.trans (hb.mono (by omega)))
      have HT_19 := Lib.hid (HT_18.out.later hb)
      have HW_15 := Lib.hid (BdRow.later HW_14.out (same_below (hb.mono (by omega))))
      have HGM_2 := Lib.hid (BdRow.later HGM_1.out (same_below (hb.mono (by omega))))
      clear HB_18 HT_18 HW_14 HGM_1
      clear hb
      have hS : (OneBox w.heap.size f sa a scap cap) u3 := HT_19.out
      refine upto_take (i := 0) (d := some 99) (v := ?_) rfl rfl (by kernel_rfl) (by kernel_rfl) (by kernel_rfl) (by kernel_rfl) (fun _ _ _ h => h) (Or.inl ⟨by rfl, ?_⟩) hS ?_
      rotate_left
      · (intro wS hSw; obtain ⟨_, _, _, _, _⟩ := hSw; go_simp; try with_reducible rfl)
      try simp only [Act.put, List.setIfInBounds_toArray, List.set_cons_zero, List.set_cons_succ]
      refine upto_take (i := 2) (d := some 101) (v := ?_) rfl rfl (by kernel_rfl) (by kernel_rfl) (by kernel_rfl) (by kernel_rfl) (fun _ _ _ h => h) (Or.inl ⟨by rfl, ?_⟩) hS ?_
      rotate_left
      · (intro wS hSw; obtain ⟨_, _, _, _, _⟩ := hSw; go_simp; try with_reducible rfl)
      try simp only [Act.put, List.setIfInBounds_toArray, List.set_cons_zero, List.set_cons_succ]
      refine upto_take (i := 4) (d := some 103) (v := ?_) rfl rfl (by kernel_rfl) (by kernel_rfl) (by kernel_rfl) (by kernel_rfl) (fun _ _ _ h => h) (Or.inl ⟨by rfl, ?_⟩) hS ?_
      rotate_left
      · (intro wS hSw; obtain ⟨_, _, _, _, _⟩ := hSw; go_simp; try with_reducible rfl)
      try simp only [Act.put, List.setIfInBounds_toArray, List.set_cons_zero, List.set_cons_succ]
      clear hS
      refine upto_one (i := 1) (by kernel_rfl) rfl (fun K hK => ?_)
      go_simp
      refine (toBindS_any w.heap.size l _ u3 (by omega) (HV.out.later (same_below HB_19.out)) hszl).mono ?_
      rintro e u4 ⟨qa, qc, bq, rfl, hqo, hqn, hqp, hb⟩
      have hs4 : u3.heap.size ≤ u4.heap.size := hb.size
      have HB_20 := Lib.hid (HB_19.out.trans (hb.mono (by omega)))
      have HT_20 := Lib.hid (HT_19.out.later hb)
      have HW_16 := Lib.hid (BdRow.later HW_15.out (same_below (hb.mono (by omega))))
      have HGM_3 := Lib.hid (BdRow.later HGM_2.out (same_below (hb.mono (by omega))))
      clear HB_19 HT_19 HW_15 HGM_2
      have HQ := Lib.hid (hqo.inRow (φ := (· < u4.heap.size)) (fun c hc => (hqn.2 c hc).2))
      clear hqo hqn hqp hb
      refine hK.out _ _ (.inr (HT_20.out)) ?_
      clear hK K
      refine upto_one (i := 3) (by kernel_rfl) rfl (fun K hK => ?_)
      go_simp
      refine (toForm_any w.heap.size f _ u4 (by omega) (InV.later (same_below HB_20.out) _ _ HV2.out) hszf).mono ?_
      rintro e u5 hp
      obtain ⟨ya, yb, yc, yd, rfl, hy, hb⟩ := hp.weak
      have hs5 : u4.heap.size ≤ u5.heap.size := hb.size
      have HB_21 := Lib.hid (HB_20.out.trans (hb.mono (by omega)))
      have HT_21 := Lib.hid (HT_20.out.later hb)
      have HW_17 := Lib.hid (BdRow.later HW_16.out (same_below (hb.mono (by omega))))
      have HGM_4 := Lib.hid (BdRow.later HGM_3.out (same_below (hb.mono (by omega))))
      have HQ_1 := Lib.hid (row_up HQ.out hb)
      clear HB_20 HT_20 HW_16 HGM_3 HQ
      have HY := Lib.hid hy
      clear hy hb hp
      refine hK.out _ _ (.inr (HT_21.out)) ?_
      clear hK K
      refine upto_one (i := 5) (by kernel_rfl) rfl (fun K hK => ?_)
      go_simp
      refine (implAddBind_any l _ f _ id u5 HQ_1.out HSC.out (by omega) HY.out hszf HID.out ok R HOK.out HR.out).mono ?_
      rintro e w18 ⟨ha, hc, bh, rfl, hho, hhn, hb⟩
      have hs18 : u5.heap.size ≤ w18.heap.size := hb.size
      clear HQ_1 HY
      have HB_22 := Lib.hid (HB_21.out.trans (hb.mono (by omega)))
      have HT_22 := Lib.hid (HT_21.out.later hb)
      have HW_18 := Lib.hid (BdRow.later HW_17.out (same_below (hb.mono (by omega))))
      have HGM_5 := Lib.hid (BdRow.later HGM_4.out (same_below (hb.mono (by omega))))
      clear HB_21 HT_21 HW_17 HGM_4
      have HH := Lib.hid (hho.inRow (φ := (· < w18.heap.size)) (fun c hc => (hhn.2 c hc).2))
      clear hho hhn hb
      refine hK.out _ _ (.inr (HT_22.out)) ?_
      clear hK K
      have hS : (OneBox w.heap.size f sa a scap cap) w18 := HT_22.out
      refine upto_take (i := 6) (d := some 98) (v := ?_) rfl rfl (by kernel_rfl) (by kernel_rfl) (by kernel_rfl) (by kernel_rfl) (fun _ _ _ h => h) (Or.inl ⟨by rfl, ?_⟩) hS ?_
      rotate_left
      · (intro wS hSw; go_simp; try with_reducible rfl)
      try simp only [Act.put, List.setIfInBounds_toArray, List.set_cons_zero, List.set_cons_succ]
      refine upto_take (i := 7) (d := some 105) (v := ?_) rfl rfl (by kernel_rfl) (by kernel_rfl) (by kernel_rfl) (by kernel_rfl) (fun _ _ _ h => h) (Or.inl ⟨by rfl, ?_⟩) hS ?_
      rotate_left
      · (intro wS hSw; go_simp; try with_reducible rfl)
      try simp only [Act.put, List.setIfInBounds_toArray, List.set_cons_zero, List.set_cons_succ]
      refine upto_take (i := 8) (d := some 106) (v := ?_) rfl rfl (by kernel_rfl) (by kernel_rfl) (by kernel_rfl) (by kernel_rfl) (fun _ _ _ h => h) (Or.inl ⟨by rfl, ?_⟩) hS ?_
      rotate_left
      · (intro wS hSw; go_simp; try with_reducible rfl)
      try simp only [Act.put, List.setIfInBounds_toArray, List.set_cons_zero, List.set_cons_succ]
      clear hS
      refine upto_one (i := 9) (by kernel_rfl) rfl (fun K hK => ?_)
      go_simp
      refine hK.out _ _ (.inr (HT_22.out)) ?_
      clear hK K
      refine upto_one (i := 10) (by kernel_rfl) rfl (fun K hK => ?_)
      go_simp
      refine hK.out _ _ (.inr (HT_22.out)) ?_
      clear hK K
      refine upto_done (by kernel_rfl) ?_ _
      go_wp2_with fail
      refine (eqBindS_any w18.heap.size R _ _ w18 (Nat.le_refl _) HH.out (bd_mono (fun k (hk : k < w3.heap.size) => (by omega)) HW_18.out)).mono ?_
      rintro e w19 ⟨rfl, hb⟩
      have hs19 : w18.heap.size ≤ w19.heap.size := hb.size
      have HB_23 := Lib.hid (HB_22.out.trans (hb.mono (by omega)))
      have HT_23 := Lib.hid (HT_22.out.later hb)
      have HW_19 := Lib.hid (BdRow.later HW_18.out (same_below (hb.mono (by omega))))
      have HGM_6 := Lib.hid (BdRow.later HGM_5.out (same_below (hb.mono (by omega))))
      clear HB_22 HT_22 HW_18 HGM_5
      clear hb
      go_wp2_with fail
      clear HH
      refine (heldBindS_any w6.heap.size R _ 1 w19 (by omega) HGM_6.out (by omega) (by have := HMR.out; omega)).mono ?_
      rintro e w20 ⟨rfl, hb⟩
      have hs20 : w19.heap.size ≤ w20.heap.size := hb.size
      have HB_24 := Lib.hid (HB_23.out.trans (hb.mono (by omega)))
      have HT_24 := Lib.hid (HT_23.out.later hb)
      have HW_20 := Lib.hid (BdRow.later HW_19.out (same_below (hb.mono (by omega))))
      have HGM_7 := Lib.hid (BdRow.later HGM_6.out (same_below (hb.mono (by omega))))
      clear HB_23 HT_23 HW_19 HGM_6
      clear hb
      go_wp2_with fail
      go_ret
      exact ⟨rfl, HB_24.out⟩
theorem own : ownKnob Try.prog.godebug = none := by kernel_rfl
theorem laidOut : laidOutB Try.prog = true := by kernel_rfl
set_option maxRecDepth 100000 in
theorem lifted (os : Os) (started : os.Started) (H : Type) (enc : TypeId × Value → H) :
    ReturnsInHanded {} Try.checked os 10 .any (Rows.fnExactAddBindSpec.pre6 enc Try.prog Try.f10 Rows.fnExactAddBindRow.domain false) (Rows.fnExactAddBindSpec.post enc Try.prog Try.f10 false true false false) := by
  refine returnsInHanded_of_change (C := Try.checked) own started (by kernel_rfl) Try.func10
    (ChangeSpec.witness6 (enc := enc) (C := Try.checked) false ⟨#[], #[.slice none 0 0, .agg #[.int .i64 0, .string ByteArray.empty, .int .i64 0, .slice none 0 0, .slice none 0 0], .int .i64 0], []⟩ 12 (by kernel_rfl) (by kernel_rfl) (by kernel_rfl) (by kernel_rfl)) ?_
  intro W base args ds gs before hval0 hW hcnd _
  have hval : ∀ (j : Nat) t v, Try.f10.params[j]? = some t → args[j]? = some v → Value.okWide Try.prog W .any base t v := hval0
  have hW' := hW
  obtain ⟨p, q, hA0, hV, rfl, hfz, hnd⟩ := hW
  have hA : DataW.TrodAll enc Try.prog W 0 (fun _ => true) true Try.f10.params.toList args.toList ds p := hA0
  rw [Try.params10] at hA hval
  obtain ⟨v0, vs0, d0, ds0, p0, q0, hargs, rfl, rfl, h0, r0⟩ := trodAll_cons hA
  obtain ⟨v1, vs1, d1, ds1, p1, q1, rfl, rfl, rfl, h1, r1⟩ := trodAll_cons r0
  obtain ⟨v2, vs2, d2, ds2, p2, q2, rfl, rfl, rfl, h2, r2⟩ := trodAll_cons r1
  obtain ⟨rfl, rfl, rfl⟩ := trodAll_nil r2
  obtain rfl : args = #[v0, v1, v2] := by cases args; simp_all
  obtain ⟨rfl, rfl⟩ := trodVars_none hV
  have k0 := h0
  have lt0 : ∀ x ∈ p0, x.block < W.heap.size := by obtain ⟨m, hm⟩ := k0; exact DataW.trod_lt m _ _ _ hm
  obtain ⟨f0, i0⟩ := open_binds_arg (hval 0 41 v0 rfl rfl) h0
  have k1 := h1
  have lt1 : ∀ x ∈ p1, x.block < W.heap.size := by obtain ⟨m, hm⟩ := k1; exact DataW.trod_lt m _ _ _ hm
  obtain ⟨f1, i1⟩ := open_form_arg (hval 1 44 v1 rfl rfl) h1
  obtain ⟨a2, rfl, rfl, rfl, w2⟩ := open_int Try.underlying3 (hval 2 3 v2 rfl rfl) h2
  clear hA0 hval0
  try simp only [List.append_nil] at hW'
  refine (walk W f0 v0 i0 f1 v1 i1 a2 w2).mono fun e W' ⟨he, bel⟩ => ?_
  subst he
  exact ⟨_, rfl, _, _, _, [], _, [], hW', trodAll_mk1 (shut_bool Try.underlying4 _), (trodAll_cons_mk (Below.trod laidOut (by kernel_rfl) (of_decide_eq_true (by kernel_rfl)) k0 bel lt0) (trodAll_cons_mk (Below.trod laidOut (by kernel_rfl) (of_decide_eq_true (by kernel_rfl)) k1 bel lt1) (trodAll_cons_mk (shut_int Try.underlying3 w2) trodAll_mk0))), rfl, bel.frame _, fun h => by cases h⟩
theorem over_named : Try.pinned.checked.prog.funcNamed Rows.fnExactAddBindRow.func = some 10 := by kernel_rfl
theorem over_closed : joinedFacts Try.pinned.checked.prog 10 Try.f10 Rows.fnExactAddBindSpec Rows.fnExactAddBindRow = true := by kernel_rfl
theorem over_inst : Func.isInstance Try.pinned.checked.prog Try.f10 Rows.fnExactAddBindRow.origin Rows.fnExactAddBindRow.targs := of_decide_eq_true (by kernel_rfl)
theorem over_wrap : Func.isWrapper Try.pinned.checked.prog Try.f10 Rows.fnExactAddBindRow.wrapper Rows.fnExactAddBindRow.mainSum := (by unfold Func.isWrapper; first | (rw [if_pos (by decide +kernel)]; kernel_rfl) | (rw [if_neg (by decide +kernel)]; exact ⟨rfl, rfl⟩))
theorem over : Rows.fnExactAddBindRow.holds Try.pinned (OpenSpec.ofChange Rows.fnExactAddBindSpec) :=
  OpenClaim.holds_of_wide 10 Try.f10 rfl rfl rfl rfl rfl rfl rfl ⟨rfl, rfl, rfl, rfl, rfl⟩ rfl rfl rfl rfl rfl over_named Try.func10 over_closed over_inst over_wrap
    (fun os started H enc _ => lifted os started H enc)
theorem proved : Rows.FnExactAddBindSaid := over
end Go.Proofs.Ytbmpgfojhoganaa.exAddBind
