/- The contract of the model's AddBind. -/
import Derived.Test.YtcckhcedfmadeaaSpecL3
import Derived.Test.YtcckhcedfmadeaaBd
namespace Go.Proofs.Ytcckhcedfmadeaa
open Go.RowKit
set_option linter.unusedVariables false
set_option linter.unusedSimpArgs false
theorem bd_mono {φ ψ : Nat → Prop} {w : World} {v : Value} {l : List Bd} (hm : ∀ k, φ k → ψ k) (h : BdRow φ w v l) : BdRow ψ w v l := by
  obtain ⟨a, cap, rfl, g1, g2, g3, g4⟩ := h
  refine ⟨a, cap, rfl, g1, g2, g3, ?_⟩
  rcases g4 with g4 | ⟨b, off, rfl, g5, g6⟩
  · exact .inl g4
  · refine .inr ⟨b, off, rfl, hm _ g5, fun i hi => ?_⟩
    obtain ⟨sa, scap, c0, c1, c2, hr⟩ := g6 i hi
    exact ⟨sa, scap, c0, c1, c2, hr.mono hm⟩
theorem gen_upto {P : Program} {md : Region.Mode} {ops : Array Oper} {Q : Exit → Act → World → Prop} {S : World → Prop} {L fuel : Nat} {listed : Array Bool} {a : Act} {W : World}
    (h : ∀ W', W' = W → anyUpto P md ops Q S L fuel listed a W') : anyUpto P md ops Q S L fuel listed a W := h W rfl
/-- whether a binding of a name can be added -/
def addB (l : List Bd) (f : Fm) (id : Int) : Bool := bindsB l && isNameB f && bindsB (l ++ [⟨f.name, f.scopes, id⟩])
set_option maxRecDepth 100000 in
set_option maxHeartbeats 4000000 in
theorem specAddBind_any (l : List Bd) (v : Value) (f : Fm) (u : Value) (id : Int) (w : World) (hv : BdRow (· < w.heap.size) w v l) (hsc : ∀ x ∈ l, x.scopes.length ≤ 1048576) (hlen : l.length ≤ 1048576) (hf : InV (· < w.heap.size) w f u) (hsz : f.sz ≤ 1048576)
    (hid : -9223372036854775808 ≤ id ∧ id ≤ 9223372036854775807) (ok : Bool) (R : List Bd) (hok : addB l f id = ok) (hR : (if ok = true then l ++ [⟨f.name, f.scopes, id⟩] else []) = R) :
    Calls Try.prog 40 #[v, u, .int .i64 id] w fun e w' => ∃ pa pc, e = .returned (.tuple #[.slice pa R.length pc, .bool ok]) ∧ BdRow (fun k => w.heap.size ≤ k ∧ k < w'.heap.size) w' (.slice pa R.length pc) R ∧ Below w.heap.size w w' := by
  have HOK := Lib.hid hok
  have HR := Lib.hid hR
  have HV := Lib.hid hv
  have HF := Lib.hid hf
  have HSC := Lib.hid hsc
  have HID := Lib.hid hid
  have hlf : f.scopes.length ≤ 1048576 := Nat.le_trans (sz_scopes f).1 hsz
  have hcf : f.count ≤ 4611686018427387904 := by have := f.count_le; omega
  have hcf2 := f.count_le
  obtain ⟨pa, pcap, rfl, hpc, hpm, hwf, _⟩ := hv
  have HWF := Lib.hid hwf
  have hbd := hf.bounds
  have HWFN : Hid (∀ x ∈ l ++ [(⟨f.name, f.scopes, id⟩ : Bd)], x.wf) := fun x hx => by
    rcases List.mem_append.1 hx with hx | hx
    · exact HWF.out x hx
    · rw [List.mem_singleton] at hx
      subst hx
      exact ⟨hbd.2.2, HID.out⟩
  obtain ⟨sa, scap, a, cap, rfl⟩ := hf.form
  obtain ⟨i0, hi0, hz0, hz1, hz2⟩ := info_parts Try.infoBd3
  obtain ⟨l0, hl0, hlz0, hlz1, hlz2⟩ := info_parts Try.infoInt
  unfold maxLen at hpm
  have hL1 : l.length + 1 ≤ maxLen := by unfold maxLen; omega
  have hL2 : (l.length + 1) * 48 ≤ 140737488355328 := by omega
  have HINT0 : Hid (IntRow (· < w.heap.size) w (.slice sa f.scopes.length scap) f.scopes) := hf.ints
  clear hok hR hf hsc hid hwf hbd
  go_enter Try.func40, Try.ntmps40
  go_wp2_with fail
  have hb0 := below_alloc w (.cells #[.int .i64 f.kind, .string f.name, .int .i64 f.n, .slice sa f.scopes.length scap, .slice a f.kids.length cap] 26)
  refine (specBindsValid_any w.heap.size l _ _ (by simp) (HV.out.later (same_below hb0))).mono ?_
  rintro e w1 ⟨rfl, hb1⟩
  have hs1 : w.heap.size + 1 ≤ w1.heap.size := by have h := hb1.size; simpa using h
  have HX1 := Lib.hid ((FormBox.fresh w f sa a scap cap 26).later hb1)
  have HBN1 : Hid (Below w.heap.size w w1) := hb0.trans (hb1.mono (by simp))
  clear hb1 hb0
  cases hb1 : bindsB l with
  | false =>
    obtain ⟨rfl, rfl⟩ : ok = false ∧ R = [] := by
      have h1 : ok = false := by rw [← HOK.out]; unfold addB; rw [show bindsB l = false from hb1]; simp
      refine ⟨h1, ?_⟩
      rw [← HR.out, h1]; rfl
    go_wp2_with fail
    go_ret2
    exact ⟨some ⟨w1.heap.size, 0, none⟩, 0, rfl, ⟨_, 0, rfl, Nat.le_refl _, Nat.zero_le _, fun x hx => (by cases hx), .inl rfl⟩, HBN1.out.trans ((below_alloc w1 _).mono (by omega))⟩
  | true =>
    have HB1 := Lib.hid hb1
    clear hb1
    obtain ⟨x0, x1, x2, x3, x4⟩ := HX1.out
    go_wp2_with fail
    refine (l3Is_any f _ w1 (InV.mono (fun k (hk : k < w.heap.size) => (by omega : k < w1.heap.size)) _ _ (InV.later (same_below HBN1.out) _ _ HF.out)) (by omega)).mono ?_
    rintro e w2 ⟨rfl, hb2⟩
    have hs2 := hb2.size
    have HX2 := Lib.hid (HX1.out.later hb2)
    have HBN2 : Hid (Below w.heap.size w w2) := HBN1.out.trans (hb2.mono (by omega))
    clear hb2 x0 x1 x2 x3 x4
    rw [show (f.kind == 1 && formB f) = isNameB f from rfl]
    cases hb2 : isNameB f with
    | false =>
      obtain ⟨rfl, rfl⟩ : ok = false ∧ R = [] := by
        have h1 : ok = false := by rw [← HOK.out]; unfold addB; rw [show isNameB f = false from hb2]; simp
        refine ⟨h1, ?_⟩
        rw [← HR.out, h1]; rfl
      go_wp2_with fail
      go_ret2
      exact ⟨some ⟨w2.heap.size, 0, none⟩, 0, rfl, ⟨_, 0, rfl, Nat.le_refl _, Nat.zero_le _, fun x hx => (by cases hx), .inl rfl⟩, HBN2.out.trans ((below_alloc w2 _).mono (by omega))⟩
    | true =>
      have HB2 := Lib.hid hb2
      clear hb2
      obtain ⟨x0, x1, x2, x3, x4⟩ := HX2.out
      go_wp2_with fail
      clear x0 x1 x2 x3 x4
      refine upto_begin (fun WS : World => FormBox WS w.heap.size f sa scap a cap) 13 (by kernel_rfl) ?_
      refine gen_upto (fun w3 hu => ?_)
      have hb3 : Below w2.heap.size w2 w3 := by rw [hu]; exact (Below.refl _ _).drew
      have hs3 := hb3.size
      have hS3 : (fun WS : World => FormBox WS w.heap.size f sa scap a cap) w3 := HX2.out.later hb3
      have HS3 := Lib.hid hS3
      have HBN3 : Hid (Below w.heap.size w w3) := HBN2.out.trans (hb3.mono (by omega))
      have HV3 : Hid (BdRow (· < w.heap.size) w3 (.slice pa l.length pcap) l) := HV.out.later (same_below HBN3.out)
      have HI3 : Hid (IntRow (· < w.heap.size) w3 (.slice sa f.scopes.length scap) f.scopes) := HINT0.out.later (same_below HBN3.out)
      clear hu hb3
      refine upto_take (i := 0) (d := some 18) (v := ?_) rfl rfl (by kernel_rfl) (by kernel_rfl) (by kernel_rfl) (by kernel_rfl) (fun _ _ _ h => h) (Or.inl ⟨by rfl, ?_⟩) hS3 ?_
      rotate_left
      · (intro wS hSw; obtain ⟨_, _, _, _, _⟩ := hSw; go_simp; try with_reducible rfl)
      try simp only [Act.put, List.setIfInBounds_toArray, List.set_cons_zero, List.set_cons_succ]
      refine upto_take (i := 2) (d := some 20) (v := ?_) rfl rfl (by kernel_rfl) (by kernel_rfl) (by kernel_rfl) (by kernel_rfl) (fun _ _ _ h => h) (Or.inl ⟨by rfl, ?_⟩) hS3 ?_
      rotate_left
      · (intro wS hSw; obtain ⟨_, _, _, _, _⟩ := hSw; go_simp; try with_reducible rfl)
      try simp only [Act.put, List.setIfInBounds_toArray, List.set_cons_zero, List.set_cons_succ]
      refine upto_take (i := 3) (d := some 21) (v := ?_) rfl rfl (by kernel_rfl) (by kernel_rfl) (by kernel_rfl) (by kernel_rfl) (fun _ _ _ h => h) (Or.inl ⟨by rfl, ?_⟩) hS3 ?_
      rotate_left
      · (intro wS hSw; obtain ⟨_, _, _, _, _⟩ := hSw; go_simp; try with_reducible rfl)
      try simp only [Act.put, List.setIfInBounds_toArray, List.set_cons_zero, List.set_cons_succ]
      refine upto_take (i := 5) (d := some 23) (v := ?_) rfl rfl (by kernel_rfl) (by kernel_rfl) (by kernel_rfl) (by kernel_rfl) (fun _ _ _ h => h) (Or.inl ⟨by rfl, ?_⟩) hS3 ?_
      rotate_left
      · (intro wS hSw; obtain ⟨_, _, _, _, _⟩ := hSw; go_simp; try with_reducible rfl)
      try simp only [Act.put, List.setIfInBounds_toArray, List.set_cons_zero, List.set_cons_succ]
      refine upto_take (i := 6) (d := some 24) (v := ?_) rfl rfl (by kernel_rfl) (by kernel_rfl) (by kernel_rfl) (by kernel_rfl) (fun _ _ _ h => h) (Or.inl ⟨by rfl, ?_⟩) hS3 ?_
      rotate_left
      · (intro wS hSw; obtain ⟨_, _, _, _, _⟩ := hSw; go_simp; try with_reducible rfl)
      try simp only [Act.put, List.setIfInBounds_toArray, List.set_cons_zero, List.set_cons_succ]
      refine upto_take (i := 8) (d := some 26) (v := ?_) rfl rfl (by kernel_rfl) (by kernel_rfl) (by kernel_rfl) (by kernel_rfl) (fun _ _ _ h => h) (Or.inl ⟨by rfl, ?_⟩) hS3 ?_
      rotate_left
      · (intro wS hSw; obtain ⟨_, _, _, _, _⟩ := hSw; go_simp; try with_reducible rfl)
      try simp only [Act.put, List.setIfInBounds_toArray, List.set_cons_zero, List.set_cons_succ]
      clear hS3
      refine upto_two (i := 1) (j := 4) (by kernel_rfl) rfl rfl (fun K hK => ?_) (fun K hK => ?_)
      · go_simp
        refine (l3Copy_any w.heap.size l _ w3 (by omega) HV3.out HSC.out hlen).mono ?_
        rintro e w4 ⟨vc, xsc, rfl, hmid, hbc⟩
        have hs4 := hbc.size
        have HS4 := Lib.hid (HS3.out.later hbc)
        have HMID4 : Hid (BdMid 89 (w.heap.size + 1) w4 l vc xsc) := hmid.lower (by omega)
        have hvlt : ∀ k, vc.ownBlock = some k → w3.heap.size ≤ k ∧ k < w4.heap.size := fun k e => hmid.own.lt k e
        have HB4 : Hid (Below w.heap.size w w4) := HBN3.out.trans (hbc.mono (by omega))
        refine hK.out _ _ (.inr HS4.out) ?_
        clear hK K hmid hbc
        refine upto_one (i := 4) (by kernel_rfl) rfl (fun K hK => ?_)
        go_simp
        have hbe := below_alloc w4 (Obj.cells #[] 3)
        have hownE : (w4.alloc (Obj.cells #[] 3)).ownsRow (w.heap.size + 1) 3 1 (.slice (some ⟨w4.heap.size, 0, none⟩) 0 0) 0 [] := World.ownsRow_lit (base := w.heap.size + 1) (e := 3) (size := 1) w4 #[] 0 (by omega) (by unfold maxLen; omega) (by simp)
        refine hK.out _ _ (.inr (HS4.out.later hbe)) ?_
        clear hK K
        refine upto_one (i := 7) (by kernel_rfl) rfl (fun K hK => ?_)
        rw [if_pos (show Region.wanted _ _ = true by simp [Region.wanted])]
        refine wp_append_ints2 (.tmp 22) (.tmp 24) 23 3 rfl l0 Try.underlying23 hl0 hlz0 hlz1 hlz2 (w.heap.size + 1) w4.heap.size f.scopes sa scap (· < w.heap.size) (by rfl) (by rfl) (HINT0.out.later (same_below (HB4.out.trans (hbe.mono (by omega))))) hlf hownE (by simp; omega) ?_
        intro sa2 scap2 W hg5 hi5 hq5
        have hsW := hg5.size
        rw [size_alloc'] at hsW
        have HSW : Hid (FormBox W w.heap.size f sa scap a cap) := by
          obtain ⟨s0, s1, s2, s3, s4⟩ := HS4.out.later hbe
          have hbb : W.heap[w.heap.size]? = (w4.alloc (Obj.cells #[] 3)).heap[w.heap.size]? := hg5.block _ (by simp; omega) (by simp; omega)
          exact ⟨(World.cell?_of_block (a := ⟨w.heap.size, 0, none⟩) hbb).trans s0, (World.cell?_of_block (a := ⟨w.heap.size, 1, none⟩) hbb).trans s1, (World.cell?_of_block (a := ⟨w.heap.size, 2, none⟩) hbb).trans s2, (World.cell?_of_block (a := ⟨w.heap.size, 3, none⟩) hbb).trans s3, (World.cell?_of_block (a := ⟨w.heap.size, 4, none⟩) hbb).trans s4⟩
        have HMID : Hid (BdMid 89 (w.heap.size + 1) W l vc xsc) := HMID4.out.keep (fun k _ hk => (hg5.block k (by simp; omega) (by simp; omega)).trans (hbe.block k hk)) (by omega)
        have HINT : Hid (IntRow (fun k => w.heap.size + 1 ≤ k ∧ k < W.heap.size ∧ vc.ownBlock ≠ some k) W (.slice sa2 f.scopes.length scap2) f.scopes) := hi5.mono fun k hk => ⟨by rcases hk.1 with h | h <;> (try simp at h) <;> omega, hk.2, fun e => by have := hvlt k e; rcases hk.1 with h | h <;> (try simp at h) <;> omega⟩
        have HBW : Hid (Below w.heap.size w W) := (HB4.out.trans (hbe.mono (by omega))).grown hg5 (by simp; omega) (fun k hk => by simp at hk; omega)
        refine hK.out _ _ (.inr HSW.out) ?_
        clear hK K hbe hownE hg5 hi5 hq5 HMID4 HS4 HB4
        obtain ⟨vca, vcc, rfl⟩ : ∃ va vcc, vc = .slice va l.length vcc := by
          rcases HMID.out.own.2 with ⟨h, h0⟩ | ⟨g, cp, _, h, _⟩
          · exact ⟨none, 0, by rw [h, h0]⟩
          · exact ⟨_, cp, h⟩
        have hownT := HMID.out.own
        refine upto_one (i := 9) (by kernel_rfl) rfl (fun K hK => ?_)
        go_simp
        refine hK.out _ _ (.inr HSW.out) ?_
        clear hK K
        refine upto_one (i := 10) (by kernel_rfl) rfl (fun K hK => ?_)
        go_simp
        have hbT := below_alloc W (.cells #[.string f.name, .slice sa2 f.scopes.length scap2, .int .i64 id] 89)
        refine hK.out _ _ (.inr (HSW.out.later hbT)) ?_
        clear hK K
        refine upto_oper (i := 11) ⟨some 29, .call { callee := .builtin .append, args := #[.tmp 19, .tmp 28], argTypes := #[38, 38] }, 38, _, _, _⟩ (by kernel_rfl) rfl rfl (fun K hK => ?_)
        refine wp_append_lies _ (.tmp 19) (.tmp 28) 38 rfl (w.heap.size + 1) 89 i0 _ 3 48 Try.underlying38 hi0 hz0 hz1 hz2 rfl (by omega) _ l.length xsc (by rfl) (hownT.alloc _)
          ⟨W.heap.size, 0, none⟩ 1 1 [.string f.name, .slice sa2 f.scopes.length scap2, .int .i64 id] (by rfl) (by rfl) (World.news_of_block (cs := #[.string f.name, .slice sa2 f.scopes.length scap2, .int .i64 id]) (t := 89) (fr := (0, 0)) (heap_alloc_new W _)) (by simp [Value.oneCell'])
          (by omega) hL1 hL2 (by simp; omega) (W.heap.size + 1) (by simp) ?_
        intro gq qd w7 hown7 hgrow7 hat7 hlt7
        have hs7 := hgrow7.size
        rw [size_alloc'] at hs7
        have hbox7 : FormBox w7 w.heap.size f sa scap a cap := by
          obtain ⟨s0, s1, s2, s3, s4⟩ := HSW.out.later hbT
          have hbb : w7.heap[w.heap.size]? = (W.alloc (.cells #[.string f.name, .slice sa2 f.scopes.length scap2, .int .i64 id] 89)).heap[w.heap.size]? := hgrow7.block _ (by simp; omega) (fun e => by have := HMID.out.own.lt _ e.symm; omega)
          exact ⟨(World.cell?_of_block (a := ⟨w.heap.size, 0, none⟩) hbb).trans s0, (World.cell?_of_block (a := ⟨w.heap.size, 1, none⟩) hbb).trans s1, (World.cell?_of_block (a := ⟨w.heap.size, 2, none⟩) hbb).trans s2, (World.cell?_of_block (a := ⟨w.heap.size, 3, none⟩) hbb).trans s3, (World.cell?_of_block (a := ⟨w.heap.size, 4, none⟩) hbb).trans s4⟩
        have hm7 : BdMid 89 (w.heap.size + 1) w7 (l ++ [⟨f.name, f.scopes, id⟩]) (.slice (some ⟨gq, 0, none⟩) (l.length + 1) qd) (xsc ++ [.string f.name, .slice sa2 f.scopes.length scap2, .int .i64 id]) :=
          HMID.out.step (x := ⟨f.name, f.scopes, id⟩) (sa := sa2) (scap := scap2) (w2 := W.alloc (.cells #[.string f.name, .slice sa2 f.scopes.length scap2, .int .i64 id] 89)) (by omega) (fun k _ hk => hbT.block k hk) (by simp) ((HINT.out.later (Same.of_below hbT fun k hk => hk.2.1)).mono fun k hk => ⟨hk.1, by simp; omega, hk.2.2⟩) hown7 hgrow7 (hat7.imp (fun h => h) (fun h => by rw [size_alloc']; exact h))
        have hb7 : Below w.heap.size w w7 := (HBW.out.trans (hbT.mono (by omega))).grown hgrow7 (by simp; omega) (fun k hk => by have := HMID.out.own.lt k hk; omega)
        have HR7 : Hid (BdRow (fun k => w.heap.size ≤ k ∧ k < w7.heap.size) w7 (.slice (some ⟨gq, 0, none⟩) (l.length + 1) qd) (l ++ [⟨f.name, f.scopes, id⟩])) := by
          have h := hm7.ends HWFN.out
          obtain ⟨a1, c1, e1, e2, e3, e4, e5⟩ := h
          refine ⟨a1, c1, e1, e2, e3, e4, ?_⟩
          rcases e5 with e5 | ⟨b5, o5, e6, e7, e8⟩
          · exact .inl e5
          · exact .inr ⟨b5, o5, e6, ⟨by omega, e7.2⟩, fun i hi => by obtain ⟨sa, scap, c0, c1, c2, hr⟩ := e8 i hi; exact ⟨sa, scap, c0, c1, c2, hr.mono fun k hk => ⟨by omega, hk.2⟩⟩⟩
        have HB7 := Lib.hid hb7
        refine hK.out _ _ (.inr hbox7) ?_
        clear hK K
        refine upto_one (i := 12) (by kernel_rfl) rfl (fun K hK => ?_)
        go_simp
        refine hK.out _ _ (.inr hbox7) ?_
        clear hK K hownT hbT hown7 hgrow7 hat7 hm7 hb7 hbox7
        refine upto_done (by kernel_rfl) ?_ _
        go_wp2_with fail
        refine (specBindsValid_any w7.heap.size (l ++ [⟨f.name, f.scopes, id⟩]) _ w7 (Nat.le_refl _) (bd_mono (φ := fun k => w.heap.size ≤ k ∧ k < w7.heap.size) (fun k hk => hk.2) HR7.out)).mono ?_
        rintro e w8 ⟨rfl, hb8⟩
        have hs8 := hb8.size
        have HB8 : Hid (Below w.heap.size w w8) := HB7.out.trans (hb8.mono (by omega))
        have HR8 : Hid (BdRow (fun k => w.heap.size ≤ k ∧ k < w8.heap.size) w8 (.slice (some ⟨gq, 0, none⟩) (l.length + 1) qd) (l ++ [⟨f.name, f.scopes, id⟩])) := bd_mono (φ := fun k => w.heap.size ≤ k ∧ k < w7.heap.size) (fun k hk => ⟨hk.1, by have := hk.2; omega⟩) (HR7.out.later (Same.of_below hb8 fun k hk => hk.2))
        clear hb8
        cases hb3 : bindsB (l ++ [⟨f.name, f.scopes, id⟩]) with
        | false =>
          obtain ⟨rfl, rfl⟩ : ok = false ∧ R = [] := by
            have h1 : ok = false := by rw [← HOK.out]; unfold addB; rw [hb3]; simp
            refine ⟨h1, ?_⟩
            rw [← HR.out, h1]; rfl
          clear hb3
          go_wp2_with fail
          go_ret2
          exact ⟨some ⟨w8.heap.size, 0, none⟩, 0, rfl, ⟨_, 0, rfl, Nat.le_refl _, Nat.zero_le _, fun x hx => (by cases hx), .inl rfl⟩, HB8.out.trans ((below_alloc w8 _).mono (by omega))⟩
        | true =>
          obtain ⟨rfl, rfl⟩ : ok = true ∧ l ++ [⟨f.name, f.scopes, id⟩] = R := by
            have h1 : ok = true := by rw [← HOK.out]; unfold addB; rw [HB1.out, HB2.out, hb3]; rfl
            refine ⟨h1, ?_⟩
            rw [← HR.out, h1]; rfl
          clear hb3
          go_wp2_with fail
          go_ret2
          refine ⟨some ⟨gq, 0, none⟩, qd, by rw [List.length_append, List.length_singleton]; rfl, ?_, HB8.out⟩
          rw [List.length_append, List.length_singleton]
          exact HR8.out
      · go_simp
        have hbe := below_alloc w3 (Obj.cells #[] 3)
        have hownE : (w3.alloc (Obj.cells #[] 3)).ownsRow (w.heap.size + 1) 3 1 (.slice (some ⟨w3.heap.size, 0, none⟩) 0 0) 0 [] := World.ownsRow_lit (base := w.heap.size + 1) (e := 3) (size := 1) w3 #[] 0 (by omega) (by unfold maxLen; omega) (by simp)
        refine hK.out _ _ (.inr (HS3.out.later hbe)) ?_
        clear hK K
        refine upto_one (i := 1) (by kernel_rfl) rfl (fun K hK => ?_)
        go_simp
        have hb3e : Below w.heap.size w (w3.alloc (Obj.cells #[] 3)) := HBN3.out.trans (hbe.mono (by omega))
        refine (l3Copy_any w.heap.size l _ (w3.alloc (Obj.cells #[] 3)) (by simp; omega) (HV.out.later (same_below hb3e)) HSC.out hlen).mono ?_
        rintro e w4 ⟨vc, xsc, rfl, hmid, hbc⟩
        have hs4 := hbc.size
        rw [size_alloc'] at hs4
        have HS4 := Lib.hid ((HS3.out.later hbe).later hbc)
        have hvlt : ∀ k, vc.ownBlock = some k → w3.heap.size + 1 ≤ k ∧ k < w4.heap.size := fun k e => by have h := hmid.own.lt k e; rw [size_alloc'] at h; exact h
        have HMID4 : Hid (BdMid 89 (w3.heap.size + 1) w4 l vc xsc) := hmid.lower (by simp)
        have HB4 : Hid (Below w.heap.size w w4) := hb3e.trans (hbc.mono (by simp; omega))
        have hownE4 : w4.ownsRow (w.heap.size + 1) 3 1 (.slice (some ⟨w3.heap.size, 0, none⟩) 0 0) 0 [] := ownsRow_same hownE fun k e => hbc.block k (by simp [Value.ownBlock] at e; simp; omega)
        refine hK.out _ _ (.inr HS4.out) ?_
        clear hK K hmid hbc hb3e
        refine upto_one (i := 7) (by kernel_rfl) rfl (fun K hK => ?_)
        rw [if_pos (show Region.wanted _ _ = true by simp [Region.wanted])]
        refine wp_append_ints2 (.tmp 22) (.tmp 24) 23 3 rfl l0 Try.underlying23 hl0 hlz0 hlz1 hlz2 (w.heap.size + 1) w3.heap.size f.scopes sa scap (· < w.heap.size) (by rfl) (by rfl) (HINT0.out.later (same_below HB4.out)) hlf hownE4 (by omega) ?_
        intro sa2 scap2 W hg5 hi5 hq5
        have hsW := hg5.size
        have HSW : Hid (FormBox W w.heap.size f sa scap a cap) := by
          obtain ⟨s0, s1, s2, s3, s4⟩ := HS4.out
          have hbb : W.heap[w.heap.size]? = w4.heap[w.heap.size]? := hg5.block _ (by omega) (by simp; omega)
          exact ⟨(World.cell?_of_block (a := ⟨w.heap.size, 0, none⟩) hbb).trans s0, (World.cell?_of_block (a := ⟨w.heap.size, 1, none⟩) hbb).trans s1, (World.cell?_of_block (a := ⟨w.heap.size, 2, none⟩) hbb).trans s2, (World.cell?_of_block (a := ⟨w.heap.size, 3, none⟩) hbb).trans s3, (World.cell?_of_block (a := ⟨w.heap.size, 4, none⟩) hbb).trans s4⟩
        have HMID : Hid (BdMid 89 (w.heap.size + 1) W l vc xsc) := (HMID4.out.keep (fun k hk1 hk => hg5.block k hk (by simp; omega)) (by omega)).lower (by omega)
        have HINT : Hid (IntRow (fun k => w.heap.size + 1 ≤ k ∧ k < W.heap.size ∧ vc.ownBlock ≠ some k) W (.slice sa2 f.scopes.length scap2) f.scopes) := hi5.mono fun k hk => ⟨by rcases hk.1 with h | h <;> omega, hk.2, fun e => by have := hvlt k e; rcases hk.1 with h | h <;> omega⟩
        have HBW : Hid (Below w.heap.size w W) := HB4.out.grown hg5 (by omega) (fun k hk => by simp at hk; omega)
        refine hK.out _ _ (.inr HSW.out) ?_
        clear hK K hownE4 hg5 hi5 hq5 HMID4 HS4 HB4
        obtain ⟨vca, vcc, rfl⟩ : ∃ va vcc, vc = .slice va l.length vcc := by
          rcases HMID.out.own.2 with ⟨h, h0⟩ | ⟨g, cp, _, h, _⟩
          · exact ⟨none, 0, by rw [h, h0]⟩
          · exact ⟨_, cp, h⟩
        have hownT := HMID.out.own
        refine upto_one (i := 9) (by kernel_rfl) rfl (fun K hK => ?_)
        go_simp
        refine hK.out _ _ (.inr HSW.out) ?_
        clear hK K
        refine upto_one (i := 10) (by kernel_rfl) rfl (fun K hK => ?_)
        go_simp
        have hbT := below_alloc W (.cells #[.string f.name, .slice sa2 f.scopes.length scap2, .int .i64 id] 89)
        refine hK.out _ _ (.inr (HSW.out.later hbT)) ?_
        clear hK K
        refine upto_oper (i := 11) ⟨some 29, .call { callee := .builtin .append, args := #[.tmp 19, .tmp 28], argTypes := #[38, 38] }, 38, _, _, _⟩ (by kernel_rfl) rfl rfl (fun K hK => ?_)
        refine wp_append_lies _ (.tmp 19) (.tmp 28) 38 rfl (w.heap.size + 1) 89 i0 _ 3 48 Try.underlying38 hi0 hz0 hz1 hz2 rfl (by omega) _ l.length xsc (by rfl) (hownT.alloc _)
          ⟨W.heap.size, 0, none⟩ 1 1 [.string f.name, .slice sa2 f.scopes.length scap2, .int .i64 id] (by rfl) (by rfl) (World.news_of_block (cs := #[.string f.name, .slice sa2 f.scopes.length scap2, .int .i64 id]) (t := 89) (fr := (0, 0)) (heap_alloc_new W _)) (by simp [Value.oneCell'])
          (by omega) hL1 hL2 (by simp; omega) (W.heap.size + 1) (by simp) ?_
        intro gq qd w7 hown7 hgrow7 hat7 hlt7
        have hs7 := hgrow7.size
        rw [size_alloc'] at hs7
        have hbox7 : FormBox w7 w.heap.size f sa scap a cap := by
          obtain ⟨s0, s1, s2, s3, s4⟩ := HSW.out.later hbT
          have hbb : w7.heap[w.heap.size]? = (W.alloc (.cells #[.string f.name, .slice sa2 f.scopes.length scap2, .int .i64 id] 89)).heap[w.heap.size]? := hgrow7.block _ (by simp; omega) (fun e => by have := HMID.out.own.lt _ e.symm; omega)
          exact ⟨(World.cell?_of_block (a := ⟨w.heap.size, 0, none⟩) hbb).trans s0, (World.cell?_of_block (a := ⟨w.heap.size, 1, none⟩) hbb).trans s1, (World.cell?_of_block (a := ⟨w.heap.size, 2, none⟩) hbb).trans s2, (World.cell?_of_block (a := ⟨w.heap.size, 3, none⟩) hbb).trans s3, (World.cell?_of_block (a := ⟨w.heap.size, 4, none⟩) hbb).trans s4⟩
        have hm7 : BdMid 89 (w.heap.size + 1) w7 (l ++ [⟨f.name, f.scopes, id⟩]) (.slice (some ⟨gq, 0, none⟩) (l.length + 1) qd) (xsc ++ [.string f.name, .slice sa2 f.scopes.length scap2, .int .i64 id]) :=
          HMID.out.step (x := ⟨f.name, f.scopes, id⟩) (sa := sa2) (scap := scap2) (w2 := W.alloc (.cells #[.string f.name, .slice sa2 f.scopes.length scap2, .int .i64 id] 89)) (by omega) (fun k _ hk => hbT.block k hk) (by simp) ((HINT.out.later (Same.of_below hbT fun k hk => hk.2.1)).mono fun k hk => ⟨hk.1, by simp; omega, hk.2.2⟩) hown7 hgrow7 (hat7.imp (fun h => h) (fun h => by rw [size_alloc']; exact h))
        have hb7 : Below w.heap.size w w7 := (HBW.out.trans (hbT.mono (by omega))).grown hgrow7 (by simp; omega) (fun k hk => by have := HMID.out.own.lt k hk; omega)
        have HR7 : Hid (BdRow (fun k => w.heap.size ≤ k ∧ k < w7.heap.size) w7 (.slice (some ⟨gq, 0, none⟩) (l.length + 1) qd) (l ++ [⟨f.name, f.scopes, id⟩])) := by
          have h := hm7.ends HWFN.out
          obtain ⟨a1, c1, e1, e2, e3, e4, e5⟩ := h
          refine ⟨a1, c1, e1, e2, e3, e4, ?_⟩
          rcases e5 with e5 | ⟨b5, o5, e6, e7, e8⟩
          · exact .inl e5
          · exact .inr ⟨b5, o5, e6, ⟨by omega, e7.2⟩, fun i hi => by obtain ⟨sa, scap, c0, c1, c2, hr⟩ := e8 i hi; exact ⟨sa, scap, c0, c1, c2, hr.mono fun k hk => ⟨by omega, hk.2⟩⟩⟩
        have HB7 := Lib.hid hb7
        refine hK.out _ _ (.inr hbox7) ?_
        clear hK K
        refine upto_one (i := 12) (by kernel_rfl) rfl (fun K hK => ?_)
        go_simp
        refine hK.out _ _ (.inr hbox7) ?_
        clear hK K hownT hbT hown7 hgrow7 hat7 hm7 hb7 hbox7
        refine upto_done (by kernel_rfl) ?_ _
        go_wp2_with fail
        refine (specBindsValid_any w7.heap.size (l ++ [⟨f.name, f.scopes, id⟩]) _ w7 (Nat.le_refl _) (bd_mono (φ := fun k => w.heap.size ≤ k ∧ k < w7.heap.size) (fun k hk => hk.2) HR7.out)).mono ?_
        rintro e w8 ⟨rfl, hb8⟩
        have hs8 := hb8.size
        have HB8 : Hid (Below w.heap.size w w8) := HB7.out.trans (hb8.mono (by omega))
        have HR8 : Hid (BdRow (fun k => w.heap.size ≤ k ∧ k < w8.heap.size) w8 (.slice (some ⟨gq, 0, none⟩) (l.length + 1) qd) (l ++ [⟨f.name, f.scopes, id⟩])) := bd_mono (φ := fun k => w.heap.size ≤ k ∧ k < w7.heap.size) (fun k hk => ⟨hk.1, by have := hk.2; omega⟩) (HR7.out.later (Same.of_below hb8 fun k hk => hk.2))
        clear hb8
        cases hb3 : bindsB (l ++ [⟨f.name, f.scopes, id⟩]) with
        | false =>
          obtain ⟨rfl, rfl⟩ : ok = false ∧ R = [] := by
            have h1 : ok = false := by rw [← HOK.out]; unfold addB; rw [hb3]; simp
            refine ⟨h1, ?_⟩
            rw [← HR.out, h1]; rfl
          clear hb3
          go_wp2_with fail
          go_ret2
          exact ⟨some ⟨w8.heap.size, 0, none⟩, 0, rfl, ⟨_, 0, rfl, Nat.le_refl _, Nat.zero_le _, fun x hx => (by cases hx), .inl rfl⟩, HB8.out.trans ((below_alloc w8 _).mono (by omega))⟩
        | true =>
          obtain ⟨rfl, rfl⟩ : ok = true ∧ l ++ [⟨f.name, f.scopes, id⟩] = R := by
            have h1 : ok = true := by rw [← HOK.out]; unfold addB; rw [HB1.out, HB2.out, hb3]; rfl
            refine ⟨h1, ?_⟩
            rw [← HR.out, h1]; rfl
          clear hb3
          go_wp2_with fail
          go_ret2
          refine ⟨some ⟨gq, 0, none⟩, qd, by rw [List.length_append, List.length_singleton]; rfl, ?_, HB8.out⟩
          rw [List.length_append, List.length_singleton]
          exact HR8.out
end Go.Proofs.Ytcckhcedfmadeaa
