/- For every two forms, valid or not, the two forms dressed like a name agree, with the same flags, the program's leaves its arguments as they were and shares no memory: the law FnExactDressLike returns true, whatever the input, with no condition beyond the statement's own. -/
import Derived.Test.YtilbjlngnpmhcaaRows
import Derived.Test.YtilbjlngnpmhcaaSpecDress
import Derived.Test.YtilbjlngnpmhcaaImplDress
import Derived.Test.YtilbjlngnpmhcaaUpto
import Derived.Test.YtilbjlngnpmhcaaApp
import Derived.Test.YtilbjlngnpmhcaaSz
import Derived.Test.YtilbjlngnpmhcaaTo
import Derived.Test.YtilbjlngnpmhcaaEq
import Derived.Test.YtilbjlngnpmhcaaBox
import Derived.Test.YtilbjlngnpmhcaaOpen
import Derived.Test.YtilbjlngnpmhcaaMark2
namespace Go.Proofs.Ytilbjlngnpmhcaa.exDressLike
open Go.ChangeShapes Go.WideShapes Go.ChangeAt Go.RowKit
open Go.ChangeMaps (open_string shut_string)
set_option linter.unusedVariables false
set_option linter.unusedSimpArgs false
theorem left2 (f g : Fm) : (leftOf 1048576 f.sz < 0) ∨ (f.sz ≤ 1048576 ∧ leftOf 1048576 f.sz = 1048576 - f.sz) := by
  unfold leftOf
  by_cases h : (f.sz : Int) ≤ 1048576
  · rw [if_pos h]; exact .inr ⟨by omega, rfl⟩
  · rw [if_neg h]; exact .inl (by omega)
theorem left3 (n m : Nat) (h : n ≤ 1048576) : (leftOf (1048576 - n) m < 0) ∨ (n + m ≤ 1048576 ∧ 0 ≤ leftOf (1048576 - n) m) := by
  unfold leftOf
  by_cases h : (m : Int) ≤ 1048576 - n
  · rw [if_pos h]; exact .inr ⟨by omega, by omega⟩
  · rw [if_neg h]; exact .inl (by omega)
/-- what follows a drawn region, stated by the first way through it -/
theorem cut_later {A : Prop} {F G : Nat → Option Addr → Nat → Option Addr → Nat → Option Addr → Nat → Option Addr → Nat → Option Addr → Nat → Option Addr → Nat → World → Prop}
    (h1 : (∀ z a b c d e f g h i j k l W, F z a b c d e f g h i j k l W → G z a b c d e f g h i j k l W) → A)
    (h2 : ∀ z a b c d e f g h i j k l W, F z a b c d e f g h i j k l W → G z a b c d e f g h i j k l W) : A := h1 h2
theorem two_only {bs : List Nat} {b c : Nat} {f g : Fm} {sa a sa' a' : Option Addr} {scap cap scap' cap' : Nat} {w w' : World} (h : TwoBox b c f g sa a sa' a' scap cap scap' cap' w) (ho : Only bs w w') (h1 : b ∉ bs) (h2 : c ∉ bs) :
    TwoBox b c f g sa a sa' a' scap cap scap' cap' w' := ⟨h.1.only ho h1, h.2.only ho h2⟩
theorem gen_any {P : Program} {md : Region.Mode} {ops : Array Oper} {Q : Exit → Act → World → Prop} {S : World → Prop} {L fuel : Nat} {listed : Array Bool} {a : Act} {W : World}
    (h : ∀ W', W' = W → anyUpto P md ops Q S L fuel listed a W') : anyUpto P md ops Q S L fuel listed a W := h W rfl
theorem gen_world {K : Act → World → Prop} {a : Act} {W : World} (h : ∀ W', W' = W → K a W') : K a W := h W rfl
mutual
theorem marks_sz : ∀ f : Fm, f.marks ≤ 3 * f.sz
  | .mk _ _ _ sc ks => by
    have := marksAll_sz ks
    simp only [Fm.marks, Fm.sz] at *
    omega
theorem marksAll_sz : ∀ ks : List Fm, marksAll ks ≤ 3 * szAll ks
  | [] => by simp [marksAll, szAll]
  | f :: r => by
    have h1 := marks_sz f
    have h2 := marksAll_sz r
    cases f with
    | mk kd nm n sc ks =>
      simp only [marksAll, szAll, Fm.marks, Fm.sz] at *
      omega
end
theorem marksAll_count : ∀ (ks : List Fm), (∀ y ∈ ks, y.marks + 3 ≤ 27 * y.count) → marksAll ks ≤ 27 * countAll ks
  | [], _ => by simp [marksAll]
  | f :: r, h => by
    have h1 := h f (by simp)
    have h2 := marksAll_count r fun y hy => h y (by simp [hy])
    simp only [marksAll, countAll] at *
    omega
theorem marks_count (f : Fm) : ∀ d, isB d f = true → f.marks + 3 ≤ 27 * f.count := by
  induction f using Fm.ind with
  | h k nm n sc ks ih =>
    intro d hd
    obtain ⟨h1, _, h3⟩ := isB_node hd
    have h4 := marksAll_count ks fun y hy => by obtain ⟨d', hd'⟩ := h3 y hy; exact ih y hy d' hd'
    have h5 := scopes_length h1
    simp only [Fm.marks, Fm.count] at *
    omega
theorem marks_valid {f : Fm} (h : formB f = true) : f.marks ≤ 10800 := by
  have h1 := marks_count f 40 (formB_isB h)
  unfold formB at h
  rw [Bool.and_eq_true, decide_eq_true_eq] at h
  omega
/-- the two ways to dress a form -/
theorem dress_both (f g : Fm) : dressB f g = (isNameB g && redB (fun own given => uniqL (own ++ given)) g.scopes f) ∧
    (dressB f g = true → f.chg (dressW g.scopes) = f.chg (dressF (fun own given => uniqL (own ++ given)) g.scopes) ∧ formB (f.chg (dressW g.scopes)) = true) := by
  constructor
  · unfold dressB isNameB redB
    cases hf : formB f with
    | false => simp
    | true =>
      cases hg : formB g with
      | false => simp
      | true =>
        rw [dress_same f hf, name_scopes hg]
        simp
  · intro h
    unfold dressB at h
    rw [Bool.and_eq_true, Bool.and_eq_true, Bool.and_eq_true] at h
    exact ⟨dress_same f h.1, h.2.2.2⟩
set_option maxRecDepth 100000 in
set_option maxHeartbeats 4000000 in
theorem walk (w : World) (f : Fm) (v : Value) (hv : InV (· < w.heap.size) w f v) (g : Fm) (u : Value) (hu : InV (· < w.heap.size) w g u) :
    Calls Try.prog 10 #[v, u] w fun e w' => e = .returned (.bool true) ∧ Below w.heap.size w w' := by
  have HV := Lib.hid hv
  have HV2 := Lib.hid hu
  obtain ⟨sa, scap, a, cap, rfl⟩ := hv.form
  obtain ⟨sa', scap', a', cap', rfl⟩ := hu.form
  clear hv hu
  have hcf := f.count_le
  have hcg := g.count_le
  have HA0 : Hid (Below w.heap.size w ((w.alloc (.cells #[.int .i64 f.kind, .string f.name, .int .i64 f.n, .slice sa f.scopes.length scap, .slice a f.kids.length cap] 25)).alloc
      (.cells #[.int .i64 g.kind, .string g.name, .int .i64 g.n, .slice sa' g.scopes.length scap', .slice a' g.kids.length cap'] 25))) := (below_alloc w _).alloc (by simp) _
  go_enter Try.func10, Try.ntmps10
  go_wp2_with fail
  refine (szForm_any w.heap.size f _ _ 1048576 (by simp; omega) (InV.later (same_below HA0.out) _ _ HV.out) (by omega)).mono ?_
  rintro e w1 ⟨rfl, hb1⟩
  obtain ⟨x0, x1, x2, x3, x4⟩ := ((FormBox.fresh w f sa a scap cap 25).later (below_alloc _ _)).later hb1
  have hz := (FormBox.fresh (w.alloc (.cells #[.int .i64 f.kind, .string f.name, .int .i64 f.n, .slice sa f.scopes.length scap, .slice a f.kids.length cap] 25)) g sa' a' scap' cap' 25).later hb1
  rw [size_alloc'] at hz
  obtain ⟨y0, y1, y2, y3, y4⟩ := hz
  have hs1 : w.heap.size + 2 ≤ w1.heap.size := by have := hb1.size; simpa using this
  have HB1 : Hid (Below w.heap.size w w1) := HA0.out.trans (hb1.mono (by simp; omega))
  clear hb1
  rcases left2 f g with hl | ⟨hsf, hl⟩
  · go_wp2_with fail
    go_ret
    exact ⟨rfl, HB1.out⟩
  · rw [hl]
    clear hl
    have hp1 : 0 ≤ (1048576 : Int) - f.sz := by omega
    go_wp2_with fail
    refine (szForm_any w.heap.size g _ _ (1048576 - f.sz) (by omega) (InV.later (same_below HB1.out) _ _ HV2.out) (by omega)).mono ?_
    rintro e w2 ⟨rfl, hb2⟩
    have hs2 := hb2.size
    obtain ⟨x0, x1, x2, x3, x4⟩ := FormBox.later (f := f) ⟨x0, x1, x2, x3, x4⟩ hb2
    obtain ⟨y0, y1, y2, y3, y4⟩ := FormBox.later (f := g) ⟨y0, y1, y2, y3, y4⟩ hb2
    have HB2 : Hid (Below w.heap.size w w2) := HB1.out.trans (hb2.mono (by omega))
    clear hb2
    rcases left3 f.sz g.sz hsf with hl | ⟨hsg, hl⟩
    · go_wp2_with fail
      go_ret
      exact ⟨rfl, HB2.out⟩
    · have hszf : f.sz ≤ 1048576 := hsf
      have hszg : g.sz ≤ 1048576 := by omega
      have HM : Hid (f.marks + g.marks ≤ 3145728) := by have h1 := marks_sz f; have h2 := marks_sz g; unfold Hid; omega
      obtain ⟨ok, hok⟩ : ∃ ok, (isNameB g && redB (fun own given => uniqL (own ++ given)) g.scopes f) = ok := ⟨_, rfl⟩
      obtain ⟨F, hF⟩ : ∃ F, (if ok = true then f.chg (dressF (fun own given => uniqL (own ++ given)) g.scopes) else zeroForm) = F := ⟨_, rfl⟩
      have hone := dress_both f g
      have HOKS : Hid (dressB f g = ok) := hone.1.trans hok
      have HRS : Hid ((if ok = true then f.chg (dressW g.scopes) else zeroForm) = F) := by
        unfold Hid
        rw [← hF]
        cases ok with
        | false => rfl
        | true => rw [if_pos rfl, if_pos rfl]; exact (hone.2 HOKS.out).1
      have HMF : Hid (F.marks ≤ 10800) := by
        unfold Hid
        rw [← hF]
        cases ok with
        | false => simp [zeroForm, Fm.marks, marksAll]
        | true => rw [if_pos rfl, ← (hone.2 HOKS.out).1]; exact marks_valid (hone.2 HOKS.out).2
      have HOKI := Lib.hid hok
      have HRI := Lib.hid hF
      clear hok hF hone
      have HT : Hid (TwoBox w.heap.size (w.heap.size + 1) f g sa a sa' a' scap cap scap' cap' w2) := ⟨⟨x0, x1, x2, x3, x4⟩, ⟨y0, y1, y2, y3, y4⟩⟩
      clear x0 x1 x2 x3 x4 y0 y1 y2 y3 y4
      go_wp2_with fail
      apply cut_later (F := fun zb xa xb xc xd ya yb yc yd ra rb rc rd W => Below w2.heap.size w2 W ∧ w2.heap.size ≤ zb ∧ zb < W.heap.size ∧ FormBox W zb F ra rb rc rd ∧ InV (fun k => w2.heap.size ≤ k ∧ k < W.heap.size ∧ k ≠ zb) W F (.agg #[.int .i64 F.kind, .string F.name, .int .i64 F.n, .slice ra F.scopes.length rb, .slice rc F.kids.length rd]))
      case h1 =>
        intro HCONT0
        have HCONT := Lib.hid HCONT0
        clear HCONT0
        refine upto_begin (TwoBox w.heap.size (w.heap.size + 1) f g sa a sa' a' scap cap scap' cap') 11 (by kernel_rfl) ?_
        refine gen_any (fun u0 hu0 => ?_)
        have HU0 : Hid (Below w2.heap.size w2 u0) := by unfold Hid; rw [hu0]; exact (Below.refl _ _).drew
        have hsu0 : w2.heap.size ≤ u0.heap.size := HU0.out.size
        have hS0 : (TwoBox w.heap.size (w.heap.size + 1) f g sa a sa' a' scap cap scap' cap') u0 := HT.out.later HU0.out
        clear hu0
        refine upto_take (i := 0) (d := some 28) (v := ?_) rfl rfl (by kernel_rfl) (by kernel_rfl) (by kernel_rfl) (by kernel_rfl) (fun _ _ _ h => h) (Or.inl ⟨by rfl, ?_⟩) hS0 ?_
        rotate_left
        · (intro wS hSw; obtain ⟨⟨_, _, _, _, _⟩, ⟨_, _, _, _, _⟩⟩ := hSw; go_simp; try with_reducible rfl)
        try simp only [Act.put, List.setIfInBounds_toArray, List.set_cons_zero, List.set_cons_succ]
        refine upto_take (i := 2) (d := some 30) (v := ?_) rfl rfl (by kernel_rfl) (by kernel_rfl) (by kernel_rfl) (by kernel_rfl) (fun _ _ _ h => h) (Or.inl ⟨by rfl, ?_⟩) hS0 ?_
        rotate_left
        · (intro wS hSw; obtain ⟨⟨_, _, _, _, _⟩, ⟨_, _, _, _, _⟩⟩ := hSw; go_simp; try with_reducible rfl)
        try simp only [Act.put, List.setIfInBounds_toArray, List.set_cons_zero, List.set_cons_succ]
        refine upto_two (i := 1) (j := 8) (by kernel_rfl) rfl rfl (fun K hK => ?_) (fun K hK => ?_)
        · go_simp
          refine (toForm_any w.heap.size f _ u0 (by omega) (InV.later (w := w) (same_below (HB2.out.trans (HU0.out.mono (by omega)))) _ _ HV.out) hszf).mono ?_
          rintro e u1 hp
          obtain ⟨xa, xb, xc, xd, rfl, hx, hb⟩ := hp.weak
          have hsu1 : u0.heap.size ≤ u1.heap.size := hb.size
          have HU1 : Hid (Below w2.heap.size w2 u1) := HU0.out.trans (hb.mono (by omega))
          have HX1 := Lib.hid hx
          refine hK.out _ _ (.inr (HT.out.later HU1.out)) ?_
          clear hK K hx hb hp
          refine upto_two (i := 3) (j := 8) (by kernel_rfl) rfl rfl (fun K hK => ?_) (fun K hK => ?_)
          · go_simp
            refine (toForm_any w.heap.size g _ u1 (by omega) (InV.later (w := w) (same_below (HB2.out.trans (HU1.out.mono (by omega)))) _ _ HV2.out) hszg).mono ?_
            rintro e u2 hp
            obtain ⟨ya, yb, yc, yd, rfl, hx, hb⟩ := hp.weak
            have hsu2 : u1.heap.size ≤ u2.heap.size := hb.size
            have HU2 : Hid (Below w2.heap.size w2 u2) := HU1.out.trans (hb.mono (by omega))
            have HX2 : Hid (InV (fun k => k < u2.heap.size) u2 f (.agg #[.int .i64 f.kind, .string f.name, .int .i64 f.n, .slice xa f.scopes.length xb, .slice xc f.kids.length xd])) := InV.mono (fun k (hk : k < u1.heap.size) => (by omega : k < u2.heap.size)) _ _ (InV.later (same_below hb) _ _ HX1.out)
            have HY2 := Lib.hid hx
            refine hK.out _ _ (.inr (HT.out.later HU2.out)) ?_
            clear hK K hx hb hp
            refine upto_two (i := 4) (j := 8) (by kernel_rfl) rfl rfl (fun K hK => ?_) (fun K hK => ?_)
            · go_simp
              refine (specDress_any u2.heap.size f g _ _ u2 (Nat.le_refl _) HX2.out HY2.out hszf hszg ok F HOKS.out HRS.out).mono ?_
              rintro e u3 ⟨sv, rfl, hx, hb⟩
              obtain ⟨ra, rb, rc, rd, rfl⟩ := hx.form
              have hsu3 : u2.heap.size ≤ u3.heap.size := hb.size
              have HU3 : Hid (Below w2.heap.size w2 u3) := HU2.out.trans (hb.mono (by omega))
              have HR3 : Hid (InV (fun k => w2.heap.size ≤ k ∧ k < u3.heap.size) u3 F (.agg #[.int .i64 F.kind, .string F.name, .int .i64 F.n, .slice ra F.scopes.length rb, .slice rc F.kids.length rd])) := InV.mono (fun k hk => by have h1 : u2.heap.size ≤ k := hk.1; have h2 : k < u3.heap.size := hk.2; exact ⟨by omega, by omega⟩) _ _ hx
              refine hK.out _ _ (.inr (HT.out.later HU3.out)) ?_
              clear hK K hx hb
              have hS3 : (TwoBox w.heap.size (w.heap.size + 1) f g sa a sa' a' scap cap scap' cap') u3 := HT.out.later HU3.out
              refine upto_take (i := 5) (d := some 27) (v := ?_) rfl rfl (by kernel_rfl) (by kernel_rfl) (by kernel_rfl) (by kernel_rfl) (fun _ _ _ h => h) (Or.inl ⟨by rfl, ?_⟩) hS3 ?_
              rotate_left
              · (intro wS hSw; go_simp; try with_reducible rfl)
              try simp only [Act.put, List.setIfInBounds_toArray, List.set_cons_zero, List.set_cons_succ]
              refine upto_take (i := 6) (d := some 33) (v := ?_) rfl rfl (by kernel_rfl) (by kernel_rfl) (by kernel_rfl) (by kernel_rfl) (fun _ _ _ h => h) (Or.inl ⟨by rfl, ?_⟩) hS3 ?_
              rotate_left
              · (intro wS hSw; go_simp; try with_reducible rfl)
              try simp only [Act.put, List.setIfInBounds_toArray, List.set_cons_zero, List.set_cons_succ]
              refine upto_take (i := 7) (d := some 34) (v := ?_) rfl rfl (by kernel_rfl) (by kernel_rfl) (by kernel_rfl) (by kernel_rfl) (fun _ _ _ h => h) (Or.inl ⟨by rfl, ?_⟩) hS3 ?_
              rotate_left
              · (intro wS hSw; go_simp; try with_reducible rfl)
              try simp only [Act.put, List.setIfInBounds_toArray, List.set_cons_zero, List.set_cons_succ]
              refine upto_one (i := 8) (by kernel_rfl) rfl (fun K hK => ?_)
              go_simp
              refine gen_world (fun u4 hu => ?_)
              have hs4 : u3.heap.size + 1 ≤ u4.heap.size := by rw [hu]; simp
              have hb : Below u3.heap.size u3 u4 := by rw [hu]; exact below_alloc _ _
              have hz0 : u4.heap[u3.heap.size]? = some (.cells #[.int .i64 0, .string { data := #[] }, .int .i64 0, .slice none 0 0, .slice none 0 0] 30 (0, 0)) := by rw [hu]; exact heap_alloc_new _ _
              clear hu
              obtain ⟨zb, hzb⟩ : ∃ zb, zb = u3.heap.size := ⟨_, rfl⟩
              rw [← hzb] at hz0 ⊢
              have HZ4 := Lib.hid hz0
              have hz1 : zb < u4.heap.size := by omega
              have hz2 : w2.heap.size ≤ zb := by omega
              have hz3 : u3.heap.size ≤ zb := by omega
              clear hzb
              have HU4 : Hid (Below w2.heap.size w2 u4) := HU3.out.trans (hb.mono (by omega))
              have HR4 : Hid (InV (fun k => w2.heap.size ≤ k ∧ k < u3.heap.size) u4 F (.agg #[.int .i64 F.kind, .string F.name, .int .i64 F.n, .slice ra F.scopes.length rb, .slice rc F.kids.length rd])) := InV.mono (fun k hk => ⟨hk.1, by have := hk.2; omega⟩) _ _ (InV.later (Same.of_below hb (fun k hk => hk.2)) _ _ HR3.out)
              have HRz4 : Hid (InV (fun k => w2.heap.size ≤ k ∧ k < u4.heap.size ∧ k ≠ zb) u4 F (.agg #[.int .i64 F.kind, .string F.name, .int .i64 F.n, .slice ra F.scopes.length rb, .slice rc F.kids.length rd])) := InV.mono (fun k hk => by have h1 := hk.1; have h2 := hk.2; exact ⟨by omega, by omega, by omega⟩) _ _ HR4.out
              refine hK.out _ _ (.inr (HT.out.later HU4.out)) ?_
              clear hK K hb hz0
              obtain ⟨r0, r1, r2, r3, r4, t0, t1, t2, t3, t4⟩ := zeroFacts HZ4.out
              have hth := zeroThere HZ4.out
              refine upto_one (i := 9) (by kernel_rfl) rfl (fun K hK => ?_)
              go_simp
              refine gen_world (fun u5 hu => ?_)
              have he : u5 = set5 u4 zb 0 (.int .i64 F.kind) (.string F.name) (.int .i64 F.n) (.slice ra F.scopes.length rb) (.slice rc F.kids.length rd) := by rw [hu]; simp only [set5, Nat.zero_add]
              clear hu
              have HU5 : Hid (Below w2.heap.size w2 u5) := by unfold Hid; rw [he]; exact set5_below HU4.out (b := zb) (by omega) 0 _ _ _ _ _
              have hs5 : u4.heap.size ≤ u5.heap.size := by rw [he, set5_size]; exact Nat.le_refl _
              have hbx : FormBox u5 zb F ra rb rc rd := by rw [he]; exact set5_in u4 zb 0 (.int .i64 F.kind) (.string F.name) (.int .i64 F.n) (.slice ra F.scopes.length rb) (.slice rc F.kids.length rd) hth
              have hr : InV (fun k => w2.heap.size ≤ k ∧ k < u5.heap.size ∧ k ≠ zb) u5 F (.agg #[.int .i64 F.kind, .string F.name, .int .i64 F.n, .slice ra F.scopes.length rb, .slice rc F.kids.length rd]) := InV.mono (fun k hk => ⟨hk.1, by have := hk.2.1; omega, hk.2.2⟩) _ _ (InV.later (w' := u5) (fun c hc => by rw [he]; exact set5_block _ _ _ _ _ _ _ _ hc.2.2) _ _ HRz4.out)
              clear he r0 r1 r2 r3 r4 t0 t1 t2 t3 t4 hth
              refine hK.out _ _ (.inr (HT.out.later HU5.out)) ?_
              clear hK K
              refine upto_one (i := 10) (by kernel_rfl) rfl (fun K hK => ?_)
              go_simp
              refine hK.out _ _ (.inr (HT.out.later HU5.out)) ?_
              clear hK K
              refine upto_done (by kernel_rfl) ?_ _
              exact HCONT.out zb xa xb xc xd ya yb yc yd ra rb rc rd u5 ⟨HU5.out, by omega, by omega, hbx, hr⟩
            · go_simp
              refine gen_world (fun u6 hu => ?_)
              have hs6 : u2.heap.size + 1 ≤ u6.heap.size := by rw [hu]; simp
              have hb : Below u2.heap.size u2 u6 := by rw [hu]; exact below_alloc _ _
              have hz0 : u6.heap[u2.heap.size]? = some (.cells #[.int .i64 0, .string { data := #[] }, .int .i64 0, .slice none 0 0, .slice none 0 0] 30 (0, 0)) := by rw [hu]; exact heap_alloc_new _ _
              clear hu
              obtain ⟨zb, hzb⟩ : ∃ zb, zb = u2.heap.size := ⟨_, rfl⟩
              rw [← hzb] at hz0 ⊢
              have HZ6 := Lib.hid hz0
              have hz1 : zb < u6.heap.size := by omega
              have hz2 : w2.heap.size ≤ zb := by omega
              have hz3 : u2.heap.size ≤ zb := by omega
              clear hzb
              have HU6 : Hid (Below w2.heap.size w2 u6) := HU2.out.trans (hb.mono (by omega))
              have HX6 : Hid (InV (fun k => k < u6.heap.size) u6 f (.agg #[.int .i64 f.kind, .string f.name, .int .i64 f.n, .slice xa f.scopes.length xb, .slice xc f.kids.length xd])) := InV.mono (fun k (hk : k < u2.heap.size) => (by omega : k < u6.heap.size)) _ _ (InV.later (same_below hb) _ _ HX2.out)
              have HY6 : Hid (InV (fun k => k < u6.heap.size) u6 g (.agg #[.int .i64 g.kind, .string g.name, .int .i64 g.n, .slice ya g.scopes.length yb, .slice yc g.kids.length yd])) := InV.mono (fun k (hk : k < u2.heap.size) => (by omega : k < u6.heap.size)) _ _ (InV.later (same_below hb) _ _ HY2.out)
              refine hK.out _ _ (.inr (HT.out.later HU6.out)) ?_
              clear hK K hb hz0
              refine upto_one (i := 4) (by kernel_rfl) rfl (fun K hK => ?_)
              go_simp
              refine (specDress_any u6.heap.size f g _ _ u6 (Nat.le_refl _) HX6.out HY6.out hszf hszg ok F HOKS.out HRS.out).mono ?_
              rintro e u7 ⟨sv, rfl, hx, hb⟩
              obtain ⟨ra, rb, rc, rd, rfl⟩ := hx.form
              have hsu7 : u6.heap.size ≤ u7.heap.size := hb.size
              have HU7 : Hid (Below w2.heap.size w2 u7) := HU6.out.trans (hb.mono (by omega))
              have HZ7 : Hid (u7.heap[zb]? = some (.cells #[.int .i64 0, .string { data := #[] }, .int .i64 0, .slice none 0 0, .slice none 0 0] 30 (0, 0))) := (hb.block _ (by omega)).trans HZ6.out
              have HR7 : Hid (InV (fun k => w2.heap.size ≤ k ∧ k < u7.heap.size ∧ k ≠ zb) u7 F (.agg #[.int .i64 F.kind, .string F.name, .int .i64 F.n, .slice ra F.scopes.length rb, .slice rc F.kids.length rd])) := InV.mono (fun k hk => by have h1 : u6.heap.size ≤ k := hk.1; have h2 : k < u7.heap.size := hk.2; exact ⟨by omega, by omega, by omega⟩) _ _ hx
              refine hK.out _ _ (.inr (HT.out.later HU7.out)) ?_
              clear hK K hx hb
              have hS7 : (TwoBox w.heap.size (w.heap.size + 1) f g sa a sa' a' scap cap scap' cap') u7 := HT.out.later HU7.out
              refine upto_take (i := 5) (d := some 27) (v := ?_) rfl rfl (by kernel_rfl) (by kernel_rfl) (by kernel_rfl) (by kernel_rfl) (fun _ _ _ h => h) (Or.inl ⟨by rfl, ?_⟩) hS7 ?_
              rotate_left
              · (intro wS hSw; go_simp; try with_reducible rfl)
              try simp only [Act.put, List.setIfInBounds_toArray, List.set_cons_zero, List.set_cons_succ]
              refine upto_take (i := 6) (d := some 33) (v := ?_) rfl rfl (by kernel_rfl) (by kernel_rfl) (by kernel_rfl) (by kernel_rfl) (fun _ _ _ h => h) (Or.inl ⟨by rfl, ?_⟩) hS7 ?_
              rotate_left
              · (intro wS hSw; go_simp; try with_reducible rfl)
              try simp only [Act.put, List.setIfInBounds_toArray, List.set_cons_zero, List.set_cons_succ]
              refine upto_take (i := 7) (d := some 34) (v := ?_) rfl rfl (by kernel_rfl) (by kernel_rfl) (by kernel_rfl) (by kernel_rfl) (fun _ _ _ h => h) (Or.inl ⟨by rfl, ?_⟩) hS7 ?_
              rotate_left
              · (intro wS hSw; go_simp; try with_reducible rfl)
              try simp only [Act.put, List.setIfInBounds_toArray, List.set_cons_zero, List.set_cons_succ]
              obtain ⟨r0, r1, r2, r3, r4, t0, t1, t2, t3, t4⟩ := zeroFacts HZ7.out
              have hth := zeroThere HZ7.out
              refine upto_one (i := 9) (by kernel_rfl) rfl (fun K hK => ?_)
              go_simp
              refine gen_world (fun u8 hu => ?_)
              have he : u8 = set5 u7 zb 0 (.int .i64 F.kind) (.string F.name) (.int .i64 F.n) (.slice ra F.scopes.length rb) (.slice rc F.kids.length rd) := by rw [hu]; simp only [set5, Nat.zero_add]
              clear hu
              have HU8 : Hid (Below w2.heap.size w2 u8) := by unfold Hid; rw [he]; exact set5_below HU7.out (b := zb) (by omega) 0 _ _ _ _ _
              have hs8 : u7.heap.size ≤ u8.heap.size := by rw [he, set5_size]; exact Nat.le_refl _
              have hbx : FormBox u8 zb F ra rb rc rd := by rw [he]; exact set5_in u7 zb 0 (.int .i64 F.kind) (.string F.name) (.int .i64 F.n) (.slice ra F.scopes.length rb) (.slice rc F.kids.length rd) hth
              have hr : InV (fun k => w2.heap.size ≤ k ∧ k < u8.heap.size ∧ k ≠ zb) u8 F (.agg #[.int .i64 F.kind, .string F.name, .int .i64 F.n, .slice ra F.scopes.length rb, .slice rc F.kids.length rd]) := InV.mono (fun k hk => ⟨hk.1, by have := hk.2.1; omega, hk.2.2⟩) _ _ (InV.later (w' := u8) (fun c hc => by rw [he]; exact set5_block _ _ _ _ _ _ _ _ hc.2.2) _ _ HR7.out)
              clear he r0 r1 r2 r3 r4 t0 t1 t2 t3 t4 hth
              refine hK.out _ _ (.inr (HT.out.later HU8.out)) ?_
              clear hK K
              refine upto_one (i := 10) (by kernel_rfl) rfl (fun K hK => ?_)
              go_simp
              refine hK.out _ _ (.inr (HT.out.later HU8.out)) ?_
              clear hK K
              refine upto_done (by kernel_rfl) ?_ _
              exact HCONT.out zb xa xb xc xd ya yb yc yd ra rb rc rd u8 ⟨HU8.out, by omega, by omega, hbx, hr⟩
          · go_simp
            refine gen_world (fun u9 hu => ?_)
            have hs9 : u1.heap.size + 1 ≤ u9.heap.size := by rw [hu]; simp
            have hb : Below u1.heap.size u1 u9 := by rw [hu]; exact below_alloc _ _
            have hz0 : u9.heap[u1.heap.size]? = some (.cells #[.int .i64 0, .string { data := #[] }, .int .i64 0, .slice none 0 0, .slice none 0 0] 30 (0, 0)) := by rw [hu]; exact heap_alloc_new _ _
            clear hu
            obtain ⟨zb, hzb⟩ : ∃ zb, zb = u1.heap.size := ⟨_, rfl⟩
            rw [← hzb] at hz0 ⊢
            have HZ9 := Lib.hid hz0
            have hz1 : zb < u9.heap.size := by omega
            have hz2 : w2.heap.size ≤ zb := by omega
            have hz3 : u1.heap.size ≤ zb := by omega
            clear hzb
            have HU9 : Hid (Below w2.heap.size w2 u9) := HU1.out.trans (hb.mono (by omega))
            have HX9 : Hid (InV (fun k => k < u9.heap.size) u9 f (.agg #[.int .i64 f.kind, .string f.name, .int .i64 f.n, .slice xa f.scopes.length xb, .slice xc f.kids.length xd])) := InV.mono (fun k (hk : k < u1.heap.size) => (by omega : k < u9.heap.size)) _ _ (InV.later (same_below hb) _ _ HX1.out)
            refine hK.out _ _ (.inr (HT.out.later HU9.out)) ?_
            clear hK K hb hz0
            refine upto_one (i := 3) (by kernel_rfl) rfl (fun K hK => ?_)
            go_simp
            refine (toForm_any w.heap.size g _ u9 (by omega) (InV.later (w := w) (same_below (HB2.out.trans (HU9.out.mono (by omega)))) _ _ HV2.out) hszg).mono ?_
            rintro e u10 hp
            obtain ⟨ya, yb, yc, yd, rfl, hx, hb⟩ := hp.weak
            have hsu10 : u9.heap.size ≤ u10.heap.size := hb.size
            have HU10 : Hid (Below w2.heap.size w2 u10) := HU9.out.trans (hb.mono (by omega))
            have HX10 : Hid (InV (fun k => k < u10.heap.size) u10 f (.agg #[.int .i64 f.kind, .string f.name, .int .i64 f.n, .slice xa f.scopes.length xb, .slice xc f.kids.length xd])) := InV.mono (fun k (hk : k < u9.heap.size) => (by omega : k < u10.heap.size)) _ _ (InV.later (same_below hb) _ _ HX9.out)
            have HZ10 : Hid (u10.heap[zb]? = some (.cells #[.int .i64 0, .string { data := #[] }, .int .i64 0, .slice none 0 0, .slice none 0 0] 30 (0, 0))) := (hb.block _ (by omega)).trans HZ9.out
            have HY10 := Lib.hid hx
            refine hK.out _ _ (.inr (HT.out.later HU10.out)) ?_
            clear hK K hx hb hp
            refine upto_one (i := 4) (by kernel_rfl) rfl (fun K hK => ?_)
            go_simp
            refine (specDress_any u10.heap.size f g _ _ u10 (Nat.le_refl _) HX10.out HY10.out hszf hszg ok F HOKS.out HRS.out).mono ?_
            rintro e u11 ⟨sv, rfl, hx, hb⟩
            obtain ⟨ra, rb, rc, rd, rfl⟩ := hx.form
            have hsu11 : u10.heap.size ≤ u11.heap.size := hb.size
            have HU11 : Hid (Below w2.heap.size w2 u11) := HU10.out.trans (hb.mono (by omega))
            have HZ11 : Hid (u11.heap[zb]? = some (.cells #[.int .i64 0, .string { data := #[] }, .int .i64 0, .slice none 0 0, .slice none 0 0] 30 (0, 0))) := (hb.block _ (by omega)).trans HZ10.out
            have HR11 : Hid (InV (fun k => w2.heap.size ≤ k ∧ k < u11.heap.size ∧ k ≠ zb) u11 F (.agg #[.int .i64 F.kind, .string F.name, .int .i64 F.n, .slice ra F.scopes.length rb, .slice rc F.kids.length rd])) := InV.mono (fun k hk => by have h1 : u10.heap.size ≤ k := hk.1; have h2 : k < u11.heap.size := hk.2; exact ⟨by omega, by omega, by omega⟩) _ _ hx
            refine hK.out _ _ (.inr (HT.out.later HU11.out)) ?_
            clear hK K hx hb
            have hS11 : (TwoBox w.heap.size (w.heap.size + 1) f g sa a sa' a' scap cap scap' cap') u11 := HT.out.later HU11.out
            refine upto_take (i := 5) (d := some 27) (v := ?_) rfl rfl (by kernel_rfl) (by kernel_rfl) (by kernel_rfl) (by kernel_rfl) (fun _ _ _ h => h) (Or.inl ⟨by rfl, ?_⟩) hS11 ?_
            rotate_left
            · (intro wS hSw; go_simp; try with_reducible rfl)
            try simp only [Act.put, List.setIfInBounds_toArray, List.set_cons_zero, List.set_cons_succ]
            refine upto_take (i := 6) (d := some 33) (v := ?_) rfl rfl (by kernel_rfl) (by kernel_rfl) (by kernel_rfl) (by kernel_rfl) (fun _ _ _ h => h) (Or.inl ⟨by rfl, ?_⟩) hS11 ?_
            rotate_left
            · (intro wS hSw; go_simp; try with_reducible rfl)
            try simp only [Act.put, List.setIfInBounds_toArray, List.set_cons_zero, List.set_cons_succ]
            refine upto_take (i := 7) (d := some 34) (v := ?_) rfl rfl (by kernel_rfl) (by kernel_rfl) (by kernel_rfl) (by kernel_rfl) (fun _ _ _ h => h) (Or.inl ⟨by rfl, ?_⟩) hS11 ?_
            rotate_left
            · (intro wS hSw; go_simp; try with_reducible rfl)
            try simp only [Act.put, List.setIfInBounds_toArray, List.set_cons_zero, List.set_cons_succ]
            obtain ⟨r0, r1, r2, r3, r4, t0, t1, t2, t3, t4⟩ := zeroFacts HZ11.out
            have hth := zeroThere HZ11.out
            refine upto_one (i := 9) (by kernel_rfl) rfl (fun K hK => ?_)
            go_simp
            refine gen_world (fun u12 hu => ?_)
            have he : u12 = set5 u11 zb 0 (.int .i64 F.kind) (.string F.name) (.int .i64 F.n) (.slice ra F.scopes.length rb) (.slice rc F.kids.length rd) := by rw [hu]; simp only [set5, Nat.zero_add]
            clear hu
            have HU12 : Hid (Below w2.heap.size w2 u12) := by unfold Hid; rw [he]; exact set5_below HU11.out (b := zb) (by omega) 0 _ _ _ _ _
            have hs12 : u11.heap.size ≤ u12.heap.size := by rw [he, set5_size]; exact Nat.le_refl _
            have hbx : FormBox u12 zb F ra rb rc rd := by rw [he]; exact set5_in u11 zb 0 (.int .i64 F.kind) (.string F.name) (.int .i64 F.n) (.slice ra F.scopes.length rb) (.slice rc F.kids.length rd) hth
            have hr : InV (fun k => w2.heap.size ≤ k ∧ k < u12.heap.size ∧ k ≠ zb) u12 F (.agg #[.int .i64 F.kind, .string F.name, .int .i64 F.n, .slice ra F.scopes.length rb, .slice rc F.kids.length rd]) := InV.mono (fun k hk => ⟨hk.1, by have := hk.2.1; omega, hk.2.2⟩) _ _ (InV.later (w' := u12) (fun c hc => by rw [he]; exact set5_block _ _ _ _ _ _ _ _ hc.2.2) _ _ HR11.out)
            clear he r0 r1 r2 r3 r4 t0 t1 t2 t3 t4 hth
            refine hK.out _ _ (.inr (HT.out.later HU12.out)) ?_
            clear hK K
            refine upto_one (i := 10) (by kernel_rfl) rfl (fun K hK => ?_)
            go_simp
            refine hK.out _ _ (.inr (HT.out.later HU12.out)) ?_
            clear hK K
            refine upto_done (by kernel_rfl) ?_ _
            exact HCONT.out zb xa xb xc xd ya yb yc yd ra rb rc rd u12 ⟨HU12.out, by omega, by omega, hbx, hr⟩
        · go_simp
          refine gen_world (fun u13 hu => ?_)
          have hs13 : u0.heap.size + 1 ≤ u13.heap.size := by rw [hu]; simp
          have hb : Below u0.heap.size u0 u13 := by rw [hu]; exact below_alloc _ _
          have hz0 : u13.heap[u0.heap.size]? = some (.cells #[.int .i64 0, .string { data := #[] }, .int .i64 0, .slice none 0 0, .slice none 0 0] 30 (0, 0)) := by rw [hu]; exact heap_alloc_new _ _
          clear hu
          obtain ⟨zb, hzb⟩ : ∃ zb, zb = u0.heap.size := ⟨_, rfl⟩
          rw [← hzb] at hz0 ⊢
          have HZ13 := Lib.hid hz0
          have hz1 : zb < u13.heap.size := by omega
          have hz2 : w2.heap.size ≤ zb := by omega
          have hz3 : u0.heap.size ≤ zb := by omega
          clear hzb
          have HU13 : Hid (Below w2.heap.size w2 u13) := HU0.out.trans (hb.mono (by omega))
          refine hK.out _ _ (.inr (HT.out.later HU13.out)) ?_
          clear hK K hb hz0
          refine upto_one (i := 1) (by kernel_rfl) rfl (fun K hK => ?_)
          go_simp
          refine (toForm_any w.heap.size f _ u13 (by omega) (InV.later (w := w) (same_below (HB2.out.trans (HU13.out.mono (by omega)))) _ _ HV.out) hszf).mono ?_
          rintro e u14 hp
          obtain ⟨xa, xb, xc, xd, rfl, hx, hb⟩ := hp.weak
          have hsu14 : u13.heap.size ≤ u14.heap.size := hb.size
          have HU14 : Hid (Below w2.heap.size w2 u14) := HU13.out.trans (hb.mono (by omega))
          have HZ14 : Hid (u14.heap[zb]? = some (.cells #[.int .i64 0, .string { data := #[] }, .int .i64 0, .slice none 0 0, .slice none 0 0] 30 (0, 0))) := (hb.block _ (by omega)).trans HZ13.out
          have HX14 := Lib.hid hx
          refine hK.out _ _ (.inr (HT.out.later HU14.out)) ?_
          clear hK K hx hb hp
          refine upto_one (i := 3) (by kernel_rfl) rfl (fun K hK => ?_)
          go_simp
          refine (toForm_any w.heap.size g _ u14 (by omega) (InV.later (w := w) (same_below (HB2.out.trans (HU14.out.mono (by omega)))) _ _ HV2.out) hszg).mono ?_
          rintro e u15 hp
          obtain ⟨ya, yb, yc, yd, rfl, hx, hb⟩ := hp.weak
          have hsu15 : u14.heap.size ≤ u15.heap.size := hb.size
          have HU15 : Hid (Below w2.heap.size w2 u15) := HU14.out.trans (hb.mono (by omega))
          have HX15 : Hid (InV (fun k => k < u15.heap.size) u15 f (.agg #[.int .i64 f.kind, .string f.name, .int .i64 f.n, .slice xa f.scopes.length xb, .slice xc f.kids.length xd])) := InV.mono (fun k (hk : k < u14.heap.size) => (by omega : k < u15.heap.size)) _ _ (InV.later (same_below hb) _ _ HX14.out)
          have HZ15 : Hid (u15.heap[zb]? = some (.cells #[.int .i64 0, .string { data := #[] }, .int .i64 0, .slice none 0 0, .slice none 0 0] 30 (0, 0))) := (hb.block _ (by omega)).trans HZ14.out
          have HY15 := Lib.hid hx
          refine hK.out _ _ (.inr (HT.out.later HU15.out)) ?_
          clear hK K hx hb hp
          refine upto_one (i := 4) (by kernel_rfl) rfl (fun K hK => ?_)
          go_simp
          refine (specDress_any u15.heap.size f g _ _ u15 (Nat.le_refl _) HX15.out HY15.out hszf hszg ok F HOKS.out HRS.out).mono ?_
          rintro e u16 ⟨sv, rfl, hx, hb⟩
          obtain ⟨ra, rb, rc, rd, rfl⟩ := hx.form
          have hsu16 : u15.heap.size ≤ u16.heap.size := hb.size
          have HU16 : Hid (Below w2.heap.size w2 u16) := HU15.out.trans (hb.mono (by omega))
          have HZ16 : Hid (u16.heap[zb]? = some (.cells #[.int .i64 0, .string { data := #[] }, .int .i64 0, .slice none 0 0, .slice none 0 0] 30 (0, 0))) := (hb.block _ (by omega)).trans HZ15.out
          have HR16 : Hid (InV (fun k => w2.heap.size ≤ k ∧ k < u16.heap.size ∧ k ≠ zb) u16 F (.agg #[.int .i64 F.kind, .string F.name, .int .i64 F.n, .slice ra F.scopes.length rb, .slice rc F.kids.length rd])) := InV.mono (fun k hk => by have h1 : u15.heap.size ≤ k := hk.1; have h2 : k < u16.heap.size := hk.2; exact ⟨by omega, by omega, by omega⟩) _ _ hx
          refine hK.out _ _ (.inr (HT.out.later HU16.out)) ?_
          clear hK K hx hb
          have hS16 : (TwoBox w.heap.size (w.heap.size + 1) f g sa a sa' a' scap cap scap' cap') u16 := HT.out.later HU16.out
          refine upto_take (i := 5) (d := some 27) (v := ?_) rfl rfl (by kernel_rfl) (by kernel_rfl) (by kernel_rfl) (by kernel_rfl) (fun _ _ _ h => h) (Or.inl ⟨by rfl, ?_⟩) hS16 ?_
          rotate_left
          · (intro wS hSw; go_simp; try with_reducible rfl)
          try simp only [Act.put, List.setIfInBounds_toArray, List.set_cons_zero, List.set_cons_succ]
          refine upto_take (i := 6) (d := some 33) (v := ?_) rfl rfl (by kernel_rfl) (by kernel_rfl) (by kernel_rfl) (by kernel_rfl) (fun _ _ _ h => h) (Or.inl ⟨by rfl, ?_⟩) hS16 ?_
          rotate_left
          · (intro wS hSw; go_simp; try with_reducible rfl)
          try simp only [Act.put, List.setIfInBounds_toArray, List.set_cons_zero, List.set_cons_succ]
          refine upto_take (i := 7) (d := some 34) (v := ?_) rfl rfl (by kernel_rfl) (by kernel_rfl) (by kernel_rfl) (by kernel_rfl) (fun _ _ _ h => h) (Or.inl ⟨by rfl, ?_⟩) hS16 ?_
          rotate_left
          · (intro wS hSw; go_simp; try with_reducible rfl)
          try simp only [Act.put, List.setIfInBounds_toArray, List.set_cons_zero, List.set_cons_succ]
          obtain ⟨r0, r1, r2, r3, r4, t0, t1, t2, t3, t4⟩ := zeroFacts HZ16.out
          have hth := zeroThere HZ16.out
          refine upto_one (i := 9) (by kernel_rfl) rfl (fun K hK => ?_)
          go_simp
          refine gen_world (fun u17 hu => ?_)
          have he : u17 = set5 u16 zb 0 (.int .i64 F.kind) (.string F.name) (.int .i64 F.n) (.slice ra F.scopes.length rb) (.slice rc F.kids.length rd) := by rw [hu]; simp only [set5, Nat.zero_add]
          clear hu
          have HU17 : Hid (Below w2.heap.size w2 u17) := by unfold Hid; rw [he]; exact set5_below HU16.out (b := zb) (by omega) 0 _ _ _ _ _
          have hs17 : u16.heap.size ≤ u17.heap.size := by rw [he, set5_size]; exact Nat.le_refl _
          have hbx : FormBox u17 zb F ra rb rc rd := by rw [he]; exact set5_in u16 zb 0 (.int .i64 F.kind) (.string F.name) (.int .i64 F.n) (.slice ra F.scopes.length rb) (.slice rc F.kids.length rd) hth
          have hr : InV (fun k => w2.heap.size ≤ k ∧ k < u17.heap.size ∧ k ≠ zb) u17 F (.agg #[.int .i64 F.kind, .string F.name, .int .i64 F.n, .slice ra F.scopes.length rb, .slice rc F.kids.length rd]) := InV.mono (fun k hk => ⟨hk.1, by have := hk.2.1; omega, hk.2.2⟩) _ _ (InV.later (w' := u17) (fun c hc => by rw [he]; exact set5_block _ _ _ _ _ _ _ _ hc.2.2) _ _ HR16.out)
          clear he r0 r1 r2 r3 r4 t0 t1 t2 t3 t4 hth
          refine hK.out _ _ (.inr (HT.out.later HU17.out)) ?_
          clear hK K
          refine upto_one (i := 10) (by kernel_rfl) rfl (fun K hK => ?_)
          go_simp
          refine hK.out _ _ (.inr (HT.out.later HU17.out)) ?_
          clear hK K
          refine upto_done (by kernel_rfl) ?_ _
          exact HCONT.out zb xa xb xc xd ya yb yc yd ra rb rc rd u17 ⟨HU17.out, by omega, by omega, hbx, hr⟩
      case h2 =>
        intro z0 q1 q2 q3 q4 q5 q6 q7 q8 wsa wscap wa wcap w3 ⟨hb, hz1, hz2, hbx, hin⟩
        have hs3 := hb.size
        have HB3 : Hid (Below w.heap.size w w3) := HB2.out.trans (hb.mono (by omega))
        have HT3 := Lib.hid (HT.out.later hb)
        have HW := Lib.hid hbx
        have HWI : Hid (InV (fun k => k < w3.heap.size) w3 F (.agg #[.int .i64 F.kind, .string F.name, .int .i64 F.n, .slice wsa F.scopes.length wscap, .slice wa F.kids.length wcap])) := InV.mono (fun k hk => hk.2.1) _ _ hin
        clear hb hbx hin HT HB2
        have HB := HB3
        have HT := HT3
        clear HB3 HT3
        obtain ⟨⟨x0, x1, x2, x3, x4⟩, ⟨y0, y1, y2, y3, y4⟩⟩ := HT.out
        have hl0 : w.heap.size + 1 < w3.heap.size := by omega
        go_wp2_with fail
        refine (toForm_any w.heap.size f _ w3 (by omega) (InV.later (same_below HB.out) _ _ HV.out) hszf).mono ?_
        rintro e w4 hp
        obtain ⟨za, zb, zc, zd, bz, rfl, hzo, hzn, hzp, hb⟩ := hp
        have hs4 := hb.size
        clear x0 x1 x2 x3 x4 y0 y1 y2 y3 y4
        have HB_1 := Lib.hid (HB.out.trans (hb.mono (by omega)))
        have HT_1 := Lib.hid (HT.out.later hb)
        have HW_1 := Lib.hid (HW.out.later hb)
        have HWI_1 := Lib.hid (InV.later (same_below (hb.mono (by omega))) _ _ HWI.out)
        clear HB HT HW HWI
        have HZO := Lib.hid hzo
        have HZN := Lib.hid hzn
        clear hzo hzn hzp hb
        obtain ⟨⟨x0, x1, x2, x3, x4⟩, ⟨y0, y1, y2, y3, y4⟩⟩ := HT_1.out
        have hl1 : w.heap.size + 1 < w4.heap.size := by omega
        go_wp2_with fail
        refine (toForm_any w.heap.size g _ (w4.alloc (.cells #[.int .i64 f.kind, .string f.name, .int .i64 f.n, .slice za f.scopes.length zb, .slice zc f.kids.length zd] 30)) (by simp; omega) (InV.later (same_below (HB_1.out.alloc (by omega) _)) _ _ HV2.out) hszg).mono ?_
        rintro e w5 hp
        obtain ⟨ta, tb, tc, td, bx, rfl, hzo, hzn, hzp, hb0⟩ := hp
        rw [size_alloc'] at hzn
        have hb : Below w4.heap.size w4 w5 := (below_alloc _ _).trans (hb0.mono (by simp))
        have hs5 : w4.heap.size + 1 ≤ w5.heap.size := by have := hb0.size; simpa using this
        clear x0 x1 x2 x3 x4 y0 y1 y2 y3 y4
        have HB_2 := Lib.hid (HB_1.out.trans (hb.mono (by omega)))
        have HT_2 := Lib.hid (HT_1.out.later hb)
        have HW_2 := Lib.hid (HW_1.out.later hb)
        have HWI_2 := Lib.hid (InV.later (same_below (hb.mono (by omega))) _ _ HWI_1.out)
        have HZO_1 := Lib.hid (OwnV.later _ _ _ (SameOn.of_below hb (fun c hm => by have h := HZN.out.2 c hm; omega)) HZO.out)
        clear HB_1 HT_1 HW_1 HWI_1 HZO
        have HX := Lib.hid ((FormBox.fresh w4 f za zc zb zd 30).later hb0)
        have HTO := Lib.hid hzo
        have HTN := Lib.hid hzn
        clear hzo hzn hzp hb hb0
        obtain ⟨x0, x1, x2, x3, x4⟩ := HX.out
        have hl2 : w4.heap.size < w5.heap.size := by omega
        go_wp2_with fail
        have hba := below_alloc w5 (.cells #[.int .i64 g.kind, .string g.name, .int .i64 g.n, .slice ta g.scopes.length tb, .slice tc g.kids.length td] 30)
        refine (implDress_any f g _ _ (w5.alloc (.cells #[.int .i64 g.kind, .string g.name, .int .i64 g.n, .slice ta g.scopes.length tb, .slice tc g.kids.length td] 30)) (InV.mono (fun k (hk : k < w5.heap.size) => (by simp; omega)) _ _ (InV.later (same_below hba) _ _ (OwnV.inV (φ := (· < w5.heap.size)) f _ bz (fun c hm => by have h := HZN.out.2 c hm; omega) HZO_1.out))) (InV.mono (fun k (hk : k < w5.heap.size) => (by simp; omega)) _ _ (InV.later (same_below hba) _ _ (OwnV.inV (φ := (· < w5.heap.size)) g _ bx (fun c hm => (HTN.out.2 c hm).2) HTO.out))) hszf ok F HOKI.out HRI.out).mono ?_
        rintro e w6 hp
        obtain ⟨ga, gb, gc, gd, bg, rfl, hgo, hgn, hgp, hb0⟩ := hp
        rw [size_alloc'] at hgn
        have hb : Below w5.heap.size w5 w6 := hba.trans (hb0.mono (by simp))
        have hs6 : w5.heap.size + 1 ≤ w6.heap.size := by have := hb0.size; simpa using this
        clear x0 x1 x2 x3 x4
        have HB_3 := Lib.hid (HB_2.out.trans (hb.mono (by omega)))
        have HT_3 := Lib.hid (HT_2.out.later hb)
        have HW_3 := Lib.hid (HW_2.out.later hb)
        have HWI_3 := Lib.hid (InV.later (same_below (hb.mono (by omega))) _ _ HWI_2.out)
        have HZO_2 := Lib.hid (OwnV.later _ _ _ (SameOn.of_below hb (fun c hm => by have h := HZN.out.2 c hm; omega)) HZO_1.out)
        have HX_1 := Lib.hid (HX.out.later hb)
        have HTO_1 := Lib.hid (OwnV.later _ _ _ (SameOn.of_below hb (fun c hm => by have h := HTN.out.2 c hm; omega)) HTO.out)
        clear HB_2 HT_2 HW_2 HWI_2 HZO_1 HX HTO
        have HY := Lib.hid ((FormBox.fresh w5 g ta tc tb td 30).later hb0)
        have HGO := Lib.hid hgo
        have HGN := Lib.hid hgn
        clear hgo hgn hgp hb hb0 hba
        obtain ⟨y0, y1, y2, y3, y4⟩ := HW_3.out
        have hl3 : z0 < w6.heap.size := by omega
        go_wp2_with fail
        have hba := below_alloc w6 (.cells #[.int .i64 F.kind, .string F.name, .int .i64 F.n, .slice ga F.scopes.length gb, .slice gc F.kids.length gd] 30)
        refine (eqForm_any (w6.heap.size + 1) F F _ _ _ (by simp) (InV.mono (fun k (hk : k < w6.heap.size) => (by omega)) _ _ (InV.later (same_below hba) _ _ (OwnV.inV (φ := (· < w6.heap.size)) F _ bg (fun c hm => (HGN.out.2 c hm).2) HGO.out))) (InV.mono (fun k (hk : k < w3.heap.size) => (by omega)) _ _ (InV.later (same_below (hba.mono (by omega))) _ _ HWI_3.out))).mono ?_
        rintro e w7 ⟨rfl, hb0⟩
        rw [sameB_refl F]
        have hbb : (ok != ok) = false := by simp
        have hb : Below w6.heap.size w6 w7 := hba.trans (hb0.mono (by simp))
        have hs7 : w6.heap.size + 1 ≤ w7.heap.size := by have := hb0.size; simpa using this
        clear y0 y1 y2 y3 y4
        have HB_4 := Lib.hid (HB_3.out.trans (hb.mono (by omega)))
        have HT_4 := Lib.hid (HT_3.out.later hb)
        have HW_4 := Lib.hid (HW_3.out.later hb)
        have HWI_4 := Lib.hid (InV.later (same_below (hb.mono (by omega))) _ _ HWI_3.out)
        have HZO_3 := Lib.hid (OwnV.later _ _ _ (SameOn.of_below hb (fun c hm => by have h := HZN.out.2 c hm; omega)) HZO_2.out)
        have HX_2 := Lib.hid (HX_1.out.later hb)
        have HTO_2 := Lib.hid (OwnV.later _ _ _ (SameOn.of_below hb (fun c hm => by have h := HTN.out.2 c hm; omega)) HTO_1.out)
        have HY_1 := Lib.hid (HY.out.later hb)
        have HGO_1 := Lib.hid (OwnV.later _ _ _ (SameOn.of_below hb (fun c hm => by have h := HGN.out.2 c hm; omega)) HGO.out)
        clear HB_3 HT_3 HW_3 HWI_3 HZO_2 HX_1 HTO_1 HY HGO
        have HG := Lib.hid ((FormBox.fresh w6 F ga gc gb gd 30).later hb0)
        clear hb hb0 hba
        go_wp2_with fail
        have HS : Hid (TwoBox w4.heap.size w.heap.size f f za zc sa a zb zd scap cap w7) := ⟨HX_2.out, HT_4.out.1⟩
        have hS1 : TwoBox w4.heap.size w.heap.size f f za zc sa a zb zd scap cap w7.drew := HS.out
        refine upto_begin (TwoBox w4.heap.size w.heap.size f f za zc sa a zb zd scap cap) 9 (by kernel_rfl) ?_
        refine upto_take (i := 0) (d := some 54) (v := ?_) rfl rfl (by kernel_rfl) (by kernel_rfl) (by kernel_rfl) (by kernel_rfl) (fun _ _ _ h => h) (Or.inl ⟨by rfl, ?_⟩) hS1 ?_
        rotate_left
        · (intro wS hSw; obtain ⟨⟨_, _, _, _, _⟩, ⟨_, _, _, _, _⟩⟩ := hSw; go_simp; try with_reducible rfl)
        try simp only [Act.put, List.setIfInBounds_toArray, List.set_cons_zero, List.set_cons_succ]
        refine upto_take (i := 1) (d := some 55) (v := ?_) rfl rfl (by kernel_rfl) (by kernel_rfl) (by kernel_rfl) (by kernel_rfl) (fun _ _ _ h => h) (Or.inl ⟨by rfl, ?_⟩) hS1 ?_
        rotate_left
        · (intro wS hSw; obtain ⟨⟨_, _, _, _, _⟩, ⟨_, _, _, _, _⟩⟩ := hSw; go_simp; try with_reducible rfl)
        try simp only [Act.put, List.setIfInBounds_toArray, List.set_cons_zero, List.set_cons_succ]
        clear hS1
        refine upto_one (i := 2) (by kernel_rfl) rfl (fun K hK => ?_)
        go_simp
        refine (toForm_any w.heap.size f _ w7.drew (by show _ ≤ w7.heap.size; omega) (InV.later (w := w) (w' := w7.drew) (same_below HB_4.out.drew) _ _ HV.out) hszf).mono ?_
        rintro e w8 hp
        obtain ⟨ma, mb, mc, md, rfl, hr, hb0⟩ := hp.weak
        have hb := below_drew hb0
        have HR := Lib.hid hr
        have hs8 := hb.size
        refine hK.out _ _ (.inr (HS.out.later hb)) ?_
        have HS := Lib.hid (HS.out.later hb)
        clear hK K
        have HB_5 := Lib.hid (HB_4.out.trans (hb.mono (by omega)))
        have HT_5 := Lib.hid (HT_4.out.later hb)
        have HW_5 := Lib.hid (HW_4.out.later hb)
        have HWI_5 := Lib.hid (InV.later (same_below (hb.mono (by omega))) _ _ HWI_4.out)
        have HZO_4 := Lib.hid (OwnV.later _ _ _ (SameOn.of_below hb (fun c hm => by have h := HZN.out.2 c hm; omega)) HZO_3.out)
        have HX_3 := Lib.hid (HX_2.out.later hb)
        have HTO_3 := Lib.hid (OwnV.later _ _ _ (SameOn.of_below hb (fun c hm => by have h := HTN.out.2 c hm; omega)) HTO_2.out)
        have HY_2 := Lib.hid (HY_1.out.later hb)
        have HGO_2 := Lib.hid (OwnV.later _ _ _ (SameOn.of_below hb (fun c hm => by have h := HGN.out.2 c hm; omega)) HGO_1.out)
        have HG_1 := Lib.hid (HG.out.later hb)
        clear HB_4 HT_4 HW_4 HWI_4 HZO_3 HX_2 HTO_2 HY_1 HGO_1 HG
        clear hp hb hb0 hr
        refine upto_one (i := 3) (by kernel_rfl) rfl (fun K hK => ?_)
        go_simp
        refine (eqForm_any w8.heap.size f f _ _ _ (Nat.le_refl _) (OwnV.inV (φ := (· < w8.heap.size)) f _ bz (fun c hm => by have h := HZN.out.2 c hm; omega) HZO_4.out) HR.out).mono ?_
        rintro e w9 ⟨rfl, hb⟩
        have HSF := Lib.hid (sameB_refl f)
        have hs9 := hb.size
        refine hK.out _ _ (.inr (HS.out.later hb)) ?_
        have HS := Lib.hid (HS.out.later hb)
        clear hK K
        have HB_6 := Lib.hid (HB_5.out.trans (hb.mono (by omega)))
        have HT_6 := Lib.hid (HT_5.out.later hb)
        have HW_6 := Lib.hid (HW_5.out.later hb)
        have HWI_6 := Lib.hid (InV.later (same_below (hb.mono (by omega))) _ _ HWI_5.out)
        have HZO_5 := Lib.hid (OwnV.later _ _ _ (SameOn.of_below hb (fun c hm => by have h := HZN.out.2 c hm; omega)) HZO_4.out)
        have HX_4 := Lib.hid (HX_3.out.later hb)
        have HTO_4 := Lib.hid (OwnV.later _ _ _ (SameOn.of_below hb (fun c hm => by have h := HTN.out.2 c hm; omega)) HTO_3.out)
        have HY_3 := Lib.hid (HY_2.out.later hb)
        have HGO_3 := Lib.hid (OwnV.later _ _ _ (SameOn.of_below hb (fun c hm => by have h := HGN.out.2 c hm; omega)) HGO_2.out)
        have HG_2 := Lib.hid (HG_1.out.later hb)
        clear HB_5 HT_5 HW_5 HWI_5 HZO_4 HX_3 HTO_3 HY_2 HGO_2 HG_1
        clear hb HR
        rw [HSF.out]
        refine upto_one (i := 4) (by kernel_rfl) rfl (fun K hK => ?_)
        go_simp
        refine hK.out _ _ (.inr HS.out) ?_
        clear hK K HS HSF
        refine upto_done (by kernel_rfl) ?_ _
        go_wp2_with fail
        have HS : Hid (TwoBox w5.heap.size (w.heap.size + 1) g g ta tc sa' a' tb td scap' cap' w9) := ⟨HY_3.out, HT_6.out.2⟩
        have hS1 : TwoBox w5.heap.size (w.heap.size + 1) g g ta tc sa' a' tb td scap' cap' w9.drew := HS.out
        refine upto_begin (TwoBox w5.heap.size (w.heap.size + 1) g g ta tc sa' a' tb td scap' cap') 9 (by kernel_rfl) ?_
        refine upto_take (i := 0) (d := some 59) (v := ?_) rfl rfl (by kernel_rfl) (by kernel_rfl) (by kernel_rfl) (by kernel_rfl) (fun _ _ _ h => h) (Or.inl ⟨by rfl, ?_⟩) hS1 ?_
        rotate_left
        · (intro wS hSw; obtain ⟨⟨_, _, _, _, _⟩, ⟨_, _, _, _, _⟩⟩ := hSw; go_simp; try with_reducible rfl)
        try simp only [Act.put, List.setIfInBounds_toArray, List.set_cons_zero, List.set_cons_succ]
        refine upto_take (i := 1) (d := some 60) (v := ?_) rfl rfl (by kernel_rfl) (by kernel_rfl) (by kernel_rfl) (by kernel_rfl) (fun _ _ _ h => h) (Or.inl ⟨by rfl, ?_⟩) hS1 ?_
        rotate_left
        · (intro wS hSw; obtain ⟨⟨_, _, _, _, _⟩, ⟨_, _, _, _, _⟩⟩ := hSw; go_simp; try with_reducible rfl)
        try simp only [Act.put, List.setIfInBounds_toArray, List.set_cons_zero, List.set_cons_succ]
        clear hS1
        refine upto_one (i := 2) (by kernel_rfl) rfl (fun K hK => ?_)
        go_simp
        refine (toForm_any w.heap.size g _ w9.drew (by show _ ≤ w9.heap.size; omega) (InV.later (w := w) (w' := w9.drew) (same_below HB_6.out.drew) _ _ HV2.out) hszg).mono ?_
        rintro e w10 hp
        obtain ⟨ma, mb, mc, md, rfl, hr, hb0⟩ := hp.weak
        have hb := below_drew hb0
        have HR := Lib.hid hr
        have hs10 := hb.size
        refine hK.out _ _ (.inr (HS.out.later hb)) ?_
        have HS := Lib.hid (HS.out.later hb)
        clear hK K
        have HB_7 := Lib.hid (HB_6.out.trans (hb.mono (by omega)))
        have HT_7 := Lib.hid (HT_6.out.later hb)
        have HW_7 := Lib.hid (HW_6.out.later hb)
        have HWI_7 := Lib.hid (InV.later (same_below (hb.mono (by omega))) _ _ HWI_6.out)
        have HZO_6 := Lib.hid (OwnV.later _ _ _ (SameOn.of_below hb (fun c hm => by have h := HZN.out.2 c hm; omega)) HZO_5.out)
        have HX_5 := Lib.hid (HX_4.out.later hb)
        have HTO_5 := Lib.hid (OwnV.later _ _ _ (SameOn.of_below hb (fun c hm => by have h := HTN.out.2 c hm; omega)) HTO_4.out)
        have HY_4 := Lib.hid (HY_3.out.later hb)
        have HGO_4 := Lib.hid (OwnV.later _ _ _ (SameOn.of_below hb (fun c hm => by have h := HGN.out.2 c hm; omega)) HGO_3.out)
        have HG_3 := Lib.hid (HG_2.out.later hb)
        clear HB_6 HT_6 HW_6 HWI_6 HZO_5 HX_4 HTO_4 HY_3 HGO_3 HG_2
        clear hp hb hb0 hr
        refine upto_one (i := 3) (by kernel_rfl) rfl (fun K hK => ?_)
        go_simp
        refine (eqForm_any w10.heap.size g g _ _ _ (Nat.le_refl _) (OwnV.inV (φ := (· < w10.heap.size)) g _ bx (fun c hm => by have h := HTN.out.2 c hm; omega) HTO_5.out) HR.out).mono ?_
        rintro e w11 ⟨rfl, hb⟩
        have HSF := Lib.hid (sameB_refl g)
        have hs11 := hb.size
        refine hK.out _ _ (.inr (HS.out.later hb)) ?_
        have HS := Lib.hid (HS.out.later hb)
        clear hK K
        have HB_8 := Lib.hid (HB_7.out.trans (hb.mono (by omega)))
        have HT_8 := Lib.hid (HT_7.out.later hb)
        have HW_8 := Lib.hid (HW_7.out.later hb)
        have HWI_8 := Lib.hid (InV.later (same_below (hb.mono (by omega))) _ _ HWI_7.out)
        have HZO_7 := Lib.hid (OwnV.later _ _ _ (SameOn.of_below hb (fun c hm => by have h := HZN.out.2 c hm; omega)) HZO_6.out)
        have HX_6 := Lib.hid (HX_5.out.later hb)
        have HTO_6 := Lib.hid (OwnV.later _ _ _ (SameOn.of_below hb (fun c hm => by have h := HTN.out.2 c hm; omega)) HTO_5.out)
        have HY_5 := Lib.hid (HY_4.out.later hb)
        have HGO_5 := Lib.hid (OwnV.later _ _ _ (SameOn.of_below hb (fun c hm => by have h := HGN.out.2 c hm; omega)) HGO_4.out)
        have HG_4 := Lib.hid (HG_3.out.later hb)
        clear HB_7 HT_7 HW_7 HWI_7 HZO_6 HX_5 HTO_5 HY_4 HGO_4 HG_3
        clear hb HR
        rw [HSF.out]
        refine upto_one (i := 4) (by kernel_rfl) rfl (fun K hK => ?_)
        go_simp
        refine hK.out _ _ (.inr HS.out) ?_
        clear hK K HS HSF
        refine upto_done (by kernel_rfl) ?_ _
        obtain ⟨x0, x1, x2, x3, x4⟩ := HX_6.out
        go_wp2_with fail
        refine (markForm_any f _ bz 1 w11 HZO_7.out HZN.out.1 (fun c hm => by have h := HZN.out.2 c hm; omega) (by omega) (by have := HM.out; omega)).mono ?_
        rintro e w12 ⟨rfl, hmz, ho⟩
        have hs12 := ho.size
        clear x0 x1 x2 x3 x4
        have HB_9 := Lib.hid (HB_8.out.trans (ho.below (fun c hm => by have h := HZN.out.2 c hm; omega) (by omega)))
        have HT_9 := Lib.hid (two_only HT_8.out ho (fun hm => by have h := HZN.out.2 _ hm; omega) (fun hm => by have h := HZN.out.2 _ hm; omega))
        have HW_9 := Lib.hid (HW_8.out.only ho (fun hm => by have h := HZN.out.2 _ hm; omega))
        have HWI_9 := Lib.hid (InV.later (ho.same (fun k (hk : k < w3.heap.size) => ⟨by omega, fun hm => by have h := HZN.out.2 _ hm; omega⟩)) _ _ HWI_8.out)
        have HX_7 := Lib.hid (HX_6.out.only ho (fun hm => by have h := HZN.out.2 _ hm; omega))
        have HTO_7 := Lib.hid (OwnV.later _ _ _ (ho.sameOn (fun c hc => ⟨by have h := HTN.out.2 c hc; omega, fun hm => by have h1 := HZN.out.2 _ hm; have h2 := HTN.out.2 c hc; omega⟩)) HTO_6.out)
        have HY_6 := Lib.hid (HY_5.out.only ho (fun hm => by have h := HZN.out.2 _ hm; omega))
        have HGO_6 := Lib.hid (OwnV.later _ _ _ (ho.sameOn (fun c hc => ⟨by have h := HGN.out.2 c hc; omega, fun hm => by have h1 := HZN.out.2 _ hm; have h2 := HGN.out.2 c hc; omega⟩)) HGO_5.out)
        have HG_5 := Lib.hid (HG_4.out.only ho (fun hm => by have h := HZN.out.2 _ hm; omega))
        clear HB_8 HT_8 HW_8 HWI_8 HX_6 HTO_6 HY_5 HGO_5 HG_4
        clear hmz ho HZO_7
        obtain ⟨x0, x1, x2, x3, x4⟩ := HY_6.out
        have hk0 : 0 ≤ (1 : Int) + f.marks := by omega
        go_wp2_with fail
        refine (markForm_any g _ bx (1 + f.marks) w12 HTO_7.out HTN.out.1 (fun c hm => by have h := HTN.out.2 c hm; omega) (by omega) (by have := HM.out; omega)).mono ?_
        rintro e w13 ⟨rfl, hmz, ho⟩
        have hs13 := ho.size
        clear x0 x1 x2 x3 x4
        have HB_10 := Lib.hid (HB_9.out.trans (ho.below (fun c hm => by have h := HTN.out.2 c hm; omega) (by omega)))
        have HT_10 := Lib.hid (two_only HT_9.out ho (fun hm => by have h := HTN.out.2 _ hm; omega) (fun hm => by have h := HTN.out.2 _ hm; omega))
        have HW_10 := Lib.hid (HW_9.out.only ho (fun hm => by have h := HTN.out.2 _ hm; omega))
        have HWI_10 := Lib.hid (InV.later (ho.same (fun k (hk : k < w3.heap.size) => ⟨by omega, fun hm => by have h := HTN.out.2 _ hm; omega⟩)) _ _ HWI_9.out)
        have HY_7 := Lib.hid (HY_6.out.only ho (fun hm => by have h := HTN.out.2 _ hm; omega))
        have HGO_7 := Lib.hid (OwnV.later _ _ _ (ho.sameOn (fun c hc => ⟨by have h := HGN.out.2 c hc; omega, fun hm => by have h1 := HTN.out.2 _ hm; have h2 := HGN.out.2 c hc; omega⟩)) HGO_6.out)
        have HG_6 := Lib.hid (HG_5.out.only ho (fun hm => by have h := HTN.out.2 _ hm; omega))
        clear HB_9 HT_9 HW_9 HWI_9 HY_6 HGO_6 HG_5
        clear hmz ho HTO_7
        obtain ⟨x0, x1, x2, x3, x4⟩ := HG_6.out
        obtain ⟨y0, y1, y2, y3, y4⟩ := HW_10.out
        have hk1 : 0 ≤ (1 : Int) + f.marks + g.marks := by omega
        go_wp2_with fail
        refine (eqForm_any w13.heap.size F F _ _ w13 (Nat.le_refl _) (OwnV.inV (φ := (· < w13.heap.size)) F _ bg (fun c hm => by have h := HGN.out.2 c hm; omega) HGO_7.out) (InV.mono (fun k (hk : k < w3.heap.size) => (by omega)) _ _ HWI_10.out)).mono ?_
        rintro e w14 ⟨rfl, hb⟩
        rw [sameB_refl F]
        have hs14 := hb.size
        clear x0 x1 x2 x3 x4 y0 y1 y2 y3 y4
        have HB_11 := Lib.hid (HB_10.out.trans (hb.mono (by omega)))
        have HT_11 := Lib.hid (HT_10.out.later hb)
        have HW_11 := Lib.hid (HW_10.out.later hb)
        have HWI_11 := Lib.hid (InV.later (same_below (hb.mono (by omega))) _ _ HWI_10.out)
        have HGO_8 := Lib.hid (OwnV.later _ _ _ (SameOn.of_below hb (fun c hm => by have h := HGN.out.2 c hm; omega)) HGO_7.out)
        have HG_7 := Lib.hid (HG_6.out.later hb)
        clear HB_10 HT_10 HW_10 HWI_10 HGO_7 HG_6
        clear hb
        obtain ⟨x0, x1, x2, x3, x4⟩ := HG_7.out
        go_wp2_with fail
        refine (markForm_any F _ bg 1 w14 HGO_8.out HGN.out.1 (fun c hm => by have h := HGN.out.2 c hm; omega) (by omega) (by have := HMF.out; omega)).mono ?_
        rintro e w15 ⟨rfl, hmg, ho⟩
        have hs15 := ho.size
        clear x0 x1 x2 x3 x4
        have HB_12 := Lib.hid (HB_11.out.trans (ho.below (fun c hm => by have h := HGN.out.2 c hm; omega) (by omega)))
        have HT_12 := Lib.hid (two_only HT_11.out ho (fun hm => by have h := HGN.out.2 _ hm; omega) (fun hm => by have h := HGN.out.2 _ hm; omega))
        have HW_12 := Lib.hid (HW_11.out.only ho (fun hm => by have h := HGN.out.2 _ hm; omega))
        have HWI_12 := Lib.hid (InV.later (ho.same (fun k (hk : k < w3.heap.size) => ⟨by omega, fun hm => by have h := HGN.out.2 _ hm; omega⟩)) _ _ HWI_11.out)
        have HG_8 := Lib.hid (HG_7.out.only ho (fun hm => by have h := HGN.out.2 _ hm; omega))
        clear HB_11 HT_11 HW_11 HWI_11 HG_7
        have HGM := Lib.hid (OwnV.inV (φ := (· < w6.heap.size)) _ _ bg (fun c hm => (HGN.out.2 c hm).2) hmg)
        clear hmg ho HGO_8
        obtain ⟨x0, x1, x2, x3, x4⟩ := HG_8.out
        have hk2 : 0 ≤ (1 : Int) + F.marks := by omega
        go_wp2_with fail
        refine (heldForm_any w6.heap.size F _ 1 w15 (by omega) HGM.out (by omega) (by have := HMF.out; omega)).mono ?_
        rintro e w16 ⟨rfl, hb⟩
        have hs16 := hb.size
        clear x0 x1 x2 x3 x4
        have HB_13 := Lib.hid (HB_12.out.trans (hb.mono (by omega)))
        have HT_13 := Lib.hid (HT_12.out.later hb)
        have HW_13 := Lib.hid (HW_12.out.later hb)
        have HWI_13 := Lib.hid (InV.later (same_below (hb.mono (by omega))) _ _ HWI_12.out)
        have HG_9 := Lib.hid (HG_8.out.later hb)
        have HGM_1 := Lib.hid (InV.later (same_below (hb.mono (by omega))) _ _ HGM.out)
        clear HB_12 HT_12 HW_12 HWI_12 HG_8 HGM
        clear hb
        go_wp2_with fail
        have hw16 : w.heap.size + 2 ≤ w16.heap.size := by omega
        have HTq := HT_13
        have HBq := HB_13
        apply cut_later (F := fun zb xa xb xc xd ya yb yc yd ra rb rc rd W => Below w16.heap.size w16 W ∧ w16.heap.size ≤ zb ∧ zb < W.heap.size ∧ FormBox W zb F ra rb rc rd ∧ InV (fun k => w16.heap.size ≤ k ∧ k < W.heap.size ∧ k ≠ zb) W F (.agg #[.int .i64 F.kind, .string F.name, .int .i64 F.n, .slice ra F.scopes.length rb, .slice rc F.kids.length rd]))
        case h1 =>
          intro HCONT0
          have HCONT := Lib.hid HCONT0
          clear HCONT0
          refine upto_begin (TwoBox w.heap.size (w.heap.size + 1) f g sa a sa' a' scap cap scap' cap') 11 (by kernel_rfl) ?_
          refine gen_any (fun u0 hu0 => ?_)
          have HU0 : Hid (Below w16.heap.size w16 u0) := by unfold Hid; rw [hu0]; exact (Below.refl _ _).drew
          have hsu0 : w16.heap.size ≤ u0.heap.size := HU0.out.size
          have hS0 : (TwoBox w.heap.size (w.heap.size + 1) f g sa a sa' a' scap cap scap' cap') u0 := HTq.out.later HU0.out
          clear hu0
          refine upto_take (i := 0) (d := some 95) (v := ?_) rfl rfl (by kernel_rfl) (by kernel_rfl) (by kernel_rfl) (by kernel_rfl) (fun _ _ _ h => h) (Or.inl ⟨by rfl, ?_⟩) hS0 ?_
          rotate_left
          · (intro wS hSw; obtain ⟨⟨_, _, _, _, _⟩, ⟨_, _, _, _, _⟩⟩ := hSw; go_simp; try with_reducible rfl)
          try simp only [Act.put, List.setIfInBounds_toArray, List.set_cons_zero, List.set_cons_succ]
          refine upto_take (i := 2) (d := some 97) (v := ?_) rfl rfl (by kernel_rfl) (by kernel_rfl) (by kernel_rfl) (by kernel_rfl) (fun _ _ _ h => h) (Or.inl ⟨by rfl, ?_⟩) hS0 ?_
          rotate_left
          · (intro wS hSw; obtain ⟨⟨_, _, _, _, _⟩, ⟨_, _, _, _, _⟩⟩ := hSw; go_simp; try with_reducible rfl)
          try simp only [Act.put, List.setIfInBounds_toArray, List.set_cons_zero, List.set_cons_succ]
          refine upto_two (i := 1) (j := 8) (by kernel_rfl) rfl rfl (fun K hK => ?_) (fun K hK => ?_)
          · go_simp
            refine (toForm_any w.heap.size f _ u0 (by omega) (InV.later (w := w) (same_below (HBq.out.trans (HU0.out.mono (by omega)))) _ _ HV.out) hszf).mono ?_
            rintro e u1 hp
            obtain ⟨xa, xb, xc, xd, rfl, hx, hb⟩ := hp.weak
            have hsu1 : u0.heap.size ≤ u1.heap.size := hb.size
            have HU1 : Hid (Below w16.heap.size w16 u1) := HU0.out.trans (hb.mono (by omega))
            have HX1 := Lib.hid hx
            refine hK.out _ _ (.inr (HTq.out.later HU1.out)) ?_
            clear hK K hx hb hp
            refine upto_two (i := 3) (j := 8) (by kernel_rfl) rfl rfl (fun K hK => ?_) (fun K hK => ?_)
            · go_simp
              refine (toForm_any w.heap.size g _ u1 (by omega) (InV.later (w := w) (same_below (HBq.out.trans (HU1.out.mono (by omega)))) _ _ HV2.out) hszg).mono ?_
              rintro e u2 hp
              obtain ⟨ya, yb, yc, yd, rfl, hx, hb⟩ := hp.weak
              have hsu2 : u1.heap.size ≤ u2.heap.size := hb.size
              have HU2 : Hid (Below w16.heap.size w16 u2) := HU1.out.trans (hb.mono (by omega))
              have HX2 : Hid (InV (fun k => k < u2.heap.size) u2 f (.agg #[.int .i64 f.kind, .string f.name, .int .i64 f.n, .slice xa f.scopes.length xb, .slice xc f.kids.length xd])) := InV.mono (fun k (hk : k < u1.heap.size) => (by omega : k < u2.heap.size)) _ _ (InV.later (same_below hb) _ _ HX1.out)
              have HY2 := Lib.hid hx
              refine hK.out _ _ (.inr (HTq.out.later HU2.out)) ?_
              clear hK K hx hb hp
              refine upto_two (i := 4) (j := 8) (by kernel_rfl) rfl rfl (fun K hK => ?_) (fun K hK => ?_)
              · go_simp
                refine (implDress_any f g _ _ u2 HX2.out HY2.out hszf ok F HOKI.out HRI.out).mono ?_
                rintro e u3 ⟨ra, rb, rc, rd, bh, rfl, hho, hhn, hhp, hb⟩
                have hx : InV (fun k => u2.heap.size ≤ k ∧ k < u3.heap.size) u3 F (.agg #[.int .i64 F.kind, .string F.name, .int .i64 F.n, .slice ra F.scopes.length rb, .slice rc F.kids.length rd]) := OwnV.inV F _ bh (fun c hm => hhn.2 c hm) hho
                clear hho hhn hhp
                have hsu3 : u2.heap.size ≤ u3.heap.size := hb.size
                have HU3 : Hid (Below w16.heap.size w16 u3) := HU2.out.trans (hb.mono (by omega))
                have HR3 : Hid (InV (fun k => w16.heap.size ≤ k ∧ k < u3.heap.size) u3 F (.agg #[.int .i64 F.kind, .string F.name, .int .i64 F.n, .slice ra F.scopes.length rb, .slice rc F.kids.length rd])) := InV.mono (fun k hk => by have h1 : u2.heap.size ≤ k := hk.1; have h2 : k < u3.heap.size := hk.2; exact ⟨by omega, by omega⟩) _ _ hx
                refine hK.out _ _ (.inr (HTq.out.later HU3.out)) ?_
                clear hK K hx hb
                have hS3 : (TwoBox w.heap.size (w.heap.size + 1) f g sa a sa' a' scap cap scap' cap') u3 := HTq.out.later HU3.out
                refine upto_take (i := 5) (d := some 94) (v := ?_) rfl rfl (by kernel_rfl) (by kernel_rfl) (by kernel_rfl) (by kernel_rfl) (fun _ _ _ h => h) (Or.inl ⟨by rfl, ?_⟩) hS3 ?_
                rotate_left
                · (intro wS hSw; go_simp; try with_reducible rfl)
                try simp only [Act.put, List.setIfInBounds_toArray, List.set_cons_zero, List.set_cons_succ]
                refine upto_take (i := 6) (d := some 100) (v := ?_) rfl rfl (by kernel_rfl) (by kernel_rfl) (by kernel_rfl) (by kernel_rfl) (fun _ _ _ h => h) (Or.inl ⟨by rfl, ?_⟩) hS3 ?_
                rotate_left
                · (intro wS hSw; go_simp; try with_reducible rfl)
                try simp only [Act.put, List.setIfInBounds_toArray, List.set_cons_zero, List.set_cons_succ]
                refine upto_take (i := 7) (d := some 101) (v := ?_) rfl rfl (by kernel_rfl) (by kernel_rfl) (by kernel_rfl) (by kernel_rfl) (fun _ _ _ h => h) (Or.inl ⟨by rfl, ?_⟩) hS3 ?_
                rotate_left
                · (intro wS hSw; go_simp; try with_reducible rfl)
                try simp only [Act.put, List.setIfInBounds_toArray, List.set_cons_zero, List.set_cons_succ]
                refine upto_one (i := 8) (by kernel_rfl) rfl (fun K hK => ?_)
                go_simp
                refine gen_world (fun u4 hu => ?_)
                have hs4 : u3.heap.size + 1 ≤ u4.heap.size := by rw [hu]; simp
                have hb : Below u3.heap.size u3 u4 := by rw [hu]; exact below_alloc _ _
                have hz0 : u4.heap[u3.heap.size]? = some (.cells #[.int .i64 0, .string { data := #[] }, .int .i64 0, .slice none 0 0, .slice none 0 0] 30 (0, 0)) := by rw [hu]; exact heap_alloc_new _ _
                clear hu
                obtain ⟨zb, hzb⟩ : ∃ zb, zb = u3.heap.size := ⟨_, rfl⟩
                rw [← hzb] at hz0 ⊢
                have HZ4 := Lib.hid hz0
                have hz1 : zb < u4.heap.size := by omega
                have hz2 : w16.heap.size ≤ zb := by omega
                have hz3 : u3.heap.size ≤ zb := by omega
                clear hzb
                have HU4 : Hid (Below w16.heap.size w16 u4) := HU3.out.trans (hb.mono (by omega))
                have HR4 : Hid (InV (fun k => w16.heap.size ≤ k ∧ k < u3.heap.size) u4 F (.agg #[.int .i64 F.kind, .string F.name, .int .i64 F.n, .slice ra F.scopes.length rb, .slice rc F.kids.length rd])) := InV.mono (fun k hk => ⟨hk.1, by have := hk.2; omega⟩) _ _ (InV.later (Same.of_below hb (fun k hk => hk.2)) _ _ HR3.out)
                have HRz4 : Hid (InV (fun k => w16.heap.size ≤ k ∧ k < u4.heap.size ∧ k ≠ zb) u4 F (.agg #[.int .i64 F.kind, .string F.name, .int .i64 F.n, .slice ra F.scopes.length rb, .slice rc F.kids.length rd])) := InV.mono (fun k hk => by have h1 := hk.1; have h2 := hk.2; exact ⟨by omega, by omega, by omega⟩) _ _ HR4.out
                refine hK.out _ _ (.inr (HTq.out.later HU4.out)) ?_
                clear hK K hb hz0
                obtain ⟨r0, r1, r2, r3, r4, t0, t1, t2, t3, t4⟩ := zeroFacts HZ4.out
                have hth := zeroThere HZ4.out
                refine upto_one (i := 9) (by kernel_rfl) rfl (fun K hK => ?_)
                go_simp
                refine gen_world (fun u5 hu => ?_)
                have he : u5 = set5 u4 zb 0 (.int .i64 F.kind) (.string F.name) (.int .i64 F.n) (.slice ra F.scopes.length rb) (.slice rc F.kids.length rd) := by rw [hu]; simp only [set5, Nat.zero_add]
                clear hu
                have HU5 : Hid (Below w16.heap.size w16 u5) := by unfold Hid; rw [he]; exact set5_below HU4.out (b := zb) (by omega) 0 _ _ _ _ _
                have hs5 : u4.heap.size ≤ u5.heap.size := by rw [he, set5_size]; exact Nat.le_refl _
                have hbx : FormBox u5 zb F ra rb rc rd := by rw [he]; exact set5_in u4 zb 0 (.int .i64 F.kind) (.string F.name) (.int .i64 F.n) (.slice ra F.scopes.length rb) (.slice rc F.kids.length rd) hth
                have hr : InV (fun k => w16.heap.size ≤ k ∧ k < u5.heap.size ∧ k ≠ zb) u5 F (.agg #[.int .i64 F.kind, .string F.name, .int .i64 F.n, .slice ra F.scopes.length rb, .slice rc F.kids.length rd]) := InV.mono (fun k hk => ⟨hk.1, by have := hk.2.1; omega, hk.2.2⟩) _ _ (InV.later (w' := u5) (fun c hc => by rw [he]; exact set5_block _ _ _ _ _ _ _ _ hc.2.2) _ _ HRz4.out)
                clear he r0 r1 r2 r3 r4 t0 t1 t2 t3 t4 hth
                refine hK.out _ _ (.inr (HTq.out.later HU5.out)) ?_
                clear hK K
                refine upto_one (i := 10) (by kernel_rfl) rfl (fun K hK => ?_)
                go_simp
                refine hK.out _ _ (.inr (HTq.out.later HU5.out)) ?_
                clear hK K
                refine upto_done (by kernel_rfl) ?_ _
                exact HCONT.out zb xa xb xc xd ya yb yc yd ra rb rc rd u5 ⟨HU5.out, by omega, by omega, hbx, hr⟩
              · go_simp
                refine gen_world (fun u6 hu => ?_)
                have hs6 : u2.heap.size + 1 ≤ u6.heap.size := by rw [hu]; simp
                have hb : Below u2.heap.size u2 u6 := by rw [hu]; exact below_alloc _ _
                have hz0 : u6.heap[u2.heap.size]? = some (.cells #[.int .i64 0, .string { data := #[] }, .int .i64 0, .slice none 0 0, .slice none 0 0] 30 (0, 0)) := by rw [hu]; exact heap_alloc_new _ _
                clear hu
                obtain ⟨zb, hzb⟩ : ∃ zb, zb = u2.heap.size := ⟨_, rfl⟩
                rw [← hzb] at hz0 ⊢
                have HZ6 := Lib.hid hz0
                have hz1 : zb < u6.heap.size := by omega
                have hz2 : w16.heap.size ≤ zb := by omega
                have hz3 : u2.heap.size ≤ zb := by omega
                clear hzb
                have HU6 : Hid (Below w16.heap.size w16 u6) := HU2.out.trans (hb.mono (by omega))
                have HX6 : Hid (InV (fun k => k < u6.heap.size) u6 f (.agg #[.int .i64 f.kind, .string f.name, .int .i64 f.n, .slice xa f.scopes.length xb, .slice xc f.kids.length xd])) := InV.mono (fun k (hk : k < u2.heap.size) => (by omega : k < u6.heap.size)) _ _ (InV.later (same_below hb) _ _ HX2.out)
                have HY6 : Hid (InV (fun k => k < u6.heap.size) u6 g (.agg #[.int .i64 g.kind, .string g.name, .int .i64 g.n, .slice ya g.scopes.length yb, .slice yc g.kids.length yd])) := InV.mono (fun k (hk : k < u2.heap.size) => (by omega : k < u6.heap.size)) _ _ (InV.later (same_below hb) _ _ HY2.out)
                refine hK.out _ _ (.inr (HTq.out.later HU6.out)) ?_
                clear hK K hb hz0
                refine upto_one (i := 4) (by kernel_rfl) rfl (fun K hK => ?_)
                go_simp
                refine (implDress_any f g _ _ u6 HX6.out HY6.out hszf ok F HOKI.out HRI.out).mono ?_
                rintro e u7 ⟨ra, rb, rc, rd, bh, rfl, hho, hhn, hhp, hb⟩
                have hx : InV (fun k => u6.heap.size ≤ k ∧ k < u7.heap.size) u7 F (.agg #[.int .i64 F.kind, .string F.name, .int .i64 F.n, .slice ra F.scopes.length rb, .slice rc F.kids.length rd]) := OwnV.inV F _ bh (fun c hm => hhn.2 c hm) hho
                clear hho hhn hhp
                have hsu7 : u6.heap.size ≤ u7.heap.size := hb.size
                have HU7 : Hid (Below w16.heap.size w16 u7) := HU6.out.trans (hb.mono (by omega))
                have HZ7 : Hid (u7.heap[zb]? = some (.cells #[.int .i64 0, .string { data := #[] }, .int .i64 0, .slice none 0 0, .slice none 0 0] 30 (0, 0))) := (hb.block _ (by omega)).trans HZ6.out
                have HR7 : Hid (InV (fun k => w16.heap.size ≤ k ∧ k < u7.heap.size ∧ k ≠ zb) u7 F (.agg #[.int .i64 F.kind, .string F.name, .int .i64 F.n, .slice ra F.scopes.length rb, .slice rc F.kids.length rd])) := InV.mono (fun k hk => by have h1 : u6.heap.size ≤ k := hk.1; have h2 : k < u7.heap.size := hk.2; exact ⟨by omega, by omega, by omega⟩) _ _ hx
                refine hK.out _ _ (.inr (HTq.out.later HU7.out)) ?_
                clear hK K hx hb
                have hS7 : (TwoBox w.heap.size (w.heap.size + 1) f g sa a sa' a' scap cap scap' cap') u7 := HTq.out.later HU7.out
                refine upto_take (i := 5) (d := some 94) (v := ?_) rfl rfl (by kernel_rfl) (by kernel_rfl) (by kernel_rfl) (by kernel_rfl) (fun _ _ _ h => h) (Or.inl ⟨by rfl, ?_⟩) hS7 ?_
                rotate_left
                · (intro wS hSw; go_simp; try with_reducible rfl)
                try simp only [Act.put, List.setIfInBounds_toArray, List.set_cons_zero, List.set_cons_succ]
                refine upto_take (i := 6) (d := some 100) (v := ?_) rfl rfl (by kernel_rfl) (by kernel_rfl) (by kernel_rfl) (by kernel_rfl) (fun _ _ _ h => h) (Or.inl ⟨by rfl, ?_⟩) hS7 ?_
                rotate_left
                · (intro wS hSw; go_simp; try with_reducible rfl)
                try simp only [Act.put, List.setIfInBounds_toArray, List.set_cons_zero, List.set_cons_succ]
                refine upto_take (i := 7) (d := some 101) (v := ?_) rfl rfl (by kernel_rfl) (by kernel_rfl) (by kernel_rfl) (by kernel_rfl) (fun _ _ _ h => h) (Or.inl ⟨by rfl, ?_⟩) hS7 ?_
                rotate_left
                · (intro wS hSw; go_simp; try with_reducible rfl)
                try simp only [Act.put, List.setIfInBounds_toArray, List.set_cons_zero, List.set_cons_succ]
                obtain ⟨r0, r1, r2, r3, r4, t0, t1, t2, t3, t4⟩ := zeroFacts HZ7.out
                have hth := zeroThere HZ7.out
                refine upto_one (i := 9) (by kernel_rfl) rfl (fun K hK => ?_)
                go_simp
                refine gen_world (fun u8 hu => ?_)
                have he : u8 = set5 u7 zb 0 (.int .i64 F.kind) (.string F.name) (.int .i64 F.n) (.slice ra F.scopes.length rb) (.slice rc F.kids.length rd) := by rw [hu]; simp only [set5, Nat.zero_add]
                clear hu
                have HU8 : Hid (Below w16.heap.size w16 u8) := by unfold Hid; rw [he]; exact set5_below HU7.out (b := zb) (by omega) 0 _ _ _ _ _
                have hs8 : u7.heap.size ≤ u8.heap.size := by rw [he, set5_size]; exact Nat.le_refl _
                have hbx : FormBox u8 zb F ra rb rc rd := by rw [he]; exact set5_in u7 zb 0 (.int .i64 F.kind) (.string F.name) (.int .i64 F.n) (.slice ra F.scopes.length rb) (.slice rc F.kids.length rd) hth
                have hr : InV (fun k => w16.heap.size ≤ k ∧ k < u8.heap.size ∧ k ≠ zb) u8 F (.agg #[.int .i64 F.kind, .string F.name, .int .i64 F.n, .slice ra F.scopes.length rb, .slice rc F.kids.length rd]) := InV.mono (fun k hk => ⟨hk.1, by have := hk.2.1; omega, hk.2.2⟩) _ _ (InV.later (w' := u8) (fun c hc => by rw [he]; exact set5_block _ _ _ _ _ _ _ _ hc.2.2) _ _ HR7.out)
                clear he r0 r1 r2 r3 r4 t0 t1 t2 t3 t4 hth
                refine hK.out _ _ (.inr (HTq.out.later HU8.out)) ?_
                clear hK K
                refine upto_one (i := 10) (by kernel_rfl) rfl (fun K hK => ?_)
                go_simp
                refine hK.out _ _ (.inr (HTq.out.later HU8.out)) ?_
                clear hK K
                refine upto_done (by kernel_rfl) ?_ _
                exact HCONT.out zb xa xb xc xd ya yb yc yd ra rb rc rd u8 ⟨HU8.out, by omega, by omega, hbx, hr⟩
            · go_simp
              refine gen_world (fun u9 hu => ?_)
              have hs9 : u1.heap.size + 1 ≤ u9.heap.size := by rw [hu]; simp
              have hb : Below u1.heap.size u1 u9 := by rw [hu]; exact below_alloc _ _
              have hz0 : u9.heap[u1.heap.size]? = some (.cells #[.int .i64 0, .string { data := #[] }, .int .i64 0, .slice none 0 0, .slice none 0 0] 30 (0, 0)) := by rw [hu]; exact heap_alloc_new _ _
              clear hu
              obtain ⟨zb, hzb⟩ : ∃ zb, zb = u1.heap.size := ⟨_, rfl⟩
              rw [← hzb] at hz0 ⊢
              have HZ9 := Lib.hid hz0
              have hz1 : zb < u9.heap.size := by omega
              have hz2 : w16.heap.size ≤ zb := by omega
              have hz3 : u1.heap.size ≤ zb := by omega
              clear hzb
              have HU9 : Hid (Below w16.heap.size w16 u9) := HU1.out.trans (hb.mono (by omega))
              have HX9 : Hid (InV (fun k => k < u9.heap.size) u9 f (.agg #[.int .i64 f.kind, .string f.name, .int .i64 f.n, .slice xa f.scopes.length xb, .slice xc f.kids.length xd])) := InV.mono (fun k (hk : k < u1.heap.size) => (by omega : k < u9.heap.size)) _ _ (InV.later (same_below hb) _ _ HX1.out)
              refine hK.out _ _ (.inr (HTq.out.later HU9.out)) ?_
              clear hK K hb hz0
              refine upto_one (i := 3) (by kernel_rfl) rfl (fun K hK => ?_)
              go_simp
              refine (toForm_any w.heap.size g _ u9 (by omega) (InV.later (w := w) (same_below (HBq.out.trans (HU9.out.mono (by omega)))) _ _ HV2.out) hszg).mono ?_
              rintro e u10 hp
              obtain ⟨ya, yb, yc, yd, rfl, hx, hb⟩ := hp.weak
              have hsu10 : u9.heap.size ≤ u10.heap.size := hb.size
              have HU10 : Hid (Below w16.heap.size w16 u10) := HU9.out.trans (hb.mono (by omega))
              have HX10 : Hid (InV (fun k => k < u10.heap.size) u10 f (.agg #[.int .i64 f.kind, .string f.name, .int .i64 f.n, .slice xa f.scopes.length xb, .slice xc f.kids.length xd])) := InV.mono (fun k (hk : k < u9.heap.size) => (by omega : k < u10.heap.size)) _ _ (InV.later (same_below hb) _ _ HX9.out)
              have HZ10 : Hid (u10.heap[zb]? = some (.cells #[.int .i64 0, .string { data := #[] }, .int .i64 0, .slice none 0 0, .slice none 0 0] 30 (0, 0))) := (hb.block _ (by omega)).trans HZ9.out
              have HY10 := Lib.hid hx
              refine hK.out _ _ (.inr (HTq.out.later HU10.out)) ?_
              clear hK K hx hb hp
              refine upto_one (i := 4) (by kernel_rfl) rfl (fun K hK => ?_)
              go_simp
              refine (implDress_any f g _ _ u10 HX10.out HY10.out hszf ok F HOKI.out HRI.out).mono ?_
              rintro e u11 ⟨ra, rb, rc, rd, bh, rfl, hho, hhn, hhp, hb⟩
              have hx : InV (fun k => u10.heap.size ≤ k ∧ k < u11.heap.size) u11 F (.agg #[.int .i64 F.kind, .string F.name, .int .i64 F.n, .slice ra F.scopes.length rb, .slice rc F.kids.length rd]) := OwnV.inV F _ bh (fun c hm => hhn.2 c hm) hho
              clear hho hhn hhp
              have hsu11 : u10.heap.size ≤ u11.heap.size := hb.size
              have HU11 : Hid (Below w16.heap.size w16 u11) := HU10.out.trans (hb.mono (by omega))
              have HZ11 : Hid (u11.heap[zb]? = some (.cells #[.int .i64 0, .string { data := #[] }, .int .i64 0, .slice none 0 0, .slice none 0 0] 30 (0, 0))) := (hb.block _ (by omega)).trans HZ10.out
              have HR11 : Hid (InV (fun k => w16.heap.size ≤ k ∧ k < u11.heap.size ∧ k ≠ zb) u11 F (.agg #[.int .i64 F.kind, .string F.name, .int .i64 F.n, .slice ra F.scopes.length rb, .slice rc F.kids.length rd])) := InV.mono (fun k hk => by have h1 : u10.heap.size ≤ k := hk.1; have h2 : k < u11.heap.size := hk.2; exact ⟨by omega, by omega, by omega⟩) _ _ hx
              refine hK.out _ _ (.inr (HTq.out.later HU11.out)) ?_
              clear hK K hx hb
              have hS11 : (TwoBox w.heap.size (w.heap.size + 1) f g sa a sa' a' scap cap scap' cap') u11 := HTq.out.later HU11.out
              refine upto_take (i := 5) (d := some 94) (v := ?_) rfl rfl (by kernel_rfl) (by kernel_rfl) (by kernel_rfl) (by kernel_rfl) (fun _ _ _ h => h) (Or.inl ⟨by rfl, ?_⟩) hS11 ?_
              rotate_left
              · (intro wS hSw; go_simp; try with_reducible rfl)
              try simp only [Act.put, List.setIfInBounds_toArray, List.set_cons_zero, List.set_cons_succ]
              refine upto_take (i := 6) (d := some 100) (v := ?_) rfl rfl (by kernel_rfl) (by kernel_rfl) (by kernel_rfl) (by kernel_rfl) (fun _ _ _ h => h) (Or.inl ⟨by rfl, ?_⟩) hS11 ?_
              rotate_left
              · (intro wS hSw; go_simp; try with_reducible rfl)
              try simp only [Act.put, List.setIfInBounds_toArray, List.set_cons_zero, List.set_cons_succ]
              refine upto_take (i := 7) (d := some 101) (v := ?_) rfl rfl (by kernel_rfl) (by kernel_rfl) (by kernel_rfl) (by kernel_rfl) (fun _ _ _ h => h) (Or.inl ⟨by rfl, ?_⟩) hS11 ?_
              rotate_left
              · (intro wS hSw; go_simp; try with_reducible rfl)
              try simp only [Act.put, List.setIfInBounds_toArray, List.set_cons_zero, List.set_cons_succ]
              obtain ⟨r0, r1, r2, r3, r4, t0, t1, t2, t3, t4⟩ := zeroFacts HZ11.out
              have hth := zeroThere HZ11.out
              refine upto_one (i := 9) (by kernel_rfl) rfl (fun K hK => ?_)
              go_simp
              refine gen_world (fun u12 hu => ?_)
              have he : u12 = set5 u11 zb 0 (.int .i64 F.kind) (.string F.name) (.int .i64 F.n) (.slice ra F.scopes.length rb) (.slice rc F.kids.length rd) := by rw [hu]; simp only [set5, Nat.zero_add]
              clear hu
              have HU12 : Hid (Below w16.heap.size w16 u12) := by unfold Hid; rw [he]; exact set5_below HU11.out (b := zb) (by omega) 0 _ _ _ _ _
              have hs12 : u11.heap.size ≤ u12.heap.size := by rw [he, set5_size]; exact Nat.le_refl _
              have hbx : FormBox u12 zb F ra rb rc rd := by rw [he]; exact set5_in u11 zb 0 (.int .i64 F.kind) (.string F.name) (.int .i64 F.n) (.slice ra F.scopes.length rb) (.slice rc F.kids.length rd) hth
              have hr : InV (fun k => w16.heap.size ≤ k ∧ k < u12.heap.size ∧ k ≠ zb) u12 F (.agg #[.int .i64 F.kind, .string F.name, .int .i64 F.n, .slice ra F.scopes.length rb, .slice rc F.kids.length rd]) := InV.mono (fun k hk => ⟨hk.1, by have := hk.2.1; omega, hk.2.2⟩) _ _ (InV.later (w' := u12) (fun c hc => by rw [he]; exact set5_block _ _ _ _ _ _ _ _ hc.2.2) _ _ HR11.out)
              clear he r0 r1 r2 r3 r4 t0 t1 t2 t3 t4 hth
              refine hK.out _ _ (.inr (HTq.out.later HU12.out)) ?_
              clear hK K
              refine upto_one (i := 10) (by kernel_rfl) rfl (fun K hK => ?_)
              go_simp
              refine hK.out _ _ (.inr (HTq.out.later HU12.out)) ?_
              clear hK K
              refine upto_done (by kernel_rfl) ?_ _
              exact HCONT.out zb xa xb xc xd ya yb yc yd ra rb rc rd u12 ⟨HU12.out, by omega, by omega, hbx, hr⟩
          · go_simp
            refine gen_world (fun u13 hu => ?_)
            have hs13 : u0.heap.size + 1 ≤ u13.heap.size := by rw [hu]; simp
            have hb : Below u0.heap.size u0 u13 := by rw [hu]; exact below_alloc _ _
            have hz0 : u13.heap[u0.heap.size]? = some (.cells #[.int .i64 0, .string { data := #[] }, .int .i64 0, .slice none 0 0, .slice none 0 0] 30 (0, 0)) := by rw [hu]; exact heap_alloc_new _ _
            clear hu
            obtain ⟨zb, hzb⟩ : ∃ zb, zb = u0.heap.size := ⟨_, rfl⟩
            rw [← hzb] at hz0 ⊢
            have HZ13 := Lib.hid hz0
            have hz1 : zb < u13.heap.size := by omega
            have hz2 : w16.heap.size ≤ zb := by omega
            have hz3 : u0.heap.size ≤ zb := by omega
            clear hzb
            have HU13 : Hid (Below w16.heap.size w16 u13) := HU0.out.trans (hb.mono (by omega))
            refine hK.out _ _ (.inr (HTq.out.later HU13.out)) ?_
            clear hK K hb hz0
            refine upto_one (i := 1) (by kernel_rfl) rfl (fun K hK => ?_)
            go_simp
            refine (toForm_any w.heap.size f _ u13 (by omega) (InV.later (w := w) (same_below (HBq.out.trans (HU13.out.mono (by omega)))) _ _ HV.out) hszf).mono ?_
            rintro e u14 hp
            obtain ⟨xa, xb, xc, xd, rfl, hx, hb⟩ := hp.weak
            have hsu14 : u13.heap.size ≤ u14.heap.size := hb.size
            have HU14 : Hid (Below w16.heap.size w16 u14) := HU13.out.trans (hb.mono (by omega))
            have HZ14 : Hid (u14.heap[zb]? = some (.cells #[.int .i64 0, .string { data := #[] }, .int .i64 0, .slice none 0 0, .slice none 0 0] 30 (0, 0))) := (hb.block _ (by omega)).trans HZ13.out
            have HX14 := Lib.hid hx
            refine hK.out _ _ (.inr (HTq.out.later HU14.out)) ?_
            clear hK K hx hb hp
            refine upto_one (i := 3) (by kernel_rfl) rfl (fun K hK => ?_)
            go_simp
            refine (toForm_any w.heap.size g _ u14 (by omega) (InV.later (w := w) (same_below (HBq.out.trans (HU14.out.mono (by omega)))) _ _ HV2.out) hszg).mono ?_
            rintro e u15 hp
            obtain ⟨ya, yb, yc, yd, rfl, hx, hb⟩ := hp.weak
            have hsu15 : u14.heap.size ≤ u15.heap.size := hb.size
            have HU15 : Hid (Below w16.heap.size w16 u15) := HU14.out.trans (hb.mono (by omega))
            have HX15 : Hid (InV (fun k => k < u15.heap.size) u15 f (.agg #[.int .i64 f.kind, .string f.name, .int .i64 f.n, .slice xa f.scopes.length xb, .slice xc f.kids.length xd])) := InV.mono (fun k (hk : k < u14.heap.size) => (by omega : k < u15.heap.size)) _ _ (InV.later (same_below hb) _ _ HX14.out)
            have HZ15 : Hid (u15.heap[zb]? = some (.cells #[.int .i64 0, .string { data := #[] }, .int .i64 0, .slice none 0 0, .slice none 0 0] 30 (0, 0))) := (hb.block _ (by omega)).trans HZ14.out
            have HY15 := Lib.hid hx
            refine hK.out _ _ (.inr (HTq.out.later HU15.out)) ?_
            clear hK K hx hb hp
            refine upto_one (i := 4) (by kernel_rfl) rfl (fun K hK => ?_)
            go_simp
            refine (implDress_any f g _ _ u15 HX15.out HY15.out hszf ok F HOKI.out HRI.out).mono ?_
            rintro e u16 ⟨ra, rb, rc, rd, bh, rfl, hho, hhn, hhp, hb⟩
            have hx : InV (fun k => u15.heap.size ≤ k ∧ k < u16.heap.size) u16 F (.agg #[.int .i64 F.kind, .string F.name, .int .i64 F.n, .slice ra F.scopes.length rb, .slice rc F.kids.length rd]) := OwnV.inV F _ bh (fun c hm => hhn.2 c hm) hho
            clear hho hhn hhp
            have hsu16 : u15.heap.size ≤ u16.heap.size := hb.size
            have HU16 : Hid (Below w16.heap.size w16 u16) := HU15.out.trans (hb.mono (by omega))
            have HZ16 : Hid (u16.heap[zb]? = some (.cells #[.int .i64 0, .string { data := #[] }, .int .i64 0, .slice none 0 0, .slice none 0 0] 30 (0, 0))) := (hb.block _ (by omega)).trans HZ15.out
            have HR16 : Hid (InV (fun k => w16.heap.size ≤ k ∧ k < u16.heap.size ∧ k ≠ zb) u16 F (.agg #[.int .i64 F.kind, .string F.name, .int .i64 F.n, .slice ra F.scopes.length rb, .slice rc F.kids.length rd])) := InV.mono (fun k hk => by have h1 : u15.heap.size ≤ k := hk.1; have h2 : k < u16.heap.size := hk.2; exact ⟨by omega, by omega, by omega⟩) _ _ hx
            refine hK.out _ _ (.inr (HTq.out.later HU16.out)) ?_
            clear hK K hx hb
            have hS16 : (TwoBox w.heap.size (w.heap.size + 1) f g sa a sa' a' scap cap scap' cap') u16 := HTq.out.later HU16.out
            refine upto_take (i := 5) (d := some 94) (v := ?_) rfl rfl (by kernel_rfl) (by kernel_rfl) (by kernel_rfl) (by kernel_rfl) (fun _ _ _ h => h) (Or.inl ⟨by rfl, ?_⟩) hS16 ?_
            rotate_left
            · (intro wS hSw; go_simp; try with_reducible rfl)
            try simp only [Act.put, List.setIfInBounds_toArray, List.set_cons_zero, List.set_cons_succ]
            refine upto_take (i := 6) (d := some 100) (v := ?_) rfl rfl (by kernel_rfl) (by kernel_rfl) (by kernel_rfl) (by kernel_rfl) (fun _ _ _ h => h) (Or.inl ⟨by rfl, ?_⟩) hS16 ?_
            rotate_left
            · (intro wS hSw; go_simp; try with_reducible rfl)
            try simp only [Act.put, List.setIfInBounds_toArray, List.set_cons_zero, List.set_cons_succ]
            refine upto_take (i := 7) (d := some 101) (v := ?_) rfl rfl (by kernel_rfl) (by kernel_rfl) (by kernel_rfl) (by kernel_rfl) (fun _ _ _ h => h) (Or.inl ⟨by rfl, ?_⟩) hS16 ?_
            rotate_left
            · (intro wS hSw; go_simp; try with_reducible rfl)
            try simp only [Act.put, List.setIfInBounds_toArray, List.set_cons_zero, List.set_cons_succ]
            obtain ⟨r0, r1, r2, r3, r4, t0, t1, t2, t3, t4⟩ := zeroFacts HZ16.out
            have hth := zeroThere HZ16.out
            refine upto_one (i := 9) (by kernel_rfl) rfl (fun K hK => ?_)
            go_simp
            refine gen_world (fun u17 hu => ?_)
            have he : u17 = set5 u16 zb 0 (.int .i64 F.kind) (.string F.name) (.int .i64 F.n) (.slice ra F.scopes.length rb) (.slice rc F.kids.length rd) := by rw [hu]; simp only [set5, Nat.zero_add]
            clear hu
            have HU17 : Hid (Below w16.heap.size w16 u17) := by unfold Hid; rw [he]; exact set5_below HU16.out (b := zb) (by omega) 0 _ _ _ _ _
            have hs17 : u16.heap.size ≤ u17.heap.size := by rw [he, set5_size]; exact Nat.le_refl _
            have hbx : FormBox u17 zb F ra rb rc rd := by rw [he]; exact set5_in u16 zb 0 (.int .i64 F.kind) (.string F.name) (.int .i64 F.n) (.slice ra F.scopes.length rb) (.slice rc F.kids.length rd) hth
            have hr : InV (fun k => w16.heap.size ≤ k ∧ k < u17.heap.size ∧ k ≠ zb) u17 F (.agg #[.int .i64 F.kind, .string F.name, .int .i64 F.n, .slice ra F.scopes.length rb, .slice rc F.kids.length rd]) := InV.mono (fun k hk => ⟨hk.1, by have := hk.2.1; omega, hk.2.2⟩) _ _ (InV.later (w' := u17) (fun c hc => by rw [he]; exact set5_block _ _ _ _ _ _ _ _ hc.2.2) _ _ HR16.out)
            clear he r0 r1 r2 r3 r4 t0 t1 t2 t3 t4 hth
            refine hK.out _ _ (.inr (HTq.out.later HU17.out)) ?_
            clear hK K
            refine upto_one (i := 10) (by kernel_rfl) rfl (fun K hK => ?_)
            go_simp
            refine hK.out _ _ (.inr (HTq.out.later HU17.out)) ?_
            clear hK K
            refine upto_done (by kernel_rfl) ?_ _
            exact HCONT.out zb xa xb xc xd ya yb yc yd ra rb rc rd u17 ⟨HU17.out, by omega, by omega, hbx, hr⟩
        case h2 =>
          intro z5 q1 q2 q3 q4 q5 q6 q7 q8 ha hb1 hc hd w17 ⟨hb, hz3, hz4, hbx, hin⟩
          have hs17 := hb.size
          have HB_14 := Lib.hid (HB_13.out.trans (hb.mono (by omega)))
          have HT_14 := Lib.hid (HT_13.out.later hb)
          have HW_14 := Lib.hid (HW_13.out.later hb)
          have HWI_14 := Lib.hid (InV.later (same_below (hb.mono (by omega))) _ _ HWI_13.out)
          have HG_10 := Lib.hid (HG_9.out.later hb)
          have HGM_2 := Lib.hid (InV.later (same_below (hb.mono (by omega))) _ _ HGM_1.out)
          clear HB_13 HT_13 HW_13 HWI_13 HG_9 HGM_1
          have HH := Lib.hid hbx
          have HHI : Hid (InV (fun k => k < w17.heap.size) w17 F (.agg #[.int .i64 F.kind, .string F.name, .int .i64 F.n, .slice ha F.scopes.length hb1, .slice hc F.kids.length hd])) := InV.mono (fun k hk => hk.2.1) _ _ hin
          clear hb hbx hin
          obtain ⟨x0, x1, x2, x3, x4⟩ := HH.out
          obtain ⟨y0, y1, y2, y3, y4⟩ := HW_14.out
          go_wp2_with fail
          refine (eqForm_any w17.heap.size F F _ _ w17 (Nat.le_refl _) HHI.out (InV.mono (fun k (hk : k < w3.heap.size) => (by omega)) _ _ HWI_14.out)).mono ?_
          rintro e w18 ⟨rfl, hb⟩
          rw [sameB_refl F]
          have hs18 := hb.size
          clear x0 x1 x2 x3 x4 y0 y1 y2 y3 y4
          have HB_15 := Lib.hid (HB_14.out.trans (hb.mono (by omega)))
          have HT_15 := Lib.hid (HT_14.out.later hb)
          have HW_15 := Lib.hid (HW_14.out.later hb)
          have HWI_15 := Lib.hid (InV.later (same_below (hb.mono (by omega))) _ _ HWI_14.out)
          have HG_11 := Lib.hid (HG_10.out.later hb)
          have HGM_3 := Lib.hid (InV.later (same_below (hb.mono (by omega))) _ _ HGM_2.out)
          clear HB_14 HT_14 HW_14 HWI_14 HG_10 HGM_2
          clear hb
          obtain ⟨x0, x1, x2, x3, x4⟩ := HG_11.out
          go_wp2_with fail
          refine (heldForm_any w6.heap.size F _ 1 w18 (by omega) HGM_3.out (by omega) (by have := HMF.out; omega)).mono ?_
          rintro e w19 ⟨rfl, hb⟩
          have HBl : Hid (Below w.heap.size w w19) := HB_15.out.trans (hb.mono (by omega))
          clear hb x0 x1 x2 x3 x4
          go_wp2_with fail
          go_ret
          exact ⟨rfl, HBl.out⟩
theorem own : ownKnob Try.prog.godebug = none := by kernel_rfl
theorem laidOut : laidOutB Try.prog = true := by kernel_rfl
set_option maxRecDepth 100000 in
theorem lifted (os : Os) (started : os.Started) (H : Type) (enc : TypeId × Value → H) :
    ReturnsInHanded {} Try.checked os 10 .any (Rows.fnExactDressLikeSpec.pre6 enc Try.prog Try.f10 Rows.fnExactDressLikeRow.domain false) (Rows.fnExactDressLikeSpec.post enc Try.prog Try.f10 false true false false) := by
  refine returnsInHanded_of_change (C := Try.checked) own started (by kernel_rfl) Try.func10
    (ChangeSpec.witness6 (enc := enc) (C := Try.checked) false ⟨#[], #[.agg #[.int .i64 0, .string ByteArray.empty, .int .i64 0, .slice none 0 0, .slice none 0 0], .agg #[.int .i64 0, .string ByteArray.empty, .int .i64 0, .slice none 0 0, .slice none 0 0]], []⟩ 12 (by kernel_rfl) (by kernel_rfl) (by kernel_rfl) (by kernel_rfl)) ?_
  intro W base args ds gs before hval0 hW hcnd _
  have hval : ∀ (j : Nat) t v, Try.f10.params[j]? = some t → args[j]? = some v → Value.okWide Try.prog W .any base t v := hval0
  have hW' := hW
  obtain ⟨p, q, hA0, hV, rfl, hfz, hnd⟩ := hW
  have hA : DataW.TrodAll enc Try.prog W 0 (fun _ => true) true Try.f10.params.toList args.toList ds p := hA0
  rw [Try.params10] at hA hval
  obtain ⟨v0, vs0, d0, ds0, p0, q0, hargs, rfl, rfl, h0, r0⟩ := trodAll_cons hA
  obtain ⟨v1, vs1, d1, ds1, p1, q1, rfl, rfl, rfl, h1, r1⟩ := trodAll_cons r0
  obtain ⟨rfl, rfl, rfl⟩ := trodAll_nil r1
  obtain rfl : args = #[v0, v1] := by cases args; simp_all
  obtain ⟨rfl, rfl⟩ := trodVars_none hV
  have k0 := h0
  have lt0 : ∀ x ∈ p0, x.block < W.heap.size := by obtain ⟨m, hm⟩ := k0; exact DataW.trod_lt m _ _ _ hm
  obtain ⟨f0, i0⟩ := open_form_arg (hval 0 25 v0 rfl rfl) h0
  have k1 := h1
  have lt1 : ∀ x ∈ p1, x.block < W.heap.size := by obtain ⟨m, hm⟩ := k1; exact DataW.trod_lt m _ _ _ hm
  obtain ⟨f1, i1⟩ := open_form_arg (hval 1 25 v1 rfl rfl) h1
  clear hA0 hval0
  try simp only [List.append_nil] at hW'
  refine (walk W f0 v0 i0 f1 v1 i1).mono fun e W' ⟨he, bel⟩ => ?_
  subst he
  exact ⟨_, rfl, _, _, _, [], _, [], hW', trodAll_mk1 (shut_bool Try.underlying4 _), (trodAll_cons_mk (Below.trod laidOut (by kernel_rfl) (of_decide_eq_true (by kernel_rfl)) k0 bel lt0) (trodAll_cons_mk (Below.trod laidOut (by kernel_rfl) (of_decide_eq_true (by kernel_rfl)) k1 bel lt1) trodAll_mk0)), rfl, bel.frame _, fun h => by cases h⟩
theorem over : Rows.fnExactDressLikeRow.holds Try.pinned (OpenSpec.ofChange Rows.fnExactDressLikeSpec) :=
  OpenClaim.holds_of_wide 10 Try.f10 rfl rfl rfl rfl rfl rfl rfl ⟨rfl, rfl, rfl, rfl, rfl⟩ rfl rfl rfl rfl rfl (by kernel_rfl) Try.func10 (by kernel_rfl)
    (of_decide_eq_true (by kernel_rfl)) (by unfold Func.isWrapper; first | (rw [if_pos (by decide +kernel)]; kernel_rfl) | (rw [if_neg (by decide +kernel)]; exact ⟨rfl, rfl⟩))
    (fun os started H enc _ => lifted os started H enc)
theorem proved : Rows.FnExactDressLikeSaid := over
end Go.Proofs.Ytilbjlngnpmhcaa.exDressLike

