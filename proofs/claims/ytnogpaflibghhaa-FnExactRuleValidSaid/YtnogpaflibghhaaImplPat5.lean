/- The contracts of the program's variablesOf and PatternValid. -/
import Derived.Test.YtnogpaflibghhaaImplPat4
import Derived.Test.YtnogpaflibghhaaSpecPat4
namespace Go.Proofs.Ytnogpaflibghhaa
open Go.RowKit
set_option linter.unusedVariables false
set_option linter.unusedSimpArgs false
theorem restB_eq {f : Fm} {ls : List Fm} (h : formB f = true) : restB f ls = (shallowB (depF ls f 0) && distinctB (varsF ls f) 20) := by
  unfold restB distinctB
  rw [distUp_once (vars_names (ls := ls) h) _ (Nat.le_refl _)]
  cases onceUp (varsF ls f) (varsF ls f).length <;> cases shallowB (depF ls f 0) <;> cases decide ((varsF ls f).length ≤ 20) <;> rfl
set_option maxRecDepth 100000 in
set_option maxHeartbeats 400000 in
theorem tooDeep1_any (x : Int) (w : World) :
    Calls Try.prog 139 #[.int .i64 x] w fun e w' => e = .returned (.bool (decide (x > 3))) ∧ w' = w := by
  go_enter Try.func139, Try.ntmps139
  go_wp2_with fail
  go_ret
  exact ⟨rfl, rfl⟩
set_option maxRecDepth 100000 in
set_option maxHeartbeats 1000000 in
theorem indexDeep_any (ds : List Int) (base : Nat) (a : Option Addr) (cap : Nat) (w : World) (hd : w.ownsRow base 3 1 (.slice a ds.length cap) ds.length (ds.map (Value.int .i64))) :
    Calls Try.prog 197 #[.slice a ds.length cap, .func (.func 139) #[] #[]] w fun e w' => (∃ r : Int, e = .returned (.int .i64 r) ∧ decide (0 ≤ r) = !shallowB ds) ∧ w' = w := by
  have HD := Lib.hid hd
  obtain ⟨_, hcm⟩ : True ∧ cap ≤ maxLen := ⟨trivial, by
    obtain ⟨a', cap', e, _, h⟩ := ownsRow_sliceV hd
    injection e with _ _ e
    rw [e]; exact h⟩
  have hlc : ds.length ≤ cap := by
    obtain ⟨a', cap', e, h, _⟩ := ownsRow_sliceV hd
    injection e with _ _ e
    rw [e]; exact h
  unfold maxLen at hcm
  clear hd
  go_enter Try.func197, Try.ntmps197
  go_wp2_with fail
  go_loopw [8, 5] (fun i u wr => ∃ j : Nat, j ≤ ds.length ∧ i = .int .i64 j ∧ shallowB (ds.take j) = true ∧ wr = w) (fun i _ _ => ds.length - (intOf i).toNat)
  case atStart => exact ⟨0, Nat.zero_le _, rfl, by simp [shallowB], rfl⟩
  case round =>
    obtain ⟨j, hj, rfl, hsh, rfl⟩ := hrel
    have HSH := Lib.hid hsh
    clear hsh
    by_cases hlt : j < ds.length
    · obtain ⟨g, gcap, e1, _, _⟩ := HD.out.form (by omega)
      injection e1 with e1 e2 e3
      subst e1 e3
      have hcell : wr.cell? ⟨g, j, none⟩ = some (.int .i64 ds[j]) := by
        rw [HD.out.cellAt j (by omega), List.getElem?_map, List.getElem?_eq_getElem hlt]
        rfl
      have HTS := Lib.hid (shallow_take_succ ds j hlt)
      have hji : (0 : Int) ≤ (j : Int) := by omega
      have hjl : (j : Int) < (ds.length : Int) := by omega
      go_wp2_with fail
      refine (tooDeep1_any ds[j] wr).mono ?_
      rintro e w1 ⟨rfl, rfl⟩
      by_cases h3 : ds[j] > 3
      · have HY : Hid (decide (0 ≤ (j : Int)) = !shallowB ds) := by
          unfold Hid
          rw [shallow_no ds (j + 1) (by rw [HTS.out, decide_eq_false (show ¬ ds[j] ≤ 3 by omega), Bool.and_false]), decide_eq_true hji]
          rfl
        go_wp2_with fail
        go_ret
        exact ⟨⟨_, rfl, HY.out⟩, rfl⟩
      · have HN : Hid (shallowB (ds.take (j + 1)) = true) := by unfold Hid; rw [HTS.out, HSH.out, decide_eq_true (show ds[j] ≤ 3 by omega)]; rfl
        go_wp2_with fail
        go_roundw
        case rel => exact ⟨j + 1, by omega, by go_num, HN.out, by first | trivial | rfl⟩
        case measure => simp [intOf]; omega
    · obtain rfl : j = ds.length := by omega
      have HY : Hid (decide (0 ≤ (-1 : Int)) = !shallowB ds) := by have := HSH.out; rw [List.take_length] at this; unfold Hid; rw [this]; rfl
      go_wp2_with fail
      go_ret
      exact ⟨⟨_, rfl, HY.out⟩, rfl⟩
set_option maxRecDepth 100000 in
set_option maxHeartbeats 1000000 in
theorem containsDeep_any (ds : List Int) (base : Nat) (a : Option Addr) (cap : Nat) (w : World) (hd : w.ownsRow base 3 1 (.slice a ds.length cap) ds.length (ds.map (Value.int .i64))) :
    Calls Try.prog 138 #[.slice a ds.length cap, .func (.func 139) #[] #[]] w fun e w' => e = .returned (.bool (!shallowB ds)) ∧ w' = w := by
  have HD := Lib.hid hd
  clear hd
  go_enter Try.func138, Try.ntmps138
  go_wp2_with fail
  refine (indexDeep_any ds base a cap w HD.out).mono ?_
  rintro e w1 ⟨⟨r, rfl, hr⟩, rfl⟩
  have HR := Lib.hid hr
  clear hr
  go_wp2_with fail
  go_ret
  exact ⟨ret_bool HR.out, rfl⟩
/-- what the program's variablesOf hands back -/
def VarsPostP (φ : Nat → Prop) (f : Fm) (ls : List Fm) (w : World) (e : Ending) (w' : World) : Prop :=
  (∃ na nl nc da dl dc, e = .returned (.tuple #[.agg #[.slice na nl nc, .slice da dl dc], .bool (patternB f ls)]) ∧
    ((patternB f ls = false ∧ (na = none ∧ nl = 0 ∧ nc = 0) ∧ (da = none ∧ dl = 0 ∧ dc = 0)) ∨ (patternB f ls = true ∧ ∃ its : List Item, its.map (·.f) = varsF ls f ∧ (∀ y ∈ its, InV φ w y.f y.val) ∧ w'.ownsRow w.heap.size 33 5 (.slice na nl nc) its.length (rowOf its) ∧ w'.ownsRow w.heap.size 3 1 (.slice da dl dc) (depF ls f 0).length ((depF ls f 0).map (Value.int .i64))))) ∧ Below w.heap.size w w'
abbrev VarsPost (B : Nat) := VarsPostP (· < B)
theorem set2_cells {x y : Value} (W : World) (b : Nat) (u v : Value) (h0 : W.cell? ⟨b, 0, none⟩ = some x) (h1 : W.cell? ⟨b, 1, none⟩ = some y) :
    ((W.setCell ⟨b, 0, none⟩ u).setCell ⟨b, 1, none⟩ v).cell? ⟨b, 0, none⟩ = some u ∧ ((W.setCell ⟨b, 0, none⟩ u).setCell ⟨b, 1, none⟩ v).cell? ⟨b, 1, none⟩ = some v := by
  refine ⟨?_, ?_⟩
  · rw [World.cell?_setCell_other _ _ _ _ (addr_ne (by omega))]; exact World.cell?_setCell_same _ _ _ h0
  · exact World.cell?_setCell_same _ _ _ (u := y) (by rw [World.cell?_setCell_other _ _ _ _ (addr_ne (by omega))]; exact h1)
theorem VarsPostP.no {φ : Nat → Prop} {f : Fm} {ls : List Fm} {w w' : World} (h : patternB f ls = false) (hb : Below w.heap.size w w') : VarsPostP φ f ls w (.returned (.tuple #[.agg #[.slice none 0 0, .slice none 0 0], .bool false])) w' :=
  ⟨⟨_, _, _, _, _, _, by rw [h], .inl ⟨h, ⟨rfl, rfl, rfl⟩, ⟨rfl, rfl, rfl⟩⟩⟩, hb⟩
theorem vars_no {φ : Nat → Prop} {f : Fm} {ls : List Fm} {w W : World} {a : Act} {x y : Value} (hd : a.defers = []) (h : patternB f ls = false) (hb : Below w.heap.size w W) (h0 : W.cell? ⟨w.heap.size + 1, 0, none⟩ = some x) (h1 : W.cell? ⟨w.heap.size + 1, 1, none⟩ = some y)
    (hn : w.heap.size + 1 < W.heap.size) (ht4 : a.tmps[4]? = some (.pointer (some ⟨w.heap.size + 1, 0, none⟩)) := by rfl) (ht5 : a.tmps[5]? = some (.bool false) := by rfl) :
    bodyPost Try.prog Try.f70 (VarsPostP φ f ls w) .ret a ((W.setCell ⟨w.heap.size + 1, 0, none⟩ (.slice none 0 0)).setCell ⟨w.heap.size + 1, 1, none⟩ (.slice none 0 0)) := by
  obtain ⟨r0, r1⟩ := set2_cells W (w.heap.size + 1) (.slice none 0 0) (.slice none 0 0) h0 h1
  refine bodyPost_ret (v := .tuple #[.agg #[.slice none 0 0, .slice none 0 0], .bool false]) ?_ hd (VarsPostP.no h ((hb.setCell (p := ⟨w.heap.size + 1, 0, none⟩) (show w.heap.size ≤ w.heap.size + 1 by omega) _).setCell (p := ⟨w.heap.size + 1, 1, none⟩) (show w.heap.size ≤ w.heap.size + 1 by omega) _))
  simp [results, Try.results70, go_sem, r0, r1, ht4, ht5]
set_option maxRecDepth 100000 in
set_option maxHeartbeats 4000000 in
theorem variablesOfP_any (B : Nat) (φ : Nat → Prop) (hφ : ∀ q, φ q → q < B) (f : Fm) (ls : List Fm) (la : Option Addr) (lcap : Nat) (v : Value) (w : World) (hB : B ≤ w.heap.size) (hl : FormsIn (· < B) w la lcap ls) (hv : InV φ w f v) (hcf : f.count ≤ 1048577) :
    Calls Try.prog 70 #[v, .slice la ls.length lcap] w (VarsPostP φ f ls w) := by
  have HL := Lib.hid hl
  have HV := Lib.hid hv
  have HP := Lib.hid hφ
  clear hφ
  have HPE := Lib.hid (patternB_eq f ls)
  obtain ⟨sa, scap, a, cap, rfl⟩ := hv.form
  clear hl hv
  go_enter Try.func70, Try.ntmps70
  go_wp2_with fail
  have hba : Below w.heap.size w ((w.alloc (.cells #[.int .i64 f.kind, .string f.name, .int .i64 f.n, .slice sa f.scopes.length scap, .slice a f.kids.length cap] 33)).alloc (.cells #[.slice none 0 0, .slice none 0 0] 104)) := (below_alloc w _).alloc (by simp) _
  refine (implFormValid_any B f _ _ (by simp; omega) (InV.mono HP.out _ _ (InV.later (fun q hq => same_below (hba.mono hB) q (HP.out q hq)) _ _ HV.out))).mono ?_
  rintro e w1 ⟨rfl, hb1⟩
  have hs1 : w.heap.size + 2 ≤ w1.heap.size := by have := hb1.size; simpa using this
  have hbx : FormBox w1 w.heap.size f sa scap a cap := ((FormBox.fresh w f sa a scap cap 33).later (below_alloc _ _)).later hb1
  have hz1 : w1.cell? ⟨w.heap.size + 1, 0, none⟩ = some (.slice none 0 0) ∧ w1.cell? ⟨w.heap.size + 1, 1, none⟩ = some (.slice none 0 0) ∧ w1.frozen? ⟨w.heap.size + 1, 0, none⟩ = false ∧ w1.frozen? ⟨w.heap.size + 1, 1, none⟩ = false := by
    refine ⟨cell_later' hb1 (World.cell?_alloc_at _ _ _ _ (by simp)), cell_later' hb1 (World.cell?_alloc_at _ _ _ _ (by simp)), (hb1.frozen (p := ⟨w.heap.size + 1, 0, none⟩) (by simp)).trans (World.frozen?_alloc_at _ _ _ _ (by simp)), (hb1.frozen (p := ⟨w.heap.size + 1, 1, none⟩) (by simp)).trans (World.frozen?_alloc_at _ _ _ _ (by simp))⟩
  have HZ1 := Lib.hid hz1
  have HB1 : Hid (Below w.heap.size w w1) := hba.trans (hb1.mono (by simp; omega))
  have HBX1 := Lib.hid hbx
  obtain ⟨x0, x1, x2, x3, x4⟩ := hbx
  obtain ⟨t0, t1, t2, t3⟩ := hz1
  clear hb1 hba
  cases hf : formB f with
  | false =>
    have HE : Hid (patternB f ls = false) := by unfold Hid; rw [HPE.out, hf]; rfl
    clear hf
    go_wp2_with fail
    exact vars_no rfl HE.out HB1.out HZ1.out.1 HZ1.out.2.1 (by omega)
  | true =>
    have HFB := Lib.hid hf
    clear hf
    go_wp2_with fail
    refine (distinctNames_any B ls la lcap 9 w1 (by omega) (HL.out.later (same_below (HB1.out.mono hB))) (by omega)).mono ?_
    rintro e w2 ⟨rfl, hb2⟩
    have hs2 := hb2.size
    have HBX2 := Lib.hid (HBX1.out.later hb2)
    have HZ2 : Hid (w2.cell? ⟨w.heap.size + 1, 0, none⟩ = some (.slice none 0 0) ∧ w2.cell? ⟨w.heap.size + 1, 1, none⟩ = some (.slice none 0 0) ∧ w2.frozen? ⟨w.heap.size + 1, 0, none⟩ = false ∧ w2.frozen? ⟨w.heap.size + 1, 1, none⟩ = false) :=
      ⟨cell_later' hb2 HZ1.out.1, cell_later' hb2 HZ1.out.2.1, (hb2.frozen (p := ⟨w.heap.size + 1, 0, none⟩) (show w.heap.size + 1 < w1.heap.size by omega)).trans HZ1.out.2.2.1, (hb2.frozen (p := ⟨w.heap.size + 1, 1, none⟩) (show w.heap.size + 1 < w1.heap.size by omega)).trans HZ1.out.2.2.2⟩
    have HB2 : Hid (Below w.heap.size w w2) := HB1.out.trans (hb2.mono (by omega))
    clear hb2 x0 x1 x2 x3 x4 t0 t1 t2 t3
    obtain ⟨x0, x1, x2, x3, x4⟩ := HBX2.out
    obtain ⟨t0, t1, t2, t3⟩ := HZ2.out
    cases hd : distinctB ls 9 with
    | false =>
      have HE : Hid (patternB f ls = false) := by unfold Hid; rw [HPE.out, HFB.out, hd]; rfl
      clear hd
      go_wp2_with fail
      exact vars_no rfl HE.out HB2.out HZ2.out.1 HZ2.out.2.1 (by omega)
    | true =>
      have HDB := Lib.hid hd
      clear hd
      go_wp2_with fail
      refine (dotsFit_any B f _ w2 (by omega) (InV.mono HP.out _ _ (InV.later (fun q hq => same_below (HB2.out.mono hB) q (HP.out q hq)) _ _ HV.out)) HFB.out hcf).mono ?_
      rintro e w3 ⟨rfl, hb3⟩
      have hs3 := hb3.size
      have HBX3 := Lib.hid (HBX2.out.later hb3)
      have HZ3 : Hid (w3.cell? ⟨w.heap.size + 1, 0, none⟩ = some (.slice none 0 0) ∧ w3.cell? ⟨w.heap.size + 1, 1, none⟩ = some (.slice none 0 0) ∧ w3.frozen? ⟨w.heap.size + 1, 0, none⟩ = false ∧ w3.frozen? ⟨w.heap.size + 1, 1, none⟩ = false) :=
        ⟨cell_later' hb3 HZ2.out.1, cell_later' hb3 HZ2.out.2.1, (hb3.frozen (p := ⟨w.heap.size + 1, 0, none⟩) (show w.heap.size + 1 < w2.heap.size by omega)).trans HZ2.out.2.2.1, (hb3.frozen (p := ⟨w.heap.size + 1, 1, none⟩) (show w.heap.size + 1 < w2.heap.size by omega)).trans HZ2.out.2.2.2⟩
      have HB3 : Hid (Below w.heap.size w w3) := HB2.out.trans (hb3.mono (by omega))
      clear hb3 x0 x1 x2 x3 x4 t0 t1 t2 t3
      obtain ⟨t0, t1, t2, t3⟩ := HZ3.out
      cases hsh : shapeF f with
      | false =>
        have HE : Hid (patternB f ls = false) := by unfold Hid; rw [HPE.out, HFB.out, HDB.out, hsh]; rfl
        clear hsh
        obtain ⟨x0, x1, x2, x3, x4⟩ := HBX3.out
        go_wp2_with fail
        exact vars_no rfl HE.out HB3.out HZ3.out.1 HZ3.out.2.1 (by omega)
      | true =>
        have HPR : Hid (patternB f ls = (shallowB (depF ls f 0) && distinctB (varsF ls f) 20)) := by unfold Hid; rw [HPE.out, HFB.out, HDB.out, hsh, ← restB_eq HFB.out]; rfl
        clear hsh t0 t1 t2 t3
        have hb4 := below_alloc w3 (.cells #[.slice none 0 0, .slice none 0 0] 104)
        obtain ⟨x0, x1, x2, x3, x4⟩ := HBX3.out.later hb4
        have HB4 : Hid (Below w.heap.size w (w3.alloc (.cells #[.slice none 0 0, .slice none 0 0] 104))) := HB3.out.trans (hb4.mono (by omega))
        have HVA4 : Hid (VarsAt w3.heap.size w3.heap.size [] [] (.slice none 0 0) (.slice none 0 0) (w3.alloc (.cells #[.slice none 0 0, .slice none 0 0] 104))) :=
          ⟨World.cell?_alloc_at _ _ _ _ rfl, World.cell?_alloc_at _ _ _ _ rfl, World.frozen?_alloc_at _ _ _ _ rfl, World.frozen?_alloc_at _ _ _ _ rfl, World.ownsRow_nil _ _ _ _, World.ownsRow_nil _ _ _ _, by simp [Value.ownBlock], by simp [Value.ownBlock], by simp [Value.ownBlock], Nat.le_refl _⟩
        clear hb4
        go_wp2_with fail
        refine (vaddP_any B φ HP.out ls la lcap f ⟨40, formB_is HFB.out⟩ sa scap a cap [] [] 0 w3.heap.size _ _ w3.heap.size _ (by omega) (by simp) (HL.out.later (same_below (HB4.out.mono hB))) HVA4.out (InV.later (fun q hq => same_below (HB4.out.mono hB) q (HP.out q hq)) _ _ HV.out) (by simp; omega) (by simp; omega) ⟨by omega, by omega⟩).mono ?_
        rintro e w5 ⟨rfl, new, nv, dv, hnew, hins, hva, hfr⟩
        simp only [List.nil_append] at hva
        have hs5 : w3.heap.size + 1 ≤ w5.heap.size := by have := hfr.size; simpa using this
        have hb35 : Below w3.heap.size w3 w5 := (below_alloc w3 _).trans (hfr.below HVA4.out (by simp))
        have HB5 : Hid (Below w.heap.size w w5) := HB3.out.trans (hb35.mono (by omega))
        have HVA5 := Lib.hid hva
        have HNEW := Lib.hid hnew
        have HINS : Hid (∀ y ∈ new, InV φ w y.f y.val) := fun y hy => InV.later (w := w3.alloc (.cells #[.slice none 0 0, .slice none 0 0] 104)) (w' := w) (fun k (hk : φ k) => (HB4.out.block k (by have := HP.out k hk; omega)).symm) _ _ (hins y hy)
        have HZ5 : Hid (w5.cell? ⟨w.heap.size + 1, 0, none⟩ = some (.slice none 0 0) ∧ w5.cell? ⟨w.heap.size + 1, 1, none⟩ = some (.slice none 0 0) ∧ w5.frozen? ⟨w.heap.size + 1, 0, none⟩ = false ∧ w5.frozen? ⟨w.heap.size + 1, 1, none⟩ = false) :=
          ⟨cell_later' hb35 HZ3.out.1, cell_later' hb35 HZ3.out.2.1, (hb35.frozen (p := ⟨w.heap.size + 1, 0, none⟩) (show w.heap.size + 1 < w3.heap.size by omega)).trans HZ3.out.2.2.1, (hb35.frozen (p := ⟨w.heap.size + 1, 1, none⟩) (show w.heap.size + 1 < w3.heap.size by omega)).trans HZ3.out.2.2.2⟩
        obtain ⟨va, vcap, hnv, hvc, hvm⟩ := ownsRow_sliceV hva.rn
        obtain ⟨da, dcap, hdv, hdc, hdm⟩ := ownsRow_sliceV hva.rd
        have hcard : new.length = (varsF ls f).length := by rw [← hnew, List.length_map]
        have hvl := varsF_length ls f
        subst hnv hdv
        have y0 := hva.c0
        have y1 := hva.c1
        have HFI : Hid (FormsIn (· < w5.heap.size) w5 va vcap (varsF ls f)) := by
          have h1 : ∀ y ∈ new, InV (· < w5.heap.size) w5 y.f y.val := fun y hy => InV.mono (fun k (hk : φ k) => by have := HP.out k hk; show k < w5.heap.size; omega) _ _ (InV.later (fun q hq => same_below (HB5.out.mono hB) q (HP.out q hq)) _ _ (HINS.out y hy))
          have h2 := formsIn_items (φ := (· < w5.heap.size)) hva.rn h1 (fun k _ hk => hk)
          rw [hnew] at h2
          exact h2
        clear hva hnew hins hfr hb35 x0 x1 x2 x3 x4
        go_wp2_with fail
        refine (containsDeep_any (depF ls f 0) w3.heap.size da dcap w5 HVA5.out.rd).mono ?_
        rintro e w6 ⟨rfl, rfl⟩
        obtain ⟨t0, t1, t2, t3⟩ := HZ5.out
        cases hsl : shallowB (depF ls f 0) with
        | false =>
          have HE : Hid (patternB f ls = false) := by unfold Hid; rw [HPR.out, hsl]; rfl
          clear hsl
          go_wp2_with fail
          exact vars_no rfl HE.out HB5.out HZ5.out.1 HZ5.out.2.1 (by omega)
        | true =>
          have HSL := Lib.hid hsl
          clear hsl
          rw [hcard] at y0
          have HCARD := Lib.hid hcard
          clear hcard
          go_wp2_with fail
          refine (distinctNames_any w6.heap.size (varsF ls f) va vcap 20 w6 (Nat.le_refl _) HFI.out (by omega)).mono ?_
          rintro e w7 ⟨rfl, hb7⟩
          have hs7 := hb7.size
          have HB7 : Hid (Below w.heap.size w w7) := HB5.out.trans (hb7.mono (by omega))
          have HVA7 := Lib.hid (HVA5.out.later hb7)
          have HZ7 : Hid (w7.cell? ⟨w.heap.size + 1, 0, none⟩ = some (.slice none 0 0) ∧ w7.cell? ⟨w.heap.size + 1, 1, none⟩ = some (.slice none 0 0) ∧ w7.frozen? ⟨w.heap.size + 1, 0, none⟩ = false ∧ w7.frozen? ⟨w.heap.size + 1, 1, none⟩ = false) :=
            ⟨cell_later' hb7 HZ5.out.1, cell_later' hb7 HZ5.out.2.1, (hb7.frozen (p := ⟨w.heap.size + 1, 0, none⟩) (show w.heap.size + 1 < w6.heap.size by omega)).trans HZ5.out.2.2.1, (hb7.frozen (p := ⟨w.heap.size + 1, 1, none⟩) (show w.heap.size + 1 < w6.heap.size by omega)).trans HZ5.out.2.2.2⟩
          have z0 := HVA7.out.c0
          rw [HCARD.out] at z0
          have z1 := HVA7.out.c1
          clear hb7 t0 t1 t2 t3 y0 y1
          obtain ⟨t0, t1, t2, t3⟩ := HZ7.out
          cases hdn : distinctB (varsF ls f) 20 with
          | false =>
            have HE : Hid (patternB f ls = false) := by unfold Hid; rw [HPR.out, HSL.out, hdn]; rfl
            clear hdn
            go_wp2_with fail
            exact vars_no rfl HE.out HB7.out HZ7.out.1 HZ7.out.2.1 (by omega)
          | true =>
            have HE : Hid (patternB f ls = true) := by unfold Hid; rw [HPR.out, HSL.out, hdn]; rfl
            clear hdn
            go_wp2_with fail
            obtain ⟨r0, r1⟩ := set2_cells w7 (w.heap.size + 1) (.slice va (varsF ls f).length vcap) (.slice da (depF ls f 0).length dcap) HZ7.out.1 HZ7.out.2.1
            refine bodyPost_ret (v := .tuple #[.agg #[.slice va (varsF ls f).length vcap, .slice da (depF ls f 0).length dcap], .bool true]) (by simp [results, Try.results70, go_sem, r0, r1]) rfl ⟨⟨_, _, _, _, _, _, by rw [HE.out], .inr ⟨HE.out, new, HNEW.out, HINS.out, ?_, ?_⟩⟩, (HB7.out.setCell (p := ⟨w.heap.size + 1, 0, none⟩) (show w.heap.size ≤ w.heap.size + 1 by omega) _).setCell (p := ⟨w.heap.size + 1, 1, none⟩) (show w.heap.size ≤ w.heap.size + 1 by omega) _⟩
            · rw [← HCARD.out]
              refine ownsRow_base (ownsRow_same' HVA7.out.rn (fun q hq => ?_)) (show w.heap.size ≤ w3.heap.size by omega)
              have := (HVA7.out.rn.lt q hq).1
              rw [Below.heap_setCell _ _ _ _ (show q ≠ w.heap.size + 1 by omega), Below.heap_setCell _ _ _ _ (show q ≠ w.heap.size + 1 by omega)]
            · refine ownsRow_base (ownsRow_same' HVA7.out.rd (fun q hq => ?_)) (show w.heap.size ≤ w3.heap.size by omega)
              have := (HVA7.out.rd.lt q hq).1
              rw [Below.heap_setCell _ _ _ _ (show q ≠ w.heap.size + 1 by omega), Below.heap_setCell _ _ _ _ (show q ≠ w.heap.size + 1 by omega)]
theorem variablesOf_any (B : Nat) (f : Fm) (ls : List Fm) (la : Option Addr) (lcap : Nat) (v : Value) (w : World) (hB : B ≤ w.heap.size) (hl : FormsIn (· < B) w la lcap ls) (hv : InV (· < B) w f v) (hcf : f.count ≤ 1048577) :
    Calls Try.prog 70 #[v, .slice la ls.length lcap] w (VarsPost B f ls w) := variablesOfP_any B (· < B) (fun _ h => h) f ls la lcap v w hB hl hv hcf
end Go.Proofs.Ytnogpaflibghhaa
