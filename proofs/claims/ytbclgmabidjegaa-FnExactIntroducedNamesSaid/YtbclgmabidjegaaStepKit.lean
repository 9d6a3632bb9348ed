/- A step as three numbers and two forms, as it lies in memory: opened, measured, compared, copied. -/
import Derived.Test.YtbclgmabidjegaaHitKit
namespace Go.Proofs.Ytbclgmabidjegaa
section
open Go.ChangeShapes Go.WideShapes Go.ChangeAt Go.RowKit Go.Deep Go.Joins
set_option linter.unusedVariables false
/-- a value of type Step that reads as three numbers and two forms -/
def StIn (φ : Nat → Prop) (w : World) (n1 n2 n3 : Int) (p t : Fm) (v : Value) : Prop := ∃ s1 t1 k1 l1 s2 t2 k2 l2, v = .agg #[.int .i64 n1, .int .i64 n2, .int .i64 n3, .int .i64 p.kind, .string p.name, .int .i64 p.n, .slice s1 p.scopes.length t1, .slice k1 p.kids.length l1, .int .i64 t.kind, .string t.name, .int .i64 t.n, .slice s2 t.scopes.length t2, .slice k2 t.kids.length l2] ∧ ((-9223372036854775808 ≤ n1 ∧ n1 ≤ 9223372036854775807) ∧ (-9223372036854775808 ≤ n2 ∧ n2 ≤ 9223372036854775807) ∧ (-9223372036854775808 ≤ n3 ∧ n3 ≤ 9223372036854775807)) ∧
    InV φ w p (.agg #[.int .i64 p.kind, .string p.name, .int .i64 p.n, .slice s1 p.scopes.length t1, .slice k1 p.kids.length l1]) ∧ InV φ w t (.agg #[.int .i64 t.kind, .string t.name, .int .i64 t.n, .slice s2 t.scopes.length t2, .slice k2 t.kids.length l2])
theorem StIn.later {φ : Nat → Prop} {w w' : World} {n1 n2 n3 : Int} {p t : Fm} {v : Value} (hb : Same φ w w') (h : StIn φ w n1 n2 n3 p t v) : StIn φ w' n1 n2 n3 p t v := by
  obtain ⟨s1, t1, k1, l1, s2, t2, k2, l2, e, h0, h1, h2⟩ := h
  exact ⟨s1, t1, k1, l1, s2, t2, k2, l2, e, h0, h1.later hb, h2.later hb⟩
theorem StIn.mono {φ ψ : Nat → Prop} {w : World} {n1 n2 n3 : Int} {p t : Fm} {v : Value} (hb : ∀ k, φ k → ψ k) (h : StIn φ w n1 n2 n3 p t v) : StIn ψ w n1 n2 n3 p t v := by
  obtain ⟨s1, t1, k1, l1, s2, t2, k2, l2, e, h0, h1, h2⟩ := h
  exact ⟨s1, t1, k1, l1, s2, t2, k2, l2, e, h0, h1.mono hb, h2.mono hb⟩
theorem Try.cellsLT : Try.prog.cellsOf 90 = 13 := by kernel_rfl
section
variable {H : Type} {enc : TypeId × Value → H} {w : World} {base : Nat} {spare : Nat → Bool} {held : Bool}
set_option maxRecDepth 100000 in
set_option maxHeartbeats 1000000 in
theorem open_step_arg {r : Reach} {b0 : Nat} {v : Value} {d : DataW H} {pl : List MemPlace} (hv : Value.okWide Try.prog w r b0 90 v)
    (h : DataW.Trod enc Try.prog w base spare held 90 v d pl) : ∃ n1 n2 n3 p t, StIn (· < w.heap.size) w n1 n2 n3 p t v := by
  obtain ⟨cs, rfl, _⟩ := okWide_struct Try.underlying90 hv
  obtain ⟨fuel, hf⟩ := h
  obtain ⟨xs, m, _, hx, hl, hlen, hg⟩ := DataW.trod_struct Try.underlying90 hf
  rw [Try.cellsLT] at hl
  simp only [Value.cells] at hl hg
  obtain ⟨ls, hls⟩ : ∃ ls, ls = cs.toList := ⟨_, rfl⟩
  rw [← hls] at hl hg
  match ls, hl, hls with
  | [c0, c1, c2, c3, c4, c5, c6, c7, c8, c9, c10, c11, c12], _, hls =>
    match xs, hlen with
    | [y0, y1, y2, y3, y4], _ =>
      have g0 : DataW.trod enc Try.prog w base spare held m 3 (List.take (Try.prog.cellsOf 3) (List.drop 0 [c0, c1, c2, c3, c4, c5, c6, c7, c8, c9, c10, c11, c12])) = some y0 := hg 0 _ rfl
      have g1 : DataW.trod enc Try.prog w base spare held m 3 (List.take (Try.prog.cellsOf 3) (List.drop 1 [c0, c1, c2, c3, c4, c5, c6, c7, c8, c9, c10, c11, c12])) = some y1 := hg 1 _ rfl
      have g2 : DataW.trod enc Try.prog w base spare held m 3 (List.take (Try.prog.cellsOf 3) (List.drop 2 [c0, c1, c2, c3, c4, c5, c6, c7, c8, c9, c10, c11, c12])) = some y2 := hg 2 _ rfl
      have g3 : DataW.trod enc Try.prog w base spare held m 25 (List.take (Try.prog.cellsOf 25) (List.drop 3 [c0, c1, c2, c3, c4, c5, c6, c7, c8, c9, c10, c11, c12])) = some y3 := hg 3 _ rfl
      have g4 : DataW.trod enc Try.prog w base spare held m 25 (List.take (Try.prog.cellsOf 25) (List.drop 8 [c0, c1, c2, c3, c4, c5, c6, c7, c8, c9, c10, c11, c12])) = some y4 := hg 4 _ rfl
      simp only [Try.cellsInt, Try.cellsLF, List.drop, List.take] at g0 g1 g2 g3 g4
      obtain ⟨n1, i0, _, wi1⟩ := DataW.trod_int Try.underlying3 g0
      obtain ⟨n2, i1, _, wi2⟩ := DataW.trod_int Try.underlying3 g1
      obtain ⟨n3, i2, _, wi3⟩ := DataW.trod_int Try.underlying3 g2
      obtain ⟨p, p0, p1, p2, p3, p4, e0, hn⟩ := open_form m _ _ g3
      obtain ⟨t, q0, q1, q2, q3, q4, e2, ho⟩ := open_form m _ _ g4
      simp only [List.cons.injEq, and_true] at i0 i1 i2
      subst i0 i1 i2
      simp only [List.cons.injEq, and_true] at e0 e2
      obtain ⟨rfl, rfl, rfl, rfl, rfl⟩ := e0
      obtain ⟨rfl, rfl, rfl, rfl, rfl⟩ := e2
      have hn' := hn
      have ho' := ho
      obtain ⟨s1, t1, k1, l1, en⟩ := hn'.form
      obtain ⟨s2, t2, k2, l2, eo⟩ := ho'.form
      injection en with en
      injection en with en
      injection eo with eo
      injection eo with eo
      simp only [List.cons.injEq, and_true] at en eo
      obtain ⟨rfl, rfl, rfl, rfl, rfl⟩ := en
      obtain ⟨rfl, rfl, rfl, rfl, rfl⟩ := eo
      refine ⟨n1, n2, n3, p, t, s1, t1, k1, l1, s2, t2, k2, l2, ?_, ⟨bounds_i64 wi1, bounds_i64 wi2, bounds_i64 wi3⟩, hn, ho⟩
      have e' : cs = #[.int .i64 n1, .int .i64 n2, .int .i64 n3, .int .i64 p.kind, .string p.name, .int .i64 p.n, .slice s1 p.scopes.length t1, .slice k1 p.kids.length l1, .int .i64 t.kind, .string t.name, .int .i64 t.n, .slice s2 t.scopes.length t2, .slice k2 t.kids.length l2] := Array.ext' hls.symm
      rw [e']
end
end
end Go.Proofs.Ytbclgmabidjegaa
namespace Go.Proofs.Ytbclgmabidjegaa
section
open Go.RowKit
set_option linter.unusedVariables false
set_option maxRecDepth 100000 in
set_option maxHeartbeats 1000000 in
theorem szStep_any (B : Nat) (n1 n2 n3 : Int) (p t : Fm) (v : Value) (w : World) (l : Int) (hB : B ≤ w.heap.size) (hv : StIn (· < B) w n1 n2 n3 p t v) (hl : 0 ≤ l ∧ l ≤ 1048576) :
    Calls Try.prog 58 #[v, .int .i64 l] w fun e w' => e = .returned (.int .i64 (leftOf l (p.sz + t.sz))) ∧ Below w.heap.size w w' := by
  obtain ⟨s1, t1, k1, l1, s2, t2, k2, l2, rfl, hbd, hn, ho⟩ := hv
  have HN := Lib.hid hn
  have HO := Lib.hid ho
  obtain ⟨hl0, hl1⟩ := hl
  clear hn ho
  go_enter Try.func58, Try.ntmps58
  go_wp2_with fail
  refine (szForm_any B p _ _ l (by simp; omega) (InV.later (same_below ((below_alloc w _).mono hB)) _ _ HN.out) (by omega)).mono ?_
  rintro e w1 ⟨rfl, hb1⟩
  have hs1 := hb1.size
  rw [size_alloc'] at hs1
  have y8 : w1.cell? ⟨w.heap.size, 8, none⟩ = some (.int .i64 t.kind) := cell_later' hb1 (by rw [cell_of_row _ _ 8 _ _ _ (heap_alloc_new w _)]; rfl)
  have y9 : w1.cell? ⟨w.heap.size, 9, none⟩ = some (.string t.name) := cell_later' hb1 (by rw [cell_of_row _ _ 9 _ _ _ (heap_alloc_new w _)]; rfl)
  have y10 : w1.cell? ⟨w.heap.size, 10, none⟩ = some (.int .i64 t.n) := cell_later' hb1 (by rw [cell_of_row _ _ 10 _ _ _ (heap_alloc_new w _)]; rfl)
  have y11 : w1.cell? ⟨w.heap.size, 11, none⟩ = some (.slice s2 t.scopes.length t2) := cell_later' hb1 (by rw [cell_of_row _ _ 11 _ _ _ (heap_alloc_new w _)]; rfl)
  have y12 : w1.cell? ⟨w.heap.size, 12, none⟩ = some (.slice k2 t.kids.length l2) := cell_later' hb1 (by rw [cell_of_row _ _ 12 _ _ _ (heap_alloc_new w _)]; rfl)
  have HB1 : Hid (Below w.heap.size w w1) := (below_alloc w _).trans (hb1.mono (by simp))
  clear hb1
  by_cases h1 : (p.sz : Int) ≤ l
  · have hg : leftOf l p.sz = l - p.sz := by unfold leftOf; rw [if_pos h1]
    rw [hg]
    clear hg
    go_wp2_with fail
    refine (szForm_any B t _ _ (l - p.sz) (by omega) (InV.later (same_below (HB1.out.mono hB)) _ _ HO.out) (by omega)).mono ?_
    rintro e w2 ⟨rfl, hb2⟩
    have HB2 : Hid (Below w.heap.size w w2) := HB1.out.trans (hb2.mono (by omega))
    clear hb2 y8 y9 y10 y11 y12
    by_cases h2 : (t.sz : Int) ≤ l - p.sz
    · have hg : leftOf (l - p.sz) t.sz = l - p.sz - t.sz := by unfold leftOf; rw [if_pos h2]
      rw [hg]
      clear hg
      go_wp2_with fail
      go_ret
      exact ⟨ret_int (by unfold leftOf; rw [if_pos (by omega)]; omega), HB2.out⟩
    · have hg : leftOf (l - p.sz) t.sz = -1 := by unfold leftOf; rw [if_neg h2]
      rw [hg]
      clear hg
      go_wp2_with fail
      go_ret
      exact ⟨ret_int (by unfold leftOf; rw [if_neg (by omega)]), HB2.out⟩
  · have hg : leftOf l p.sz = -1 := by unfold leftOf; rw [if_neg h1]
    rw [hg]
    clear hg
    go_wp2_with fail
    go_ret
    exact ⟨ret_int (by unfold leftOf; rw [if_neg (by omega)]), HB1.out⟩
set_option maxRecDepth 100000 in
set_option maxHeartbeats 2000000 in
theorem eqStep_any (B : Nat) (n1 n2 n3 : Int) (p t : Fm) (v u : Value) (w : World) (hB : B ≤ w.heap.size) (hv : StIn (· < B) w n1 n2 n3 p t v) (hu : StIn (· < B) w n1 n2 n3 p t u) :
    Calls Try.prog 62 #[v, u] w fun e w' => e = .returned (.bool true) ∧ Below w.heap.size w w' := by
  obtain ⟨s1, t1, k1, l1, s2, t2, k2, l2, rfl, hbd, hn, ho⟩ := hv
  obtain ⟨s1b, t1b, k1b, l1b, s2b, t2b, k2b, l2b, rfl, _, hnb, hob⟩ := hu
  have HN := Lib.hid hn
  have HO := Lib.hid ho
  have HNB := Lib.hid hnb
  have HOB := Lib.hid hob
  clear hn ho hnb hob
  have hA2 : ∀ O O', Below w.heap.size w ((w.alloc O).alloc O') := fun O O' => ((Below.refl _ w).alloc (Nat.le_refl _) _).alloc (by simp) _
  have HA2 := Lib.hid hA2
  clear hA2
  go_enter Try.func62, Try.ntmps62
  go_wp2_with fail
  refine (eqForm_any B p p _ _ _ (by simp; omega) (InV.later (same_below ((HA2.out _ _).mono hB)) _ _ HN.out) (InV.later (same_below ((HA2.out _ _).mono hB)) _ _ HNB.out)).mono ?_
  rintro e w1 ⟨rfl, hb1⟩
  rw [sameB_refl]
  have hs1 : w.heap.size + 2 ≤ w1.heap.size := by have := hb1.size; simpa using this
  have xA8 : w1.cell? ⟨w.heap.size, 8, none⟩ = some (.int .i64 t.kind) := (hb1.cell (p := ⟨w.heap.size, 8, none⟩) (by simp; omega)).trans (by simp)
  have xA9 : w1.cell? ⟨w.heap.size, 9, none⟩ = some (.string t.name) := (hb1.cell (p := ⟨w.heap.size, 9, none⟩) (by simp; omega)).trans (by simp)
  have xA10 : w1.cell? ⟨w.heap.size, 10, none⟩ = some (.int .i64 t.n) := (hb1.cell (p := ⟨w.heap.size, 10, none⟩) (by simp; omega)).trans (by simp)
  have xA11 : w1.cell? ⟨w.heap.size, 11, none⟩ = some (.slice s2 t.scopes.length t2) := (hb1.cell (p := ⟨w.heap.size, 11, none⟩) (by simp; omega)).trans (by simp)
  have xA12 : w1.cell? ⟨w.heap.size, 12, none⟩ = some (.slice k2 t.kids.length l2) := (hb1.cell (p := ⟨w.heap.size, 12, none⟩) (by simp; omega)).trans (by simp)
  have xB8 : w1.cell? ⟨w.heap.size + 1, 8, none⟩ = some (.int .i64 t.kind) := (hb1.cell (p := ⟨w.heap.size + 1, 8, none⟩) (by simp)).trans (by simp)
  have xB9 : w1.cell? ⟨w.heap.size + 1, 9, none⟩ = some (.string t.name) := (hb1.cell (p := ⟨w.heap.size + 1, 9, none⟩) (by simp)).trans (by simp)
  have xB10 : w1.cell? ⟨w.heap.size + 1, 10, none⟩ = some (.int .i64 t.n) := (hb1.cell (p := ⟨w.heap.size + 1, 10, none⟩) (by simp)).trans (by simp)
  have xB11 : w1.cell? ⟨w.heap.size + 1, 11, none⟩ = some (.slice s2b t.scopes.length t2b) := (hb1.cell (p := ⟨w.heap.size + 1, 11, none⟩) (by simp)).trans (by simp)
  have xB12 : w1.cell? ⟨w.heap.size + 1, 12, none⟩ = some (.slice k2b t.kids.length l2b) := (hb1.cell (p := ⟨w.heap.size + 1, 12, none⟩) (by simp)).trans (by simp)
  have HB1 : Hid (Below w.heap.size w w1) := (HA2.out _ _).trans (hb1.mono (by simp; omega))
  clear hb1
  go_wp2_with fail
  refine (eqForm_any B t t _ _ _ (by omega) (InV.later (same_below (HB1.out.mono hB)) _ _ HO.out) (InV.later (same_below (HB1.out.mono hB)) _ _ HOB.out)).mono ?_
  rintro e w2 ⟨rfl, hb2⟩
  rw [sameB_refl]
  have HB2 : Hid (Below w.heap.size w w2) := HB1.out.trans (hb2.mono (by omega))
  clear hb2 xA8 xA9 xA10 xA11 xA12 xB8 xB9 xB10 xB11 xB12
  go_wp2_with fail
  go_ret
  exact ⟨rfl, HB2.out⟩
/-- a rule, copied: each of its forms in blocks of its own -/
def StOwn (w : World) (n1 n2 n3 : Int) (p t : Fm) (v : Value) (b1 b2 : List Nat) : Prop := ∃ s1 t1 k1 l1 s2 t2 k2 l2, v = .agg #[.int .i64 n1, .int .i64 n2, .int .i64 n3, .int .i64 p.kind, .string p.name, .int .i64 p.n, .slice s1 p.scopes.length t1, .slice k1 p.kids.length l1, .int .i64 t.kind, .string t.name, .int .i64 t.n, .slice s2 t.scopes.length t2, .slice k2 t.kids.length l2] ∧
    OwnV w p (.agg #[.int .i64 p.kind, .string p.name, .int .i64 p.n, .slice s1 p.scopes.length t1, .slice k1 p.kids.length l1]) b1 ∧ OwnV w t (.agg #[.int .i64 t.kind, .string t.name, .int .i64 t.n, .slice s2 t.scopes.length t2, .slice k2 t.kids.length l2]) b2
def ToPostT (n1 n2 n3 : Int) (p t : Fm) (w : World) (e : Ending) (w' : World) : Prop :=
  ∃ ua va ya za ub vb yb zb b1 b2, e = .returned (.agg #[.int .i64 n1, .int .i64 n2, .int .i64 n3, .int .i64 p.kind, .string p.name, .int .i64 p.n, .slice ua p.scopes.length va, .slice ya p.kids.length za, .int .i64 t.kind, .string t.name, .int .i64 t.n, .slice ub t.scopes.length vb, .slice yb t.kids.length zb]) ∧ OwnV w' p (.agg #[.int .i64 p.kind, .string p.name, .int .i64 p.n, .slice ua p.scopes.length va, .slice ya p.kids.length za]) b1 ∧ OwnV w' t (.agg #[.int .i64 t.kind, .string t.name, .int .i64 t.n, .slice ub t.scopes.length vb, .slice yb t.kids.length zb]) b2 ∧
    NewBs (b1 ++ b2) w.heap.size w'.heap.size ∧ AllPlain w' (b1 ++ b2) ∧ Below w.heap.size w w'
set_option maxRecDepth 100000 in
set_option maxHeartbeats 4000000 in
theorem toStep_any (B : Nat) (n1 n2 n3 : Int) (p t : Fm) (v : Value) (w : World) (hB : B ≤ w.heap.size) (hv : StIn (· < B) w n1 n2 n3 p t v) (hsz1 : p.sz + t.sz ≤ 1048576) :
    Calls Try.prog 60 #[v] w (ToPostT n1 n2 n3 p t w) := by
  obtain ⟨s1, t1, k1, l1, s2, t2, k2, l2, rfl, hbd, hn, ho⟩ := hv
  have HN := Lib.hid hn
  have HO := Lib.hid ho
  clear hn ho
  go_enter Try.func60, Try.ntmps60
  go_wp2_with fail
  refine (toForm_any B p _ _ (by simp; omega) (InV.later (same_below ((((Below.refl B w).alloc hB _).alloc (by simp; omega) _).alloc (by simp; omega) _)) _ _ HN.out) (by omega)).mono ?_
  rintro e w1 ⟨ua, va, ya, za, b1, rfl, ho1, hn1, hp1, hb1⟩
  have hs1 : w.heap.size + 3 ≤ w1.heap.size := by have := hb1.size; simpa using this
  have cA8 : w1.cell? ⟨w.heap.size, 8, none⟩ = some (.int .i64 t.kind) := (hb1.cell (p := ⟨w.heap.size, 8, none⟩) (by simp; omega)).trans (a3_cell0 _ _ _ _ _ _)
  have cA9 : w1.cell? ⟨w.heap.size, 9, none⟩ = some (.string t.name) := (hb1.cell (p := ⟨w.heap.size, 9, none⟩) (by simp; omega)).trans (a3_cell0 _ _ _ _ _ _)
  have cA10 : w1.cell? ⟨w.heap.size, 10, none⟩ = some (.int .i64 t.n) := (hb1.cell (p := ⟨w.heap.size, 10, none⟩) (by simp; omega)).trans (a3_cell0 _ _ _ _ _ _)
  have cA11 : w1.cell? ⟨w.heap.size, 11, none⟩ = some (.slice s2 t.scopes.length t2) := (hb1.cell (p := ⟨w.heap.size, 11, none⟩) (by simp; omega)).trans (a3_cell0 _ _ _ _ _ _)
  have cA12 : w1.cell? ⟨w.heap.size, 12, none⟩ = some (.slice k2 t.kids.length l2) := (hb1.cell (p := ⟨w.heap.size, 12, none⟩) (by simp; omega)).trans (a3_cell0 _ _ _ _ _ _)
  have hR : ∀ i, i < 13 → ∃ v, w1.cell? ⟨w.heap.size + 1, i, none⟩ = some v := fun i hi => by
    rw [hb1.cell (p := ⟨w.heap.size + 1, i, none⟩) (by simp), a3_cell1]; exact ⟨_, Array.getElem?_eq_getElem (by simpa using hi)⟩
  have hRf : ∀ i, w1.frozen? ⟨w.heap.size + 1, i, none⟩ = false := fun i => (hb1.frozen (p := ⟨w.heap.size + 1, i, none⟩) (by simp)).trans (a3_free1 _ _ _ _ _ _)
  have hO : ∀ i, i < 13 → ∃ v, w1.cell? ⟨w.heap.size + 1 + 1, i, none⟩ = some v := fun i hi => by
    rw [hb1.cell (p := ⟨w.heap.size + 1 + 1, i, none⟩) (by simp), a3_cell2]; exact ⟨_, Array.getElem?_eq_getElem (by simpa using hi)⟩
  have hOf : ∀ i, w1.frozen? ⟨w.heap.size + 1 + 1, i, none⟩ = false := fun i => (hb1.frozen (p := ⟨w.heap.size + 1 + 1, i, none⟩) (by simp)).trans (a3_free2 _ _ _ _ _ _)
  have HN1 : Hid (NewBs b1 (w.heap.size + 3) w1.heap.size) := hn1.mono (by simp) (Nat.le_refl _)
  have HB1 : Hid (Below w.heap.size w w1) := ((((Below.refl _ w).alloc (Nat.le_refl _) _).alloc (by simp) _).alloc (by simp; omega) _).trans (hb1.mono (by simp; omega))
  have HO1 := Lib.hid ho1
  have HP1 := Lib.hid hp1
  have HR1 := Lib.hid hR
  have HRF1 := Lib.hid hRf
  have HO1C := Lib.hid hO
  have HOF1 := Lib.hid hOf
  have HNN : Hid (w1.cell? ⟨w.heap.size + 1 + 1, 0, none⟩ = some (.int .i64 n1) ∧ w1.cell? ⟨w.heap.size + 1 + 1, 1, none⟩ = some (.int .i64 n2) ∧ w1.cell? ⟨w.heap.size + 1 + 1, 2, none⟩ = some (.int .i64 n3)) := by
    refine ⟨?_, ?_, ?_⟩
    all_goals (rw [hb1.cell (p := ⟨w.heap.size + 1 + 1, _, none⟩) (by simp), a3_cell2]; rfl)
  obtain ⟨o3, e3⟩ := hO 3 (by omega)
  have f3 := hOf 3
  obtain ⟨o4, e4⟩ := hO 4 (by omega)
  have f4 := hOf 4
  obtain ⟨o5, e5⟩ := hO 5 (by omega)
  have f5 := hOf 5
  obtain ⟨o6, e6⟩ := hO 6 (by omega)
  have f6 := hOf 6
  obtain ⟨o7, e7⟩ := hO 7 (by omega)
  have f7 := hOf 7
  obtain ⟨W1, hW1⟩ : ∃ W1, W1 = (((((w1.setCell ⟨w.heap.size + 1 + 1, 3, none⟩ (.int .i64 p.kind)).setCell ⟨w.heap.size + 1 + 1, 4, none⟩ (.string p.name)).setCell ⟨w.heap.size + 1 + 1, 5, none⟩ (.int .i64 p.n)).setCell ⟨w.heap.size + 1 + 1, 6, none⟩ (.slice ua p.scopes.length va)).setCell ⟨w.heap.size + 1 + 1, 7, none⟩ (.slice ya p.kids.length za)) := ⟨_, rfl⟩
  have E1 : Hid (W1 = sets w1 (w.heap.size + 1 + 1) 3 [.int .i64 p.kind, .string p.name, .int .i64 p.n, .slice ua p.scopes.length va, .slice ya p.kids.length za]) := by unfold Hid; rw [hW1]; rfl
  have hz1 : W1.heap.size = w1.heap.size := by rw [E1.out, sets_size]
  have HBW1 : Hid (Below w.heap.size w W1) := by unfold Hid; rw [E1.out]; exact sets_below (by omega) _ _ HB1.out
  have HW1 := Lib.hid hW1
  clear ho1 hn1 hp1 hb1 hR hRf hO hOf hW1
  go_wp2_with fail
  rw [← HW1.out]
  refine (toForm_any B t _ W1 (by omega) (InV.later (same_below (HBW1.out.mono hB)) _ _ HO.out) (by omega)).mono ?_
  rintro e w2 ⟨ub, vb, yb, zb, b2, rfl, ho2, hn2, hp2, hb2⟩
  have hs2 := hb2.size
  have HBW2 : Hid (Below w.heap.size w w2) := HBW1.out.trans (hb2.mono (by omega))
  rw [hz1] at hn2
  rw [E1.out] at hb2
  have hR : ∀ i, i < 13 → ∃ v, w2.cell? ⟨w.heap.size + 1, i, none⟩ = some v := fun i hi => by rw [sets_later hb2 (by omega) (by omega)]; exact HR1.out i hi
  have hRf : ∀ i, w2.frozen? ⟨w.heap.size + 1, i, none⟩ = false := fun i => by rw [sets_later_frozen hb2 (by omega)]; exact HRF1.out i
  have hO : ∀ i, 8 ≤ i → i < 13 → ∃ v, w2.cell? ⟨w.heap.size + 1 + 1, i, none⟩ = some v := fun i h6 hi => by rw [sets_later_out hb2 (by omega) (by simp; omega)]; exact HO1C.out i hi
  have hOf : ∀ i, w2.frozen? ⟨w.heap.size + 1 + 1, i, none⟩ = false := fun i => by rw [sets_later_frozen hb2 (by omega)]; exact HOF1.out i
  have hOV := sets_later_in hb2 (by omega) (fun j hj => HO1C.out (3 + j) (by simp at hj; omega))
  have HOV := Lib.hid hOV
  have HO1B := Lib.hid (HO1.out.later _ _ _ (sets_later_same hb2 (fun c hc => by have := HN1.out.2 c hc; omega)))
  have HP1B := Lib.hid (HP1.out.same (sets_later_same hb2 (fun c hc => by have := HN1.out.2 c hc; omega)))
  have HN2 := Lib.hid hn2
  have HO2 := Lib.hid ho2
  have HP2 := Lib.hid hp2
  have HR2 := Lib.hid hR
  clear e3 f3 e4 f4 e5 f5 e6 f6 e7 f7 cA8 cA9 cA10 cA11 cA12
  have z0 : w2.cell? ⟨w.heap.size + 1 + 1, 0, none⟩ = some (.int .i64 n1) := by rw [sets_later_out hb2 (by omega) (by simp)]; exact HNN.out.1
  have z1 : w2.cell? ⟨w.heap.size + 1 + 1, 1, none⟩ = some (.int .i64 n2) := by rw [sets_later_out hb2 (by omega) (by simp)]; exact HNN.out.2.1
  have z2 : w2.cell? ⟨w.heap.size + 1 + 1, 2, none⟩ = some (.int .i64 n3) := by rw [sets_later_out hb2 (by omega) (by simp)]; exact HNN.out.2.2
  have z3 : w2.cell? ⟨w.heap.size + 1 + 1, 3, none⟩ = some (.int .i64 p.kind) := HOV.out 0 (by simp)
  have z4 : w2.cell? ⟨w.heap.size + 1 + 1, 4, none⟩ = some (.string p.name) := HOV.out 1 (by simp)
  have z5 : w2.cell? ⟨w.heap.size + 1 + 1, 5, none⟩ = some (.int .i64 p.n) := HOV.out 2 (by simp)
  have z6 : w2.cell? ⟨w.heap.size + 1 + 1, 6, none⟩ = some (.slice ua p.scopes.length va) := HOV.out 3 (by simp)
  have z7 : w2.cell? ⟨w.heap.size + 1 + 1, 7, none⟩ = some (.slice ya p.kids.length za) := HOV.out 4 (by simp)
  obtain ⟨o8, e8⟩ := hO 8 (by omega) (by omega)
  have f8 := hOf 8
  obtain ⟨o9, e9⟩ := hO 9 (by omega) (by omega)
  have f9 := hOf 9
  obtain ⟨o10, e10⟩ := hO 10 (by omega) (by omega)
  have f10 := hOf 10
  obtain ⟨o11, e11⟩ := hO 11 (by omega) (by omega)
  have f11 := hOf 11
  obtain ⟨o12, e12⟩ := hO 12 (by omega) (by omega)
  have f12 := hOf 12
  obtain ⟨r0, x0⟩ := hR 0 (by omega)
  have y0 := hRf 0
  obtain ⟨r1, x1⟩ := hR 1 (by omega)
  have y1 := hRf 1
  obtain ⟨r2, x2⟩ := hR 2 (by omega)
  have y2 := hRf 2
  obtain ⟨r3, x3⟩ := hR 3 (by omega)
  have y3 := hRf 3
  obtain ⟨r4, x4⟩ := hR 4 (by omega)
  have y4 := hRf 4
  obtain ⟨r5, x5⟩ := hR 5 (by omega)
  have y5 := hRf 5
  obtain ⟨r6, x6⟩ := hR 6 (by omega)
  have y6 := hRf 6
  obtain ⟨r7, x7⟩ := hR 7 (by omega)
  have y7 := hRf 7
  obtain ⟨r8, x8⟩ := hR 8 (by omega)
  have y8 := hRf 8
  obtain ⟨r9, x9⟩ := hR 9 (by omega)
  have y9 := hRf 9
  obtain ⟨r10, x10⟩ := hR 10 (by omega)
  have y10 := hRf 10
  obtain ⟨r11, x11⟩ := hR 11 (by omega)
  have y11 := hRf 11
  obtain ⟨r12, x12⟩ := hR 12 (by omega)
  have y12 := hRf 12
  obtain ⟨W4, hW4⟩ : ∃ W4, W4 = ((((((((((((((((((w2.setCell ⟨w.heap.size + 1 + 1, 8, none⟩ (.int .i64 t.kind)).setCell ⟨w.heap.size + 1 + 1, 9, none⟩ (.string t.name)).setCell ⟨w.heap.size + 1 + 1, 10, none⟩ (.int .i64 t.n)).setCell ⟨w.heap.size + 1 + 1, 11, none⟩ (.slice ub t.scopes.length vb)).setCell ⟨w.heap.size + 1 + 1, 12, none⟩ (.slice yb t.kids.length zb)).setCell ⟨w.heap.size + 1, 0, none⟩ (.int .i64 n1)).setCell ⟨w.heap.size + 1, 1, none⟩ (.int .i64 n2)).setCell ⟨w.heap.size + 1, 2, none⟩ (.int .i64 n3)).setCell ⟨w.heap.size + 1, 3, none⟩ (.int .i64 p.kind)).setCell ⟨w.heap.size + 1, 4, none⟩ (.string p.name)).setCell ⟨w.heap.size + 1, 5, none⟩ (.int .i64 p.n)).setCell ⟨w.heap.size + 1, 6, none⟩ (.slice ua p.scopes.length va)).setCell ⟨w.heap.size + 1, 7, none⟩ (.slice ya p.kids.length za)).setCell ⟨w.heap.size + 1, 8, none⟩ (.int .i64 t.kind)).setCell ⟨w.heap.size + 1, 9, none⟩ (.string t.name)).setCell ⟨w.heap.size + 1, 10, none⟩ (.int .i64 t.n)).setCell ⟨w.heap.size + 1, 11, none⟩ (.slice ub t.scopes.length vb)).setCell ⟨w.heap.size + 1, 12, none⟩ (.slice yb t.kids.length zb)) := ⟨_, rfl⟩
  obtain ⟨W3, hW3⟩ : ∃ W3, W3 = sets w2 (w.heap.size + 1 + 1) 8 [.int .i64 t.kind, .string t.name, .int .i64 t.n, .slice ub t.scopes.length vb, .slice yb t.kids.length zb] := ⟨_, rfl⟩
  have E4 : Hid (W4 = sets W3 (w.heap.size + 1) 0 [.int .i64 n1, .int .i64 n2, .int .i64 n3, .int .i64 p.kind, .string p.name, .int .i64 p.n, .slice ua p.scopes.length va, .slice ya p.kids.length za, .int .i64 t.kind, .string t.name, .int .i64 t.n, .slice ub t.scopes.length vb, .slice yb t.kids.length zb]) := by unfold Hid; rw [hW4, hW3]; rfl
  have hq := sets_in (w.heap.size + 1) [.int .i64 n1, .int .i64 n2, .int .i64 n3, .int .i64 p.kind, .string p.name, .int .i64 p.n, .slice ua p.scopes.length va, .slice ya p.kids.length za, .int .i64 t.kind, .string t.name, .int .i64 t.n, .slice ub t.scopes.length vb, .slice yb t.kids.length zb] W3 0 (fun j hj => by
    rw [Nat.zero_add, hW3, World.cell?_of_block (a := ⟨w.heap.size + 1, j, none⟩) (sets_block (w.heap.size + 1 + 1) _ w2 8 (by simp))]
    exact HR2.out j (by simp at hj; omega))
  rw [← E4.out] at hq
  have q0 : W4.cell? ⟨w.heap.size + 1, 0, none⟩ = some (.int .i64 n1) := hq 0 (by simp)
  have q1 : W4.cell? ⟨w.heap.size + 1, 1, none⟩ = some (.int .i64 n2) := hq 1 (by simp)
  have q2 : W4.cell? ⟨w.heap.size + 1, 2, none⟩ = some (.int .i64 n3) := hq 2 (by simp)
  have q3 : W4.cell? ⟨w.heap.size + 1, 3, none⟩ = some (.int .i64 p.kind) := hq 3 (by simp)
  have q4 : W4.cell? ⟨w.heap.size + 1, 4, none⟩ = some (.string p.name) := hq 4 (by simp)
  have q5 : W4.cell? ⟨w.heap.size + 1, 5, none⟩ = some (.int .i64 p.n) := hq 5 (by simp)
  have q6 : W4.cell? ⟨w.heap.size + 1, 6, none⟩ = some (.slice ua p.scopes.length va) := hq 6 (by simp)
  have q7 : W4.cell? ⟨w.heap.size + 1, 7, none⟩ = some (.slice ya p.kids.length za) := hq 7 (by simp)
  have q8 : W4.cell? ⟨w.heap.size + 1, 8, none⟩ = some (.int .i64 t.kind) := hq 8 (by simp)
  have q9 : W4.cell? ⟨w.heap.size + 1, 9, none⟩ = some (.string t.name) := hq 9 (by simp)
  have q10 : W4.cell? ⟨w.heap.size + 1, 10, none⟩ = some (.int .i64 t.n) := hq 10 (by simp)
  have q11 : W4.cell? ⟨w.heap.size + 1, 11, none⟩ = some (.slice ub t.scopes.length vb) := hq 11 (by simp)
  have q12 : W4.cell? ⟨w.heap.size + 1, 12, none⟩ = some (.slice yb t.kids.length zb) := hq 12 (by simp)
  have HW4 := Lib.hid hW4
  have HW3 := Lib.hid hW3
  clear hR hRf hO hOf hOV hq hW4 hW3 hb2 ho2 hn2 hp2
  go_wp2_with fail
  rw [← HW4.out]
  refine bodyPost_ret (v := .agg #[.int .i64 n1, .int .i64 n2, .int .i64 n3, .int .i64 p.kind, .string p.name, .int .i64 p.n, .slice ua p.scopes.length va, .slice ya p.kids.length za, .int .i64 t.kind, .string t.name, .int .i64 t.n, .slice ub t.scopes.length vb, .slice yb t.kids.length zb]) (by simp [results, Try.results60, go_sem, q0, q1, q2, q3, q4, q5, q6, q7, q8, q9, q10, q11, q12]) rfl ?_
  have hF : ∀ c, c ≠ w.heap.size + 1 → c ≠ w.heap.size + 1 + 1 → W4.heap[c]? = w2.heap[c]? := fun c h1 h2 => by
    rw [E4.out, sets_block _ _ _ _ h1, HW3.out, sets_block _ _ _ _ h2]
  have hn1 := HN1.out
  have hn2 := HN2.out
  have g1 : SameOn b1 w2 W4 := fun c hc => by have := hn1.2 c hc; exact hF c (by omega) (by omega)
  have g2 : SameOn b2 w2 W4 := fun c hc => by have := hn2.2 c hc; exact hF c (by omega) (by omega)
  have hz4 : W4.heap.size = w2.heap.size := by rw [E4.out, sets_size, HW3.out, sets_size]
  refine ⟨ua, va, ya, za, ub, vb, yb, zb, b1, b2, rfl, HO1B.out.later _ _ _ g1, HO2.out.later _ _ _ g2, ?_, (HP1B.out.same g1).append (HP2.out.same g2), ?_⟩
  · rw [hz4]
    exact (hn1.append hn2 (by omega) (by omega)).mono (by omega) (Nat.le_refl _)
  · rw [E4.out]
    exact sets_below (by omega) _ _ (by rw [HW3.out]; exact sets_below (by omega) _ _ HBW2.out)
end
end Go.Proofs.Ytbclgmabidjegaa
