/- The contracts of the model's test of templates. -/
import Derived.Test.YtnogpaflibghhaaTmplData
import Derived.Test.YtnogpaflibghhaaFindA
import Derived.Test.YtnogpaflibghhaaSpecPat
import Derived.Test.YtnogpaflibghhaaSpecHV
import Derived.Test.YtnogpaflibghhaaValid
namespace Go.Proofs.Ytnogpaflibghhaa
section
open Go.RowKit
set_option linter.unusedVariables false
set_option linter.unusedSimpArgs false
theorem InV.kidsIn {φ : Nat → Prop} {w : World} {f : Fm} {sa a : Option Addr} {scap cap : Nat} (h : InV φ w f (.agg #[.int .i64 f.kind, .string f.name, .int .i64 f.n, .slice sa f.scopes.length scap, .slice a f.kids.length cap])) : FormsIn φ w a cap f.kids := by
  cases f with
  | mk k nm n sc ks =>
    unfold InV at h
    obtain ⟨vs, a', cap', e, _, _, _, _, hl, hm, hks⟩ := h
    injection e with e
    injection e with e
    simp only [List.cons.injEq, and_true, Value.slice.injEq] at e
    obtain ⟨_, _, _, _, rfl, _, rfl⟩ := e
    exact ⟨hl, hm, hks⟩
theorem rows_yes {l : List Ht} {ks : List Fm} {j : Nat} (h : j < ks.length) (hr : rowsF ks[j] l = true) : rowsAll ks l = true := by
  have ha : ∀ (ks : List Fm) (g : Fm), g ∈ ks → rowsF g l = true → rowsAll ks l = true := by
    intro ks
    induction ks with
    | nil => intro g hg; cases hg
    | cons x r ih =>
      intro g hg hr
      simp only [rowsAll]
      rcases List.mem_cons.1 hg with rfl | hg
      · rw [hr]; rfl
      · rw [ih g hg hr, Bool.or_true]
  exact ha ks _ (List.getElem_mem h) hr
set_option maxRecDepth 100000 in
set_option maxHeartbeats 2000000 in
theorem l5Depth_any (B : Nat) (l : List Ht) (f : Fm) (a : Option Addr) (cap : Nat) (v : Value) (w : World) (hB : B ≤ w.heap.size) (hl : HitsIn (· < B) w a cap l) (hv : InV (· < B) w f v) :
    Calls Try.prog 147 #[.slice a l.length cap, v] w fun e w' => e = .returned (.int .i64 (depthF l f)) ∧ Below w.heap.size w w' := by
  have HL := Lib.hid hl
  have HV := Lib.hid hv
  obtain ⟨fs, ft, fa, fc, rfl⟩ := hv.form
  obtain ⟨hcap, hmax, hrow⟩ := hl
  unfold maxLen at hmax
  have HROW := Lib.hid hrow
  obtain ⟨w0, hw0⟩ : ∃ w0, w0 = w.alloc (.cells #[.int .i64 f.kind, .string f.name, .int .i64 f.n, .slice fs f.scopes.length ft, .slice fa f.kids.length fc] 33) := ⟨_, rfl⟩
  have HB0 : Hid (Below w.heap.size w w0) := by rw [hw0]; exact below_alloc w _
  have hs0 : w0.heap.size = w.heap.size + 1 := by rw [hw0]; simp
  have HW0 := Lib.hid hw0
  clear hv hrow hw0
  by_cases hk : f.kind = 1
  · have hkb : (f.kind != 1) = false := by simp [hk]
    have HK := Lib.hid hk
    clear hk
    go_enter Try.func147, Try.ntmps147
    go_wp2_with fail
    rw [← HW0.out]
    clear HW0
    refine (HI.l4Find_any B l f a cap _ w0 (by omega) (HL.out.later (same_below (HB0.out.mono hB))) (InV.later (same_below (HB0.out.mono hB)) _ _ HV.out)).mono ?_
    rintro e w1 ⟨⟨r, rfl, hidx⟩, hb1⟩
    have HB1 : Hid (Below w.heap.size w w1) := HB0.out.trans (hb1.mono (by omega))
    clear hb1
    rcases hidx with ⟨rfl, hno⟩ | ⟨j, hjl, rfl, hp, hno⟩
    · have HE : Hid (depthF l f = -1) := by unfold Hid depthF; rw [if_pos HK.out, find_none _ _ hno]
      have hlt : decide ((-1 : Int) < 0) = true := by decide
      clear hkb
      go_wp2_with fail
      go_ret
      exact ⟨ret_int HE.out.symm, HB1.out⟩
    · have HE : Hid (depthF l f = l[j].depth) := by unfold Hid depthF; rw [if_pos HK.out, find_first _ l j hjl hno hp]
      obtain ⟨b, off, rfl, hbB, hrw⟩ : ∃ b off, a = some ⟨b, off, none⟩ ∧ b < B ∧ RowH (· < B) w b off l := by
        rcases HROW.out with h | h
        · subst h; simp at hjl
        · exact h
      obtain ⟨e0, e1, e2, e3, e4, e5, e6, e7, e8, e9, q0, q1, q2, q3, q4, q5, q6, q7, q8, q9, q10, q11, hin⟩ := (hrw.later (same_below (HB1.out.mono hB)) b hbB).at' j hjl
      have hj0 : (0 : Int) ≤ (j : Int) := by omega
      have hj1 : (j : Int) < (l.length : Int) := by omega
      have hjn : decide ((j : Int) < 0) = false := by rw [decide_eq_false_iff_not]; omega
      clear hin hrw hkb
      go_wp2_with fail
      go_ret
      exact ⟨ret_int HE.out.symm, HB1.out⟩
  · have hkb : (f.kind != 1) = true := by simp [hk]
    have HE : Hid (depthF l f = -1) := by unfold Hid depthF; rw [if_neg hk]
    clear hk
    go_enter Try.func147, Try.ntmps147
    go_wp2_with fail
    rw [← HW0.out]
    go_ret
    exact ⟨ret_int HE.out.symm, HB0.out⟩
set_option maxRecDepth 100000 in
set_option maxHeartbeats 2000000 in
theorem l5Rows_any (l : List Ht) (f : Fm) : ∀ (B : Nat) (a : Option Addr) (cap : Nat) (v : Value) (w : World), B ≤ w.heap.size → HitsIn (· < B) w a cap l → InV (· < B) w f v →
    Calls Try.prog 148 #[.slice a l.length cap, v] w fun e w' => e = .returned (.bool (rowsF f l)) ∧ Below w.heap.size w w' := by
  induction f using Fm.ind with
  | h k nm n sc ks ih =>
  intro B a cap v w hB hl hv
  obtain ⟨f, hf⟩ : ∃ f, f = Fm.mk k nm n sc ks := ⟨_, rfl⟩
  rw [← hf] at hv ⊢
  have hks : f.kids = ks := by rw [hf]; rfl
  have HIH : Hid (∀ g ∈ f.kids, ∀ (B : Nat) (a : Option Addr) (cap : Nat) (v : Value) (w : World), B ≤ w.heap.size → HitsIn (· < B) w a cap l → InV (· < B) w g v →
    Calls Try.prog 148 #[.slice a l.length cap, v] w fun e w' => e = .returned (.bool (rowsF g l)) ∧ Below w.heap.size w w') := by rw [hks]; exact ih
  clear hks hf ih
  have HL := Lib.hid hl
  have HV := Lib.hid hv
  obtain ⟨fs, ft, fa, fc, rfl⟩ := hv.form
  have HKI := Lib.hid hv.kidsIn
  obtain ⟨hlen, hmax, hrow⟩ := HKI.out
  unfold maxLen at hmax
  have HROW := Lib.hid hrow
  obtain ⟨w0, hw0⟩ : ∃ w0, w0 = w.alloc (.cells #[.int .i64 f.kind, .string f.name, .int .i64 f.n, .slice fs f.scopes.length ft, .slice fa f.kids.length fc] 33) := ⟨_, rfl⟩
  have HB0 : Hid (Below w.heap.size w w0) := by rw [hw0]; exact below_alloc w _
  have hs0 : w0.heap.size = w.heap.size + 1 := by rw [hw0]; simp
  have HF0 : Hid (FormBox w0 w.heap.size f fs ft fa fc) := by unfold Hid; rw [hw0]; exact FormBox.fresh w f fs fa ft fc _
  have HW0 := Lib.hid hw0
  clear hv hl hrow hw0
  go_enter Try.func148, Try.ntmps148
  go_wp2_with fail
  rw [← HW0.out]
  clear HW0
  refine (l5Depth_any B l f a cap _ w0 (by omega) (HL.out.later (same_below (HB0.out.mono hB))) (InV.later (same_below (HB0.out.mono hB)) _ _ HV.out)).mono ?_
  rintro e w1 ⟨rfl, hb1⟩
  have hs1 : w.heap.size + 1 ≤ w1.heap.size := by have := hb1.size; omega
  have HF1 := Lib.hid (HF0.out.later hb1)
  have HB1 : Hid (Below w.heap.size w w1) := HB0.out.trans (hb1.mono (by omega))
  clear hb1
  have HRE := Lib.hid (rowsF_eq f l)
  cases hd : decide (depthF l f > 0) with
  | true =>
    have HE : Hid (rowsF f l = true) := by unfold Hid; rw [HRE.out, hd]; rfl
    go_wp2_with fail
    go_ret
    exact ⟨ret_bool HE.out.symm, HB1.out⟩
  | false =>
    obtain ⟨x0, x1, x2, x3, x4⟩ := HF1.out
    go_wp2_with fail
    clear x0 x1 x2 x3 x4
    go_loopw [5] (fun i wr => ∃ j : Nat, j ≤ f.kids.length ∧ i = .int .i64 j ∧ rowsAll (f.kids.take j) l = false ∧ Below w.heap.size w wr ∧ w.heap.size < wr.heap.size ∧ FormBox wr w.heap.size f fs ft fa fc) (fun i _ => f.kids.length - (intOf i).toNat)
    case atStart => exact ⟨0, Nat.zero_le _, rfl, by simp [rowsAll], HB1.out, by omega, HF1.out⟩
    case round =>
      obtain ⟨j, hj, rfl, hno, hb, hsz, hfb⟩ := hrel
      have HNO := Lib.hid hno
      have HFB := Lib.hid hfb
      obtain ⟨x0, x1, x2, x3, x4⟩ := hfb
      have HB := Lib.hid hb
      clear hno hb
      by_cases hlt : j < f.kids.length
      · rcases HROW.out with h0 | ⟨b, off, rfl, hbB, hr⟩
        · exfalso; rw [h0] at hlt; simp at hlt
        obtain ⟨s1, t1, k1, l1, c0, c1, c2, c3, c4, hin⟩ := (hr.later (same_below (HB.out.mono hB)) b hbB).at' j hlt
        have HIN := Lib.hid hin
        have HT := Lib.hid (rowsAll_take_succ l f.kids j hlt)
        have hj0 : (0 : Int) ≤ (j : Int) := by omega
        have hj1 : (j : Int) < (f.kids.length : Int) := by omega
        clear hin hr
        go_wp2_with fail
        refine (HIH.out f.kids[j] (List.getElem_mem hlt) B a cap _ wr (by omega) (HL.out.later (same_below (HB.out.mono hB))) HIN.out).mono ?_
        rintro e w2 ⟨rfl, hb2⟩
        have HB2 : Hid (Below w.heap.size w w2) := HB.out.trans (hb2.mono (by omega))
        have HF2 := Lib.hid (HFB.out.later hb2)
        have hs2 := hb2.size
        clear hb2 x0 x1 x2 x3 x4 c0 c1 c2 c3 c4
        cases hr : rowsF f.kids[j] l with
        | true =>
          have HE : Hid (rowsF f l = true) := by unfold Hid; rw [HRE.out, hd, Bool.false_or]; exact rows_yes hlt hr
          go_wp2_with fail
          go_ret
          exact ⟨ret_bool HE.out.symm, HB2.out⟩
        | false =>
          have HY : Hid (rowsAll (f.kids.take (j + 1)) l = false) := by unfold Hid; rw [HT.out, HNO.out, hr]; rfl
          go_wp2_with fail
          go_roundw
          case rel => exact ⟨j + 1, by omega, by go_num, HY.out, HB2.out, by omega, HF2.out⟩
          case measure => simp [intOf]; omega
      · obtain rfl : j = f.kids.length := by omega
        have HE : Hid (rowsF f l = false) := by unfold Hid; rw [HRE.out, hd, Bool.false_or]; have := HNO.out; rw [List.take_length] at this; exact this
        go_wp2_with fail
        go_ret
        exact ⟨ret_bool HE.out.symm, HB.out⟩
/-- a row's cells that read as hits of old memory -/
def RowR (φ : Nat → Prop) (w : World) : List Ht → List Value → Prop
  | [], xs => xs = []
  | x :: r, xs => ∃ c0 c1 c2 c3 c4 c5 c6 c7 c8 c9 c10 c11 t, xs = c0 :: c1 :: c2 :: c3 :: c4 :: c5 :: c6 :: c7 :: c8 :: c9 :: c10 :: c11 :: t ∧ InH φ w x (.agg #[c0, c1, c2, c3, c4, c5, c6, c7, c8, c9, c10, c11]) ∧ RowR φ w r t
theorem RowR.keep {φ : Nat → Prop} {w w' : World} (hs : Same φ w w') : ∀ {gs : List Ht} {xs : List Value}, RowR φ w gs xs → RowR φ w' gs xs
  | [], _, h => h
  | x :: r, xs, h => by
    obtain ⟨c0, c1, c2, c3, c4, c5, c6, c7, c8, c9, c10, c11, t, e, h1, h2⟩ := h
    exact ⟨c0, c1, c2, c3, c4, c5, c6, c7, c8, c9, c10, c11, t, e, InH.later hs _ _ h1, RowR.keep hs h2⟩
theorem RowR.snoc {φ : Nat → Prop} {w : World} {x : Ht} {d0 d1 d2 d3 d4 d5 d6 d7 d8 d9 d10 d11 : Value} (hx : InH φ w x (.agg #[d0, d1, d2, d3, d4, d5, d6, d7, d8, d9, d10, d11])) : ∀ {gs : List Ht} {xs : List Value}, RowR φ w gs xs → RowR φ w (gs ++ [x]) (xs ++ [d0, d1, d2, d3, d4, d5, d6, d7, d8, d9, d10, d11])
  | [], xs, h => by
    have h : xs = [] := h
    subst h
    exact ⟨d0, d1, d2, d3, d4, d5, d6, d7, d8, d9, d10, d11, [], rfl, hx, rfl⟩
  | g :: r, xs, h => by
    obtain ⟨c0, c1, c2, c3, c4, c5, c6, c7, c8, c9, c10, c11, t, rfl, h1, h2⟩ := h
    exact ⟨c0, c1, c2, c3, c4, c5, c6, c7, c8, c9, c10, c11, t ++ [d0, d1, d2, d3, d4, d5, d6, d7, d8, d9, d10, d11], rfl, h1, RowR.snoc hx h2⟩
theorem RowR.row {φ ψ : Nat → Prop} {w : World} {b : Nat} (hm : ∀ k, φ k → ψ k) : ∀ {gs : List Ht} {xs : List Value} {off : Nat}, RowR φ w gs xs → (∀ j u, xs[j]? = some u → w.cell? ⟨b, off + j, none⟩ = some u) → RowH ψ w b off gs
  | [], _, _, _, _ => by unfold RowH; trivial
  | g :: r, xs, off, h, hc => by
    obtain ⟨c0, c1, c2, c3, c4, c5, c6, c7, c8, c9, c10, c11, t, rfl, h1, h2⟩ := h
    unfold RowH
    exact ⟨⟨c0, c1, c2, c3, c4, c5, c6, c7, c8, c9, c10, c11, hc 0 _ rfl, hc 1 _ rfl, hc 2 _ rfl, hc 3 _ rfl, hc 4 _ rfl, hc 5 _ rfl, hc 6 _ rfl, hc 7 _ rfl, hc 8 _ rfl, hc 9 _ rfl, hc 10 _ rfl, hc 11 _ rfl, InH.mono hm _ _ h1⟩, RowR.row hm h2 fun j u hj => by
      have := hc (j + 12) u (by simpa using hj)
      rw [show off + (j + 12) = off + 12 + j by omega] at this
      exact this⟩
theorem lessH_take (l : List Ht) (j : Nat) (h : j < l.length) : lessH (l.take (j + 1)) = lessH (l.take j) ++ [lessOne l[j]] := by
  unfold lessH
  rw [List.take_succ_eq_append_getElem h, List.map_append]
  rfl
theorem lessOne_in {φ : Nat → Prop} {w : World} {x : Ht} {v : Value} (h : InH φ w x v) (s1 : Option Addr) (t1 : Nat) (k1 : Option Addr) (l1 : Nat) (s2 : Option Addr) (t2 : Nat) (k2 : Option Addr) (l2 : Nat) (a : Option Addr) (cap : Nat) (hv : v = .agg #[.int .i64 x.name.kind, .string x.name.name, .int .i64 x.name.n, .slice s1 x.name.scopes.length t1, .slice k1 x.name.kids.length l1, .int .i64 x.depth, .int .i64 x.one.kind, .string x.one.name, .int .i64 x.one.n, .slice s2 x.one.scopes.length t2, .slice k2 x.one.kids.length l2, .slice a x.many.length cap]) :
    InH φ w (lessOne x) (.agg #[.int .i64 x.name.kind, .string x.name.name, .int .i64 x.name.n, .slice s1 x.name.scopes.length t1, .slice k1 x.name.kids.length l1, .int .i64 (lessOne x).depth, .int .i64 x.one.kind, .string x.one.name, .int .i64 x.one.n, .slice s2 x.one.scopes.length t2, .slice k2 x.one.kids.length l2, .slice none 0 0]) := by
  obtain ⟨s1', t1', k1', l1', s2', t2', k2', l2', a', cap', e, hd, hn, ho, _⟩ := h.form
  rw [hv] at e
  injection e with e
  injection e with e
  simp only [List.cons.injEq, and_true, Value.slice.injEq, true_and] at e
  obtain ⟨⟨rfl, rfl⟩, ⟨rfl, rfl⟩, ⟨rfl, rfl⟩, ⟨rfl, rfl⟩, rfl, rfl⟩ := e
  unfold lessOne InH
  exact ⟨s1, t1, k1, l1, s2, t2, k2, l2, none, 0, rfl, by split <;> omega, hn, ho, Nat.le_refl _, Nat.zero_le _, .inl rfl⟩
set_option maxRecDepth 100000 in
set_option maxHeartbeats 8000000 in
theorem l5Less_any (B : Nat) (l : List Ht) (a : Option Addr) (cap : Nat) (w : World) (hB : B ≤ w.heap.size) (hl : HitsIn (· < B) w a cap l) (hlen : l.length ≤ 1048576) :
    Calls Try.prog 149 #[.slice a l.length cap] w fun e w' => ∃ a' cap', e = .returned (.slice a' (lessH l).length cap') ∧ HitsIn (· < w'.heap.size) w' a' cap' (lessH l) ∧ Below w.heap.size w w' := by
  obtain ⟨hcap, hmax, hrow⟩ := hl
  unfold maxLen at hmax
  have HROW := Lib.hid hrow
  obtain ⟨i0, hi0, hz0, hz1, hz2⟩ := info_parts Try.infoHt
  obtain ⟨w0, hw0⟩ : ∃ w0, w0 = w.alloc (.cells #[] 60) := ⟨_, rfl⟩
  have HB0 : Hid (Below w.heap.size w w0) := by rw [hw0]; exact below_alloc w _
  have hs0 : w0.heap.size = w.heap.size + 1 := by rw [hw0]; simp
  have HO0 : Hid (w0.ownsRow w.heap.size 60 12 (.slice (some ⟨w.heap.size, 0, none⟩) 0 0) 0 []) := by
    have := World.ownsRow_lit (base := w.heap.size) (e := 60) (size := 12) w #[] 0 (Nat.le_refl _) (by unfold maxLen; omega) (by simp)
    rw [hw0]
    exact this
  have HW0 := Lib.hid hw0
  clear hrow hw0
  go_enter Try.func149, Try.ntmps149
  go_wp2_with fail
  rw [← HW0.out]
  clear HW0
  go_loopw [3, 4, 5] (fun vv i u wr => ∃ (j : Nat) (xs : List Value) (v : Value), v = vv ∧ j ≤ l.length ∧ i = .int .i64 j ∧ wr.ownsRow w.heap.size 60 12 v j xs ∧ RowR (· < w.heap.size) wr (lessH (l.take j)) xs ∧ Below w.heap.size w wr) (fun _ i _ _ => l.length - (intOf i).toNat)
  case atStart => exact ⟨0, [], _, rfl, Nat.zero_le _, rfl, HO0.out, by simp [lessH, RowR], HB0.out⟩
  case round =>
    obtain ⟨j, xs, v, rfl, hj, rfl, hown, hvals, hb⟩ := hrel
    have HOWN := Lib.hid hown
    have HVAL := Lib.hid hvals
    have HB := Lib.hid hb
    have hsz := hb.size
    clear hown hvals hb
    by_cases hlt : j < l.length
    · rcases HROW.out with h0 | ⟨b, off, rfl, hbB, hr⟩
      · exfalso; rw [h0] at hlt; simp at hlt
      obtain ⟨e0, e1, e2, e3, e4, e5, e6, e7, e8, e9, q0, q1, q2, q3, q4, q5, q6, q7, q8, q9, q10, q11, hin⟩ := (hr.later (same_below (HB.out.mono hB)) b hbB).at' j hlt
      have HIN := Lib.hid (InH.mono (ψ := (· < w.heap.size)) (fun k (hk : k < B) => by show k < w.heap.size; omega) _ _ hin)
      have HTK := Lib.hid (lessH_take l j hlt)
      have hj0 : (0 : Int) ≤ (j : Int) := by omega
      have hj1 : (j : Int) < (l.length : Int) := by omega
      have hL1 : j + 1 ≤ maxLen := by unfold maxLen; omega
      have hL2 : (j + 1) * 192 ≤ 140737488355328 := by omega
      have hbB' : b < B := hbB
      have hdr := HIN.out.form
      have hdb : -9223372036854775808 ≤ l[j].depth ∧ l[j].depth ≤ 9223372036854775807 := by obtain ⟨_, _, _, _, _, _, _, _, _, _, _, h, _⟩ := hdr; exact h
      clear hr hin hdr
      go_wp2_with fail
      refine upto_begin (fun W => W.cell? ⟨b, off + j * 12, none⟩ = some (.int .i64 l[j].name.kind) ∧ W.cell? ⟨b, off + j * 12 + 1, none⟩ = some (.string l[j].name.name) ∧ W.cell? ⟨b, off + j * 12 + 2, none⟩ = some (.int .i64 l[j].name.n) ∧ W.cell? ⟨b, off + j * 12 + 3, none⟩ = some (.slice e0 l[j].name.scopes.length e1) ∧ W.cell? ⟨b, off + j * 12 + 4, none⟩ = some (.slice e2 l[j].name.kids.length e3) ∧ W.cell? ⟨b, off + j * 12 + 5, none⟩ = some (.int .i64 l[j].depth) ∧ W.cell? ⟨b, off + j * 12 + 6, none⟩ = some (.int .i64 l[j].one.kind) ∧ W.cell? ⟨b, off + j * 12 + 7, none⟩ = some (.string l[j].one.name) ∧ W.cell? ⟨b, off + j * 12 + 8, none⟩ = some (.int .i64 l[j].one.n) ∧ W.cell? ⟨b, off + j * 12 + 9, none⟩ = some (.slice e4 l[j].one.scopes.length e5) ∧ W.cell? ⟨b, off + j * 12 + 10, none⟩ = some (.slice e6 l[j].one.kids.length e7) ∧ W.cell? ⟨b, off + j * 12 + 11, none⟩ = some (.slice e8 l[j].many.length e9)) 18 (by kernel_rfl) ?_
      obtain ⟨u, hu⟩ : ∃ u, u = wr.drew := ⟨_, rfl⟩
      rw [← hu]
      have hb : Below wr.heap.size wr u := by rw [hu]; exact (Below.refl _ _).drew
      have hsu := hb.size
      have hS0 : (fun W => W.cell? ⟨b, off + j * 12, none⟩ = some (.int .i64 l[j].name.kind) ∧ W.cell? ⟨b, off + j * 12 + 1, none⟩ = some (.string l[j].name.name) ∧ W.cell? ⟨b, off + j * 12 + 2, none⟩ = some (.int .i64 l[j].name.n) ∧ W.cell? ⟨b, off + j * 12 + 3, none⟩ = some (.slice e0 l[j].name.scopes.length e1) ∧ W.cell? ⟨b, off + j * 12 + 4, none⟩ = some (.slice e2 l[j].name.kids.length e3) ∧ W.cell? ⟨b, off + j * 12 + 5, none⟩ = some (.int .i64 l[j].depth) ∧ W.cell? ⟨b, off + j * 12 + 6, none⟩ = some (.int .i64 l[j].one.kind) ∧ W.cell? ⟨b, off + j * 12 + 7, none⟩ = some (.string l[j].one.name) ∧ W.cell? ⟨b, off + j * 12 + 8, none⟩ = some (.int .i64 l[j].one.n) ∧ W.cell? ⟨b, off + j * 12 + 9, none⟩ = some (.slice e4 l[j].one.scopes.length e5) ∧ W.cell? ⟨b, off + j * 12 + 10, none⟩ = some (.slice e6 l[j].one.kids.length e7) ∧ W.cell? ⟨b, off + j * 12 + 11, none⟩ = some (.slice e8 l[j].many.length e9)) u := ⟨cell_later' hb q0, cell_later' hb q1, cell_later' hb q2, cell_later' hb q3, cell_later' hb q4, cell_later' hb q5, cell_later' hb q6, cell_later' hb q7, cell_later' hb q8, cell_later' hb q9, cell_later' hb q10, cell_later' hb q11⟩
      have HBU : Hid (Below wr.heap.size wr u) := hb
      clear hb hu q0 q1 q2 q3 q4 q5 q6 q7 q8 q9 q10 q11
      refine upto_take (i := 0) (d := some 13) (v := ?_) rfl rfl (by kernel_rfl) (by kernel_rfl) (by kernel_rfl) (by kernel_rfl) (fun _ _ _ h => h) (Or.inl ⟨by rfl, ?_⟩) hS0 ?_
      rotate_left
      · (intro wS hSw; obtain ⟨_, _, _, _, _, _, _, _, _, _, _, _⟩ := hSw; go_simp; try with_reducible rfl)
      try simp only [Act.put, List.setIfInBounds_toArray, List.set_cons_zero, List.set_cons_succ]
      refine upto_take (i := 1) (d := some 14) (v := ?_) rfl rfl (by kernel_rfl) (by kernel_rfl) (by kernel_rfl) (by kernel_rfl) (fun _ _ _ h => h) (Or.inl ⟨by rfl, ?_⟩) hS0 ?_
      rotate_left
      · (intro wS hSw; obtain ⟨_, _, _, _, _, _, _, _, _, _, _, _⟩ := hSw; go_simp; try with_reducible rfl)
      try simp only [Act.put, List.setIfInBounds_toArray, List.set_cons_zero, List.set_cons_succ]
      refine upto_take (i := 2) (d := some 15) (v := ?_) rfl rfl (by kernel_rfl) (by kernel_rfl) (by kernel_rfl) (by kernel_rfl) (fun _ _ _ h => h) (Or.inl ⟨by rfl, ?_⟩) hS0 ?_
      rotate_left
      · (intro wS hSw; obtain ⟨_, _, _, _, _, _, _, _, _, _, _, _⟩ := hSw; go_simp; try with_reducible rfl)
      try simp only [Act.put, List.setIfInBounds_toArray, List.set_cons_zero, List.set_cons_succ]
      refine upto_take (i := 3) (d := some 16) (v := ?_) rfl rfl (by kernel_rfl) (by kernel_rfl) (by kernel_rfl) (by kernel_rfl) (fun _ _ _ h => h) (Or.inl ⟨by rfl, ?_⟩) hS0 ?_
      rotate_left
      · (intro wS hSw; obtain ⟨_, _, _, _, _, _, _, _, _, _, _, _⟩ := hSw; go_simp; try with_reducible rfl)
      try simp only [Act.put, List.setIfInBounds_toArray, List.set_cons_zero, List.set_cons_succ]
      refine upto_take (i := 4) (d := some 17) (v := ?_) rfl rfl (by kernel_rfl) (by kernel_rfl) (by kernel_rfl) (by kernel_rfl) (fun _ _ _ h => h) (Or.inl ⟨by rfl, ?_⟩) hS0 ?_
      rotate_left
      · (intro wS hSw; obtain ⟨_, _, _, _, _, _, _, _, _, _, _, _⟩ := hSw; go_simp; try with_reducible rfl)
      try simp only [Act.put, List.setIfInBounds_toArray, List.set_cons_zero, List.set_cons_succ]
      refine upto_take (i := 5) (d := some 18) (v := ?_) rfl rfl (by kernel_rfl) (by kernel_rfl) (by kernel_rfl) (by kernel_rfl) (fun _ _ _ h => h) (Or.inl ⟨by rfl, ?_⟩) hS0 ?_
      rotate_left
      · (intro wS hSw; obtain ⟨_, _, _, _, _, _, _, _, _, _, _, _⟩ := hSw; go_simp; try with_reducible rfl)
      try simp only [Act.put, List.setIfInBounds_toArray, List.set_cons_zero, List.set_cons_succ]
      refine upto_take (i := 6) (d := some 19) (v := ?_) rfl rfl (by kernel_rfl) (by kernel_rfl) (by kernel_rfl) (by kernel_rfl) (fun _ _ _ h => h) (Or.inl ⟨by rfl, ?_⟩) hS0 ?_
      rotate_left
      · (intro wS hSw; obtain ⟨_, _, _, _, _, _, _, _, _, _, _, _⟩ := hSw; go_simp; try with_reducible rfl)
      try simp only [Act.put, List.setIfInBounds_toArray, List.set_cons_zero, List.set_cons_succ]
      refine upto_take (i := 7) (d := some 20) (v := ?_) rfl rfl (by kernel_rfl) (by kernel_rfl) (by kernel_rfl) (by kernel_rfl) (fun _ _ _ h => h) (Or.inl ⟨by rfl, ?_⟩) hS0 ?_
      rotate_left
      · (intro wS hSw; obtain ⟨_, _, _, _, _, _, _, _, _, _, _, _⟩ := hSw; go_simp; try with_reducible rfl)
      try simp only [Act.put, List.setIfInBounds_toArray, List.set_cons_zero, List.set_cons_succ]
      refine upto_take (i := 8) (d := some 21) (v := ?_) rfl rfl (by kernel_rfl) (by kernel_rfl) (by kernel_rfl) (by kernel_rfl) (fun _ _ _ h => h) (Or.inl ⟨by rfl, ?_⟩) hS0 ?_
      rotate_left
      · (intro wS hSw; obtain ⟨_, _, _, _, _, _, _, _, _, _, _, _⟩ := hSw; go_simp; try with_reducible rfl)
      try simp only [Act.put, List.setIfInBounds_toArray, List.set_cons_zero, List.set_cons_succ]
      refine upto_take (i := 9) (d := some 22) (v := ?_) rfl rfl (by kernel_rfl) (by kernel_rfl) (by kernel_rfl) (by kernel_rfl) (fun _ _ _ h => h) (Or.inl ⟨by rfl, ?_⟩) hS0 ?_
      rotate_left
      · (intro wS hSw; obtain ⟨_, _, _, _, _, _, _, _, _, _, _, _⟩ := hSw; go_simp; try with_reducible rfl)
      try simp only [Act.put, List.setIfInBounds_toArray, List.set_cons_zero, List.set_cons_succ]
      refine upto_take (i := 10) (d := some 23) (v := ?_) rfl rfl (by kernel_rfl) (by kernel_rfl) (by kernel_rfl) (by kernel_rfl) (fun _ _ _ h => h) (Or.inl ⟨by rfl, ?_⟩) hS0 ?_
      rotate_left
      · (intro wS hSw; obtain ⟨_, _, _, _, _, _, _, _, _, _, _, _⟩ := hSw; go_simp; try with_reducible rfl)
      try simp only [Act.put, List.setIfInBounds_toArray, List.set_cons_zero, List.set_cons_succ]
      refine upto_take (i := 11) (d := some 24) (v := ?_) rfl rfl (by kernel_rfl) (by kernel_rfl) (by kernel_rfl) (by kernel_rfl) (fun _ _ _ h => h) (Or.inl ⟨by rfl, ?_⟩) hS0 ?_
      rotate_left
      · (intro wS hSw; obtain ⟨_, _, _, _, _, _, _, _, _, _, _, _⟩ := hSw; go_simp; try with_reducible rfl)
      try simp only [Act.put, List.setIfInBounds_toArray, List.set_cons_zero, List.set_cons_succ]
      refine upto_take (i := 12) (d := some 25) (v := ?_) rfl rfl (by kernel_rfl) (by kernel_rfl) (by kernel_rfl) (by kernel_rfl) (fun _ _ _ h => h) (Or.inl ⟨by rfl, ?_⟩) hS0 ?_
      rotate_left
      · (intro wS hSw; obtain ⟨_, _, _, _, _, _, _, _, _, _, _, _⟩ := hSw; go_simp; try with_reducible rfl)
      try simp only [Act.put, List.setIfInBounds_toArray, List.set_cons_zero, List.set_cons_succ]
      refine upto_take (i := 13) (d := some 26) (v := ?_) rfl rfl (by kernel_rfl) (by kernel_rfl) (by kernel_rfl) (by kernel_rfl) (fun _ _ _ h => h) (Or.inl ⟨by rfl, ?_⟩) hS0 ?_
      rotate_left
      · (intro wS hSw; obtain ⟨_, _, _, _, _, _, _, _, _, _, _, _⟩ := hSw; go_simp; try with_reducible rfl)
      try simp only [Act.put, List.setIfInBounds_toArray, List.set_cons_zero, List.set_cons_succ]
      refine upto_take (i := 14) (d := some 27) (v := ?_) rfl rfl (by kernel_rfl) (by kernel_rfl) (by kernel_rfl) (by kernel_rfl) (fun _ _ _ h => h) (Or.inl ⟨by rfl, ?_⟩) hS0 ?_
      rotate_left
      · (intro wS hSw; obtain ⟨_, _, _, _, _, _, _, _, _, _, _, _⟩ := hSw; go_simp; try with_reducible rfl)
      try simp only [Act.put, List.setIfInBounds_toArray, List.set_cons_zero, List.set_cons_succ]
      refine upto_take (i := 15) (d := some 28) (v := ?_) rfl rfl (by kernel_rfl) (by kernel_rfl) (by kernel_rfl) (by kernel_rfl) (fun _ _ _ h => h) (Or.inl ⟨by rfl, ?_⟩) hS0 ?_
      rotate_left
      · (intro wS hSw; obtain ⟨_, _, _, _, _, _, _, _, _, _, _, _⟩ := hSw; go_simp; try with_reducible rfl)
      try simp only [Act.put, List.setIfInBounds_toArray, List.set_cons_zero, List.set_cons_succ]
      refine upto_one (i := 16) (by kernel_rfl) rfl (fun K hK => ?_)
      go_simp
      obtain ⟨w1, hw1⟩ : ∃ V, V = u.alloc (.cells #[.int .i64 0, .string { data := #[] }, .int .i64 0, .slice none 0 0, .slice none 0 0, .int .i64 0, .int .i64 0, .string { data := #[] }, .int .i64 0, .slice none 0 0, .slice none 0 0, .slice none 0 0] 60) := ⟨_, rfl⟩
      have hb1 : Below u.heap.size u w1 := by rw [hw1]; exact below_alloc _ _
      have hz : w1.heap[u.heap.size]? = some (.cells #[.int .i64 0, .string { data := #[] }, .int .i64 0, .slice none 0 0, .slice none 0 0, .int .i64 0, .int .i64 0, .string { data := #[] }, .int .i64 0, .slice none 0 0, .slice none 0 0, .slice none 0 0] 60 (0, 0)) := by rw [hw1]; exact heap_alloc_new _ _
      have hs1 : w1.heap.size = u.heap.size + 1 := by rw [hw1]; simp
      rw [← hw1]
      clear hw1
      have hS1 : (fun W => W.cell? ⟨b, off + j * 12, none⟩ = some (.int .i64 l[j].name.kind) ∧ W.cell? ⟨b, off + j * 12 + 1, none⟩ = some (.string l[j].name.name) ∧ W.cell? ⟨b, off + j * 12 + 2, none⟩ = some (.int .i64 l[j].name.n) ∧ W.cell? ⟨b, off + j * 12 + 3, none⟩ = some (.slice e0 l[j].name.scopes.length e1) ∧ W.cell? ⟨b, off + j * 12 + 4, none⟩ = some (.slice e2 l[j].name.kids.length e3) ∧ W.cell? ⟨b, off + j * 12 + 5, none⟩ = some (.int .i64 l[j].depth) ∧ W.cell? ⟨b, off + j * 12 + 6, none⟩ = some (.int .i64 l[j].one.kind) ∧ W.cell? ⟨b, off + j * 12 + 7, none⟩ = some (.string l[j].one.name) ∧ W.cell? ⟨b, off + j * 12 + 8, none⟩ = some (.int .i64 l[j].one.n) ∧ W.cell? ⟨b, off + j * 12 + 9, none⟩ = some (.slice e4 l[j].one.scopes.length e5) ∧ W.cell? ⟨b, off + j * 12 + 10, none⟩ = some (.slice e6 l[j].one.kids.length e7) ∧ W.cell? ⟨b, off + j * 12 + 11, none⟩ = some (.slice e8 l[j].many.length e9)) w1 := by obtain ⟨q0, q1, q2, q3, q4, q5, q6, q7, q8, q9, q10, q11⟩ := hS0; exact ⟨cell_later' hb1 q0, cell_later' hb1 q1, cell_later' hb1 q2, cell_later' hb1 q3, cell_later' hb1 q4, cell_later' hb1 q5, cell_later' hb1 q6, cell_later' hb1 q7, cell_later' hb1 q8, cell_later' hb1 q9, cell_later' hb1 q10, cell_later' hb1 q11⟩
      have HB1 : Hid (Below wr.heap.size wr w1) := HBU.out.trans (hb1.mono (by omega))
      refine hK.out _ _ (.inr hS1) ?_
      clear hK K hb1 hS0
      have hplr : Plain w1 (u.heap.size) := ⟨_, _, hz⟩
      have r0 : w1.cell? ⟨u.heap.size, 0, none⟩ = some (.int .i64 0) := by rw [cell_of_row w1 _ 0 _ _ _ hz]; rfl
      have r1 : w1.cell? ⟨u.heap.size, 1, none⟩ = some (.string { data := #[] }) := by rw [cell_of_row w1 _ 1 _ _ _ hz]; rfl
      have r2 : w1.cell? ⟨u.heap.size, 2, none⟩ = some (.int .i64 0) := by rw [cell_of_row w1 _ 2 _ _ _ hz]; rfl
      have r3 : w1.cell? ⟨u.heap.size, 3, none⟩ = some (.slice none 0 0) := by rw [cell_of_row w1 _ 3 _ _ _ hz]; rfl
      have r4 : w1.cell? ⟨u.heap.size, 4, none⟩ = some (.slice none 0 0) := by rw [cell_of_row w1 _ 4 _ _ _ hz]; rfl
      have r5 : w1.cell? ⟨u.heap.size, 5, none⟩ = some (.int .i64 0) := by rw [cell_of_row w1 _ 5 _ _ _ hz]; rfl
      have r6 : w1.cell? ⟨u.heap.size, 6, none⟩ = some (.int .i64 0) := by rw [cell_of_row w1 _ 6 _ _ _ hz]; rfl
      have r7 : w1.cell? ⟨u.heap.size, 7, none⟩ = some (.string { data := #[] }) := by rw [cell_of_row w1 _ 7 _ _ _ hz]; rfl
      have r8 : w1.cell? ⟨u.heap.size, 8, none⟩ = some (.int .i64 0) := by rw [cell_of_row w1 _ 8 _ _ _ hz]; rfl
      have r9 : w1.cell? ⟨u.heap.size, 9, none⟩ = some (.slice none 0 0) := by rw [cell_of_row w1 _ 9 _ _ _ hz]; rfl
      have r10 : w1.cell? ⟨u.heap.size, 10, none⟩ = some (.slice none 0 0) := by rw [cell_of_row w1 _ 10 _ _ _ hz]; rfl
      have r11 : w1.cell? ⟨u.heap.size, 11, none⟩ = some (.slice none 0 0) := by rw [cell_of_row w1 _ 11 _ _ _ hz]; rfl
      have t_0 := hplr.frozen 0
      have t_1 := hplr.frozen 1
      have t_2 := hplr.frozen 2
      have t_3 := hplr.frozen 3
      have t_4 := hplr.frozen 4
      have t_5 := hplr.frozen 5
      have t_6 := hplr.frozen 6
      have t_7 := hplr.frozen 7
      have t_8 := hplr.frozen 8
      have t_9 := hplr.frozen 9
      have t_10 := hplr.frozen 10
      have t_11 := hplr.frozen 11
      have HR : Hid (∀ i, i < 12 → ∃ v, w1.cell? ⟨u.heap.size, 0 + i, none⟩ = some v) := fun i hi => by
        rw [Nat.zero_add]
        match i, hi with
        | 0, _ => exact ⟨_, r0⟩
        | 1, _ => exact ⟨_, r1⟩
        | 2, _ => exact ⟨_, r2⟩
        | 3, _ => exact ⟨_, r3⟩
        | 4, _ => exact ⟨_, r4⟩
        | 5, _ => exact ⟨_, r5⟩
        | 6, _ => exact ⟨_, r6⟩
        | 7, _ => exact ⟨_, r7⟩
        | 8, _ => exact ⟨_, r8⟩
        | 9, _ => exact ⟨_, r9⟩
        | 10, _ => exact ⟨_, r10⟩
        | 11, _ => exact ⟨_, r11⟩
      refine upto_one (i := 17) (by kernel_rfl) rfl (fun K hK => ?_)
      go_simp
      obtain ⟨w2, hV⟩ : ∃ V, V = ((((((((((((w1.setCell ⟨u.heap.size, 0, none⟩ (.int .i64 l[j].name.kind)).setCell ⟨u.heap.size, 1, none⟩ (.string l[j].name.name)).setCell ⟨u.heap.size, 2, none⟩ (.int .i64 l[j].name.n)).setCell ⟨u.heap.size, 3, none⟩ (.slice e0 l[j].name.scopes.length e1)).setCell ⟨u.heap.size, 4, none⟩ (.slice e2 l[j].name.kids.length e3)).setCell ⟨u.heap.size, 5, none⟩ (.int .i64 l[j].depth)).setCell ⟨u.heap.size, 6, none⟩ (.int .i64 l[j].one.kind)).setCell ⟨u.heap.size, 7, none⟩ (.string l[j].one.name)).setCell ⟨u.heap.size, 8, none⟩ (.int .i64 l[j].one.n)).setCell ⟨u.heap.size, 9, none⟩ (.slice e4 l[j].one.scopes.length e5)).setCell ⟨u.heap.size, 10, none⟩ (.slice e6 l[j].one.kids.length e7)).setCell ⟨u.heap.size, 11, none⟩ (.slice none 0 0)) := ⟨_, rfl⟩
      have E : w2 = sets w1 u.heap.size 0 [.int .i64 l[j].name.kind, .string l[j].name.name, .int .i64 l[j].name.n, .slice e0 l[j].name.scopes.length e1, .slice e2 l[j].name.kids.length e3, .int .i64 l[j].depth, .int .i64 l[j].one.kind, .string l[j].one.name, .int .i64 l[j].one.n, .slice e4 l[j].one.scopes.length e5, .slice e6 l[j].one.kids.length e7, .slice none 0 0] := by rw [hV]; rfl
      have hsi := sets_in u.heap.size [Value.int .i64 l[j].name.kind, Value.string l[j].name.name, Value.int .i64 l[j].name.n, Value.slice e0 l[j].name.scopes.length e1, Value.slice e2 l[j].name.kids.length e3, Value.int .i64 l[j].depth, Value.int .i64 l[j].one.kind, Value.string l[j].one.name, Value.int .i64 l[j].one.n, Value.slice e4 l[j].one.scopes.length e5, Value.slice e6 l[j].one.kids.length e7, Value.slice none 0 0] w1 0 HR.out
      rw [← E] at hsi
      have z0 : w2.cell? ⟨u.heap.size, 0, none⟩ = some (.int .i64 l[j].name.kind) := by have := hsi 0 (by simp); simpa using this
      have z1 : w2.cell? ⟨u.heap.size, 1, none⟩ = some (.string l[j].name.name) := by have := hsi 1 (by simp); simpa using this
      have z2 : w2.cell? ⟨u.heap.size, 2, none⟩ = some (.int .i64 l[j].name.n) := by have := hsi 2 (by simp); simpa using this
      have z3 : w2.cell? ⟨u.heap.size, 3, none⟩ = some (.slice e0 l[j].name.scopes.length e1) := by have := hsi 3 (by simp); simpa using this
      have z4 : w2.cell? ⟨u.heap.size, 4, none⟩ = some (.slice e2 l[j].name.kids.length e3) := by have := hsi 4 (by simp); simpa using this
      have z5 : w2.cell? ⟨u.heap.size, 5, none⟩ = some (.int .i64 l[j].depth) := by have := hsi 5 (by simp); simpa using this
      have z6 : w2.cell? ⟨u.heap.size, 6, none⟩ = some (.int .i64 l[j].one.kind) := by have := hsi 6 (by simp); simpa using this
      have z7 : w2.cell? ⟨u.heap.size, 7, none⟩ = some (.string l[j].one.name) := by have := hsi 7 (by simp); simpa using this
      have z8 : w2.cell? ⟨u.heap.size, 8, none⟩ = some (.int .i64 l[j].one.n) := by have := hsi 8 (by simp); simpa using this
      have z9 : w2.cell? ⟨u.heap.size, 9, none⟩ = some (.slice e4 l[j].one.scopes.length e5) := by have := hsi 9 (by simp); simpa using this
      have z10 : w2.cell? ⟨u.heap.size, 10, none⟩ = some (.slice e6 l[j].one.kids.length e7) := by have := hsi 10 (by simp); simpa using this
      have z11 : w2.cell? ⟨u.heap.size, 11, none⟩ = some (.slice none 0 0) := by have := hsi 11 (by simp); simpa using this
      have hz5 : w2.heap.size = w1.heap.size := by rw [E, sets_size]
      have HB2 : Hid (Below wr.heap.size wr w2) := by unfold Hid; rw [E]; exact sets_below (by omega) _ _ HB1.out
      have hS2 : (fun W => W.cell? ⟨b, off + j * 12, none⟩ = some (.int .i64 l[j].name.kind) ∧ W.cell? ⟨b, off + j * 12 + 1, none⟩ = some (.string l[j].name.name) ∧ W.cell? ⟨b, off + j * 12 + 2, none⟩ = some (.int .i64 l[j].name.n) ∧ W.cell? ⟨b, off + j * 12 + 3, none⟩ = some (.slice e0 l[j].name.scopes.length e1) ∧ W.cell? ⟨b, off + j * 12 + 4, none⟩ = some (.slice e2 l[j].name.kids.length e3) ∧ W.cell? ⟨b, off + j * 12 + 5, none⟩ = some (.int .i64 l[j].depth) ∧ W.cell? ⟨b, off + j * 12 + 6, none⟩ = some (.int .i64 l[j].one.kind) ∧ W.cell? ⟨b, off + j * 12 + 7, none⟩ = some (.string l[j].one.name) ∧ W.cell? ⟨b, off + j * 12 + 8, none⟩ = some (.int .i64 l[j].one.n) ∧ W.cell? ⟨b, off + j * 12 + 9, none⟩ = some (.slice e4 l[j].one.scopes.length e5) ∧ W.cell? ⟨b, off + j * 12 + 10, none⟩ = some (.slice e6 l[j].one.kids.length e7) ∧ W.cell? ⟨b, off + j * 12 + 11, none⟩ = some (.slice e8 l[j].many.length e9)) w2 := by
        obtain ⟨q0, q1, q2, q3, q4, q5, q6, q7, q8, q9, q10, q11⟩ := hS1
        have hx : ∀ i, w2.cell? ⟨b, i, none⟩ = w1.cell? ⟨b, i, none⟩ := fun i => World.cell?_of_block (a := ⟨b, i, none⟩) (by rw [E]; exact sets_block _ _ _ _ (show b ≠ u.heap.size by omega))
        exact ⟨(hx _).trans q0, (hx _).trans q1, (hx _).trans q2, (hx _).trans q3, (hx _).trans q4, (hx _).trans q5, (hx _).trans q6, (hx _).trans q7, (hx _).trans q8, (hx _).trans q9, (hx _).trans q10, (hx _).trans q11⟩
      have hfz : ∀ i, w2.frozen? ⟨u.heap.size, i, none⟩ = false := fun i => by rw [E, sets_frozen]; exact hplr.frozen i
      have g5 := hfz 5
      rw [← hV]
      clear hV E hsi hS1 hz hplr HR hfz r0 r1 r2 r3 r4 r5 r6 r7 r8 r9 r10 r11 t_0 t_1 t_2 t_3 t_4 t_5 t_6 t_7 t_8 t_9 t_10 t_11
      refine hK.out _ _ (.inr hS2) ?_
      clear hK K hS2
      refine upto_done (by kernel_rfl) ?_ _
      have hown2 : Hid (w2.ownsRow w.heap.size 60 12 v j xs) := HOWN.out.kept (row := none) ⟨HB2.out.os, HB2.out.tape, HB2.out.output, HB2.out.size, fun k hk _ => HB2.out.block k hk⟩ (by cases v.ownBlock <;> simp)
      have HOWN2 := hown2
      have HBW : Hid (Below w.heap.size w w2) := HB.out.trans (HB2.out.mono (by omega))
      have HVAL2 := Lib.hid (HVAL.out.keep (same_below (HB2.out.mono hsz)))
      have HIN2 := Lib.hid (InH.later (same_below (HB2.out.mono hsz)) _ _ HIN.out)
      have HBL : Hid (∀ q, v.ownBlock = some q → w.heap.size ≤ q ∧ q < wr.heap.size) := HOWN.out.lt
      have hs2 : wr.heap.size + 1 ≤ w2.heap.size := by omega
      have hu2 : wr.heap.size ≤ u.heap.size ∧ u.heap.size < w2.heap.size := by omega
      clear hown2 hz5 hs1
      by_cases hdp : l[j].depth > 0
      · have hwd : IntKind.i64.wrap (l[j].depth - 1) = l[j].depth - 1 := by rw [IntKind.wrap_i64]; omega
        have hdd : decide (l[j].depth > 0) = true := decide_eq_true hdp
        have HLO : Hid (lessOne l[j] = .mk l[j].name (l[j].depth - 1) l[j].one []) := by unfold Hid lessOne; rw [if_pos hdp]
        obtain ⟨w3, hw3⟩ : ∃ w3, w3 = w2.setCell ⟨u.heap.size, 5, none⟩ (.int .i64 (l[j].depth - 1)) := ⟨_, rfl⟩
        have hs3 : w2.heap.size ≤ w3.heap.size := by rw [hw3]; simp [World.setCell]
        have HS3E : Hid (w3.heap.size = w2.heap.size) := by unfold Hid; rw [hw3]; simp [World.setCell]
        have hb3 : Below wr.heap.size wr w3 := by rw [hw3]; exact HB2.out.setCell (p := ⟨u.heap.size, 5, none⟩) (by show wr.heap.size ≤ u.heap.size; exact hu2.1) _
        have hot : ∀ i, i ≠ 5 → w3.cell? ⟨u.heap.size, i, none⟩ = w2.cell? ⟨u.heap.size, i, none⟩ := fun i hi => by rw [hw3, World.cell?_setCell_other _ _ _ _ (addr_ne (by omega))]
        have y5 : w3.cell? ⟨u.heap.size, 5, none⟩ = some (.int .i64 (l[j].depth - 1)) := by rw [hw3]; exact World.cell?_setCell_same _ _ _ z5
        have y0 := (hot 0 (by omega)).trans z0
        have y1 := (hot 1 (by omega)).trans z1
        have y2 := (hot 2 (by omega)).trans z2
        have y3 := (hot 3 (by omega)).trans z3
        have y4 := (hot 4 (by omega)).trans z4
        have y6 := (hot 6 (by omega)).trans z6
        have y7 := (hot 7 (by omega)).trans z7
        have y8 := (hot 8 (by omega)).trans z8
        have y9 := (hot 9 (by omega)).trans z9
        have y10 := (hot 10 (by omega)).trans z10
        have y11 := (hot 11 (by omega)).trans z11
        have HB3 := Lib.hid hb3
        have HW3 := Lib.hid hw3
        clear hw3 hot hb3
        go_wp2_with (at_builtin; rw [← HW3.out, ← HS3E.out]; refine wpList_append_lies _ rfl _ _ 46 rfl w.heap.size 60 i0 _ 12 192 Try.underlying46 hi0 hz0 hz1 hz2 rfl (by decide) _ j xs rfl ((HOWN.out.kept (row := none) (w' := w3) ⟨HB3.out.os, HB3.out.tape, HB3.out.output, HB3.out.size, fun k hk _ => HB3.out.block k hk⟩ (by cases v.ownBlock <;> simp)).alloc _) ⟨w3.heap.size, 0, none⟩ 1 1 [.int .i64 l[j].name.kind, .string l[j].name.name, .int .i64 l[j].name.n, .slice e0 l[j].name.scopes.length e1, .slice e2 l[j].name.kids.length e3, .int .i64 (l[j].depth - 1), .int .i64 l[j].one.kind, .string l[j].one.name, .int .i64 l[j].one.n, .slice e4 l[j].one.scopes.length e5, .slice e6 l[j].one.kids.length e7, .slice none 0 0] rfl rfl (World.news_of_block (cs := #[.int .i64 l[j].name.kind, .string l[j].name.name, .int .i64 l[j].name.n, .slice e0 l[j].name.scopes.length e1, .slice e2 l[j].name.kids.length e3, .int .i64 (l[j].depth - 1), .int .i64 l[j].one.kind, .string l[j].one.name, .int .i64 l[j].one.n, .slice e4 l[j].one.scopes.length e5, .slice e6 l[j].one.kids.length e7, .slice none 0 0]) (t := 60) (fr := (0, 0)) (heap_alloc_new w3 _)) (by simp [Value.oneCell']) (by omega) hL1 hL2 (by simp; omega) (w3.heap.size + 1) (by simp) ?_; intro gq qd w4 hown4 hgrow hat hlt4; have HOWN4 := Lib.hid hown4; have HGROW := Lib.hid hgrow; have HAT := Lib.hid hat; clear hown4 hgrow hat)
        have HBA := Lib.hid (below_alloc w3 (.cells #[.int .i64 l[j].name.kind, .string l[j].name.name, .int .i64 l[j].name.n, .slice e0 l[j].name.scopes.length e1, .slice e2 l[j].name.kids.length e3, .int .i64 (l[j].depth - 1), .int .i64 l[j].one.kind, .string l[j].one.name, .int .i64 l[j].one.n, .slice e4 l[j].one.scopes.length e5, .slice e6 l[j].one.kids.length e7, .slice none 0 0] 60))
        have HBW4 : Hid (Below w.heap.size w w4) := by
          have h1 : Below w.heap.size w (w3.alloc (.cells #[.int .i64 l[j].name.kind, .string l[j].name.name, .int .i64 l[j].name.n, .slice e0 l[j].name.scopes.length e1, .slice e2 l[j].name.kids.length e3, .int .i64 (l[j].depth - 1), .int .i64 l[j].one.kind, .string l[j].one.name, .int .i64 l[j].one.n, .slice e4 l[j].one.scopes.length e5, .slice e6 l[j].one.kids.length e7, .slice none 0 0] 60)) := (HB.out.trans (HB3.out.mono hsz)).trans (HBA.out.mono (by omega))
          exact h1.grown HGROW.out (by simp; omega) (fun k hk => (HBL.out k hk).1)
        have HNEXT : Hid (∃ (j' : Nat) (xs : List Value) (v : Value), v = .slice (some ⟨gq, 0, none⟩) (j + 1) qd ∧ j' ≤ l.length ∧ (Value.int .i64 ((j : Int) + 1)) = .int .i64 j' ∧ w4.ownsRow w.heap.size 60 12 v j' xs ∧ RowR (· < w.heap.size) w4 (lessH (l.take j')) xs ∧ Below w.heap.size w w4) := by
          refine ⟨j + 1, _, _, rfl, by omega, by go_num, HOWN4.out, ?_, HBW4.out⟩
          rw [HTK.out]
          have hsm : Same (· < w.heap.size) wr w4 := fun k (hk : k < w.heap.size) => (HBW4.out.block k hk).trans (HB.out.block k hk).symm
          refine RowR.snoc ?_ (HVAL.out.keep hsm)
          have := InH.later hsm _ _ HIN.out
          have h2 := lessOne_in this _ _ _ _ _ _ _ _ _ _ rfl
          rw [HLO.out] at h2 ⊢
          exact h2
        clear HGROW HAT
        go_wp2_with fail
        go_roundw
        case rel => exact HNEXT.out
        case measure => simp [intOf]; omega
      · have hdd : decide (l[j].depth > 0) = false := decide_eq_false hdp
        have HLO : Hid (lessOne l[j] = .mk l[j].name l[j].depth l[j].one []) := by unfold Hid lessOne; rw [if_neg hdp]
        have HB3 := HB2
        go_wp2_with (at_builtin; refine wpList_append_lies _ rfl _ _ 46 rfl w.heap.size 60 i0 _ 12 192 Try.underlying46 hi0 hz0 hz1 hz2 rfl (by decide) _ j xs rfl ((HOWN.out.kept (row := none) (w' := w2) ⟨HB3.out.os, HB3.out.tape, HB3.out.output, HB3.out.size, fun k hk _ => HB3.out.block k hk⟩ (by cases v.ownBlock <;> simp)).alloc _) ⟨w2.heap.size, 0, none⟩ 1 1 [.int .i64 l[j].name.kind, .string l[j].name.name, .int .i64 l[j].name.n, .slice e0 l[j].name.scopes.length e1, .slice e2 l[j].name.kids.length e3, .int .i64 (l[j].depth), .int .i64 l[j].one.kind, .string l[j].one.name, .int .i64 l[j].one.n, .slice e4 l[j].one.scopes.length e5, .slice e6 l[j].one.kids.length e7, .slice none 0 0] rfl rfl (World.news_of_block (cs := #[.int .i64 l[j].name.kind, .string l[j].name.name, .int .i64 l[j].name.n, .slice e0 l[j].name.scopes.length e1, .slice e2 l[j].name.kids.length e3, .int .i64 (l[j].depth), .int .i64 l[j].one.kind, .string l[j].one.name, .int .i64 l[j].one.n, .slice e4 l[j].one.scopes.length e5, .slice e6 l[j].one.kids.length e7, .slice none 0 0]) (t := 60) (fr := (0, 0)) (heap_alloc_new w2 _)) (by simp [Value.oneCell']) (by omega) hL1 hL2 (by simp; omega) (w2.heap.size + 1) (by simp) ?_; intro gq qd w4 hown4 hgrow hat hlt4; have HOWN4 := Lib.hid hown4; have HGROW := Lib.hid hgrow; have HAT := Lib.hid hat; clear hown4 hgrow hat)
        have HBA := Lib.hid (below_alloc w2 (.cells #[.int .i64 l[j].name.kind, .string l[j].name.name, .int .i64 l[j].name.n, .slice e0 l[j].name.scopes.length e1, .slice e2 l[j].name.kids.length e3, .int .i64 (l[j].depth), .int .i64 l[j].one.kind, .string l[j].one.name, .int .i64 l[j].one.n, .slice e4 l[j].one.scopes.length e5, .slice e6 l[j].one.kids.length e7, .slice none 0 0] 60))
        have HBW4 : Hid (Below w.heap.size w w4) := by
          have h1 : Below w.heap.size w (w2.alloc (.cells #[.int .i64 l[j].name.kind, .string l[j].name.name, .int .i64 l[j].name.n, .slice e0 l[j].name.scopes.length e1, .slice e2 l[j].name.kids.length e3, .int .i64 (l[j].depth), .int .i64 l[j].one.kind, .string l[j].one.name, .int .i64 l[j].one.n, .slice e4 l[j].one.scopes.length e5, .slice e6 l[j].one.kids.length e7, .slice none 0 0] 60)) := (HB.out.trans (HB3.out.mono hsz)).trans (HBA.out.mono (by omega))
          exact h1.grown HGROW.out (by simp; omega) (fun k hk => (HBL.out k hk).1)
        have HNEXT : Hid (∃ (j' : Nat) (xs : List Value) (v : Value), v = .slice (some ⟨gq, 0, none⟩) (j + 1) qd ∧ j' ≤ l.length ∧ (Value.int .i64 ((j : Int) + 1)) = .int .i64 j' ∧ w4.ownsRow w.heap.size 60 12 v j' xs ∧ RowR (· < w.heap.size) w4 (lessH (l.take j')) xs ∧ Below w.heap.size w w4) := by
          refine ⟨j + 1, _, _, rfl, by omega, by go_num, HOWN4.out, ?_, HBW4.out⟩
          rw [HTK.out]
          have hsm : Same (· < w.heap.size) wr w4 := fun k (hk : k < w.heap.size) => (HBW4.out.block k hk).trans (HB.out.block k hk).symm
          refine RowR.snoc ?_ (HVAL.out.keep hsm)
          have := InH.later hsm _ _ HIN.out
          have h2 := lessOne_in this _ _ _ _ _ _ _ _ _ _ rfl
          rw [HLO.out] at h2 ⊢
          exact h2
        clear HGROW HAT
        go_wp2_with fail
        go_roundw
        case rel => exact HNEXT.out
        case measure => simp [intOf]; omega
    · obtain rfl : j = l.length := by omega
      have HV2 : Hid (RowR (· < w.heap.size) wr (lessH l) xs) := by have := HVAL.out; rw [List.take_length] at this; exact this
      have hll : (lessH l).length = l.length := by unfold lessH; simp
      have HSL : Hid (∃ va vc, v = .slice va l.length vc ∧ HitsIn (· < wr.heap.size) wr va vc (lessH l)) := by
        rcases HOWN.out.2 with ⟨e, h0⟩ | ⟨g, cp, cur, e, hbg, hg, hnc, hcm, _⟩
        · exact ⟨none, 0, by rw [e, h0], by rw [hll]; omega, Nat.zero_le _, .inl (List.eq_nil_of_length_eq_zero (by rw [hll]; exact h0))⟩
        · refine ⟨some ⟨g, 0, none⟩, cp, e, by rw [hll]; exact hnc, hcm, .inr ⟨g, 0, rfl, (Array.getElem?_eq_some_iff.1 hg).1, RowR.row (fun k (hk : k < w.heap.size) => by show k < wr.heap.size; omega) HV2.out (fun j u hj => ?_)⟩⟩
          have := HOWN.out.cells (g := g) (by rw [e]; rfl) j u hj
          unfold Addr.add at this
          split at this <;> simp_all
      obtain ⟨va, vc, rfl, hres⟩ := HSL.out
      have HRES := Lib.hid hres
      clear hres HSL
      go_wp2_with fail
      go_ret
      exact ⟨va, vc, by rw [hll]; rfl, HRES.out, HB.out⟩
end
end Go.Proofs.Ytnogpaflibghhaa
namespace Go.Proofs.Ytnogpaflibghhaa
section
open Go.RowKit
set_option linter.unusedVariables false
set_option linter.unusedSimpArgs false
def pdAt (ks : List Fm) : Nat → Bool
  | 0 => true
  | i + 1 => dotsAt ks i
theorem nextDotsT_drop (ks : List Fm) (j : Nat) : nextDotsT (ks.drop j) = dotsAt ks j := by
  by_cases h : j < ks.length
  · rw [List.drop_eq_getElem_cons h, dotsAt_eq h]; rfl
  · rw [List.drop_eq_nil_of_le (by omega), dotsAt_end (by omega)]; rfl
theorem tmplAll_at {ks : List Fm} {j : Nat} (h : j < ks.length) (pd : Bool) (l : List Ht) : tmplAll (ks.drop j) pd l = if dotsB ks[j] = true then (!pd && tmplAll (ks.drop (j + 1)) true l) else (if dotsAt ks (j + 1) = true then rowsF ks[j] l && tmplB ks[j] (lessH l) else tmplB ks[j] l) && tmplAll (ks.drop (j + 1)) false l := by
  rw [List.drop_eq_getElem_cons h, tmplAll, nextDotsT_drop]
set_option maxRecDepth 100000 in
set_option maxHeartbeats 16000000 in
theorem l5Is_any (f : Fm) : ∀ (l : List Ht) (B : Nat) (a : Option Addr) (cap : Nat) (v : Value) (w : World), B ≤ w.heap.size → HitsIn (· < B) w a cap l → InV (· < B) w f v → l.length ≤ 1048576 →
    Calls Try.prog 76 #[v, .slice a l.length cap] w fun e w' => e = .returned (.bool (tmplB f l)) ∧ Below w.heap.size w w' := by
  induction f using Fm.ind with
  | h k nm n sc ks ih =>
  intro l B a cap v w hB hl hv hlen
  obtain ⟨f, hf⟩ : ∃ f, f = Fm.mk k nm n sc ks := ⟨_, rfl⟩
  rw [← hf] at hv ⊢
  have hks : f.kids = ks := by rw [hf]; rfl
  have HIH : Hid (∀ g ∈ f.kids, ∀ (l : List Ht) (B : Nat) (a : Option Addr) (cap : Nat) (v : Value) (w : World), B ≤ w.heap.size → HitsIn (· < B) w a cap l → InV (· < B) w g v → l.length ≤ 1048576 →
    Calls Try.prog 76 #[v, .slice a l.length cap] w fun e w' => e = .returned (.bool (tmplB g l)) ∧ Below w.heap.size w w') := by rw [hks]; exact ih
  clear hks hf ih
  have HL := Lib.hid hl
  have HV := Lib.hid hv
  obtain ⟨fs, ft, fa, fc, rfl⟩ := hv.form
  have HKI := Lib.hid hv.kidsIn
  obtain ⟨hkl, hmax, hrow⟩ := HKI.out
  unfold maxLen at hmax
  have HROW := Lib.hid hrow
  have HTE := Lib.hid (tmplB_eq f l)
  obtain ⟨w0, hw0⟩ : ∃ w0, w0 = w.alloc (.cells #[.int .i64 f.kind, .string f.name, .int .i64 f.n, .slice fs f.scopes.length ft, .slice fa f.kids.length fc] 33) := ⟨_, rfl⟩
  have HB0 : Hid (Below w.heap.size w w0) := by rw [hw0]; exact below_alloc w _
  have hs0 : w.heap.size < w0.heap.size := by rw [hw0]; simp
  have HF0 : Hid (FormBox w0 w.heap.size f fs ft fa fc) := by unfold Hid; rw [hw0]; exact FormBox.fresh w f fs fa ft fc _
  have HW0 := Lib.hid hw0
  clear hv hl hrow hw0
  go_enter Try.func76, Try.ntmps76
  go_wp2_with fail
  rw [← HW0.out]
  clear HW0
  refine (l4Dots_any f fs ft fa fc w0).mono ?_
  rintro e w1 ⟨rfl, hb1⟩
  have hs1 : w0.heap.size ≤ w1.heap.size := hb1.size
  have HF1 := Lib.hid (HF0.out.later hb1)
  have HB1 : Hid (Below w.heap.size w w1) := HB0.out.trans (hb1.mono (by omega))
  clear hb1 HF0
  cases hdt : dotsB f with
  | true =>
    have HE : Hid (tmplB f l = false) := by unfold Hid; rw [HTE.out, hdt]; rfl
    go_wp2_with fail
    go_ret
    exact ⟨ret_bool HE.out.symm, HB1.out⟩
  | false =>
  obtain ⟨x0, x1, x2, x3, x4⟩ := HF1.out
  go_wp2_with fail
  refine (l5Depth_any B l f a cap _ w1 (by omega) (HL.out.later (same_below (HB1.out.mono hB))) (InV.later (same_below (HB1.out.mono hB)) _ _ HV.out)).mono ?_
  rintro e w2 ⟨rfl, hb2⟩
  have hs2 : w1.heap.size ≤ w2.heap.size := hb2.size
  have HF2 := Lib.hid (HF1.out.later hb2)
  have HB2 : Hid (Below w.heap.size w w2) := HB1.out.trans (hb2.mono (by omega))
  clear hb2 x0 x1 x2 x3 x4 HF1 HB1
  cases hd : decide (depthF l f > 0) with
  | true =>
    have HE : Hid (tmplB f l = false) := by unfold Hid; rw [HTE.out, hdt, hd]; rfl
    go_wp2_with fail
    go_ret
    exact ⟨ret_bool HE.out.symm, HB2.out⟩
  | false =>
  have HTF : Hid (tmplB f l = tmplAll f.kids true l) := by unfold Hid; rw [HTE.out, hdt, hd]; rfl
  have hs3 : w.heap.size < w2.heap.size := by omega
  clear hs1 hs2 hs0 HTE
  go_wp2_with fail
  go_loopw [5] (fun i wr => ∃ j : Nat, j ≤ f.kids.length ∧ i = .int .i64 j ∧ tmplAll (f.kids.drop j) (pdAt f.kids j) l = tmplAll f.kids true l ∧ Below w.heap.size w wr ∧ w.heap.size < wr.heap.size ∧ FormBox wr w.heap.size f fs ft fa fc) (fun i _ => f.kids.length - (intOf i).toNat)
  case atStart => exact ⟨0, Nat.zero_le _, rfl, rfl, HB2.out, hs3, HF2.out⟩
  case round =>
    obtain ⟨j, hj, rfl, hrl, hb, hsz, hfb⟩ := hrel
    have HRL := Lib.hid hrl
    have HFB := Lib.hid hfb
    obtain ⟨x0, x1, x2, x3, x4⟩ := hfb
    have HB := Lib.hid hb
    clear hrl hb
    by_cases hlt : j < f.kids.length
    · rcases HROW.out with h0 | ⟨b, off, rfl, hbB, hr⟩
      · exfalso; rw [h0] at hlt; simp at hlt
      have HR : Hid (RowIn (· < B) wr b off f.kids) := hr.later (same_below (HB.out.mono hB)) b hbB
      obtain ⟨s1, t1, k1, l1, c0, c1, c2, c3, c4, hin⟩ := HR.out.at' j hlt
      have HIN := Lib.hid hin
      have HTA := Lib.hid (tmplAll_at hlt (pdAt f.kids j) l)
      have hbB' : b < B := hbB
      have hj0 : (0 : Int) ≤ (j : Int) := by omega
      have hj1 : (j : Int) < (f.kids.length : Int) := by omega
      clear hin hr hbB
      go_wp2_with fail
      refine (l4Dots_any f.kids[j] s1 t1 k1 l1 wr).mono ?_
      rintro e w3 ⟨rfl, hb3⟩
      have hs3 := hb3.size
      have HF3 := Lib.hid (HFB.out.later hb3)
      have HB3 : Hid (Below w.heap.size w w3) := HB.out.trans (hb3.mono (by omega))
      have HR3 : Hid (RowIn (· < B) w3 b off f.kids) := HR.out.later (same_below (hb3.mono (by omega))) b hbB'
      have HIN3 := Lib.hid (InV.later (same_below (hb3.mono (by omega : B ≤ wr.heap.size))) _ _ HIN.out)
      have c0 := cell_later' hb3 c0
      have c1 := cell_later' hb3 c1
      have c2 := cell_later' hb3 c2
      have c3 := cell_later' hb3 c3
      have c4 := cell_later' hb3 c4
      obtain ⟨x0, x1, x2, x3, x4⟩ := HF3.out
      clear hb3 HFB HB HR HIN
      cases hdg : dotsB f.kids[j] with
      | true =>
        have HT1 : Hid ((!pdAt f.kids j && tmplAll (f.kids.drop (j + 1)) true l) = tmplAll f.kids true l) := by unfold Hid; rw [← HRL.out, HTA.out, hdg]; rfl
        by_cases hz : j = 0
        · have hzz : ((j : Int) == 0) = true := by rw [hz]; rfl
          have HE : Hid (tmplB f l = false) := by unfold Hid; rw [HTF.out, ← HT1.out, hz]; rfl
          clear hz
          go_wp2_with fail
          go_ret
          exact ⟨ret_bool HE.out.symm, HB3.out⟩
        · obtain ⟨i, rfl⟩ : ∃ i, j = i + 1 := ⟨j - 1, by omega⟩
          have hzz : (((i + 1 : Nat) : Int) == 0) = false := by rw [beq_eq_false_iff_ne]; omega
          have hi1 : i < f.kids.length := by omega
          obtain ⟨s2, t2, k2, l2, d0, d1, d2, d3, d4, hin2⟩ := HR3.out.at' i hi1
          have hsub : ((i + 1 : Nat) : Int) - 1 = (i : Int) := by omega
          have hi0 : (0 : Int) ≤ (i : Int) := by omega
          have hi2 : (i : Int) < (f.kids.length : Int) := by omega
          have HDA := Lib.hid (dotsAt_eq hi1)
          have HPD : Hid (pdAt f.kids (i + 1) = dotsB f.kids[i]) := dotsAt_eq hi1
          clear hin2 hz
          go_wp2_with fail
          refine (l4Dots_any f.kids[i] s2 t2 k2 l2 w3).mono ?_
          rintro e w4 ⟨rfl, hb4⟩
          have hs4 := hb4.size
          have HF4 := Lib.hid (HF3.out.later hb4)
          have HB4 : Hid (Below w.heap.size w w4) := HB3.out.trans (hb4.mono (by omega))
          clear hb4 d0 d1 d2 d3 d4 c0 c1 c2 c3 c4 x0 x1 x2 x3 x4 HF3 HB3
          cases hdp : dotsB f.kids[i] with
          | true =>
            have HE : Hid (tmplB f l = false) := by unfold Hid; rw [HTF.out, ← HT1.out, HPD.out, hdp]; rfl
            go_wp2_with fail
            go_ret
            exact ⟨ret_bool HE.out.symm, HB4.out⟩
          | false =>
            have HN : Hid (tmplAll (f.kids.drop (i + 1 + 1)) (pdAt f.kids (i + 1 + 1)) l = tmplAll f.kids true l) := by
              unfold Hid
              rw [← HT1.out, HPD.out, hdp]
              show tmplAll _ (dotsAt f.kids (i + 1)) l = _
              rw [dotsAt_eq hlt, hdg]
              rfl
            go_wp2_with fail
            go_roundw
            case rel => exact ⟨i + 1 + 1, by omega, by go_num, HN.out, HB4.out, by omega, HF4.out⟩
            case measure => simp [intOf]; omega
      | false =>
        have HPN : Hid (pdAt f.kids (j + 1) = false) := by unfold Hid; show dotsAt f.kids j = false; rw [dotsAt_eq hlt, hdg]
        by_cases hl2 : j + 1 < f.kids.length
        · obtain ⟨s2, t2, k2, l2, d0, d1, d2, d3, d4, hin2⟩ := HR3.out.at' (j + 1) hl2
          have hn1 : (j : Int) + 1 < (f.kids.length : Int) := by omega
          have hn0 : (0 : Int) ≤ (j : Int) + 1 := by omega
          have hnd : decide ((j : Int) + 1 < (f.kids.length : Int)) = true := decide_eq_true hn1
          have HDA := Lib.hid (dotsAt_eq hl2)
          clear hin2
          go_wp2_with fail
          refine (l4Dots_any f.kids[j + 1] s2 t2 k2 l2 w3).mono ?_
          rintro e w4 ⟨rfl, hb4⟩
          have hs4 := hb4.size
          have HF4 := Lib.hid (HF3.out.later hb4)
          have HB4 : Hid (Below w.heap.size w w4) := HB3.out.trans (hb4.mono (by omega))
          have HIN4 := Lib.hid (InV.later (same_below (hb4.mono (by omega : B ≤ w3.heap.size))) _ _ HIN3.out)
          have c0 := cell_later' hb4 c0
          have c1 := cell_later' hb4 c1
          have c2 := cell_later' hb4 c2
          have c3 := cell_later' hb4 c3
          have c4 := cell_later' hb4 c4
          clear hb4 d0 d1 d2 d3 d4 x0 x1 x2 x3 x4
          obtain ⟨x0, x1, x2, x3, x4⟩ := HF4.out
          cases hdn : dotsB f.kids[j + 1] with
          | true =>
            have HT2 : Hid (((rowsF f.kids[j] l && tmplB f.kids[j] (lessH l)) && tmplAll (f.kids.drop (j + 1)) false l) = tmplAll f.kids true l) := by unfold Hid; rw [← HRL.out, HTA.out, hdg, HDA.out, hdn]; rfl
            go_wp2_with fail
            refine upto_begin (fun W => FormBox W w.heap.size f fs ft (some ⟨b, off, none⟩) fc ∧ W.cell? ⟨b, off + j * 5, none⟩ = some (.int .i64 f.kids[j].kind) ∧ W.cell? ⟨b, off + j * 5 + 1, none⟩ = some (.string f.kids[j].name) ∧ W.cell? ⟨b, off + j * 5 + 2, none⟩ = some (.int .i64 f.kids[j].n) ∧ W.cell? ⟨b, off + j * 5 + 3, none⟩ = some (.slice s1 f.kids[j].scopes.length t1) ∧ W.cell? ⟨b, off + j * 5 + 4, none⟩ = some (.slice k1 f.kids[j].kids.length l1)) 19 (by kernel_rfl) ?_
            obtain ⟨u, hu⟩ : ∃ u, u = w4.drew := ⟨_, rfl⟩
            rw [← hu]
            have hb : Below w4.heap.size w4 u := by rw [hu]; exact (Below.refl _ _).drew
            have hsu := hb.size
            have HBU : Hid (Below w.heap.size w u) := HB4.out.trans (hb.mono (by omega))
            have HFU := Lib.hid (HF4.out.later hb)
            have HINU := Lib.hid (InV.later (same_below (hb.mono (by omega : B ≤ w4.heap.size))) _ _ HIN4.out)
            have hS : (fun W => FormBox W w.heap.size f fs ft (some ⟨b, off, none⟩) fc ∧ W.cell? ⟨b, off + j * 5, none⟩ = some (.int .i64 f.kids[j].kind) ∧ W.cell? ⟨b, off + j * 5 + 1, none⟩ = some (.string f.kids[j].name) ∧ W.cell? ⟨b, off + j * 5 + 2, none⟩ = some (.int .i64 f.kids[j].n) ∧ W.cell? ⟨b, off + j * 5 + 3, none⟩ = some (.slice s1 f.kids[j].scopes.length t1) ∧ W.cell? ⟨b, off + j * 5 + 4, none⟩ = some (.slice k1 f.kids[j].kids.length l1)) u := ⟨HFU.out, cell_later' hb c0, cell_later' hb c1, cell_later' hb c2, cell_later' hb c3, cell_later' hb c4⟩
            clear hb hu c0 c1 c2 c3 c4 x0 x1 x2 x3 x4
            refine upto_take (i := 0) (d := some 53) (v := ?_) rfl rfl (by kernel_rfl) (by kernel_rfl) (by kernel_rfl) (by kernel_rfl) (fun _ _ _ h => h) (Or.inl ⟨by rfl, ?_⟩) hS ?_
            rotate_left
            · (intro wS hSw; obtain ⟨⟨_, _, _, _, _⟩, _, _, _, _, _⟩ := hSw; go_simp; try with_reducible rfl)
            try simp only [Act.put, List.setIfInBounds_toArray, List.set_cons_zero, List.set_cons_succ]
            refine upto_take (i := 1) (d := some 54) (v := ?_) rfl rfl (by kernel_rfl) (by kernel_rfl) (by kernel_rfl) (by kernel_rfl) (fun _ _ _ h => h) (Or.inl ⟨by rfl, ?_⟩) hS ?_
            rotate_left
            · (intro wS hSw; obtain ⟨⟨_, _, _, _, _⟩, _, _, _, _, _⟩ := hSw; go_simp; try with_reducible rfl)
            try simp only [Act.put, List.setIfInBounds_toArray, List.set_cons_zero, List.set_cons_succ]
            refine upto_take (i := 2) (d := some 55) (v := ?_) rfl rfl (by kernel_rfl) (by kernel_rfl) (by kernel_rfl) (by kernel_rfl) (fun _ _ _ h => h) (Or.inl ⟨by rfl, ?_⟩) hS ?_
            rotate_left
            · (intro wS hSw; obtain ⟨⟨_, _, _, _, _⟩, _, _, _, _, _⟩ := hSw; go_simp; try with_reducible rfl)
            try simp only [Act.put, List.setIfInBounds_toArray, List.set_cons_zero, List.set_cons_succ]
            refine upto_take (i := 3) (d := some 56) (v := ?_) rfl rfl (by kernel_rfl) (by kernel_rfl) (by kernel_rfl) (by kernel_rfl) (fun _ _ _ h => h) (Or.inl ⟨by rfl, ?_⟩) hS ?_
            rotate_left
            · (intro wS hSw; obtain ⟨⟨_, _, _, _, _⟩, _, _, _, _, _⟩ := hSw; go_simp; try with_reducible rfl)
            try simp only [Act.put, List.setIfInBounds_toArray, List.set_cons_zero, List.set_cons_succ]
            refine upto_take (i := 4) (d := some 57) (v := ?_) rfl rfl (by kernel_rfl) (by kernel_rfl) (by kernel_rfl) (by kernel_rfl) (fun _ _ _ h => h) (Or.inl ⟨by rfl, ?_⟩) hS ?_
            rotate_left
            · (intro wS hSw; obtain ⟨⟨_, _, _, _, _⟩, _, _, _, _, _⟩ := hSw; go_simp; try with_reducible rfl)
            try simp only [Act.put, List.setIfInBounds_toArray, List.set_cons_zero, List.set_cons_succ]
            refine upto_take (i := 5) (d := some 58) (v := ?_) rfl rfl (by kernel_rfl) (by kernel_rfl) (by kernel_rfl) (by kernel_rfl) (fun _ _ _ h => h) (Or.inl ⟨by rfl, ?_⟩) hS ?_
            rotate_left
            · (intro wS hSw; obtain ⟨⟨_, _, _, _, _⟩, _, _, _, _, _⟩ := hSw; go_simp; try with_reducible rfl)
            try simp only [Act.put, List.setIfInBounds_toArray, List.set_cons_zero, List.set_cons_succ]
            refine upto_one (i := 6) (by kernel_rfl) rfl (fun K hK => ?_)
            go_simp
            refine (l5Rows_any l f.kids[j] B a cap _ u (by omega) (HL.out.later (same_below (HBU.out.mono hB))) HINU.out).mono ?_
            rintro e w5 ⟨rfl, hb5⟩
            have hs5 := hb5.size
            have HB5 : Hid (Below w.heap.size w w5) := HBU.out.trans (hb5.mono (by omega))
            have HF5 := Lib.hid (HFU.out.later hb5)
            have HIN5 := Lib.hid (InV.later (same_below (hb5.mono (by omega : B ≤ u.heap.size))) _ _ HINU.out)
            have hS : (fun W => FormBox W w.heap.size f fs ft (some ⟨b, off, none⟩) fc ∧ W.cell? ⟨b, off + j * 5, none⟩ = some (.int .i64 f.kids[j].kind) ∧ W.cell? ⟨b, off + j * 5 + 1, none⟩ = some (.string f.kids[j].name) ∧ W.cell? ⟨b, off + j * 5 + 2, none⟩ = some (.int .i64 f.kids[j].n) ∧ W.cell? ⟨b, off + j * 5 + 3, none⟩ = some (.slice s1 f.kids[j].scopes.length t1) ∧ W.cell? ⟨b, off + j * 5 + 4, none⟩ = some (.slice k1 f.kids[j].kids.length l1)) w5 := by obtain ⟨y, z0, z1, z2, z3, z4⟩ := hS; exact ⟨y.later hb5, cell_later' hb5 z0, cell_later' hb5 z1, cell_later' hb5 z2, cell_later' hb5 z3, cell_later' hb5 z4⟩
            refine hK.out _ _ (.inr hS) ?_
            clear hK K hb5
            cases hrw : rowsF f.kids[j] l with
            | false =>
              have HE : Hid (tmplB f l = false) := by unfold Hid; rw [HTF.out, ← HT2.out, hrw]; rfl
              refine upto_one (i := 7) (by kernel_rfl) rfl (fun K hK => ?_)
              go_simp
              refine hK.out _ _ (.inr hS) ?_
              clear hK K
              refine upto_one (i := 8) (by kernel_rfl) rfl (fun K hK => ?_)
              go_simp
              refine hK.out _ _ (.inr hS) ?_
              clear hK K
              refine upto_take (i := 9) (d := some 62) (v := undef) rfl rfl (by kernel_rfl) (by kernel_rfl) (by kernel_rfl) (by kernel_rfl) (fun _ _ _ h => h) (Or.inr ⟨by rfl, rfl⟩) hS ?_
              try simp only [Act.put, List.setIfInBounds_toArray, List.set_cons_zero, List.set_cons_succ]
              refine upto_take (i := 10) (d := some 63) (v := undef) rfl rfl (by kernel_rfl) (by kernel_rfl) (by kernel_rfl) (by kernel_rfl) (fun _ _ _ h => h) (Or.inr ⟨by rfl, rfl⟩) hS ?_
              try simp only [Act.put, List.setIfInBounds_toArray, List.set_cons_zero, List.set_cons_succ]
              refine upto_take (i := 11) (d := some 64) (v := undef) rfl rfl (by kernel_rfl) (by kernel_rfl) (by kernel_rfl) (by kernel_rfl) (fun _ _ _ h => h) (Or.inr ⟨by rfl, rfl⟩) hS ?_
              try simp only [Act.put, List.setIfInBounds_toArray, List.set_cons_zero, List.set_cons_succ]
              refine upto_take (i := 12) (d := some 65) (v := undef) rfl rfl (by kernel_rfl) (by kernel_rfl) (by kernel_rfl) (by kernel_rfl) (fun _ _ _ h => h) (Or.inr ⟨by rfl, rfl⟩) hS ?_
              try simp only [Act.put, List.setIfInBounds_toArray, List.set_cons_zero, List.set_cons_succ]
              refine upto_take (i := 13) (d := some 66) (v := undef) rfl rfl (by kernel_rfl) (by kernel_rfl) (by kernel_rfl) (by kernel_rfl) (fun _ _ _ h => h) (Or.inr ⟨by rfl, rfl⟩) hS ?_
              try simp only [Act.put, List.setIfInBounds_toArray, List.set_cons_zero, List.set_cons_succ]
              refine upto_take (i := 14) (d := some 67) (v := undef) rfl rfl (by kernel_rfl) (by kernel_rfl) (by kernel_rfl) (by kernel_rfl) (fun _ _ _ h => h) (Or.inr ⟨by rfl, rfl⟩) hS ?_
              try simp only [Act.put, List.setIfInBounds_toArray, List.set_cons_zero, List.set_cons_succ]
              refine upto_take (i := 15) (d := some 68) (v := undef) rfl rfl (by kernel_rfl) (by kernel_rfl) (by kernel_rfl) (by kernel_rfl) (fun _ _ _ h => h) (Or.inr ⟨by rfl, rfl⟩) hS ?_
              try simp only [Act.put, List.setIfInBounds_toArray, List.set_cons_zero, List.set_cons_succ]
              refine upto_take (i := 16) (d := some 69) (v := undef) rfl rfl (by kernel_rfl) (by kernel_rfl) (by kernel_rfl) (by kernel_rfl) (fun _ _ _ h => h) (Or.inr ⟨by rfl, rfl⟩) hS ?_
              try simp only [Act.put, List.setIfInBounds_toArray, List.set_cons_zero, List.set_cons_succ]
              refine upto_take (i := 17) (d := some 70) (v := undef) rfl rfl (by kernel_rfl) (by kernel_rfl) (by kernel_rfl) (by kernel_rfl) (fun _ _ _ h => h) (Or.inr ⟨by rfl, rfl⟩) hS ?_
              try simp only [Act.put, List.setIfInBounds_toArray, List.set_cons_zero, List.set_cons_succ]
              refine upto_one (i := 18) (by kernel_rfl) rfl (fun K hK => ?_)
              go_simp
              refine hK.out _ _ (.inr hS) ?_
              clear hK K
              refine upto_done (by kernel_rfl) ?_ _
              clear hS
              go_wp2_with fail
              go_ret
              exact ⟨ret_bool HE.out.symm, HB5.out⟩
            | true =>
              refine upto_one (i := 7) (by kernel_rfl) rfl (fun K hK => ?_)
              go_simp
              refine hK.out _ _ (.inr hS) ?_
              clear hK K
              refine upto_one (i := 8) (by kernel_rfl) rfl (fun K hK => ?_)
              go_simp
              refine hK.out _ _ (.inr hS) ?_
              clear hK K
              refine upto_take (i := 9) (d := some 62) (v := ?_) rfl rfl (by kernel_rfl) (by kernel_rfl) (by kernel_rfl) (by kernel_rfl) (fun _ _ _ h => h) (Or.inl ⟨by rfl, ?_⟩) hS ?_
              rotate_left
              · (intro wS hSw; obtain ⟨⟨_, _, _, _, _⟩, _, _, _, _, _⟩ := hSw; go_simp; try with_reducible rfl)
              try simp only [Act.put, List.setIfInBounds_toArray, List.set_cons_zero, List.set_cons_succ]
              refine upto_take (i := 10) (d := some 63) (v := ?_) rfl rfl (by kernel_rfl) (by kernel_rfl) (by kernel_rfl) (by kernel_rfl) (fun _ _ _ h => h) (Or.inl ⟨by rfl, ?_⟩) hS ?_
              rotate_left
              · (intro wS hSw; obtain ⟨⟨_, _, _, _, _⟩, _, _, _, _, _⟩ := hSw; go_simp; try with_reducible rfl)
              try simp only [Act.put, List.setIfInBounds_toArray, List.set_cons_zero, List.set_cons_succ]
              refine upto_take (i := 11) (d := some 64) (v := ?_) rfl rfl (by kernel_rfl) (by kernel_rfl) (by kernel_rfl) (by kernel_rfl) (fun _ _ _ h => h) (Or.inl ⟨by rfl, ?_⟩) hS ?_
              rotate_left
              · (intro wS hSw; obtain ⟨⟨_, _, _, _, _⟩, _, _, _, _, _⟩ := hSw; go_simp; try with_reducible rfl)
              try simp only [Act.put, List.setIfInBounds_toArray, List.set_cons_zero, List.set_cons_succ]
              refine upto_take (i := 12) (d := some 65) (v := ?_) rfl rfl (by kernel_rfl) (by kernel_rfl) (by kernel_rfl) (by kernel_rfl) (fun _ _ _ h => h) (Or.inl ⟨by rfl, ?_⟩) hS ?_
              rotate_left
              · (intro wS hSw; obtain ⟨⟨_, _, _, _, _⟩, _, _, _, _, _⟩ := hSw; go_simp; try with_reducible rfl)
              try simp only [Act.put, List.setIfInBounds_toArray, List.set_cons_zero, List.set_cons_succ]
              refine upto_take (i := 13) (d := some 66) (v := ?_) rfl rfl (by kernel_rfl) (by kernel_rfl) (by kernel_rfl) (by kernel_rfl) (fun _ _ _ h => h) (Or.inl ⟨by rfl, ?_⟩) hS ?_
              rotate_left
              · (intro wS hSw; obtain ⟨⟨_, _, _, _, _⟩, _, _, _, _, _⟩ := hSw; go_simp; try with_reducible rfl)
              try simp only [Act.put, List.setIfInBounds_toArray, List.set_cons_zero, List.set_cons_succ]
              refine upto_take (i := 14) (d := some 67) (v := ?_) rfl rfl (by kernel_rfl) (by kernel_rfl) (by kernel_rfl) (by kernel_rfl) (fun _ _ _ h => h) (Or.inl ⟨by rfl, ?_⟩) hS ?_
              rotate_left
              · (intro wS hSw; obtain ⟨⟨_, _, _, _, _⟩, _, _, _, _, _⟩ := hSw; go_simp; try with_reducible rfl)
              try simp only [Act.put, List.setIfInBounds_toArray, List.set_cons_zero, List.set_cons_succ]
              refine upto_one (i := 15) (by kernel_rfl) rfl (fun K hK => ?_)
              go_simp
              refine (l5Less_any B l a cap w5 (by omega) (HL.out.later (same_below (HB5.out.mono hB))) hlen).mono ?_
              rintro e w6 ⟨la, lc, rfl, hlh, hb6⟩
              have hs6 := hb6.size
              have HLH := Lib.hid hlh
              have HB6 : Hid (Below w.heap.size w w6) := HB5.out.trans (hb6.mono (by omega))
              have HF6 := Lib.hid (HF5.out.later hb6)
              have HIN6 := Lib.hid (InV.later (same_below (hb6.mono (by omega : B ≤ w5.heap.size))) _ _ HIN5.out)
              have hS : (fun W => FormBox W w.heap.size f fs ft (some ⟨b, off, none⟩) fc ∧ W.cell? ⟨b, off + j * 5, none⟩ = some (.int .i64 f.kids[j].kind) ∧ W.cell? ⟨b, off + j * 5 + 1, none⟩ = some (.string f.kids[j].name) ∧ W.cell? ⟨b, off + j * 5 + 2, none⟩ = some (.int .i64 f.kids[j].n) ∧ W.cell? ⟨b, off + j * 5 + 3, none⟩ = some (.slice s1 f.kids[j].scopes.length t1) ∧ W.cell? ⟨b, off + j * 5 + 4, none⟩ = some (.slice k1 f.kids[j].kids.length l1)) w6 := by obtain ⟨y, z0, z1, z2, z3, z4⟩ := hS; exact ⟨y.later hb6, cell_later' hb6 z0, cell_later' hb6 z1, cell_later' hb6 z2, cell_later' hb6 z3, cell_later' hb6 z4⟩
              refine hK.out _ _ (.inr hS) ?_
              clear hK K hb6 hlh
              refine upto_one (i := 16) (by kernel_rfl) rfl (fun K hK => ?_)
              go_simp
              refine (HIH.out f.kids[j] (List.getElem_mem hlt) (lessH l) w6.heap.size la lc _ w6 (Nat.le_refl _) HLH.out (InV.mono (fun k (hk : k < B) => by show k < w6.heap.size; omega) _ _ HIN6.out) (by unfold lessH; rw [List.length_map]; exact hlen)).mono ?_
              rintro e w7 ⟨rfl, hb7⟩
              have hs7 := hb7.size
              have HB7 : Hid (Below w.heap.size w w7) := HB6.out.trans (hb7.mono (by omega))
              have HF7 := Lib.hid (HF6.out.later hb7)
              have hS : (fun W => FormBox W w.heap.size f fs ft (some ⟨b, off, none⟩) fc ∧ W.cell? ⟨b, off + j * 5, none⟩ = some (.int .i64 f.kids[j].kind) ∧ W.cell? ⟨b, off + j * 5 + 1, none⟩ = some (.string f.kids[j].name) ∧ W.cell? ⟨b, off + j * 5 + 2, none⟩ = some (.int .i64 f.kids[j].n) ∧ W.cell? ⟨b, off + j * 5 + 3, none⟩ = some (.slice s1 f.kids[j].scopes.length t1) ∧ W.cell? ⟨b, off + j * 5 + 4, none⟩ = some (.slice k1 f.kids[j].kids.length l1)) w7 := by obtain ⟨y, z0, z1, z2, z3, z4⟩ := hS; exact ⟨y.later hb7, cell_later' hb7 z0, cell_later' hb7 z1, cell_later' hb7 z2, cell_later' hb7 z3, cell_later' hb7 z4⟩
              refine hK.out _ _ (.inr hS) ?_
              clear hK K hb7
              cases ht : tmplB f.kids[j] (lessH l) with
              | false =>
                have HE : Hid (tmplB f l = false) := by unfold Hid; rw [HTF.out, ← HT2.out, hrw, ht]; rfl
                refine upto_one (i := 17) (by kernel_rfl) rfl (fun K hK => ?_)
                go_simp
                refine hK.out _ _ (.inr hS) ?_
                clear hK K
                refine upto_one (i := 18) (by kernel_rfl) rfl (fun K hK => ?_)
                go_simp
                refine hK.out _ _ (.inr hS) ?_
                clear hK K
                refine upto_done (by kernel_rfl) ?_ _
                clear hS
                go_wp2_with fail
                go_ret
                exact ⟨ret_bool HE.out.symm, HB7.out⟩
              | true =>
                have HN : Hid (tmplAll (f.kids.drop (j + 1)) (pdAt f.kids (j + 1)) l = tmplAll f.kids true l) := by unfold Hid; rw [HPN.out, ← HT2.out, hrw, ht]; rfl
                refine upto_one (i := 17) (by kernel_rfl) rfl (fun K hK => ?_)
                go_simp
                refine hK.out _ _ (.inr hS) ?_
                clear hK K
                refine upto_one (i := 18) (by kernel_rfl) rfl (fun K hK => ?_)
                go_simp
                refine hK.out _ _ (.inr hS) ?_
                clear hK K
                refine upto_done (by kernel_rfl) ?_ _
                clear hS
                go_wp2_with fail
                go_roundw
                case rel => exact ⟨j + 1, by omega, by go_num, HN.out, HB7.out, by omega, HF7.out⟩
                case measure => simp [intOf]; omega
          | false =>
            have HT2 : Hid ((tmplB f.kids[j] l && tmplAll (f.kids.drop (j + 1)) false l) = tmplAll f.kids true l) := by unfold Hid; rw [← HRL.out, HTA.out, hdg, HDA.out, hdn]; rfl
            go_wp2_with fail
            refine (HIH.out f.kids[j] (List.getElem_mem hlt) l B a cap _ w4 (by omega) (HL.out.later (same_below (HB4.out.mono hB))) HIN4.out hlen).mono ?_
            rintro e w6 ⟨rfl, hb6⟩
            have hs6 := hb6.size
            have HF6 := Lib.hid (HF4.out.later hb6)
            have HB6 : Hid (Below w.heap.size w w6) := HB4.out.trans (hb6.mono (by omega))
            clear hb6 c0 c1 c2 c3 c4 x0 x1 x2 x3 x4
            cases ht : tmplB f.kids[j] l with
            | false =>
              have HE : Hid (tmplB f l = false) := by unfold Hid; rw [HTF.out, ← HT2.out, ht]; rfl
              go_wp2_with fail
              go_ret
              exact ⟨ret_bool HE.out.symm, HB6.out⟩
            | true =>
              have HN : Hid (tmplAll (f.kids.drop (j + 1)) (pdAt f.kids (j + 1)) l = tmplAll f.kids true l) := by unfold Hid; rw [HPN.out, ← HT2.out, ht]; rfl
              go_wp2_with fail
              go_roundw
              case rel => exact ⟨j + 1, by omega, by go_num, HN.out, HB6.out, by omega, HF6.out⟩
              case measure => simp [intOf]; omega
        · have hn1 : ¬ ((j : Int) + 1 < (f.kids.length : Int)) := by omega
          have hnd : decide ((j : Int) + 1 < (f.kids.length : Int)) = false := decide_eq_false hn1
          have HT2 : Hid ((tmplB f.kids[j] l && tmplAll (f.kids.drop (j + 1)) false l) = tmplAll f.kids true l) := by unfold Hid; rw [← HRL.out, HTA.out, hdg, dotsAt_end (by omega)]; rfl
          go_wp2_with fail
          refine (HIH.out f.kids[j] (List.getElem_mem hlt) l B a cap _ w3 (by omega) (HL.out.later (same_below (HB3.out.mono hB))) HIN3.out hlen).mono ?_
          rintro e w6 ⟨rfl, hb6⟩
          have hs6 := hb6.size
          have HF6 := Lib.hid (HF3.out.later hb6)
          have HB6 : Hid (Below w.heap.size w w6) := HB3.out.trans (hb6.mono (by omega))
          clear hb6 c0 c1 c2 c3 c4 x0 x1 x2 x3 x4
          cases ht : tmplB f.kids[j] l with
          | false =>
            have HE : Hid (tmplB f l = false) := by unfold Hid; rw [HTF.out, ← HT2.out, ht]; rfl
            go_wp2_with fail
            go_ret
            exact ⟨ret_bool HE.out.symm, HB6.out⟩
          | true =>
            have HN : Hid (tmplAll (f.kids.drop (j + 1)) (pdAt f.kids (j + 1)) l = tmplAll f.kids true l) := by unfold Hid; rw [HPN.out, ← HT2.out, ht]; rfl
            go_wp2_with fail
            go_roundw
            case rel => exact ⟨j + 1, by omega, by go_num, HN.out, HB6.out, by omega, HF6.out⟩
            case measure => simp [intOf]; omega
    · obtain rfl : j = f.kids.length := by omega
      have HE : Hid (tmplB f l = true) := by unfold Hid; rw [HTF.out, ← HRL.out, List.drop_length]; rfl
      go_wp2_with fail
      go_ret
      exact ⟨ret_bool HE.out.symm, HB.out⟩
/-- is a form a template for hits? -/
def tmplOk (f : Fm) (l : List Ht) : Bool := formB f && (hitsValidB l && tmplB f l)
set_option maxRecDepth 100000 in
set_option maxHeartbeats 4000000 in
theorem specTemplateValid_any (f : Fm) (l : List Ht) (a : Option Addr) (cap : Nat) (v : Value) (w : World) (hl : HitsIn (· < w.heap.size) w a cap l) (hv : InV (· < w.heap.size) w f v) (hsz : szHs l ≤ 1048576) (hc : f.count ≤ 1048577) :
    Calls Try.prog 25 #[v, .slice a l.length cap] w fun e w' => e = .returned (.bool (tmplOk f l)) ∧ Below w.heap.size w w' := by
  have HL := Lib.hid hl
  have HV := Lib.hid hv
  obtain ⟨fs, ft, fa, fc, rfl⟩ := hv.form
  have hlen : l.length ≤ 1048576 := by have := szHs_length l; omega
  obtain ⟨w0, hw0⟩ : ∃ w0, w0 = w.alloc (.cells #[.int .i64 f.kind, .string f.name, .int .i64 f.n, .slice fs f.scopes.length ft, .slice fa f.kids.length fc] 33) := ⟨_, rfl⟩
  have HB0 : Hid (Below w.heap.size w w0) := by rw [hw0]; exact below_alloc w _
  have hs0 : w.heap.size < w0.heap.size := by rw [hw0]; simp
  have HF0 : Hid (FormBox w0 w.heap.size f fs ft fa fc) := by unfold Hid; rw [hw0]; exact FormBox.fresh w f fs fa ft fc _
  have HW0 := Lib.hid hw0
  clear hv hl hw0
  go_enter Try.func25, Try.ntmps25
  go_wp2_with fail
  rw [← HW0.out]
  clear HW0
  refine (specFormValid_any w.heap.size f _ w0 (by omega) (InV.later (same_below HB0.out) _ _ HV.out) (by omega)).mono ?_
  rintro e w1 ⟨rfl, hb1⟩
  have hs1 : w0.heap.size ≤ w1.heap.size := hb1.size
  have HF1 := Lib.hid (HF0.out.later hb1)
  have HB1 : Hid (Below w.heap.size w w1) := HB0.out.trans (hb1.mono (by omega))
  clear hb1
  cases hfv : formB f with
  | false =>
    have HE : Hid (tmplOk f l = false) := by unfold Hid tmplOk; rw [hfv]; rfl
    go_wp2_with fail
    go_ret
    exact ⟨ret_bool HE.out.symm, HB1.out⟩
  | true =>
  go_wp2_with fail
  refine (specHitsValid_any w.heap.size l a cap w1 (by omega) (HL.out.later (same_below HB1.out)) hsz).mono ?_
  rintro e w2 ⟨rfl, hb2⟩
  have hs2 : w1.heap.size ≤ w2.heap.size := hb2.size
  have HF2 := Lib.hid (HF1.out.later hb2)
  have HB2 : Hid (Below w.heap.size w w2) := HB1.out.trans (hb2.mono (by omega))
  clear hb2
  cases hhv : hitsValidB l with
  | false =>
    have HE : Hid (tmplOk f l = false) := by unfold Hid tmplOk; rw [hfv, hhv]; rfl
    go_wp2_with fail
    go_ret
    exact ⟨ret_bool HE.out.symm, HB2.out⟩
  | true =>
  obtain ⟨x0, x1, x2, x3, x4⟩ := HF2.out
  go_wp2_with fail
  refine (l5Is_any f l w.heap.size a cap _ w2 (by omega) (HL.out.later (same_below HB2.out)) (InV.later (same_below HB2.out) _ _ HV.out) hlen).mono ?_
  rintro e w3 ⟨rfl, hb3⟩
  have HE : Hid (tmplOk f l = tmplB f l) := by unfold Hid tmplOk; rw [hfv, hhv]; rfl
  have HB3 : Hid (Below w.heap.size w w3) := HB2.out.trans (hb3.mono (by omega))
  clear hb3 x0 x1 x2 x3 x4
  go_wp2_with fail
  go_ret
  exact ⟨ret_bool HE.out.symm, HB3.out⟩
end
end Go.Proofs.Ytnogpaflibghhaa
