/- The contract of the program's (Hit).holds. -/
import Derived.Test.YtnogpaflibghhaaSpecHit
import Derived.Test.YtnogpaflibghhaaImplSame
import Derived.Test.YtnogpaflibghhaaEndDag
namespace Go.Proofs.Ytnogpaflibghhaa
open Go.RowKit
set_option linter.unusedVariables false
set_option linter.unusedSimpArgs false
mutual
/-- a hit for this name, in so many rows -/
def holdsB : Ht → Fm → Int → Bool
  | .mk nm d one many, f, r => (decide (0 ≤ r) && (d == r && sameB nm f)) && (if r = 0 then formB one && decide (many.length = 0) else (sameB one zeroF && decide (many.length ≤ 400)) && holdsAll many f (r - 1))
def holdsAll : List Ht → Fm → Int → Bool
  | [], _, _ => true
  | x :: l, f, r => holdsB x f r && holdsAll l f r
end
theorem holdsAll_append (f : Fm) (r : Int) : ∀ (l m : List Ht), holdsAll (l ++ m) f r = (holdsAll l f r && holdsAll m f r)
  | [], m => by simp [holdsAll]
  | x :: l, m => by simp only [List.cons_append, holdsAll]; rw [holdsAll_append f r l m, Bool.and_assoc]
theorem holdsAll_take_succ (f : Fm) (r : Int) (l : List Ht) (j : Nat) (h : j < l.length) : holdsAll (l.take (j + 1)) f r = (holdsAll (l.take j) f r && holdsB l[j] f r) := by
  rw [List.take_succ_eq_append_getElem h, holdsAll_append]
  simp [holdsAll]
theorem holdsAll_no {f : Fm} {r : Int} {l : List Ht} (j : Nat) (h : holdsAll (l.take j) f r = false) : holdsAll l f r = false := by
  have := holdsAll_append f r (l.take j) (l.drop j)
  rw [List.take_append_drop, h] at this
  simpa using this
theorem InH.pl {x : Ht} {v : Value} {w w' : World} (hb : Below w.heap.size w w') (h : InH (Pl w.heap.size w) w x v) : InH (Pl w'.heap.size w') w' x v :=
  InH.mono (fun k hk => ⟨Nat.lt_of_lt_of_le hk.1 hb.size, hk.2.same (hb.block _ hk.1)⟩) _ _ (InH.later (fun k hk => hb.block _ hk.1) _ _ h)
theorem InV.lift {f : Fm} {v : Value} {w w' : World} (hb : Below w.heap.size w w') (h : InV (· < w.heap.size) w f v) : InV (· < w'.heap.size) w' f v :=
  InV.mono (fun k hk => Nat.lt_of_lt_of_le hk hb.size) _ _ (InV.later (same_below hb) _ _ h)
def HoldSaid (h : Ht) : Prop := ∀ (f : Fm) (r : Int) (v u : Value) (w : World), InH (Pl w.heap.size w) w h v → InV (· < w.heap.size) w f u → h.sz ≤ 1048576 → (-9223372036854775808 ≤ r ∧ r ≤ 9223372036854775807) →
    Calls Try.prog 152 #[v, u, .int .i64 r] w fun e w' => e = .returned (.bool (holdsB h f r)) ∧ Below w.heap.size w w'
set_option maxRecDepth 100000 in
set_option maxHeartbeats 16000000 in
theorem hitHolds_any (h : Ht) : HoldSaid h := by
  induction h using Ht.ind with
  | h nm d one many ih =>
    intro f r v u w hv hu hsz hrb
    have hsz1 : nm.sz + one.sz + szHs many ≤ 1048576 := by have := hsz; unfold Ht.sz at this; exact this
    obtain ⟨sa, scap, fa, fcap, rfl⟩ := hu.form
    unfold InH at hv
    obtain ⟨s1, t1, k1, l1, s2, t2, k2, l2, a, cap, rfl, hd, hn, ho, hks⟩ := hv
    have HN := Lib.hid hn
    have HO := Lib.hid ho
    have HU := Lib.hid hu
    have HK : Hid (HitsIn (Pl w.heap.size w) w a cap many) := hks
    have HIH := Lib.hid ih
    have hcn := nm.count_le
    have hco := one.count_le
    clear hn ho hks ih hsz hu
    have hE : ∀ b : Bool, b = holdsB (.mk nm d one many) f r → Ending.returned (.bool b) = Ending.returned (.bool (holdsB (.mk nm d one many) f r)) := fun b h => by rw [h]
    have HE := Lib.hid hE
    clear hE
    obtain ⟨W, hW⟩ : ∃ W, W = (w.alloc (.cells #[.int .i64 nm.kind, .string nm.name, .int .i64 nm.n, .slice s1 nm.scopes.length t1, .slice k1 nm.kids.length l1, .int .i64 d, .int .i64 one.kind, .string one.name, .int .i64 one.n, .slice s2 one.scopes.length t2, .slice k2 one.kids.length l2, .slice a many.length cap] 60)).alloc (.cells #[.int .i64 f.kind, .string f.name, .int .i64 f.n, .slice sa f.scopes.length scap, .slice fa f.kids.length fcap] 33) := ⟨_, rfl⟩
    have hbW : Below w.heap.size w W := by rw [hW]; exact (below_alloc w _).alloc (by simp) _
    have hsW : W.heap.size = w.heap.size + 2 := by rw [hW]; simp
    have HX : Hid (HitBox W w.heap.size nm d one many s1 t1 k1 l1 s2 t2 k2 l2 a cap) := by unfold Hid; rw [hW]; exact (HitBox.fresh w nm d one many s1 t1 k1 l1 s2 t2 k2 l2 a cap 60).later (below_alloc _ _)
    have HY : Hid (FormBox W (w.heap.size + 1) f sa scap fa fcap) := by
      unfold Hid; rw [hW]
      have := FormBox.fresh (w.alloc (.cells #[.int .i64 nm.kind, .string nm.name, .int .i64 nm.n, .slice s1 nm.scopes.length t1, .slice k1 nm.kids.length l1, .int .i64 d, .int .i64 one.kind, .string one.name, .int .i64 one.n, .slice s2 one.scopes.length t2, .slice k2 one.kids.length l2, .slice a many.length cap] 60)) f sa fa scap fcap 33
      rw [size_alloc'] at this
      exact this
    have HB0 := Lib.hid hbW
    have HW := Lib.hid hW
    obtain ⟨x0, x1, x2, x3, x4, x5, x6, x7, x8, x9, x10, x11⟩ := HX.out
    obtain ⟨y0, y1, y2, y3, y4⟩ := HY.out
    clear hW hbW
    by_cases h1 : r < 0
    · have HF : Hid (false = holdsB (.mk nm d one many) f r) := by unfold Hid holdsB; rw [decide_eq_false (by omega : ¬ 0 ≤ r)]; rfl
      have q1 : decide (r < 0) = true := decide_eq_true h1
      go_enter Try.func152, Try.ntmps152
      go_wp2_with fail
      rw [← HW.out]
      go_wp2_with fail
      go_ret
      exact ⟨HE.out _ HF.out, HB0.out⟩
    have q1 : decide (r < 0) = false := decide_eq_false h1
    by_cases h2 : d = r
    rotate_left
    · have HF : Hid (false = holdsB (.mk nm d one many) f r) := by unfold Hid holdsB; rw [beq_eq_false_iff_ne.2 h2]; simp
      have q2 : (d != r) = true := by rw [bne_iff_ne]; exact h2
      clear h2
      go_enter Try.func152, Try.ntmps152
      go_wp2_with fail
      rw [← HW.out]
      go_wp2_with fail
      go_ret
      exact ⟨HE.out _ HF.out, HB0.out⟩
    subst h2
    have q2 : (d != d) = false := by simp
    go_enter Try.func152, Try.ntmps152
    go_wp2_with fail
    rw [← HW.out]
    go_wp2_with fail
    clear HW
    refine (implSame_any W.heap.size nm f _ _ W (Nat.le_refl _) (InV.mono (fun k hk => by have h3 := hk.1; show k < W.heap.size; exact h3) _ _ (InV.pl HB0.out HN.out)) (InV.lift HB0.out HU.out) (by omega) (endlessAt_in (InV.pl HB0.out HN.out) (by omega))).mono ?_
    rintro e w1 ⟨rfl, hb⟩
    have hs1 : W.heap.size ≤ w1.heap.size := hb.size
    have HX1 := Lib.hid (HX.out.later hb)
    have HY1 := Lib.hid (HY.out.later hb)
    have HB1 : Hid (Below w.heap.size w w1) := HB0.out.trans (hb.mono (by omega))
    clear hb x0 x1 x2 x3 x4 x5 x6 x7 x8 x9 x10 x11 y0 y1 y2 y3 y4 HX HY
    cases h4 : sameB nm f with
    | false =>
      have HF : Hid (false = holdsB (.mk nm d one many) f d) := by unfold Hid holdsB; rw [h4]; simp
      clear h4
      go_wp2_with fail
      go_ret
      exact ⟨HE.out _ HF.out, HB1.out⟩
    | true =>
    have HD : Hid (holdsB (.mk nm d one many) f d = (if d = 0 then formB one && decide (many.length = 0) else (sameB one zeroF && decide (many.length ≤ 400)) && holdsAll many f (d - 1))) := by
      unfold Hid
      rw [holdsB, h4, decide_eq_true (by omega : 0 ≤ d)]
      simp
    clear h4
    obtain ⟨x0, x1, x2, x3, x4, x5, x6, x7, x8, x9, x10, x11⟩ := HX1.out
    by_cases h7 : d = 0
    · have q7 : (d == 0) = true := by rw [h7]; rfl
      rw [if_pos h7] at HD
      clear h7
      go_wp2_with fail
      refine (implFormValid_any w1.heap.size one _ w1 (Nat.le_refl _) (InV.mono (fun k hk => hk.1) _ _ (InV.pl HB1.out HO.out))).mono ?_
      rintro e w2 ⟨rfl, hb2⟩
      have z11 := cell_later' hb2 x11
      have HB2 : Hid (Below w.heap.size w w2) := HB1.out.trans (hb2.mono (by omega))
      clear hb2 x0 x1 x2 x3 x4 x5 x6 x7 x8 x9 x10 x11
      cases h8 : formB one with
      | false =>
        have HF : Hid (false = holdsB (.mk nm d one many) f d) := by unfold Hid; rw [HD.out, h8]; rfl
        go_wp2_with fail
        go_ret
        exact ⟨HE.out _ HF.out, HB2.out⟩
      | true =>
        by_cases h9 : many.length = 0
        · have q9 : ((many.length : Int) == 0) = true := by rw [h9]; rfl
          have HF : Hid (true = holdsB (.mk nm d one many) f d) := by unfold Hid; rw [HD.out, h8, decide_eq_true h9]; rfl
          clear h9
          go_wp2_with fail
          go_ret
          exact ⟨HE.out _ HF.out, HB2.out⟩
        · have q9 : ((many.length : Int) == 0) = false := by rw [beq_eq_false_iff_ne]; omega
          have HF : Hid (false = holdsB (.mk nm d one many) f d) := by unfold Hid; rw [HD.out, h8, decide_eq_false h9]; rfl
          clear h9
          go_wp2_with fail
          go_ret
          exact ⟨HE.out _ HF.out, HB2.out⟩
    · have q7 : (d == 0) = false := by rw [beq_eq_false_iff_ne]; exact h7
      rw [if_neg h7] at HD
      have hd1 : 1 ≤ d := by omega
      have hwr : IntKind.i64.wrap (d - 1) = d - 1 := by rw [IntKind.wrap_i64]; omega
      clear h7
      go_wp2_with fail
      refine (implSame_any w1.heap.size one zeroF _ _ w1 (Nat.le_refl _) (InV.mono (fun k hk => hk.1) _ _ (InV.pl HB1.out HO.out)) (inV_zeroF _ _) (by omega) (endlessAt_in (InV.pl HB1.out HO.out) (by omega))).mono ?_
      rintro e w2 ⟨rfl, hb2⟩
      have hs2 := hb2.size
      have z11 := cell_later' hb2 x11
      have HY2 := Lib.hid (HY1.out.later hb2)
      have HB2 : Hid (Below w.heap.size w w2) := HB1.out.trans (hb2.mono (by omega))
      clear hb2 x0 x1 x2 x3 x4 x5 x6 x7 x8 x9 x10 x11 HX1 HY1
      cases h8 : sameB one zeroF with
      | false =>
        have HF : Hid (false = holdsB (.mk nm d one many) f d) := by unfold Hid; rw [HD.out, h8]; rfl
        go_wp2_with fail
        go_ret
        exact ⟨HE.out _ HF.out, HB2.out⟩
      | true =>
        by_cases h9 : 400 < many.length
        · have q9 : decide ((many.length : Int) > 400) = true := decide_eq_true (by omega)
          have HF : Hid (false = holdsB (.mk nm d one many) f d) := by unfold Hid; rw [HD.out, decide_eq_false (by omega : ¬ many.length ≤ 400)]; simp
          clear h9
          go_wp2_with fail
          go_ret
          exact ⟨HE.out _ HF.out, HB2.out⟩
        have q9 : decide ((many.length : Int) > 400) = false := decide_eq_false (by omega)
        have HD2 : Hid (holdsB (.mk nm d one many) f d = holdsAll many f (d - 1)) := by unfold Hid; rw [HD.out, h8, decide_eq_true (by omega : many.length ≤ 400)]; simp
        clear h8
        have hw2 : w.heap.size + 2 ≤ w2.heap.size := by omega
        go_wp2_with fail
        go_loopw [49, 8] (fun i p wr => ∃ j : Nat, j ≤ many.length ∧ i = .int .i64 j ∧ holdsAll (many.take j) f (d - 1) = true ∧ FormBox wr (w.heap.size + 1) f sa scap fa fcap ∧ Below w.heap.size w wr ∧ w.heap.size + 2 ≤ wr.heap.size) (fun i _ _ => many.length - (intOf i).toNat)
        case atStart => exact ⟨0, Nat.zero_le _, rfl, by simp [holdsAll], HY2.out, HB2.out, hw2⟩
        case round =>
          obtain ⟨j, hj, rfl, hr, hy, hb, hsr⟩ := hrel
          have HR := Lib.hid hr
          have HB := Lib.hid hb
          have HY := Lib.hid hy
          clear hr hb hy
          by_cases hlt : j < many.length
          · rcases HK.out.2.2 with h0 | ⟨kb, off, rfl, hkb, hrow⟩
            · exfalso; rw [h0] at hlt; simp at hlt
            obtain ⟨p1, p2, p3, p4, p5, p6, p7, p8, pa, pc, x0, x1, x2, x3, x4, x5, x6, x7, x8, x9, x10, x11, hin⟩ := hrow.at' j hlt
            have hcx : ∀ i, wr.cell? ⟨kb, i, none⟩ = w.cell? ⟨kb, i, none⟩ := fun i => HB.out.cell (p := ⟨kb, i, none⟩) hkb.1
            have x0 := (hcx _).trans x0
            have x1 := (hcx _).trans x1
            have x2 := (hcx _).trans x2
            have x3 := (hcx _).trans x3
            have x4 := (hcx _).trans x4
            have x5 := (hcx _).trans x5
            have x6 := (hcx _).trans x6
            have x7 := (hcx _).trans x7
            have x8 := (hcx _).trans x8
            have x9 := (hcx _).trans x9
            have x10 := (hcx _).trans x10
            have x11 := (hcx _).trans x11
            have HIN := Lib.hid hin
            have HIHJ := Lib.hid (HIH.out many[j] (List.getElem_mem hlt))
            have HTS := Lib.hid (holdsAll_take_succ f (d - 1) many j hlt)
            have hszj : many[j].sz ≤ 1048576 := by
              have g1 := szHin_take_succ many j hlt
              have g2 := szHin_take_le many (j + 1)
              have g3 := szHs_length many
              have g4 : szHs many = many.length + szHin many := by unfold szHin; omega
              omega
            obtain ⟨y0, y1, y2, y3, y4⟩ := HY.out
            have hlt2 : w.heap.size + 1 < wr.heap.size := by omega
            have hcap := HK.out.1
            clear hin hrow hcx
            obtain ⟨V, hV⟩ : ∃ V, V = wr.alloc (.cells #[.int .i64 many[j].name.kind, .string many[j].name.name, .int .i64 many[j].name.n, .slice p1 many[j].name.scopes.length p2, .slice p3 many[j].name.kids.length p4, .int .i64 many[j].depth, .int .i64 many[j].one.kind, .string many[j].one.name, .int .i64 many[j].one.n, .slice p5 many[j].one.scopes.length p6, .slice p7 many[j].one.kids.length p8, .slice pa many[j].many.length pc] 60) := ⟨_, rfl⟩
            have hbV : Below wr.heap.size wr V := by rw [hV]; exact below_alloc wr _
            have hsV : wr.heap.size + 1 ≤ V.heap.size := by rw [hV]; simp
            have HBV : Hid (Below w.heap.size w V) := HB.out.trans (hbV.mono (by omega))
            have HYV := Lib.hid (HY.out.later hbV)
            have HV := Lib.hid hV
            clear hV hbV
            go_wp2_with fail
            rw [← HV.out]
            clear HV
            refine (HIHJ.out f (d - 1) _ _ V (InH.pl HBV.out HIN.out) (InV.lift HBV.out HU.out) hszj (by omega)).mono ?_
            rintro e w4 ⟨rfl, hb4⟩
            have hs4 := hb4.size
            have HB4 : Hid (Below w.heap.size w w4) := HBV.out.trans (hb4.mono (by omega))
            have HY4 := Lib.hid (HYV.out.later hb4)
            clear hb4 x0 x1 x2 x3 x4 x5 x6 x7 x8 x9 x10 x11 y0 y1 y2 y3 y4
            cases h10 : holdsB many[j] f (d - 1) with
            | false =>
              have HF : Hid (false = holdsB (.mk nm d one many) f d) := by unfold Hid; rw [HD2.out]; exact (holdsAll_no (j + 1) (by rw [HTS.out, HR.out, h10]; rfl)).symm
              go_wp2_with fail
              go_ret
              exact ⟨HE.out _ HF.out, HB4.out⟩
            | true =>
              have HF : Hid (holdsAll (many.take (j + 1)) f (d - 1) = true) := by unfold Hid; rw [HTS.out, HR.out, h10]; rfl
              go_wp2_with fail
              go_roundw
              case rel => exact ⟨j + 1, by omega, by go_num, HF.out, HY4.out, HB4.out, by omega⟩
              case measure => simp [intOf]; omega
          · obtain rfl : j = many.length := by omega
            have HF : Hid (true = holdsB (.mk nm d one many) f d) := by unfold Hid; rw [HD2.out]; have := HR.out; rw [List.take_length] at this; exact this.symm
            go_wp2_with fail
            go_ret
            exact ⟨HE.out _ HF.out, HB.out⟩
end Go.Proofs.Ytnogpaflibghhaa
