/- For every input a form that is dressed like a name has all of the name's scopes, and is the form to which these are added one by one; the program and the model agree: the law FnDressLike returns true, whatever the input, with no condition beyond the statement's own. -/
import Derived.Test.YtmakaoomdnlebaaRows
import Derived.Test.YtmakaoomdnlebaaLwLends
import Derived.Test.YtmakaoomdnlebaaLwWithin
import Derived.Test.YtmakaoomdnlebaaLwNames
import Derived.Test.YtmakaoomdnlebaaDrawLike
namespace Go.Proofs.Ytmakaoomdnlebaa.lwDressLike
open Go.ChangeShapes Go.WideShapes Go.ChangeAt Go.RowKit
open Go.ChangeMaps (open_string shut_string)
set_option linter.unusedVariables false
set_option linter.unusedSimpArgs false
set_option maxRecDepth 100000 in
set_option maxHeartbeats 4000000 in
theorem walk (w : World) (n : Nat) (v : Value) (hv : Bytes w v n) :
    Calls Try.prog 9 #[v] w fun e w' => e = .returned (.bool true) ∧ Below w.heap.size w w' := by
  have HV := Lib.hid hv
  obtain ⟨a0, c0, rfl, hn1, hn2, _⟩ := hv
  unfold maxLen at hn2
  by_cases hbig : (1048576 : Int) < n
  · go_enter Try.func9, Try.ntmps9
    go_wp2_with fail
    go_ret
    exact ⟨rfl, Below.refl _ _⟩
  go_enter Try.func9, Try.ntmps9
  go_wp2_with fail
  refine (drawLike_any _ n w HV.out).mono ?_
  rintro e w1 ⟨f, f0, f1, f2, f3, g, g0, g1, g2, g3, rfl, hin, hing, hsl, hslg, hb⟩
  have hs1 : w.heap.size ≤ w1.heap.size := hb.size
  have HL := Lib.hid hb
  have hszf : f.sz ≤ 1048576 := by have := Slim.big hsl; omega
  have hszg : g.sz ≤ 1048576 := by have := Slim.big hslg; omega
  have HSF := Lib.hid hsl
  have HSG := Lib.hid hslg
  clear hsl hslg HV
  clear hb
  have If : Hid (InV (· < w1.heap.size) w1 f (.agg #[.int .i64 f.kind, .string f.name, .int .i64 f.n, .slice f0 f.scopes.length f1, .slice f2 f.kids.length f3])) := InV.mono (fun k hk => hk.2) _ _ hin
  clear hin
  have Ig : Hid (InV (· < w1.heap.size) w1 g (.agg #[.int .i64 g.kind, .string g.name, .int .i64 g.n, .slice g0 g.scopes.length g1, .slice g2 g.kids.length g3])) := InV.mono (fun k hk => hk.2) _ _ hing
  clear hing
  obtain ⟨ok, hok⟩ : ∃ ok, dressB f g = ok := ⟨_, rfl⟩
  obtain ⟨R, hR⟩ : ∃ R, dressedF f g = R := ⟨_, rfl⟩
  have HOK := Lib.hid hok
  have HR := Lib.hid hR
  have HRC : Hid (R.count ≤ 4294967296) := by have h1 := dressed_count f g; have h2 := f.count_le; rw [hR] at h1; unfold Hid; omega
  clear hok hR
  go_wp2_with fail
  have hba0 := below_alloc w1 (.cells #[.int .i64 f.kind, .string f.name, .int .i64 f.n, .slice f0 f.scopes.length f1, .slice f2 f.kids.length f3] 27)
  have Bf : Hid (FormBox (w1.alloc (.cells #[.int .i64 f.kind, .string f.name, .int .i64 f.n, .slice f0 f.scopes.length f1, .slice f2 f.kids.length f3] 27)) w1.heap.size f f0 f1 f2 f3) := box_lit w1 f w1.heap.size f0 f2 f1 f3 27 (by simp)
  have hba1 : Below w1.heap.size w1 ((w1.alloc (.cells #[.int .i64 f.kind, .string f.name, .int .i64 f.n, .slice f0 f.scopes.length f1, .slice f2 f.kids.length f3] 27)).alloc (.cells #[.int .i64 g.kind, .string g.name, .int .i64 g.n, .slice g0 g.scopes.length g1, .slice g2 g.kids.length g3] 27)) := hba0.trans ((below_alloc (w1.alloc (.cells #[.int .i64 f.kind, .string f.name, .int .i64 f.n, .slice f0 f.scopes.length f1, .slice f2 f.kids.length f3] 27)) (.cells #[.int .i64 g.kind, .string g.name, .int .i64 g.n, .slice g0 g.scopes.length g1, .slice g2 g.kids.length g3] 27)).mono (by simp))
  have Bf_1 := Lib.hid (FormBox.later Bf.out (below_alloc (w1.alloc (.cells #[.int .i64 f.kind, .string f.name, .int .i64 f.n, .slice f0 f.scopes.length f1, .slice f2 f.kids.length f3] 27)) (.cells #[.int .i64 g.kind, .string g.name, .int .i64 g.n, .slice g0 g.scopes.length g1, .slice g2 g.kids.length g3] 27)))
  clear Bf
  have Bg : Hid (FormBox ((w1.alloc (.cells #[.int .i64 f.kind, .string f.name, .int .i64 f.n, .slice f0 f.scopes.length f1, .slice f2 f.kids.length f3] 27)).alloc (.cells #[.int .i64 g.kind, .string g.name, .int .i64 g.n, .slice g0 g.scopes.length g1, .slice g2 g.kids.length g3] 27)) (w1.heap.size + 1) g g0 g1 g2 g3) := box_lit (w1.alloc (.cells #[.int .i64 f.kind, .string f.name, .int .i64 f.n, .slice f0 f.scopes.length f1, .slice f2 f.kids.length f3] 27)) g (w1.heap.size + 1) g0 g2 g1 g3 27 (by simp)
  refine (implDress_law f g _ _ ((w1.alloc (.cells #[.int .i64 f.kind, .string f.name, .int .i64 f.n, .slice f0 f.scopes.length f1, .slice f2 f.kids.length f3] 27)).alloc (.cells #[.int .i64 g.kind, .string g.name, .int .i64 g.n, .slice g0 g.scopes.length g1, .slice g2 g.kids.length g3] 27)) (inv_up If.out hba1) (inv_up Ig.out hba1) hszf ok R HOK.out HR.out).mono ?_
  rintro e w2 ⟨x0, x1, x2, x3, rfl, hin, hend, hb0⟩
  have hb : Below w1.heap.size w1 w2 := hba1.trans (hb0.mono hba1.size)
  have hs2 : w1.heap.size + 2 ≤ w2.heap.size := by have h := hb0.size; simp at h; omega
  have HL_1 := Lib.hid (HL.out.trans (hb.mono (by omega)))
  have If_1 := Lib.hid (inv_up If.out hb)
  have Ig_1 := Lib.hid (inv_up Ig.out hb)
  have Bf_2 := Lib.hid (FormBox.later Bf_1.out hb0)
  have Bg_1 := Lib.hid (FormBox.later Bg.out hb0)
  clear HL If Ig Bf_1 Bg
  clear hb0 hba0 hba1
  clear hb
  have Ix : Hid (InV (· < w2.heap.size) w2 R (.agg #[.int .i64 R.kind, .string R.name, .int .i64 R.n, .slice x0 R.scopes.length x1, .slice x2 R.kids.length x3])) := InV.mono (fun k hk => hk.2) _ _ hin
  have Ex := Lib.hid hend
  clear hin hend
  obtain ⟨ld0, ld1, ld2, ld3, ld4⟩ := Bf_2.out
  have hx0 : w1.heap.size < w2.heap.size := Bf_2.out.lt
  obtain ⟨ld5, ld6, ld7, ld8, ld9⟩ := Bg_1.out
  have hx1 : (w1.heap.size + 1) < w2.heap.size := Bg_1.out.lt
  go_wp2_with fail
  have hba0 := below_alloc w2 (.cells #[.int .i64 R.kind, .string R.name, .int .i64 R.n, .slice x0 R.scopes.length x1, .slice x2 R.kids.length x3] 27)
  have Bx : Hid (FormBox (w2.alloc (.cells #[.int .i64 R.kind, .string R.name, .int .i64 R.n, .slice x0 R.scopes.length x1, .slice x2 R.kids.length x3] 27)) w2.heap.size R x0 x1 x2 x3) := box_lit w2 R w2.heap.size x0 x2 x1 x3 27 (by simp)
  refine (specDress_law f g _ _ (w2.alloc (.cells #[.int .i64 R.kind, .string R.name, .int .i64 R.n, .slice x0 R.scopes.length x1, .slice x2 R.kids.length x3] 27)) (inv_up If_1.out hba0) (inv_up Ig_1.out hba0) hszf hszg ok R HOK.out HR.out).mono ?_
  rintro e w3 ⟨y0, y1, y2, y3, rfl, hin, hb0⟩
  have hb : Below w2.heap.size w2 w3 := hba0.trans (hb0.mono hba0.size)
  have hs3 : w2.heap.size + 1 ≤ w3.heap.size := by have h := hb0.size; simp at h; omega
  clear ld0 ld1 ld2 ld3 ld4 ld5 ld6 ld7 ld8 ld9 hx0 hx1
  have HL_2 := Lib.hid (HL_1.out.trans (hb.mono (by omega)))
  have If_2 := Lib.hid (inv_up If_1.out hb)
  have Ig_2 := Lib.hid (inv_up Ig_1.out hb)
  have Bf_3 := Lib.hid (FormBox.later Bf_2.out hb)
  have Bg_2 := Lib.hid (FormBox.later Bg_1.out hb)
  have Ix_1 := Lib.hid (inv_up Ix.out hb)
  have Ex_1 := Lib.hid (EndlessAt.later Ex.out hb)
  have Bx_1 := Lib.hid (FormBox.later Bx.out hb0)
  clear HL_1 If_1 Ig_1 Bf_2 Bg_1 Ix Ex Bx
  clear hb0 hba0
  clear hb
  have Iy : Hid (InV (· < w3.heap.size) w3 R (.agg #[.int .i64 R.kind, .string R.name, .int .i64 R.n, .slice y0 R.scopes.length y1, .slice y2 R.kids.length y3])) := InV.mono (fun k hk => hk.2) _ _ hin
  clear hin
  cases ok with
  | false =>
    obtain ⟨ld0, ld1, ld2, ld3, ld4⟩ := Bx_1.out
    have hx0 : w2.heap.size < w3.heap.size := Bx_1.out.lt
    go_wp2_with fail
    have hba0 := below_alloc w3 (.cells #[.int .i64 R.kind, .string R.name, .int .i64 R.n, .slice y0 R.scopes.length y1, .slice y2 R.kids.length y3] 27)
    have By : Hid (FormBox (w3.alloc (.cells #[.int .i64 R.kind, .string R.name, .int .i64 R.n, .slice y0 R.scopes.length y1, .slice y2 R.kids.length y3] 27)) w3.heap.size R y0 y1 y2 y3) := box_lit w3 R w3.heap.size y0 y2 y1 y3 27 (by simp)
    refine (implSame_law R R _ _ (w3.alloc (.cells #[.int .i64 R.kind, .string R.name, .int .i64 R.n, .slice y0 R.scopes.length y1, .slice y2 R.kids.length y3] 27)) (inv_up Ix_1.out hba0) (inv_up Iy.out hba0) HRC.out (EndlessAt.later Ex_1.out hba0) true (sameB_refl R)).mono ?_
    rintro e w4 ⟨rfl, hb0⟩
    have hb : Below w3.heap.size w3 w4 := hba0.trans (hb0.mono hba0.size)
    have hs4 : w3.heap.size + 1 ≤ w4.heap.size := by have h := hb0.size; simp at h; omega
    clear ld0 ld1 ld2 ld3 ld4 hx0
    have HL_3 := Lib.hid (HL_2.out.trans (hb.mono (by omega)))
    have If_3 := Lib.hid (inv_up If_2.out hb)
    have Ig_3 := Lib.hid (inv_up Ig_2.out hb)
    have Bf_4 := Lib.hid (FormBox.later Bf_3.out hb)
    have Bg_3 := Lib.hid (FormBox.later Bg_2.out hb)
    have Ix_2 := Lib.hid (inv_up Ix_1.out hb)
    have Ex_2 := Lib.hid (EndlessAt.later Ex_1.out hb)
    have Bx_2 := Lib.hid (FormBox.later Bx_1.out hb)
    have Iy_1 := Lib.hid (inv_up Iy.out hb)
    have By_1 := Lib.hid (FormBox.later By.out hb0)
    clear HL_2 If_2 Ig_2 Bf_3 Bg_2 Ix_1 Ex_1 Bx_1 Iy By
    clear hb0 hba0
    clear hb
    obtain ⟨ld0, ld1, ld2, ld3, ld4⟩ := Bx_2.out
    have hx0 : w2.heap.size < w4.heap.size := Bx_2.out.lt
    obtain ⟨ld5, ld6, ld7, ld8, ld9⟩ := By_1.out
    have hx1 : w3.heap.size < w4.heap.size := By_1.out.lt
    go_wp2_with fail
    refine (implSame_law R R _ _ w4 Ix_2.out Iy_1.out HRC.out Ex_2.out true (sameB_refl R)).mono ?_
    rintro e w5 ⟨rfl, hb⟩
    have hs5 : w4.heap.size ≤ w5.heap.size := hb.size
    clear ld0 ld1 ld2 ld3 ld4 ld5 ld6 ld7 ld8 ld9 hx0 hx1
    have HL_4 := Lib.hid (HL_3.out.trans (hb.mono (by omega)))
    have If_4 := Lib.hid (inv_up If_3.out hb)
    have Ig_4 := Lib.hid (inv_up Ig_3.out hb)
    have Bf_5 := Lib.hid (FormBox.later Bf_4.out hb)
    have Bg_4 := Lib.hid (FormBox.later Bg_3.out hb)
    have Ix_3 := Lib.hid (inv_up Ix_2.out hb)
    have Ex_3 := Lib.hid (EndlessAt.later Ex_2.out hb)
    have Bx_3 := Lib.hid (FormBox.later Bx_2.out hb)
    have Iy_2 := Lib.hid (inv_up Iy_1.out hb)
    have By_2 := Lib.hid (FormBox.later By_1.out hb)
    clear HL_3 If_3 Ig_3 Bf_4 Bg_3 Ix_2 Ex_2 Bx_2 Iy_1 By_1
    clear hb
    go_wp2_with fail
    go_ret
    exact ⟨rfl, HL_4.out⟩
  | true =>
    obtain ⟨ld0, ld1, ld2, ld3, ld4⟩ := Bx_1.out
    have hx0 : w2.heap.size < w3.heap.size := Bx_1.out.lt
    go_wp2_with fail
    have hba0 := below_alloc w3 (.cells #[.int .i64 R.kind, .string R.name, .int .i64 R.n, .slice y0 R.scopes.length y1, .slice y2 R.kids.length y3] 27)
    have By : Hid (FormBox (w3.alloc (.cells #[.int .i64 R.kind, .string R.name, .int .i64 R.n, .slice y0 R.scopes.length y1, .slice y2 R.kids.length y3] 27)) w3.heap.size R y0 y1 y2 y3) := box_lit w3 R w3.heap.size y0 y2 y1 y3 27 (by simp)
    refine (implSame_law R R _ _ (w3.alloc (.cells #[.int .i64 R.kind, .string R.name, .int .i64 R.n, .slice y0 R.scopes.length y1, .slice y2 R.kids.length y3] 27)) (inv_up Ix_1.out hba0) (inv_up Iy.out hba0) HRC.out (EndlessAt.later Ex_1.out hba0) true (sameB_refl R)).mono ?_
    rintro e w4 ⟨rfl, hb0⟩
    have hb : Below w3.heap.size w3 w4 := hba0.trans (hb0.mono hba0.size)
    have hs4 : w3.heap.size + 1 ≤ w4.heap.size := by have h := hb0.size; simp at h; omega
    clear ld0 ld1 ld2 ld3 ld4 hx0
    have HL_3 := Lib.hid (HL_2.out.trans (hb.mono (by omega)))
    have If_3 := Lib.hid (inv_up If_2.out hb)
    have Ig_3 := Lib.hid (inv_up Ig_2.out hb)
    have Bf_4 := Lib.hid (FormBox.later Bf_3.out hb)
    have Bg_3 := Lib.hid (FormBox.later Bg_2.out hb)
    have Ix_2 := Lib.hid (inv_up Ix_1.out hb)
    have Ex_2 := Lib.hid (EndlessAt.later Ex_1.out hb)
    have Bx_2 := Lib.hid (FormBox.later Bx_1.out hb)
    have Iy_1 := Lib.hid (inv_up Iy.out hb)
    have By_1 := Lib.hid (FormBox.later By.out hb0)
    clear HL_2 If_2 Ig_2 Bf_3 Bg_2 Ix_1 Ex_1 Bx_1 Iy By
    clear hb0 hba0
    clear hb
    obtain ⟨h1, h2, h3, h4⟩ := dressB_parts HOK.out
    have hfR : formB R = true := (dress_again HOK.out HR.out).2.2
    have hszR : R.sz ≤ 1048576 := valid_sz hfR
    have HSTEP : Hid (∀ (j : Nat) (hj : j < g.scopes.length), formB (f.chg (dressW (g.scopes.take j))) = true ∧ okF2 0 g.scopes[j] (f.chg (dressW (g.scopes.take j))) = true ∧ afterF 0 g.scopes[j] (f.chg (dressW (g.scopes.take j))) = f.chg (dressW (g.scopes.take (j + 1)))) := fun j hj => lend_steps HOK.out j hj
    have HMB : Hid (∀ (j : Nat) (hj : j < g.scopes.length), 0 ≤ g.scopes[j] ∧ g.scopes[j] ≤ 100) := fun j hj => by have := scopesB_mem (name_scopes h2) _ (List.getElem_mem hj); omega
    have HALL : Hid (f.chg (dressW (g.scopes.take g.scopes.length)) = R) := by
      unfold Hid
      rw [List.take_length, ← HR.out]
      unfold dressedF
      rw [if_pos HOK.out]
    have HST : Hid (f.chg (dressW (g.scopes.take 0)) = f) := dress_start f
    obtain ⟨L, hL⟩ : ∃ L, scopesOf R = L := ⟨_, rfl⟩
    obtain ⟨NL, hNL⟩ : ∃ NL, (namesF [] f.pre).length = NL := ⟨_, rfl⟩
    have HTH : Hid (NL ≠ 0 → withinB g.scopes L = true) := fun hn => by
      rw [← hL]
      exact lend_there HOK.out HR.out (names_some (by rw [hNL]; exact hn))
    have HLL : Hid (L.length ≤ 1000) := by have h4 := scopesOf_len R; rw [hL] at h4; unfold Hid; omega
    have hml : g.scopes.length ≤ 1000 := by have := scopes_length (name_scopes h2); omega
    have HL0 := Lib.hid hL
    have HNL := Lib.hid hNL
    have HVF := Lib.hid h1
    clear h1 h2 h3 h4 hfR hL hNL
    have RM := Lib.hid (InV.row3 Ig_3.out)
    obtain ⟨ld0, ld1, ld2, ld3, ld4⟩ := Bf_4.out
    have hx0 : w1.heap.size < w4.heap.size := Bf_4.out.lt
    obtain ⟨ld5, ld6, ld7, ld8, ld9⟩ := Bg_3.out
    have hx1 : (w1.heap.size + 1) < w4.heap.size := Bg_3.out.lt
    go_wp2_with fail
    clear ld0 ld1 ld2 ld3 ld4 hx0 ld5 ld6 ld7 ld8 ld9 hx1
    go_loopw [10, 11, 12] (fun i _ _ wr => ∃ (j : Nat) (Y : Fm) (y0 : Option Addr) (y1 : Nat) (y2 : Option Addr) (y3 : Nat), i = .int .i64 j ∧ j ≤ g.scopes.length ∧ Y = f.chg (dressW (g.scopes.take j)) ∧ YAt w4 wr Y y0 y1 y2 y3) (fun i _ _ _ => g.scopes.length - (intOf i).toNat)
    case atStart => exact ⟨0, f, f0, f1, f2, f3, rfl, Nat.zero_le _, HST.out.symm, YAt.start If_3.out 27⟩
    case round =>
      obtain ⟨j, Y, y0, y1, y2, y3, rfl, hj, hY, hy⟩ := hrel
      have hbl := hy.below
      have hsr : w4.heap.size ≤ wr.heap.size := hbl.size
      have HY := Lib.hid hy
      have HYE := Lib.hid hY
      have HL_4 := Lib.hid (HL_3.out.trans (hbl.mono (by omega)))
      have If_4 := Lib.hid (inv_up If_3.out hbl)
      have Ig_4 := Lib.hid (inv_up Ig_3.out hbl)
      have Bf_5 := Lib.hid (FormBox.later Bf_4.out hbl)
      have Bg_4 := Lib.hid (FormBox.later Bg_3.out hbl)
      have Ix_3 := Lib.hid (inv_up Ix_2.out hbl)
      have Ex_3 := Lib.hid (EndlessAt.later Ex_2.out hbl)
      have Bx_3 := Lib.hid (FormBox.later Bx_2.out hbl)
      have Iy_2 := Lib.hid (inv_up Iy_1.out hbl)
      have By_2 := Lib.hid (FormBox.later By_1.out hbl)
      have RM_1 := Lib.hid (irow_up RM.out hbl)
      clear HL_3 If_3 Ig_3 Bf_4 Bg_3 Ix_2 Ex_2 Bx_2 Iy_1 By_1 RM
      clear hbl
      by_cases hlt : j < g.scopes.length
      · have hltI : (j : Int) < (g.scopes.length : Int) := by omega
        have hj0 : (0 : Int) ≤ (j : Int) := by omega
        obtain ⟨lb, lo, rfl, hlb, hca, hcell⟩ := row_at RM_1.out j hlt
        obtain ⟨hvY, hokY, hnx⟩ := HSTEP.out j hlt
        rw [← hY] at hvY hokY hnx
        have hszY : Y.sz ≤ 1048576 := valid_sz hvY
        obtain ⟨n, hn⟩ : ∃ n, g.scopes[j] = n := ⟨_, rfl⟩
        obtain ⟨Q, hQ⟩ : ∃ Q, afterF 0 n Y = Q := ⟨_, rfl⟩
        have hnb := HMB.out j hlt
        rw [hn] at hcell hokY hnx hnb
        rw [hQ] at hnx
        have HQ := Lib.hid hQ
        have HOKY := Lib.hid hokY
        have HNX := Lib.hid hnx
        clear hn hQ hokY hnx hvY hY hy
        have hcb : CellBox wr lb (lo + j) n (w1.heap.size + 1) g (some ⟨lb, lo, none⟩) g1 g2 g3 := ⟨hcell, Bg_4.out⟩
        obtain ⟨gd0, gd1, gd2, gd3, gd4⟩ := Bg_4.out
        have hgx : (w1.heap.size + 1) < wr.heap.size := Bg_4.out.lt
        obtain ⟨b0, b1, b2, b3, b4⟩ := HY.out.box
        have hxb : w4.heap.size < wr.heap.size := HY.out.box.lt
        go_wp2_with fail
        clear b0 b1 b2 b3 b4 gd0 gd1 gd2 gd3 gd4
        refine upto_begin (fun WS : World => FormBox WS w4.heap.size Y y0 y1 y2 y3 ∧ CellBox WS lb (lo + j) n (w1.heap.size + 1) g (some ⟨lb, lo, none⟩) g1 g2 g3) 13 (by kernel_rfl) ?_
        refine gen_upto (fun u0 hu => ?_)
        have hb0 : Below wr.heap.size wr u0 := by rw [hu]; exact (Below.refl _ _).drew
        have hsu : wr.heap.size ≤ u0.heap.size := hb0.size
        have HY0 := Lib.hid (HY.out.later hb0)
        have hS0 : (fun WS : World => FormBox WS w4.heap.size Y y0 y1 y2 y3 ∧ CellBox WS lb (lo + j) n (w1.heap.size + 1) g (some ⟨lb, lo, none⟩) g1 g2 g3) u0 := ⟨HY0.out.box, CellBox.later hcb hb0⟩
        clear hu
        refine upto_take (i := 0) (d := some 63) (v := ?_) rfl rfl (by kernel_rfl) (by kernel_rfl) (by kernel_rfl) (by kernel_rfl) (fun _ _ _ h => h) (Or.inl ⟨by rfl, ?_⟩) hS0 ?_
        rotate_left
        · (intro wS hSw; obtain ⟨⟨_, _, _, _, _⟩, _, ⟨_, _, _, _, _⟩⟩ := hSw; go_simp; try with_reducible rfl)
        try simp only [Act.put, List.setIfInBounds_toArray, List.set_cons_zero, List.set_cons_succ]
        refine upto_take (i := 1) (d := some 64) (v := ?_) rfl rfl (by kernel_rfl) (by kernel_rfl) (by kernel_rfl) (by kernel_rfl) (fun _ _ _ h => h) (Or.inl ⟨by rfl, ?_⟩) hS0 ?_
        rotate_left
        · (intro wS hSw; obtain ⟨⟨_, _, _, _, _⟩, _, ⟨_, _, _, _, _⟩⟩ := hSw; go_simp; try with_reducible rfl)
        try simp only [Act.put, List.setIfInBounds_toArray, List.set_cons_zero, List.set_cons_succ]
        refine upto_take (i := 2) (d := some 65) (v := ?_) rfl rfl (by kernel_rfl) (by kernel_rfl) (by kernel_rfl) (by kernel_rfl) (fun _ _ _ h => h) (Or.inl ⟨by rfl, ?_⟩) hS0 ?_
        rotate_left
        · (intro wS hSw; obtain ⟨⟨_, _, _, _, _⟩, _, ⟨_, _, _, _, _⟩⟩ := hSw; go_simp; try with_reducible rfl)
        try simp only [Act.put, List.setIfInBounds_toArray, List.set_cons_zero, List.set_cons_succ]
        refine upto_take (i := 3) (d := some 66) (v := ?_) rfl rfl (by kernel_rfl) (by kernel_rfl) (by kernel_rfl) (by kernel_rfl) (fun _ _ _ h => h) (Or.inl ⟨by rfl, ?_⟩) hS0 ?_
        rotate_left
        · (intro wS hSw; obtain ⟨⟨_, _, _, _, _⟩, _, ⟨_, _, _, _, _⟩⟩ := hSw; go_simp; try with_reducible rfl)
        try simp only [Act.put, List.setIfInBounds_toArray, List.set_cons_zero, List.set_cons_succ]
        refine upto_take (i := 4) (d := some 67) (v := ?_) rfl rfl (by kernel_rfl) (by kernel_rfl) (by kernel_rfl) (by kernel_rfl) (fun _ _ _ h => h) (Or.inl ⟨by rfl, ?_⟩) hS0 ?_
        rotate_left
        · (intro wS hSw; obtain ⟨⟨_, _, _, _, _⟩, _, ⟨_, _, _, _, _⟩⟩ := hSw; go_simp; try with_reducible rfl)
        try simp only [Act.put, List.setIfInBounds_toArray, List.set_cons_zero, List.set_cons_succ]
        refine upto_take (i := 5) (d := some 68) (v := ?_) rfl rfl (by kernel_rfl) (by kernel_rfl) (by kernel_rfl) (by kernel_rfl) (fun _ _ _ h => h) (Or.inl ⟨by rfl, ?_⟩) hS0 ?_
        rotate_left
        · (intro wS hSw; obtain ⟨⟨_, _, _, _, _⟩, _, ⟨_, _, _, _, _⟩⟩ := hSw; go_simp; try with_reducible rfl)
        try simp only [Act.put, List.setIfInBounds_toArray, List.set_cons_zero, List.set_cons_succ]
        refine upto_two (i := 6) (j := 10) (by kernel_rfl) rfl rfl (fun K hK => ?_) (fun K hK => ?_)
        · go_simp
          refine (implAddScope_law Y _ n u0 (InV.mono (fun k hk => hk.1) _ _ HY0.out.inv) hszY hnb true Q HOKY.out HQ.out).mono ?_
          rintro e v1 ⟨q0, q1, q2, q3, rfl, hin, hend, hb⟩
          have hsv1 : u0.heap.size ≤ v1.heap.size := hb.size
          clear hend
          have HY1 := Lib.hid (HY0.out.later hb)
          have hc1 : CellBox v1 lb (lo + j) n (w1.heap.size + 1) g (some ⟨lb, lo, none⟩) g1 g2 g3 := CellBox.later hcb (hb0.trans (hb.mono hsu))
          have hS1 : (fun WS : World => FormBox WS w4.heap.size Y y0 y1 y2 y3 ∧ CellBox WS lb (lo + j) n (w1.heap.size + 1) g (some ⟨lb, lo, none⟩) g1 g2 g3) v1 := ⟨HY1.out.box, hc1⟩
          refine hK.out _ _ (.inr hS1) ?_
          clear hK K hS0
          refine upto_take (i := 7) (d := some 62) (v := ?_) rfl rfl (by kernel_rfl) (by kernel_rfl) (by kernel_rfl) (by kernel_rfl) (fun _ _ _ h => h) (Or.inl ⟨by rfl, ?_⟩) hS1 ?_
          rotate_left
          · (intro wS hSw; obtain ⟨⟨_, _, _, _, _⟩, _, ⟨_, _, _, _, _⟩⟩ := hSw; go_simp; try with_reducible rfl)
          try simp only [Act.put, List.setIfInBounds_toArray, List.set_cons_zero, List.set_cons_succ]
          refine upto_take (i := 8) (d := some 70) (v := ?_) rfl rfl (by kernel_rfl) (by kernel_rfl) (by kernel_rfl) (by kernel_rfl) (fun _ _ _ h => h) (Or.inl ⟨by rfl, ?_⟩) hS1 ?_
          rotate_left
          · (intro wS hSw; obtain ⟨⟨_, _, _, _, _⟩, _, ⟨_, _, _, _, _⟩⟩ := hSw; go_simp; try with_reducible rfl)
          try simp only [Act.put, List.setIfInBounds_toArray, List.set_cons_zero, List.set_cons_succ]
          refine upto_take (i := 9) (d := some 71) (v := ?_) rfl rfl (by kernel_rfl) (by kernel_rfl) (by kernel_rfl) (by kernel_rfl) (fun _ _ _ h => h) (Or.inl ⟨by rfl, ?_⟩) hS1 ?_
          rotate_left
          · (intro wS hSw; obtain ⟨⟨_, _, _, _, _⟩, _, ⟨_, _, _, _, _⟩⟩ := hSw; go_simp; try with_reducible rfl)
          try simp only [Act.put, List.setIfInBounds_toArray, List.set_cons_zero, List.set_cons_succ]
          refine upto_one (i := 10) (by kernel_rfl) rfl (fun K hK => ?_)
          go_simp
          refine gen_world' (fun v2 hu => ?_)
          have hb2 : Below v1.heap.size v1 v2 := by rw [hu]; exact below_alloc _ _
          have hzz : v2.heap[v1.heap.size]? = some (.cells #[.int .i64 0, .string { data := #[] }, .int .i64 0, .slice none 0 0, .slice none 0 0] 27 (0, 0)) := by rw [hu]; exact heap_alloc_new _ _
          have hs2 : v1.heap.size + 1 ≤ v2.heap.size := by rw [hu]; simp
          have HY2 := Lib.hid (HY1.out.later hb2)
          have hcz : CellBox v2 lb (lo + j) n (w1.heap.size + 1) g (some ⟨lb, lo, none⟩) g1 g2 g3 := CellBox.later hc1 hb2
          have hin2 : InV (fun k => u0.heap.size ≤ k ∧ k < v1.heap.size) v2 Q (.agg #[.int .i64 Q.kind, .string Q.name, .int .i64 Q.n, .slice q0 Q.scopes.length q1, .slice q2 Q.kids.length q3]) := InV.later (Same.of_below hb2 fun k hk => hk.2) _ _ hin
          have HIN := Lib.hid hin2
          have hy1 : InV (fun k => k < v1.heap.size ∧ k ≠ w4.heap.size) v2 Y (.agg #[.int .i64 Y.kind, .string Y.name, .int .i64 Y.n, .slice y0 Y.scopes.length y1, .slice y2 Y.kids.length y3]) := InV.later (Same.of_below hb2 fun k hk => hk.1) _ _ HY1.out.inv
          have HIY := Lib.hid hy1
          have hw0 : w4.heap.size < u0.heap.size := by omega
          refine hK.out _ _ (.inr ⟨HY2.out.box, hcz⟩) ?_
          clear hK K hu hb hb2 hin hin2 hS1 hc1 hy1
          obtain ⟨r0, r1, r2, r3, r4, t0, t1, t2, t3, t4⟩ := zeroFacts hzz
          have hS2 : (fun WS : World => FormBox WS w4.heap.size Y y0 y1 y2 y3 ∧ CellBox WS lb (lo + j) n (w1.heap.size + 1) g (some ⟨lb, lo, none⟩) g1 g2 g3) v2 := ⟨HY2.out.box, hcz⟩
          refine upto_one (i := 11) (by kernel_rfl) rfl (fun K hK => ?_)
          go_simp
          refine gen_world' (fun vS hu => ?_)
          have hv : vS = set5 v2 v1.heap.size 0 (.int .i64 Q.kind) (.string Q.name) (.int .i64 Q.n) (.slice q0 Q.scopes.length q1) (.slice q2 Q.kids.length q3) := by rw [hu]; simp only [set5, Nat.zero_add]
          clear hu
          have hx9 : FormBox vS v1.heap.size Q q0 q1 q2 q3 := by rw [hv]; exact set5_in v2 v1.heap.size 0 (.int .i64 Q.kind) (.string Q.name) (.int .i64 Q.n) (.slice q0 Q.scopes.length q1) (.slice q2 Q.kids.length q3) (zeroThere hzz)
          have hblk : ∀ k, k ≠ v1.heap.size → vS.heap[k]? = v2.heap[k]? := fun k hk => by rw [hv]; exact set5_block _ _ _ _ _ _ _ _ hk
          have hsS : vS.heap.size = v2.heap.size := by rw [hv]; exact set5_size _ _ _ _ _ _ _ _
          have HYS : Hid (YAt w4 vS Y y0 y1 y2 y3) := by
            have h := HY2.out
            have hb9 : vS.heap[w4.heap.size]? = v2.heap[w4.heap.size]? := hblk _ (by omega)
            refine ⟨by rw [hv]; exact set5_below h.below (b := v1.heap.size) (by omega) 0 _ _ _ _ _, ?_, fun i => (World.frozen?_of_block (a := ⟨w4.heap.size, i, none⟩) hb9).trans (h.free i), ?_⟩
            · obtain ⟨b0, b1, b2, b3, b4⟩ := h.box
              exact ⟨(World.cell?_of_block (a := ⟨w4.heap.size, 0, none⟩) hb9).trans b0, (World.cell?_of_block (a := ⟨w4.heap.size, 1, none⟩) hb9).trans b1, (World.cell?_of_block (a := ⟨w4.heap.size, 2, none⟩) hb9).trans b2, (World.cell?_of_block (a := ⟨w4.heap.size, 3, none⟩) hb9).trans b3, (World.cell?_of_block (a := ⟨w4.heap.size, 4, none⟩) hb9).trans b4⟩
            · exact InV.mono (fun k hk => by omega) _ _ (InV.later (w := v2) (fun k hk => hblk k (by omega)) _ _ HIY.out)
          have hcS : CellBox vS lb (lo + j) n (w1.heap.size + 1) g (some ⟨lb, lo, none⟩) g1 g2 g3 := CellBox.same hcz (hblk lb (by omega)) (hblk ((w1.heap.size + 1)) (by omega))
          have HQS : Hid (InV (fun k => k < vS.heap.size ∧ k ≠ w4.heap.size) vS Q (.agg #[.int .i64 Q.kind, .string Q.name, .int .i64 Q.n, .slice q0 Q.scopes.length q1, .slice q2 Q.kids.length q3])) := InV.mono (fun k hk => by omega) _ _ (InV.later (w := v2) (fun k hk => hblk k (by omega)) _ _ HIN.out)
          have hzl : v1.heap.size < vS.heap.size := hx9.lt
          clear r0 r1 r2 r3 r4 t0 t1 t2 t3 t4 hv hblk hsS
          have hS3 : (fun WS : World => FormBox WS w4.heap.size Y y0 y1 y2 y3 ∧ CellBox WS lb (lo + j) n (w1.heap.size + 1) g (some ⟨lb, lo, none⟩) g1 g2 g3) vS := ⟨HYS.out.box, hcS⟩
          refine hK.out _ _ (.inr hS3) ?_
          clear hK K hS2 hzz hcz
          refine upto_take (i := 12) (d := some 12) (v := ?_) rfl rfl (by kernel_rfl) (by kernel_rfl) (by kernel_rfl) (by kernel_rfl) (fun _ _ _ h => h) (Or.inl ⟨by rfl, ?_⟩) hS3 ?_
          rotate_left
          · (intro wS hSw; obtain ⟨⟨_, _, _, _, _⟩, _, ⟨_, _, _, _, _⟩⟩ := hSw; go_simp; try with_reducible rfl)
          try simp only [Act.put, List.setIfInBounds_toArray, List.set_cons_zero, List.set_cons_succ]
          clear hS3 hcS
          refine upto_done (by kernel_rfl) ?_ _
          obtain ⟨c0, c1, c2, c3, c4⟩ := HYS.out.box
          obtain ⟨z0, z1, z2, z3, z4⟩ := hx9
          have g0 := HYS.out.free 0
          have g1 := HYS.out.free 1
          have g2 := HYS.out.free 2
          have g3 := HYS.out.free 3
          have g4 := HYS.out.free 4
          have hset := HYS.out.set (Q := Q) (q0 := q0) (q1 := q1) (q2 := q2) (q3 := q3) HQS.out
          unfold set5 at hset
          simp only [Nat.zero_add] at hset
          have HSET := Lib.hid hset
          clear hset
          go_wp2_with fail
          go_roundw
          case rel => exact ⟨j + 1, Q, q0, q1, q2, q3, by go_num, by omega, HNX.out, HSET.out⟩
          case measure => simp [intOf]; omega
        · go_simp
          refine gen_world' (fun v1 hu => ?_)
          have hb2 : Below u0.heap.size u0 v1 := by rw [hu]; exact below_alloc _ _
          have hz1 : v1.heap[u0.heap.size]? = some (.cells #[.int .i64 0, .string { data := #[] }, .int .i64 0, .slice none 0 0, .slice none 0 0] 27 (0, 0)) := by rw [hu]; exact heap_alloc_new _ _
          have hs1 : u0.heap.size + 1 ≤ v1.heap.size := by rw [hu]; simp
          have HY1 := Lib.hid (HY0.out.later hb2)
          have hc1 : CellBox v1 lb (lo + j) n (w1.heap.size + 1) g (some ⟨lb, lo, none⟩) g1 g2 g3 := CellBox.later hcb (hb0.trans (hb2.mono hsu))
          have hS1 : (fun WS : World => FormBox WS w4.heap.size Y y0 y1 y2 y3 ∧ CellBox WS lb (lo + j) n (w1.heap.size + 1) g (some ⟨lb, lo, none⟩) g1 g2 g3) v1 := ⟨HY1.out.box, hc1⟩
          have hy1 : InV (fun k => k < u0.heap.size ∧ k ≠ w4.heap.size) v1 Y (.agg #[.int .i64 Y.kind, .string Y.name, .int .i64 Y.n, .slice y0 Y.scopes.length y1, .slice y2 Y.kids.length y3]) := InV.later (Same.of_below hb2 fun k hk => hk.1) _ _ HY0.out.inv
          have hw0 : w4.heap.size < u0.heap.size := by omega
          refine hK.out _ _ (.inr hS1) ?_
          clear hK K hu hb2 hS0
          refine upto_one (i := 6) (by kernel_rfl) rfl (fun K hK => ?_)
          go_simp
          refine (implAddScope_law Y _ n v1 (InV.mono (fun k hk => hk.1) _ _ HY1.out.inv) hszY hnb true Q HOKY.out HQ.out).mono ?_
          rintro e v2 ⟨q0, q1, q2, q3, rfl, hin, hend, hb⟩
          have hsv2 : v1.heap.size ≤ v2.heap.size := hb.size
          clear hend
          have HY2 := Lib.hid (HY1.out.later hb)
          have hcz : CellBox v2 lb (lo + j) n (w1.heap.size + 1) g (some ⟨lb, lo, none⟩) g1 g2 g3 := CellBox.later hc1 hb
          have hzz : v2.heap[u0.heap.size]? = some (.cells #[.int .i64 0, .string { data := #[] }, .int .i64 0, .slice none 0 0, .slice none 0 0] 27 (0, 0)) := (hb.block _ (by omega)).trans hz1
          have HIN := Lib.hid hin
          have HIY : Hid (InV (fun k => k < u0.heap.size ∧ k ≠ w4.heap.size) v2 Y (.agg #[.int .i64 Y.kind, .string Y.name, .int .i64 Y.n, .slice y0 Y.scopes.length y1, .slice y2 Y.kids.length y3])) := InV.later (fun k hk => hb.block k (by omega)) _ _ hy1
          refine hK.out _ _ (.inr ⟨HY2.out.box, hcz⟩) ?_
          clear hK K hb hin hS1 hc1 hz1 hy1
          obtain ⟨r0, r1, r2, r3, r4, t0, t1, t2, t3, t4⟩ := zeroFacts hzz
          have hS2 : (fun WS : World => FormBox WS w4.heap.size Y y0 y1 y2 y3 ∧ CellBox WS lb (lo + j) n (w1.heap.size + 1) g (some ⟨lb, lo, none⟩) g1 g2 g3) v2 := ⟨HY2.out.box, hcz⟩
          refine upto_take (i := 7) (d := some 62) (v := ?_) rfl rfl (by kernel_rfl) (by kernel_rfl) (by kernel_rfl) (by kernel_rfl) (fun _ _ _ h => h) (Or.inl ⟨by rfl, ?_⟩) hS2 ?_
          rotate_left
          · (intro wS hSw; obtain ⟨⟨_, _, _, _, _⟩, _, ⟨_, _, _, _, _⟩⟩ := hSw; go_simp; try with_reducible rfl)
          try simp only [Act.put, List.setIfInBounds_toArray, List.set_cons_zero, List.set_cons_succ]
          refine upto_take (i := 8) (d := some 70) (v := ?_) rfl rfl (by kernel_rfl) (by kernel_rfl) (by kernel_rfl) (by kernel_rfl) (fun _ _ _ h => h) (Or.inl ⟨by rfl, ?_⟩) hS2 ?_
          rotate_left
          · (intro wS hSw; obtain ⟨⟨_, _, _, _, _⟩, _, ⟨_, _, _, _, _⟩⟩ := hSw; go_simp; try with_reducible rfl)
          try simp only [Act.put, List.setIfInBounds_toArray, List.set_cons_zero, List.set_cons_succ]
          refine upto_take (i := 9) (d := some 71) (v := ?_) rfl rfl (by kernel_rfl) (by kernel_rfl) (by kernel_rfl) (by kernel_rfl) (fun _ _ _ h => h) (Or.inl ⟨by rfl, ?_⟩) hS2 ?_
          rotate_left
          · (intro wS hSw; obtain ⟨⟨_, _, _, _, _⟩, _, ⟨_, _, _, _, _⟩⟩ := hSw; go_simp; try with_reducible rfl)
          try simp only [Act.put, List.setIfInBounds_toArray, List.set_cons_zero, List.set_cons_succ]
          refine upto_one (i := 11) (by kernel_rfl) rfl (fun K hK => ?_)
          go_simp
          refine gen_world' (fun vS hu => ?_)
          have hv : vS = set5 v2 u0.heap.size 0 (.int .i64 Q.kind) (.string Q.name) (.int .i64 Q.n) (.slice q0 Q.scopes.length q1) (.slice q2 Q.kids.length q3) := by rw [hu]; simp only [set5, Nat.zero_add]
          clear hu
          have hx9 : FormBox vS u0.heap.size Q q0 q1 q2 q3 := by rw [hv]; exact set5_in v2 u0.heap.size 0 (.int .i64 Q.kind) (.string Q.name) (.int .i64 Q.n) (.slice q0 Q.scopes.length q1) (.slice q2 Q.kids.length q3) (zeroThere hzz)
          have hblk : ∀ k, k ≠ u0.heap.size → vS.heap[k]? = v2.heap[k]? := fun k hk => by rw [hv]; exact set5_block _ _ _ _ _ _ _ _ hk
          have hsS : vS.heap.size = v2.heap.size := by rw [hv]; exact set5_size _ _ _ _ _ _ _ _
          have HYS : Hid (YAt w4 vS Y y0 y1 y2 y3) := by
            have h := HY2.out
            have hb9 : vS.heap[w4.heap.size]? = v2.heap[w4.heap.size]? := hblk _ (by omega)
            refine ⟨by rw [hv]; exact set5_below h.below (b := u0.heap.size) (by omega) 0 _ _ _ _ _, ?_, fun i => (World.frozen?_of_block (a := ⟨w4.heap.size, i, none⟩) hb9).trans (h.free i), ?_⟩
            · obtain ⟨b0, b1, b2, b3, b4⟩ := h.box
              exact ⟨(World.cell?_of_block (a := ⟨w4.heap.size, 0, none⟩) hb9).trans b0, (World.cell?_of_block (a := ⟨w4.heap.size, 1, none⟩) hb9).trans b1, (World.cell?_of_block (a := ⟨w4.heap.size, 2, none⟩) hb9).trans b2, (World.cell?_of_block (a := ⟨w4.heap.size, 3, none⟩) hb9).trans b3, (World.cell?_of_block (a := ⟨w4.heap.size, 4, none⟩) hb9).trans b4⟩
            · exact InV.mono (fun k hk => by omega) _ _ (InV.later (w := v2) (fun k hk => hblk k (by omega)) _ _ HIY.out)
          have hcS : CellBox vS lb (lo + j) n (w1.heap.size + 1) g (some ⟨lb, lo, none⟩) g1 g2 g3 := CellBox.same hcz (hblk lb (by omega)) (hblk ((w1.heap.size + 1)) (by omega))
          have HQS : Hid (InV (fun k => k < vS.heap.size ∧ k ≠ w4.heap.size) vS Q (.agg #[.int .i64 Q.kind, .string Q.name, .int .i64 Q.n, .slice q0 Q.scopes.length q1, .slice q2 Q.kids.length q3])) := InV.mono (fun k hk => by omega) _ _ (InV.later (w := v2) (fun k hk => hblk k (by omega)) _ _ HIN.out)
          have hzl : u0.heap.size < vS.heap.size := hx9.lt
          clear r0 r1 r2 r3 r4 t0 t1 t2 t3 t4 hv hblk hsS
          have hS3 : (fun WS : World => FormBox WS w4.heap.size Y y0 y1 y2 y3 ∧ CellBox WS lb (lo + j) n (w1.heap.size + 1) g (some ⟨lb, lo, none⟩) g1 g2 g3) vS := ⟨HYS.out.box, hcS⟩
          refine hK.out _ _ (.inr hS3) ?_
          clear hK K hS2 hzz hcz
          refine upto_take (i := 12) (d := some 12) (v := ?_) rfl rfl (by kernel_rfl) (by kernel_rfl) (by kernel_rfl) (by kernel_rfl) (fun _ _ _ h => h) (Or.inl ⟨by rfl, ?_⟩) hS3 ?_
          rotate_left
          · (intro wS hSw; obtain ⟨⟨_, _, _, _, _⟩, _, ⟨_, _, _, _, _⟩⟩ := hSw; go_simp; try with_reducible rfl)
          try simp only [Act.put, List.setIfInBounds_toArray, List.set_cons_zero, List.set_cons_succ]
          clear hS3 hcS
          refine upto_done (by kernel_rfl) ?_ _
          obtain ⟨c0, c1, c2, c3, c4⟩ := HYS.out.box
          obtain ⟨z0, z1, z2, z3, z4⟩ := hx9
          have g0 := HYS.out.free 0
          have g1 := HYS.out.free 1
          have g2 := HYS.out.free 2
          have g3 := HYS.out.free 3
          have g4 := HYS.out.free 4
          have hset := HYS.out.set (Q := Q) (q0 := q0) (q1 := q1) (q2 := q2) (q3 := q3) HQS.out
          unfold set5 at hset
          simp only [Nat.zero_add] at hset
          have HSET := Lib.hid hset
          clear hset
          go_wp2_with fail
          go_roundw
          case rel => exact ⟨j + 1, Q, q0, q1, q2, q3, by go_num, by omega, HNX.out, HSET.out⟩
          case measure => simp [intOf]; omega
      · have hjl : j = g.scopes.length := by omega
        subst hjl
        have hnb : ¬ ((g.scopes.length : Int) < (g.scopes.length : Int)) := by omega
        have hYZ : Y = R := hY.trans HALL.out
        subst hYZ
        have Byy : Hid (FormBox wr w4.heap.size Y y0 y1 y2 y3) := hy.box
        have Iyy : Hid (InV (· < wr.heap.size) wr Y (.agg #[.int .i64 Y.kind, .string Y.name, .int .i64 Y.n, .slice y0 Y.scopes.length y1, .slice y2 Y.kids.length y3])) := InV.mono (fun k hk => hk.1) _ _ hy.inv
        clear hy hY HY HYE HALL
        by_cases hNL0 : NL = 0
        · subst hNL0
          obtain ⟨ld0, ld1, ld2, ld3, ld4⟩ := Bx_3.out
          have hx0 : w2.heap.size < wr.heap.size := Bx_3.out.lt
          obtain ⟨ld5, ld6, ld7, ld8, ld9⟩ := Byy.out
          have hx1 : w4.heap.size < wr.heap.size := Byy.out.lt
          obtain ⟨ld10, ld11, ld12, ld13, ld14⟩ := Bf_5.out
          have hx2 : w1.heap.size < wr.heap.size := Bf_5.out.lt
          obtain ⟨ld15, ld16, ld17, ld18, ld19⟩ := Bg_4.out
          have hx3 : (w1.heap.size + 1) < wr.heap.size := Bg_4.out.lt
          go_wp2_with fail
          clear ld0 ld1 ld2 ld3 ld4 ld5 ld6 ld7 ld8 ld9 ld10 ld11 ld12 ld13 ld14 ld15 ld16 ld17 ld18 ld19 hx0 hx1 hx2 hx3
          refine upto_begin (fun WS : World => FormBox WS w2.heap.size Y x0 x1 x2 x3 ∧ FormBox WS w4.heap.size Y y0 y1 y2 y3 ∧ FormBox WS w1.heap.size f f0 f1 f2 f3 ∧ FormBox WS (w1.heap.size + 1) g g0 g1 g2 g3) 17 (by kernel_rfl) ?_
          refine gen_upto (fun w5 hu => ?_)
          have hb0 : Below wr.heap.size wr w5 := by rw [hu]; exact (Below.refl _ _).drew
          have hb := hb0
          have hs5 : wr.heap.size ≤ w5.heap.size := hb.size
          have HL_5 := Lib.hid (HL_4.out.trans (hb.mono (by omega)))
          have If_5 := Lib.hid (inv_up If_4.out hb)
          have Ig_5 := Lib.hid (inv_up Ig_4.out hb)
          have Bf_6 := Lib.hid (FormBox.later Bf_5.out hb)
          have Bg_5 := Lib.hid (FormBox.later Bg_4.out hb)
          have Ix_4 := Lib.hid (inv_up Ix_3.out hb)
          have Ex_4 := Lib.hid (EndlessAt.later Ex_3.out hb)
          have Bx_4 := Lib.hid (FormBox.later Bx_3.out hb)
          have Iy_3 := Lib.hid (inv_up Iy_2.out hb)
          have By_3 := Lib.hid (FormBox.later By_2.out hb)
          have RM_2 := Lib.hid (irow_up RM_1.out hb)
          have Byy_1 := Lib.hid (FormBox.later Byy.out hb)
          have Iyy_1 := Lib.hid (inv_up Iyy.out hb)
          clear HL_4 If_4 Ig_4 Bf_5 Bg_4 Ix_3 Ex_3 Bx_3 Iy_2 By_2 RM_1 Byy Iyy
          clear hu hb hb0 
          have hS1 : (fun WS : World => FormBox WS w2.heap.size Y x0 x1 x2 x3 ∧ FormBox WS w4.heap.size Y y0 y1 y2 y3 ∧ FormBox WS w1.heap.size f f0 f1 f2 f3 ∧ FormBox WS (w1.heap.size + 1) g g0 g1 g2 g3) w5 := ⟨Bx_4.out, Byy_1.out, Bf_6.out, Bg_5.out⟩
          refine upto_take (i := 0) (d := some 75) (v := ?_) rfl rfl (by kernel_rfl) (by kernel_rfl) (by kernel_rfl) (by kernel_rfl) (fun _ _ _ h => h) (Or.inl ⟨by rfl, ?_⟩) hS1 ?_
          rotate_left
          · (intro wS hSw; obtain ⟨⟨_, _, _, _, _⟩, ⟨_, _, _, _, _⟩, ⟨_, _, _, _, _⟩, ⟨_, _, _, _, _⟩⟩ := hSw; go_simp; try with_reducible rfl)
          try simp only [Act.put, List.setIfInBounds_toArray, List.set_cons_zero, List.set_cons_succ]
          refine upto_take (i := 1) (d := some 76) (v := ?_) rfl rfl (by kernel_rfl) (by kernel_rfl) (by kernel_rfl) (by kernel_rfl) (fun _ _ _ h => h) (Or.inl ⟨by rfl, ?_⟩) hS1 ?_
          rotate_left
          · (intro wS hSw; obtain ⟨⟨_, _, _, _, _⟩, ⟨_, _, _, _, _⟩, ⟨_, _, _, _, _⟩, ⟨_, _, _, _, _⟩⟩ := hSw; go_simp; try with_reducible rfl)
          try simp only [Act.put, List.setIfInBounds_toArray, List.set_cons_zero, List.set_cons_succ]
          refine upto_one (i := 2) (by kernel_rfl) rfl (fun K hK => ?_)
          go_simp
          refine (implSame_law Y Y _ _ w5 Ix_4.out Iyy_1.out HRC.out Ex_4.out true (sameB_refl Y)).mono ?_
          rintro e w6 ⟨rfl, hb⟩
          have hs6 : w5.heap.size ≤ w6.heap.size := hb.size
          clear hS1
          have HL_6 := Lib.hid (HL_5.out.trans (hb.mono (by omega)))
          have If_6 := Lib.hid (inv_up If_5.out hb)
          have Ig_6 := Lib.hid (inv_up Ig_5.out hb)
          have Bf_7 := Lib.hid (FormBox.later Bf_6.out hb)
          have Bg_6 := Lib.hid (FormBox.later Bg_5.out hb)
          have Ix_5 := Lib.hid (inv_up Ix_4.out hb)
          have Ex_5 := Lib.hid (EndlessAt.later Ex_4.out hb)
          have Bx_5 := Lib.hid (FormBox.later Bx_4.out hb)
          have Iy_4 := Lib.hid (inv_up Iy_3.out hb)
          have By_4 := Lib.hid (FormBox.later By_3.out hb)
          have RM_3 := Lib.hid (irow_up RM_2.out hb)
          have Byy_2 := Lib.hid (FormBox.later Byy_1.out hb)
          have Iyy_2 := Lib.hid (inv_up Iyy_1.out hb)
          clear HL_5 If_5 Ig_5 Bf_6 Bg_5 Ix_4 Ex_4 Bx_4 Iy_3 By_3 RM_2 Byy_1 Iyy_1
          have hS2 : (fun WS : World => FormBox WS w2.heap.size Y x0 x1 x2 x3 ∧ FormBox WS w4.heap.size Y y0 y1 y2 y3 ∧ FormBox WS w1.heap.size f f0 f1 f2 f3 ∧ FormBox WS (w1.heap.size + 1) g g0 g1 g2 g3) w6 := ⟨Bx_5.out, Byy_2.out, Bf_7.out, Bg_6.out⟩
          refine hK.out _ _ (.inr hS2) ?_
          clear hK K hb
          refine upto_take (i := 3) (d := some 78) (v := ?_) rfl rfl (by kernel_rfl) (by kernel_rfl) (by kernel_rfl) (by kernel_rfl) (fun _ _ _ h => h) (Or.inl ⟨by rfl, ?_⟩) hS2 ?_
          rotate_left
          · (intro wS hSw; obtain ⟨⟨_, _, _, _, _⟩, ⟨_, _, _, _, _⟩, ⟨_, _, _, _, _⟩, ⟨_, _, _, _, _⟩⟩ := hSw; go_simp; try with_reducible rfl)
          try simp only [Act.put, List.setIfInBounds_toArray, List.set_cons_zero, List.set_cons_succ]
          refine upto_take (i := 4) (d := some 79) (v := ?_) rfl rfl (by kernel_rfl) (by kernel_rfl) (by kernel_rfl) (by kernel_rfl) (fun _ _ _ h => h) (Or.inl ⟨by rfl, ?_⟩) hS2 ?_
          rotate_left
          · (intro wS hSw; obtain ⟨⟨_, _, _, _, _⟩, ⟨_, _, _, _, _⟩, ⟨_, _, _, _, _⟩, ⟨_, _, _, _, _⟩⟩ := hSw; go_simp; try with_reducible rfl)
          try simp only [Act.put, List.setIfInBounds_toArray, List.set_cons_zero, List.set_cons_succ]
          refine upto_one (i := 5) (by kernel_rfl) rfl (fun K hK => ?_)
          go_simp
          refine (implNamesOf_len f _ _ _ _ w6 If_6.out hszf (valid_end HVF.out If_6.out) 0 HNL.out).mono ?_
          rintro e w7 ⟨na, nc, rfl, hb⟩
          have hs7 : w6.heap.size ≤ w7.heap.size := hb.size
          clear hS2
          have HL_7 := Lib.hid (HL_6.out.trans (hb.mono (by omega)))
          have If_7 := Lib.hid (inv_up If_6.out hb)
          have Ig_7 := Lib.hid (inv_up Ig_6.out hb)
          have Bf_8 := Lib.hid (FormBox.later Bf_7.out hb)
          have Bg_7 := Lib.hid (FormBox.later Bg_6.out hb)
          have Ix_6 := Lib.hid (inv_up Ix_5.out hb)
          have Ex_6 := Lib.hid (EndlessAt.later Ex_5.out hb)
          have Bx_6 := Lib.hid (FormBox.later Bx_5.out hb)
          have Iy_5 := Lib.hid (inv_up Iy_4.out hb)
          have By_5 := Lib.hid (FormBox.later By_4.out hb)
          have RM_4 := Lib.hid (irow_up RM_3.out hb)
          have Byy_3 := Lib.hid (FormBox.later Byy_2.out hb)
          have Iyy_3 := Lib.hid (inv_up Iyy_2.out hb)
          clear HL_6 If_6 Ig_6 Bf_7 Bg_6 Ix_5 Ex_5 Bx_5 Iy_4 By_4 RM_3 Byy_2 Iyy_2
          have hS3 : (fun WS : World => FormBox WS w2.heap.size Y x0 x1 x2 x3 ∧ FormBox WS w4.heap.size Y y0 y1 y2 y3 ∧ FormBox WS w1.heap.size f f0 f1 f2 f3 ∧ FormBox WS (w1.heap.size + 1) g g0 g1 g2 g3) w7 := ⟨Bx_6.out, Byy_3.out, Bf_8.out, Bg_7.out⟩
          refine hK.out _ _ (.inr hS3) ?_
          clear hK K hb
          refine upto_take (i := 6) (d := some 81) (v := ?_) rfl rfl (by kernel_rfl) (by kernel_rfl) (by kernel_rfl) (by kernel_rfl) (fun _ _ _ h => h) (Or.inl ⟨by rfl, ?_⟩) hS3 ?_
          rotate_left
          · (intro wS hSw; obtain ⟨⟨_, _, _, _, _⟩, ⟨_, _, _, _, _⟩, ⟨_, _, _, _, _⟩, ⟨_, _, _, _, _⟩⟩ := hSw; go_simp; try with_reducible rfl)
          try simp only [Act.put, List.setIfInBounds_toArray, List.set_cons_zero, List.set_cons_succ]
          refine upto_take (i := 7) (d := some 82) (v := ?_) rfl rfl (by kernel_rfl) (by kernel_rfl) (by kernel_rfl) (by kernel_rfl) (fun _ _ _ h => h) (Or.inl ⟨by rfl, ?_⟩) hS3 ?_
          rotate_left
          · (intro wS hSw; obtain ⟨⟨_, _, _, _, _⟩, ⟨_, _, _, _, _⟩, ⟨_, _, _, _, _⟩, ⟨_, _, _, _, _⟩⟩ := hSw; go_simp; try with_reducible rfl)
          try simp only [Act.put, List.setIfInBounds_toArray, List.set_cons_zero, List.set_cons_succ]
          refine upto_take (i := 8) (d := some 83) (v := ?_) rfl rfl (by kernel_rfl) (by kernel_rfl) (by kernel_rfl) (by kernel_rfl) (fun _ _ _ h => h) (Or.inl ⟨by rfl, ?_⟩) hS3 ?_
          rotate_left
          · (intro wS hSw; obtain ⟨⟨_, _, _, _, _⟩, ⟨_, _, _, _, _⟩, ⟨_, _, _, _, _⟩, ⟨_, _, _, _, _⟩⟩ := hSw; go_simp; try with_reducible rfl)
          try simp only [Act.put, List.setIfInBounds_toArray, List.set_cons_zero, List.set_cons_succ]
          refine upto_take (i := 9) (d := some 84) (v := undef) rfl rfl (by kernel_rfl) (by kernel_rfl) (by kernel_rfl) (by kernel_rfl) (fun _ _ _ h => h) (Or.inr ⟨by rfl, rfl⟩) hS3 ?_
          try simp only [Act.put, List.setIfInBounds_toArray, List.set_cons_zero, List.set_cons_succ]
          refine upto_take (i := 11) (d := some 86) (v := undef) rfl rfl (by kernel_rfl) (by kernel_rfl) (by kernel_rfl) (by kernel_rfl) (fun _ _ _ h => h) (Or.inr ⟨by rfl, rfl⟩) hS3 ?_
          try simp only [Act.put, List.setIfInBounds_toArray, List.set_cons_zero, List.set_cons_succ]
          refine upto_take (i := 10) (d := some 85) (v := undef) rfl rfl (by kernel_rfl) (by kernel_rfl) (by kernel_rfl) (by kernel_rfl) (fun _ _ _ h => h) (Or.inr ⟨by rfl, rfl⟩) hS3 ?_
          try simp only [Act.put, List.setIfInBounds_toArray, List.set_cons_zero, List.set_cons_succ]
          refine upto_take (i := 12) (d := some 87) (v := undef) rfl rfl (by kernel_rfl) (by kernel_rfl) (by kernel_rfl) (by kernel_rfl) (fun _ _ _ h => h) (Or.inr ⟨by rfl, rfl⟩) hS3 ?_
          try simp only [Act.put, List.setIfInBounds_toArray, List.set_cons_zero, List.set_cons_succ]
          refine upto_take (i := 13) (d := some 88) (v := undef) rfl rfl (by kernel_rfl) (by kernel_rfl) (by kernel_rfl) (by kernel_rfl) (fun _ _ _ h => h) (Or.inr ⟨by rfl, rfl⟩) hS3 ?_
          try simp only [Act.put, List.setIfInBounds_toArray, List.set_cons_zero, List.set_cons_succ]
          refine upto_take (i := 14) (d := some 89) (v := ?_) rfl rfl (by kernel_rfl) (by kernel_rfl) (by kernel_rfl) (by kernel_rfl) (fun _ _ _ h => h) (Or.inl ⟨by rfl, ?_⟩) hS3 ?_
          rotate_left
          · (intro wS hSw; obtain ⟨⟨_, _, _, _, _⟩, ⟨_, _, _, _, _⟩, ⟨_, _, _, _, _⟩, ⟨_, _, _, _, _⟩⟩ := hSw; go_simp; try with_reducible rfl)
          try simp only [Act.put, List.setIfInBounds_toArray, List.set_cons_zero, List.set_cons_succ]
          refine upto_take (i := 15) (d := some 90) (v := ?_) rfl rfl (by kernel_rfl) (by kernel_rfl) (by kernel_rfl) (by kernel_rfl) (fun _ _ _ h => h) (Or.inl ⟨by rfl, ?_⟩) hS3 ?_
          rotate_left
          · (intro wS hSw; obtain ⟨⟨_, _, _, _, _⟩, ⟨_, _, _, _, _⟩, ⟨_, _, _, _, _⟩, ⟨_, _, _, _, _⟩⟩ := hSw; go_simp; try with_reducible rfl)
          try simp only [Act.put, List.setIfInBounds_toArray, List.set_cons_zero, List.set_cons_succ]
          refine upto_take (i := 16) (d := some 2) (v := ?_) rfl rfl (by kernel_rfl) (by kernel_rfl) (by kernel_rfl) (by kernel_rfl) (fun _ _ _ h => h) (Or.inl ⟨by rfl, ?_⟩) hS3 ?_
          rotate_left
          · (intro wS hSw; obtain ⟨⟨_, _, _, _, _⟩, ⟨_, _, _, _, _⟩, ⟨_, _, _, _, _⟩, ⟨_, _, _, _, _⟩⟩ := hSw; go_simp; try with_reducible rfl)
          try simp only [Act.put, List.setIfInBounds_toArray, List.set_cons_zero, List.set_cons_succ]
          clear hS3
          refine upto_done (by kernel_rfl) ?_ _
          go_wp2_with fail
          go_ret
          exact ⟨rfl, HL_7.out⟩
        · have hNLb : ((NL : Int) == 0) = false := by rw [beq_eq_false_iff_ne]; omega
          have hNLn : NL ≠ 0 := hNL0
          clear hNL0
          obtain ⟨ld0, ld1, ld2, ld3, ld4⟩ := Bx_3.out
          have hx0 : w2.heap.size < wr.heap.size := Bx_3.out.lt
          obtain ⟨ld5, ld6, ld7, ld8, ld9⟩ := Byy.out
          have hx1 : w4.heap.size < wr.heap.size := Byy.out.lt
          obtain ⟨ld10, ld11, ld12, ld13, ld14⟩ := Bf_5.out
          have hx2 : w1.heap.size < wr.heap.size := Bf_5.out.lt
          obtain ⟨ld15, ld16, ld17, ld18, ld19⟩ := Bg_4.out
          have hx3 : (w1.heap.size + 1) < wr.heap.size := Bg_4.out.lt
          go_wp2_with fail
          clear ld0 ld1 ld2 ld3 ld4 ld5 ld6 ld7 ld8 ld9 ld10 ld11 ld12 ld13 ld14 ld15 ld16 ld17 ld18 ld19 hx0 hx1 hx2 hx3
          refine upto_begin (fun WS : World => FormBox WS w2.heap.size Y x0 x1 x2 x3 ∧ FormBox WS w4.heap.size Y y0 y1 y2 y3 ∧ FormBox WS w1.heap.size f f0 f1 f2 f3 ∧ FormBox WS (w1.heap.size + 1) g g0 g1 g2 g3) 17 (by kernel_rfl) ?_
          refine gen_upto (fun w5 hu => ?_)
          have hb0 : Below wr.heap.size wr w5 := by rw [hu]; exact (Below.refl _ _).drew
          have hb := hb0
          have hs5 : wr.heap.size ≤ w5.heap.size := hb.size
          have HL_5 := Lib.hid (HL_4.out.trans (hb.mono (by omega)))
          have If_5 := Lib.hid (inv_up If_4.out hb)
          have Ig_5 := Lib.hid (inv_up Ig_4.out hb)
          have Bf_6 := Lib.hid (FormBox.later Bf_5.out hb)
          have Bg_5 := Lib.hid (FormBox.later Bg_4.out hb)
          have Ix_4 := Lib.hid (inv_up Ix_3.out hb)
          have Ex_4 := Lib.hid (EndlessAt.later Ex_3.out hb)
          have Bx_4 := Lib.hid (FormBox.later Bx_3.out hb)
          have Iy_3 := Lib.hid (inv_up Iy_2.out hb)
          have By_3 := Lib.hid (FormBox.later By_2.out hb)
          have RM_2 := Lib.hid (irow_up RM_1.out hb)
          have Byy_1 := Lib.hid (FormBox.later Byy.out hb)
          have Iyy_1 := Lib.hid (inv_up Iyy.out hb)
          clear HL_4 If_4 Ig_4 Bf_5 Bg_4 Ix_3 Ex_3 Bx_3 Iy_2 By_2 RM_1 Byy Iyy
          clear hu hb hb0 
          have hS1 : (fun WS : World => FormBox WS w2.heap.size Y x0 x1 x2 x3 ∧ FormBox WS w4.heap.size Y y0 y1 y2 y3 ∧ FormBox WS w1.heap.size f f0 f1 f2 f3 ∧ FormBox WS (w1.heap.size + 1) g g0 g1 g2 g3) w5 := ⟨Bx_4.out, Byy_1.out, Bf_6.out, Bg_5.out⟩
          refine upto_take (i := 0) (d := some 75) (v := ?_) rfl rfl (by kernel_rfl) (by kernel_rfl) (by kernel_rfl) (by kernel_rfl) (fun _ _ _ h => h) (Or.inl ⟨by rfl, ?_⟩) hS1 ?_
          rotate_left
          · (intro wS hSw; obtain ⟨⟨_, _, _, _, _⟩, ⟨_, _, _, _, _⟩, ⟨_, _, _, _, _⟩, ⟨_, _, _, _, _⟩⟩ := hSw; go_simp; try with_reducible rfl)
          try simp only [Act.put, List.setIfInBounds_toArray, List.set_cons_zero, List.set_cons_succ]
          refine upto_take (i := 1) (d := some 76) (v := ?_) rfl rfl (by kernel_rfl) (by kernel_rfl) (by kernel_rfl) (by kernel_rfl) (fun _ _ _ h => h) (Or.inl ⟨by rfl, ?_⟩) hS1 ?_
          rotate_left
          · (intro wS hSw; obtain ⟨⟨_, _, _, _, _⟩, ⟨_, _, _, _, _⟩, ⟨_, _, _, _, _⟩, ⟨_, _, _, _, _⟩⟩ := hSw; go_simp; try with_reducible rfl)
          try simp only [Act.put, List.setIfInBounds_toArray, List.set_cons_zero, List.set_cons_succ]
          refine upto_one (i := 2) (by kernel_rfl) rfl (fun K hK => ?_)
          go_simp
          refine (implSame_law Y Y _ _ w5 Ix_4.out Iyy_1.out HRC.out Ex_4.out true (sameB_refl Y)).mono ?_
          rintro e w6 ⟨rfl, hb⟩
          have hs6 : w5.heap.size ≤ w6.heap.size := hb.size
          clear hS1
          have HL_6 := Lib.hid (HL_5.out.trans (hb.mono (by omega)))
          have If_6 := Lib.hid (inv_up If_5.out hb)
          have Ig_6 := Lib.hid (inv_up Ig_5.out hb)
          have Bf_7 := Lib.hid (FormBox.later Bf_6.out hb)
          have Bg_6 := Lib.hid (FormBox.later Bg_5.out hb)
          have Ix_5 := Lib.hid (inv_up Ix_4.out hb)
          have Ex_5 := Lib.hid (EndlessAt.later Ex_4.out hb)
          have Bx_5 := Lib.hid (FormBox.later Bx_4.out hb)
          have Iy_4 := Lib.hid (inv_up Iy_3.out hb)
          have By_4 := Lib.hid (FormBox.later By_3.out hb)
          have RM_3 := Lib.hid (irow_up RM_2.out hb)
          have Byy_2 := Lib.hid (FormBox.later Byy_1.out hb)
          have Iyy_2 := Lib.hid (inv_up Iyy_1.out hb)
          clear HL_5 If_5 Ig_5 Bf_6 Bg_5 Ix_4 Ex_4 Bx_4 Iy_3 By_3 RM_2 Byy_1 Iyy_1
          have hS2 : (fun WS : World => FormBox WS w2.heap.size Y x0 x1 x2 x3 ∧ FormBox WS w4.heap.size Y y0 y1 y2 y3 ∧ FormBox WS w1.heap.size f f0 f1 f2 f3 ∧ FormBox WS (w1.heap.size + 1) g g0 g1 g2 g3) w6 := ⟨Bx_5.out, Byy_2.out, Bf_7.out, Bg_6.out⟩
          refine hK.out _ _ (.inr hS2) ?_
          clear hK K hb
          refine upto_take (i := 3) (d := some 78) (v := ?_) rfl rfl (by kernel_rfl) (by kernel_rfl) (by kernel_rfl) (by kernel_rfl) (fun _ _ _ h => h) (Or.inl ⟨by rfl, ?_⟩) hS2 ?_
          rotate_left
          · (intro wS hSw; obtain ⟨⟨_, _, _, _, _⟩, ⟨_, _, _, _, _⟩, ⟨_, _, _, _, _⟩, ⟨_, _, _, _, _⟩⟩ := hSw; go_simp; try with_reducible rfl)
          try simp only [Act.put, List.setIfInBounds_toArray, List.set_cons_zero, List.set_cons_succ]
          refine upto_take (i := 4) (d := some 79) (v := ?_) rfl rfl (by kernel_rfl) (by kernel_rfl) (by kernel_rfl) (by kernel_rfl) (fun _ _ _ h => h) (Or.inl ⟨by rfl, ?_⟩) hS2 ?_
          rotate_left
          · (intro wS hSw; obtain ⟨⟨_, _, _, _, _⟩, ⟨_, _, _, _, _⟩, ⟨_, _, _, _, _⟩, ⟨_, _, _, _, _⟩⟩ := hSw; go_simp; try with_reducible rfl)
          try simp only [Act.put, List.setIfInBounds_toArray, List.set_cons_zero, List.set_cons_succ]
          refine upto_one (i := 5) (by kernel_rfl) rfl (fun K hK => ?_)
          go_simp
          refine (implNamesOf_len f _ _ _ _ w6 If_6.out hszf (valid_end HVF.out If_6.out) NL HNL.out).mono ?_
          rintro e w7 ⟨na, nc, rfl, hb⟩
          have hs7 : w6.heap.size ≤ w7.heap.size := hb.size
          clear hS2
          have HL_7 := Lib.hid (HL_6.out.trans (hb.mono (by omega)))
          have If_7 := Lib.hid (inv_up If_6.out hb)
          have Ig_7 := Lib.hid (inv_up Ig_6.out hb)
          have Bf_8 := Lib.hid (FormBox.later Bf_7.out hb)
          have Bg_7 := Lib.hid (FormBox.later Bg_6.out hb)
          have Ix_6 := Lib.hid (inv_up Ix_5.out hb)
          have Ex_6 := Lib.hid (EndlessAt.later Ex_5.out hb)
          have Bx_6 := Lib.hid (FormBox.later Bx_5.out hb)
          have Iy_5 := Lib.hid (inv_up Iy_4.out hb)
          have By_5 := Lib.hid (FormBox.later By_4.out hb)
          have RM_4 := Lib.hid (irow_up RM_3.out hb)
          have Byy_3 := Lib.hid (FormBox.later Byy_2.out hb)
          have Iyy_3 := Lib.hid (inv_up Iyy_2.out hb)
          clear HL_6 If_6 Ig_6 Bf_7 Bg_6 Ix_5 Ex_5 Bx_5 Iy_4 By_4 RM_3 Byy_2 Iyy_2
          have hS3 : (fun WS : World => FormBox WS w2.heap.size Y x0 x1 x2 x3 ∧ FormBox WS w4.heap.size Y y0 y1 y2 y3 ∧ FormBox WS w1.heap.size f f0 f1 f2 f3 ∧ FormBox WS (w1.heap.size + 1) g g0 g1 g2 g3) w7 := ⟨Bx_6.out, Byy_3.out, Bf_8.out, Bg_7.out⟩
          refine hK.out _ _ (.inr hS3) ?_
          clear hK K hb
          refine upto_take (i := 6) (d := some 81) (v := ?_) rfl rfl (by kernel_rfl) (by kernel_rfl) (by kernel_rfl) (by kernel_rfl) (fun _ _ _ h => h) (Or.inl ⟨by rfl, ?_⟩) hS3 ?_
          rotate_left
          · (intro wS hSw; obtain ⟨⟨_, _, _, _, _⟩, ⟨_, _, _, _, _⟩, ⟨_, _, _, _, _⟩, ⟨_, _, _, _, _⟩⟩ := hSw; go_simp; try with_reducible rfl)
          try simp only [Act.put, List.setIfInBounds_toArray, List.set_cons_zero, List.set_cons_succ]
          refine upto_take (i := 7) (d := some 82) (v := ?_) rfl rfl (by kernel_rfl) (by kernel_rfl) (by kernel_rfl) (by kernel_rfl) (fun _ _ _ h => h) (Or.inl ⟨by rfl, ?_⟩) hS3 ?_
          rotate_left
          · (intro wS hSw; obtain ⟨⟨_, _, _, _, _⟩, ⟨_, _, _, _, _⟩, ⟨_, _, _, _, _⟩, ⟨_, _, _, _, _⟩⟩ := hSw; go_simp; try with_reducible rfl)
          try simp only [Act.put, List.setIfInBounds_toArray, List.set_cons_zero, List.set_cons_succ]
          refine upto_take (i := 8) (d := some 83) (v := ?_) rfl rfl (by kernel_rfl) (by kernel_rfl) (by kernel_rfl) (by kernel_rfl) (fun _ _ _ h => h) (Or.inl ⟨by rfl, ?_⟩) hS3 ?_
          rotate_left
          · (intro wS hSw; obtain ⟨⟨_, _, _, _, _⟩, ⟨_, _, _, _, _⟩, ⟨_, _, _, _, _⟩, ⟨_, _, _, _, _⟩⟩ := hSw; go_simp; try with_reducible rfl)
          try simp only [Act.put, List.setIfInBounds_toArray, List.set_cons_zero, List.set_cons_succ]
          refine upto_take (i := 9) (d := some 84) (v := ?_) rfl rfl (by kernel_rfl) (by kernel_rfl) (by kernel_rfl) (by kernel_rfl) (fun _ _ _ h => h) (Or.inl ⟨by rfl, ?_⟩) hS3 ?_
          rotate_left
          · (intro wS hSw; obtain ⟨⟨_, _, _, _, _⟩, ⟨_, _, _, _, _⟩, ⟨_, _, _, _, _⟩, ⟨_, _, _, _, _⟩⟩ := hSw; go_simp; try with_reducible rfl)
          try simp only [Act.put, List.setIfInBounds_toArray, List.set_cons_zero, List.set_cons_succ]
          refine upto_take (i := 10) (d := some 85) (v := ?_) rfl rfl (by kernel_rfl) (by kernel_rfl) (by kernel_rfl) (by kernel_rfl) (fun _ _ _ h => h) (Or.inl ⟨by rfl, ?_⟩) hS3 ?_
          rotate_left
          · (intro wS hSw; obtain ⟨⟨_, _, _, _, _⟩, ⟨_, _, _, _, _⟩, ⟨_, _, _, _, _⟩, ⟨_, _, _, _, _⟩⟩ := hSw; go_simp; try with_reducible rfl)
          try simp only [Act.put, List.setIfInBounds_toArray, List.set_cons_zero, List.set_cons_succ]
          refine upto_take (i := 11) (d := some 86) (v := ?_) rfl rfl (by kernel_rfl) (by kernel_rfl) (by kernel_rfl) (by kernel_rfl) (fun _ _ _ h => h) (Or.inl ⟨by rfl, ?_⟩) hS3 ?_
          rotate_left
          · (intro wS hSw; obtain ⟨⟨_, _, _, _, _⟩, ⟨_, _, _, _, _⟩, ⟨_, _, _, _, _⟩, ⟨_, _, _, _, _⟩⟩ := hSw; go_simp; try with_reducible rfl)
          try simp only [Act.put, List.setIfInBounds_toArray, List.set_cons_zero, List.set_cons_succ]
          refine upto_one (i := 12) (by kernel_rfl) rfl (fun K hK => ?_)
          go_simp
          refine (implScopesOf_law Y _ _ _ _ w7 Ix_6.out hszR Ex_6.out L HL0.out).mono ?_
          rintro e w8 ⟨la, lc, rfl, hrow, hb⟩
          have hs8 : w7.heap.size ≤ w8.heap.size := hb.size
          clear hS3
          have HL_8 := Lib.hid (HL_7.out.trans (hb.mono (by omega)))
          have If_8 := Lib.hid (inv_up If_7.out hb)
          have Ig_8 := Lib.hid (inv_up Ig_7.out hb)
          have Bf_9 := Lib.hid (FormBox.later Bf_8.out hb)
          have Bg_8 := Lib.hid (FormBox.later Bg_7.out hb)
          have Ix_7 := Lib.hid (inv_up Ix_6.out hb)
          have Ex_7 := Lib.hid (EndlessAt.later Ex_6.out hb)
          have Bx_7 := Lib.hid (FormBox.later Bx_6.out hb)
          have Iy_6 := Lib.hid (inv_up Iy_5.out hb)
          have By_6 := Lib.hid (FormBox.later By_5.out hb)
          have RM_5 := Lib.hid (irow_up RM_4.out hb)
          have Byy_4 := Lib.hid (FormBox.later Byy_3.out hb)
          have Iyy_4 := Lib.hid (inv_up Iyy_3.out hb)
          clear HL_7 If_7 Ig_7 Bf_8 Bg_7 Ix_6 Ex_6 Bx_6 Iy_5 By_5 RM_4 Byy_3 Iyy_3
          have hS4 : (fun WS : World => FormBox WS w2.heap.size Y x0 x1 x2 x3 ∧ FormBox WS w4.heap.size Y y0 y1 y2 y3 ∧ FormBox WS w1.heap.size f f0 f1 f2 f3 ∧ FormBox WS (w1.heap.size + 1) g g0 g1 g2 g3) w8 := ⟨Bx_7.out, Byy_4.out, Bf_9.out, Bg_8.out⟩
          have RL := Lib.hid hrow
          clear hrow
          refine hK.out _ _ (.inr hS4) ?_
          clear hK K hb
          refine upto_one (i := 13) (by kernel_rfl) rfl (fun K hK => ?_)
          go_simp
          refine (implWithin_law g.scopes L _ _ _ _ w8 RM_5.out RL.out hml HLL.out true (HTH.out hNLn)).mono ?_
          rintro e w9 ⟨rfl, hb⟩
          have hs9 : w8.heap.size ≤ w9.heap.size := hb.size
          clear hS4
          have HL_9 := Lib.hid (HL_8.out.trans (hb.mono (by omega)))
          have If_9 := Lib.hid (inv_up If_8.out hb)
          have Ig_9 := Lib.hid (inv_up Ig_8.out hb)
          have Bf_10 := Lib.hid (FormBox.later Bf_9.out hb)
          have Bg_9 := Lib.hid (FormBox.later Bg_8.out hb)
          have Ix_8 := Lib.hid (inv_up Ix_7.out hb)
          have Ex_8 := Lib.hid (EndlessAt.later Ex_7.out hb)
          have Bx_8 := Lib.hid (FormBox.later Bx_7.out hb)
          have Iy_7 := Lib.hid (inv_up Iy_6.out hb)
          have By_7 := Lib.hid (FormBox.later By_6.out hb)
          have RM_6 := Lib.hid (irow_up RM_5.out hb)
          have Byy_5 := Lib.hid (FormBox.later Byy_4.out hb)
          have Iyy_5 := Lib.hid (inv_up Iyy_4.out hb)
          have RL_1 := Lib.hid (irow_up RL.out hb)
          clear HL_8 If_8 Ig_8 Bf_9 Bg_8 Ix_7 Ex_7 Bx_7 Iy_6 By_6 RM_5 Byy_4 Iyy_4 RL
          have hS5 : (fun WS : World => FormBox WS w2.heap.size Y x0 x1 x2 x3 ∧ FormBox WS w4.heap.size Y y0 y1 y2 y3 ∧ FormBox WS w1.heap.size f f0 f1 f2 f3 ∧ FormBox WS (w1.heap.size + 1) g g0 g1 g2 g3) w9 := ⟨Bx_8.out, Byy_5.out, Bf_10.out, Bg_9.out⟩
          refine hK.out _ _ (.inr hS5) ?_
          clear hK K hb
          refine upto_take (i := 14) (d := some 89) (v := ?_) rfl rfl (by kernel_rfl) (by kernel_rfl) (by kernel_rfl) (by kernel_rfl) (fun _ _ _ h => h) (Or.inl ⟨by rfl, ?_⟩) hS5 ?_
          rotate_left
          · (intro wS hSw; obtain ⟨⟨_, _, _, _, _⟩, ⟨_, _, _, _, _⟩, ⟨_, _, _, _, _⟩, ⟨_, _, _, _, _⟩⟩ := hSw; go_simp; try with_reducible rfl)
          try simp only [Act.put, List.setIfInBounds_toArray, List.set_cons_zero, List.set_cons_succ]
          refine upto_take (i := 15) (d := some 90) (v := ?_) rfl rfl (by kernel_rfl) (by kernel_rfl) (by kernel_rfl) (by kernel_rfl) (fun _ _ _ h => h) (Or.inl ⟨by rfl, ?_⟩) hS5 ?_
          rotate_left
          · (intro wS hSw; obtain ⟨⟨_, _, _, _, _⟩, ⟨_, _, _, _, _⟩, ⟨_, _, _, _, _⟩, ⟨_, _, _, _, _⟩⟩ := hSw; go_simp; try with_reducible rfl)
          try simp only [Act.put, List.setIfInBounds_toArray, List.set_cons_zero, List.set_cons_succ]
          refine upto_take (i := 16) (d := some 2) (v := ?_) rfl rfl (by kernel_rfl) (by kernel_rfl) (by kernel_rfl) (by kernel_rfl) (fun _ _ _ h => h) (Or.inl ⟨by rfl, ?_⟩) hS5 ?_
          rotate_left
          · (intro wS hSw; obtain ⟨⟨_, _, _, _, _⟩, ⟨_, _, _, _, _⟩, ⟨_, _, _, _, _⟩, ⟨_, _, _, _, _⟩⟩ := hSw; go_simp; try with_reducible rfl)
          try simp only [Act.put, List.setIfInBounds_toArray, List.set_cons_zero, List.set_cons_succ]
          clear hS5
          refine upto_done (by kernel_rfl) ?_ _
          go_wp2_with fail
          go_ret
          exact ⟨rfl, HL_9.out⟩
theorem own : ownKnob Try.prog.godebug = none := by kernel_rfl
theorem laidOut : laidOutB Try.prog = true := by kernel_rfl
set_option maxRecDepth 100000 in
theorem lifted (os : Os) (started : os.Started) (H : Type) (enc : TypeId × Value → H) :
    ReturnsInHanded {} Try.checked os 9 .any (Rows.fnDressLikeSpec.pre6 enc Try.prog Try.f9 Rows.fnDressLikeRow.domain false) (Rows.fnDressLikeSpec.post enc Try.prog Try.f9 false true false false) := by
  refine returnsInHanded_of_change (C := Try.checked) own started (by kernel_rfl) Try.func9
    (ChangeSpec.witness6 (enc := enc) (C := Try.checked) false ⟨#[], #[.slice none 0 0], []⟩ 12 (by kernel_rfl) (by kernel_rfl) (by kernel_rfl) (by kernel_rfl)) ?_
  intro W base args ds gs before hval0 hW hcnd _
  have hval : ∀ (j : Nat) t v, Try.f9.params[j]? = some t → args[j]? = some v → Value.okWide Try.prog W .any base t v := hval0
  have hW' := hW
  obtain ⟨p, q, hA0, hV, rfl, hfz, hnd⟩ := hW
  have hA : DataW.TrodAll enc Try.prog W 0 (fun _ => true) true Try.f9.params.toList args.toList ds p := hA0
  rw [Try.params9] at hA hval
  obtain ⟨v0, vs0, d0, ds0, p0, q0, hargs, rfl, rfl, h0, r0⟩ := trodAll_cons hA
  obtain ⟨rfl, rfl, rfl⟩ := trodAll_nil r0
  obtain rfl : args = #[v0] := by cases args; simp_all
  obtain ⟨rfl, rfl⟩ := trodVars_none hV
  have k0 := h0
  have lt0 : ∀ x ∈ p0, x.block < W.heap.size := by obtain ⟨m, hm⟩ := k0; exact DataW.trod_lt m _ _ _ hm
  obtain ⟨f0, i0⟩ := open_bytes_arg (hval 0 22 v0 rfl rfl) h0
  clear hA0 hval0
  try simp only [List.append_nil] at hW'
  refine (walk W f0 v0 i0).mono fun e W' ⟨he, bel⟩ => ?_
  subst he
  exact ⟨_, rfl, _, _, _, [], _, [], hW', trodAll_mk1 (shut_bool Try.underlying4 _), (trodAll_cons_mk (Below.trod laidOut (by kernel_rfl) (of_decide_eq_true (by kernel_rfl)) k0 bel lt0) trodAll_mk0), rfl, bel.frame _, fun h => by cases h⟩
theorem over_named : Try.pinned.checked.prog.funcNamed Rows.fnDressLikeRow.func = some 9 := by kernel_rfl
theorem over_closed : joinedFacts Try.pinned.checked.prog 9 Try.f9 Rows.fnDressLikeSpec Rows.fnDressLikeRow = true := by kernel_rfl
theorem over_inst : Func.isInstance Try.pinned.checked.prog Try.f9 Rows.fnDressLikeRow.origin Rows.fnDressLikeRow.targs := of_decide_eq_true (by kernel_rfl)
theorem over_wrap : Func.isWrapper Try.pinned.checked.prog Try.f9 Rows.fnDressLikeRow.wrapper Rows.fnDressLikeRow.mainSum := (by unfold Func.isWrapper; first | (rw [if_pos (by decide +kernel)]; kernel_rfl) | (rw [if_neg (by decide +kernel)]; exact ⟨rfl, rfl⟩))
theorem over : Rows.fnDressLikeRow.holds Try.pinned (OpenSpec.ofChange Rows.fnDressLikeSpec) :=
  OpenClaim.holds_of_wide 9 Try.f9 rfl rfl rfl rfl rfl rfl rfl ⟨rfl, rfl, rfl, rfl, rfl⟩ rfl rfl rfl rfl rfl over_named Try.func9 over_closed over_inst over_wrap
    (fun os started H enc _ => lifted os started H enc)
theorem proved : Rows.FnDressLikeSaid := over
end Go.Proofs.Ytmakaoomdnlebaa.lwDressLike
