/- For every input flipping a scope in the drawn list is flipping it in its parts, and changes nothing but scopes; the program and the model agree: the law FnFlipParts returns true, whatever the input, with no condition beyond the statement's own. -/
import Derived.Test.YtmakaoomdnlebaaRows
import Derived.Test.YtmakaoomdnlebaaLwKids
import Derived.Test.YtmakaoomdnlebaaLwStrip
namespace Go.Proofs.Ytmakaoomdnlebaa.lwFlipParts
open Go.ChangeShapes Go.WideShapes Go.ChangeAt Go.RowKit
open Go.ChangeMaps (open_string shut_string)
set_option linter.unusedVariables false
set_option linter.unusedSimpArgs false
set_option maxRecDepth 100000 in
set_option maxHeartbeats 4000000 in
theorem walk (w : World) (n : Nat) (v : Value) (hv : Bytes w v n) :
    Calls Try.prog 11 #[v] w fun e w' => e = .returned (.bool true) ∧ Below w.heap.size w w' := by
  have HV := Lib.hid hv
  obtain ⟨a0, c0, rfl, hn1, hn2, _⟩ := hv
  unfold maxLen at hn2
  by_cases hbig : (1048576 : Int) < n
  · go_enter Try.func11, Try.ntmps11
    go_wp2_with fail
    go_ret
    exact ⟨rfl, Below.refl _ _⟩
  go_enter Try.func11, Try.ntmps11
  go_wp2_with fail
  refine (drawFlipScope_law _ n w HV.out).mono ?_
  rintro e w1 ⟨f, f0, f1, f2, f3, scope, rfl, hin, hsl, hsc, hb⟩
  have hs1 : w.heap.size ≤ w1.heap.size := hb.size
  have HL := Lib.hid hb
  have hscb := scopesCase_bounds scope hsc
  have hszf : f.sz ≤ 1048576 := by have := Slim.big hsl; omega
  clear hsl hsc HV
  clear hb
  have If : Hid (InV (· < w1.heap.size) w1 f (.agg #[.int .i64 f.kind, .string f.name, .int .i64 f.n, .slice f0 f.scopes.length f1, .slice f2 f.kids.length f3])) := InV.mono (fun k hk => hk.2) _ _ hin
  clear hin
  obtain ⟨ok, hok⟩ : ∃ ok, okF2 1 scope f = ok := ⟨_, rfl⟩
  obtain ⟨R, hR⟩ : ∃ R, afterF 1 scope f = R := ⟨_, rfl⟩
  have HOK := Lib.hid hok
  have HR := Lib.hid hR
  have HRC : Hid (R.count ≤ 4294967296) := by have h1 := afterF_count 1 scope f; have h2 := f.count_le; rw [hR] at h1; unfold Hid; omega
  clear hok hR
  go_wp2_with fail
  have hba0 := below_alloc w1 (.cells #[.int .i64 f.kind, .string f.name, .int .i64 f.n, .slice f0 f.scopes.length f1, .slice f2 f.kids.length f3] 27)
  have Bf : Hid (FormBox (w1.alloc (.cells #[.int .i64 f.kind, .string f.name, .int .i64 f.n, .slice f0 f.scopes.length f1, .slice f2 f.kids.length f3] 27)) w1.heap.size f f0 f1 f2 f3) := box_lit w1 f w1.heap.size f0 f2 f1 f3 27 (by simp)
  refine (implFlipScope_law f _ scope (w1.alloc (.cells #[.int .i64 f.kind, .string f.name, .int .i64 f.n, .slice f0 f.scopes.length f1, .slice f2 f.kids.length f3] 27)) (inv_up If.out hba0) hszf hscb ok R HOK.out HR.out).mono ?_
  rintro e w2 ⟨x0, x1, x2, x3, rfl, hin, hend, hb0⟩
  have hb : Below w1.heap.size w1 w2 := hba0.trans (hb0.mono hba0.size)
  have hs2 : w1.heap.size + 1 ≤ w2.heap.size := by have h := hb0.size; simp at h; omega
  have HL_1 := Lib.hid (HL.out.trans (hb.mono (by omega)))
  have If_1 := Lib.hid (inv_up If.out hb)
  have Bf_1 := Lib.hid (FormBox.later Bf.out hb0)
  clear HL If Bf
  clear hb0 hba0
  clear hb
  have Ix : Hid (InV (· < w2.heap.size) w2 R (.agg #[.int .i64 R.kind, .string R.name, .int .i64 R.n, .slice x0 R.scopes.length x1, .slice x2 R.kids.length x3])) := InV.mono (fun k hk => hk.2) _ _ hin
  have Ex := Lib.hid hend
  clear hin hend
  obtain ⟨ld0, ld1, ld2, ld3, ld4⟩ := Bf_1.out
  have hx0 : w1.heap.size < w2.heap.size := Bf_1.out.lt
  go_wp2_with fail
  have hba0 := below_alloc w2 (.cells #[.int .i64 R.kind, .string R.name, .int .i64 R.n, .slice x0 R.scopes.length x1, .slice x2 R.kids.length x3] 27)
  have Bx : Hid (FormBox (w2.alloc (.cells #[.int .i64 R.kind, .string R.name, .int .i64 R.n, .slice x0 R.scopes.length x1, .slice x2 R.kids.length x3] 27)) w2.heap.size R x0 x1 x2 x3) := box_lit w2 R w2.heap.size x0 x2 x1 x3 27 (by simp)
  refine (specFlipScope_law f _ scope (w2.alloc (.cells #[.int .i64 R.kind, .string R.name, .int .i64 R.n, .slice x0 R.scopes.length x1, .slice x2 R.kids.length x3] 27)) (inv_up If_1.out hba0) hszf hscb ok R HOK.out HR.out).mono ?_
  rintro e w3 ⟨y0, y1, y2, y3, rfl, hin, hb0⟩
  have hb : Below w2.heap.size w2 w3 := hba0.trans (hb0.mono hba0.size)
  have hs3 : w2.heap.size + 1 ≤ w3.heap.size := by have h := hb0.size; simp at h; omega
  clear ld0 ld1 ld2 ld3 ld4 hx0
  have HL_2 := Lib.hid (HL_1.out.trans (hb.mono (by omega)))
  have If_2 := Lib.hid (inv_up If_1.out hb)
  have Bf_2 := Lib.hid (FormBox.later Bf_1.out hb)
  have Ix_1 := Lib.hid (inv_up Ix.out hb)
  have Ex_1 := Lib.hid (EndlessAt.later Ex.out hb)
  have Bx_1 := Lib.hid (FormBox.later Bx.out hb0)
  clear HL_1 If_1 Bf_1 Ix Ex Bx
  clear hb0 hba0
  clear hb
  have Iy : Hid (InV (· < w3.heap.size) w3 R (.agg #[.int .i64 R.kind, .string R.name, .int .i64 R.n, .slice y0 R.scopes.length y1, .slice y2 R.kids.length y3])) := InV.mono (fun k hk => hk.2) _ _ hin
  clear hin
  cases ok with
  | false =>
    obtain ⟨ld0, ld1, ld2, ld3, ld4⟩ := Bx_1.out
    have hx0 : w2.heap.size < w3.heap.size := Bx_1.out.lt
    go_wp2_with fail
    have hba0 := below_alloc w3 (.cells #[.int .i64 R.kind, .string R.name, .int .i64 R.n, .slice y0 R.scopes.length y1, .slice y2 R.kids.length y3] 27)
    have By : Hid (FormBox (w3.alloc (.cells #[.int .i64 R.kind, .string R.name, .int .i64 R.n, .slice y0 R.scopes.length y1, .slice y2 R.kids.length y3] 27)) w3.heap.size R y0 y1 y2 y3) := box_lit w3 R w3.heap.size y0 y2 y1 y3 27 (by simp)
    refine (implSame_law R R _ _ (w3.alloc (.cells #[.int .i64 R.kind, .string R.name, .int .i64 R.n, .slice y0 R.scopes.length y1, .slice y2 R.kids.length y3] 27)) (inv_up Ix_1.out hba0) (inv_up Iy.out hba0) HRC.out (EndlessAt.later Ex_1.out hba0) true (sameB_refl R)).mono ?_
    rintro e w4 ⟨rfl, hb0⟩
    have hb : Below w3.heap.size w3 w4 := hba0.trans (hb0.mono hba0.size)
    have hs4 : w3.heap.size + 1 ≤ w4.heap.size := by have h := hb0.size; simp at h; omega
    clear ld0 ld1 ld2 ld3 ld4 hx0
    have HL_3 := Lib.hid (HL_2.out.trans (hb.mono (by omega)))
    have If_3 := Lib.hid (inv_up If_2.out hb)
    have Bf_3 := Lib.hid (FormBox.later Bf_2.out hb)
    have Ix_2 := Lib.hid (inv_up Ix_1.out hb)
    have Ex_2 := Lib.hid (EndlessAt.later Ex_1.out hb)
    have Bx_2 := Lib.hid (FormBox.later Bx_1.out hb)
    have Iy_1 := Lib.hid (inv_up Iy.out hb)
    have By_1 := Lib.hid (FormBox.later By.out hb0)
    clear HL_2 If_2 Bf_2 Ix_1 Ex_1 Bx_1 Iy By
    clear hb0 hba0
    clear hb
    obtain ⟨ld0, ld1, ld2, ld3, ld4⟩ := Bx_2.out
    have hx0 : w2.heap.size < w4.heap.size := Bx_2.out.lt
    obtain ⟨ld5, ld6, ld7, ld8, ld9⟩ := By_1.out
    have hx1 : w3.heap.size < w4.heap.size := By_1.out.lt
    go_wp2_with fail
    refine (implSame_law R R _ _ w4 Ix_2.out Iy_1.out HRC.out Ex_2.out true (sameB_refl R)).mono ?_
    rintro e w5 ⟨rfl, hb⟩
    have hs5 : w4.heap.size ≤ w5.heap.size := hb.size
    clear ld0 ld1 ld2 ld3 ld4 ld5 ld6 ld7 ld8 ld9 hx0 hx1
    have HL_4 := Lib.hid (HL_3.out.trans (hb.mono (by omega)))
    have If_4 := Lib.hid (inv_up If_3.out hb)
    have Bf_4 := Lib.hid (FormBox.later Bf_3.out hb)
    have Ix_3 := Lib.hid (inv_up Ix_2.out hb)
    have Ex_3 := Lib.hid (EndlessAt.later Ex_2.out hb)
    have Bx_3 := Lib.hid (FormBox.later Bx_2.out hb)
    have Iy_2 := Lib.hid (inv_up Iy_1.out hb)
    have By_2 := Lib.hid (FormBox.later By_1.out hb)
    clear HL_3 If_3 Bf_3 Ix_2 Ex_2 Bx_2 Iy_1 By_1
    clear hb
    go_wp2_with fail
    go_ret
    exact ⟨rfl, HL_4.out⟩
  | true =>
    obtain ⟨ld0, ld1, ld2, ld3, ld4⟩ := Bx_1.out
    have hx0 : w2.heap.size < w3.heap.size := Bx_1.out.lt
    go_wp2_with fail
    have hba0 := below_alloc w3 (.cells #[.int .i64 R.kind, .string R.name, .int .i64 R.n, .slice y0 R.scopes.length y1, .slice y2 R.kids.length y3] 27)
    have By : Hid (FormBox (w3.alloc (.cells #[.int .i64 R.kind, .string R.name, .int .i64 R.n, .slice y0 R.scopes.length y1, .slice y2 R.kids.length y3] 27)) w3.heap.size R y0 y1 y2 y3) := box_lit w3 R w3.heap.size y0 y2 y1 y3 27 (by simp)
    refine (implSame_law R R _ _ (w3.alloc (.cells #[.int .i64 R.kind, .string R.name, .int .i64 R.n, .slice y0 R.scopes.length y1, .slice y2 R.kids.length y3] 27)) (inv_up Ix_1.out hba0) (inv_up Iy.out hba0) HRC.out (EndlessAt.later Ex_1.out hba0) true (sameB_refl R)).mono ?_
    rintro e w4 ⟨rfl, hb0⟩
    have hb : Below w3.heap.size w3 w4 := hba0.trans (hb0.mono hba0.size)
    have hs4 : w3.heap.size + 1 ≤ w4.heap.size := by have h := hb0.size; simp at h; omega
    clear ld0 ld1 ld2 ld3 ld4 hx0
    have HL_3 := Lib.hid (HL_2.out.trans (hb.mono (by omega)))
    have If_3 := Lib.hid (inv_up If_2.out hb)
    have Bf_3 := Lib.hid (FormBox.later Bf_2.out hb)
    have Ix_2 := Lib.hid (inv_up Ix_1.out hb)
    have Ex_2 := Lib.hid (EndlessAt.later Ex_1.out hb)
    have Bx_2 := Lib.hid (FormBox.later Bx_1.out hb)
    have Iy_1 := Lib.hid (inv_up Iy.out hb)
    have By_1 := Lib.hid (FormBox.later By.out hb0)
    clear HL_2 If_2 Bf_2 Ix_1 Ex_1 Bx_1 Iy By
    clear hb0 hba0
    clear hb
    obtain ⟨h1, h2, h3⟩ := after_valid HOK.out HR.out
    have hszR : R.sz ≤ 1048576 := valid_sz h3
    obtain ⟨Z, hZ⟩ : ∃ Z, f.chg (fun _ _ => []) = Z := ⟨_, rfl⟩
    have hst := strip_after 1 scope f HOK.out
    rw [HR.out, hZ] at hst
    have hkm := after_kids HOK.out HR.out
    have hlen : R.kids.length = f.kids.length := by rw [hkm, List.length_map]
    have HKID : Hid (∀ (j : Nat) (hj : j < f.kids.length) (hj2 : j < R.kids.length), formB f.kids[j] = true ∧ okF2 1 scope f.kids[j] = true ∧ afterF 1 scope f.kids[j] = R.kids[j]) := fun j hj hj2 => by
      have hk := after_kid HOK.out (List.getElem_mem hj)
      refine ⟨kid_valid h1 (List.getElem_mem hj), hk.1, ?_⟩
      rw [hk.2]
      simp only [hkm, List.getElem_map]
    have HLEN := Lib.hid hlen
    have hbe : ((f.kids.length : Int) == (R.kids.length : Int)) = true := by rw [hlen]; simp
    have HZC : Hid (Z.count ≤ 4294967296) := by have h2 := f.count_le; unfold Hid; rw [← hZ, chg_count]; omega
    have HZ0 := Lib.hid hZ
    have HST := Lib.hid hst
    have HVF := Lib.hid h1
    have hkl : f.kids.length ≤ 1048576 := Nat.le_trans (sz_scopes f).2 hszf
    clear h1 h2 h3 hZ hst hkm hlen
    obtain ⟨ld0, ld1, ld2, ld3, ld4⟩ := Bf_3.out
    have hx0 : w1.heap.size < w4.heap.size := Bf_3.out.lt
    go_wp2_with fail
    clear ld0 ld1 ld2 ld3 ld4 hx0
    go_loopw [9, 10, 11] (fun i _ _ wr => ∃ j : Nat, i = .int .i64 j ∧ j ≤ f.kids.length ∧ Below w4.heap.size w4 wr) (fun i _ _ _ => f.kids.length - (intOf i).toNat)
    case atStart => exact ⟨0, rfl, Nat.zero_le _, Below.refl _ _⟩
    case round =>
      obtain ⟨j, rfl, hj, hbl⟩ := hrel
      have hsr : w4.heap.size ≤ wr.heap.size := hbl.size
      have HBL := Lib.hid hbl
      have HL_4 := Lib.hid (HL_3.out.trans (hbl.mono (by omega)))
      have If_4 := Lib.hid (inv_up If_3.out hbl)
      have Bf_4 := Lib.hid (FormBox.later Bf_3.out hbl)
      have Ix_3 := Lib.hid (inv_up Ix_2.out hbl)
      have Ex_3 := Lib.hid (EndlessAt.later Ex_2.out hbl)
      have Bx_3 := Lib.hid (FormBox.later Bx_2.out hbl)
      have Iy_2 := Lib.hid (inv_up Iy_1.out hbl)
      have By_2 := Lib.hid (FormBox.later By_1.out hbl)
      clear HL_3 If_3 Bf_3 Ix_2 Ex_2 Bx_2 Iy_1 By_1
      clear hbl
      by_cases hlt : j < f.kids.length
      · have hlt2 : j < R.kids.length := by rw [HLEN.out]; exact hlt
        have hltI : (j : Int) < (f.kids.length : Int) := by omega
        have hltR : (j : Int) < (R.kids.length : Int) := by omega
        have hj0 : (0 : Int) ≤ (j : Int) := by omega
        obtain ⟨fb, fo, ka, kb, kc, kd, hf2, hfc, hkb, hki⟩ := kid_cells If_4.out j hlt
        obtain ⟨xb, xo, la, lb, lc, ld, hx2, hxc, hlb, hli⟩ := kid_cells Ix_3.out j hlt2
        obtain ⟨hv0, hok0, hR0⟩ := HKID.out j hlt hlt2
        obtain ⟨G, hG⟩ : ∃ G, f.kids[j] = G := ⟨_, rfl⟩
        obtain ⟨Q, hQ⟩ : ∃ Q, R.kids[j] = Q := ⟨_, rfl⟩
        rw [hG] at hkb hki hv0 hok0 hR0
        rw [hQ] at hlb hli hR0
        have Bfr : Hid (FormBox wr w1.heap.size f f0 f1 (some ⟨fb, fo, none⟩) f3) := by have h := Bf_4.out; rw [hf2] at h; exact h
        have Bxr : Hid (FormBox wr w2.heap.size R x0 x1 (some ⟨xb, xo, none⟩) x3) := by have h := Bx_3.out; rw [hx2] at h; exact h
        clear hf2 hx2
        have HKB := Lib.hid hkb
        have HKI := Lib.hid hki
        have HLB := Lib.hid hlb
        have HLI := Lib.hid hli
        have HK0 := Lib.hid hok0
        have HR0 := Lib.hid hR0
        have hszG : G.sz ≤ 1048576 := valid_sz hv0
        have HQC : Hid (Q.count ≤ 4294967296) := by have h1 := afterF_count 1 scope G; have h2 := G.count_le; rw [hR0] at h1; unfold Hid; omega
        clear hlb hli hok0 hR0 hv0 hG hQ hki
        obtain ⟨kc0, kc1, kc2, kc3, kc4⟩ := hkb
        obtain ⟨ld0, ld1, ld2, ld3, ld4⟩ := Bfr.out
        have hx0 : w1.heap.size < wr.heap.size := Bfr.out.lt
        go_wp2_with fail
        refine (implFlipScope_law G _ scope wr HKI.out hszG hscb true Q HK0.out HR0.out).mono ?_
        rintro e w5 ⟨k0, k1, k2, k3, rfl, hin, hend, hb⟩
        have hs5 : wr.heap.size ≤ w5.heap.size := hb.size
        clear ld0 ld1 ld2 ld3 ld4 hx0
        have HL_5 := Lib.hid (HL_4.out.trans (hb.mono (by omega)))
        have If_5 := Lib.hid (inv_up If_4.out hb)
        have Bf_5 := Lib.hid (FormBox.later Bf_4.out hb)
        have Ix_4 := Lib.hid (inv_up Ix_3.out hb)
        have Ex_4 := Lib.hid (EndlessAt.later Ex_3.out hb)
        have Bx_4 := Lib.hid (FormBox.later Bx_3.out hb)
        have Iy_3 := Lib.hid (inv_up Iy_2.out hb)
        have By_3 := Lib.hid (FormBox.later By_2.out hb)
        have HBL_1 := Lib.hid (HBL.out.trans (hb.mono (by omega)))
        have Bfr_1 := Lib.hid (FormBox.later Bfr.out hb)
        have Bxr_1 := Lib.hid (FormBox.later Bxr.out hb)
        have HKB_1 := Lib.hid (KidBox.later HKB.out hb)
        have HKI_1 := Lib.hid (inv_up HKI.out hb)
        have HLB_1 := Lib.hid (KidBox.later HLB.out hb)
        have HLI_1 := Lib.hid (inv_up HLI.out hb)
        clear HL_4 If_4 Bf_4 Ix_3 Ex_3 Bx_3 Iy_2 By_2 HBL Bfr Bxr HKB HKI HLB HLI
        clear hb
        clear kc0 kc1 kc2 kc3 kc4
        have Ik : Hid (InV (· < w5.heap.size) w5 Q (.agg #[.int .i64 Q.kind, .string Q.name, .int .i64 Q.n, .slice k0 Q.scopes.length k1, .slice k2 Q.kids.length k3])) := InV.mono (fun k hk => hk.2) _ _ hin
        have Ek := Lib.hid hend
        clear hin hend
        obtain ⟨ld0, ld1, ld2, ld3, ld4⟩ := Bxr_1.out
        have hx0 : w2.heap.size < w5.heap.size := Bxr_1.out.lt
        go_wp2_with fail
        have hba0 := below_alloc w5 (.cells #[.int .i64 Q.kind, .string Q.name, .int .i64 Q.n, .slice k0 Q.scopes.length k1, .slice k2 Q.kids.length k3] 27)
        have Bk : Hid (FormBox (w5.alloc (.cells #[.int .i64 Q.kind, .string Q.name, .int .i64 Q.n, .slice k0 Q.scopes.length k1, .slice k2 Q.kids.length k3] 27)) w5.heap.size Q k0 k1 k2 k3) := box_lit w5 Q w5.heap.size k0 k2 k1 k3 27 (by simp)
        clear ld0 ld1 ld2 ld3 ld4 hx0
        refine upto_begin (fun WS : World => FormBox WS w5.heap.size Q k0 k1 k2 k3 ∧ FormBox WS w2.heap.size R x0 x1 (some ⟨xb, xo, none⟩) x3 ∧ KidBox WS xb (xo + j * 5) Q la lb lc ld) 12 (by kernel_rfl) ?_
        refine gen_upto (fun w6 hu => ?_)
        have hb0 : Below (w5.alloc (.cells #[.int .i64 Q.kind, .string Q.name, .int .i64 Q.n, .slice k0 Q.scopes.length k1, .slice k2 Q.kids.length k3] 27)).heap.size (w5.alloc (.cells #[.int .i64 Q.kind, .string Q.name, .int .i64 Q.n, .slice k0 Q.scopes.length k1, .slice k2 Q.kids.length k3] 27)) w6 := by rw [hu]; exact (Below.refl _ _).drew
        have hb : Below w5.heap.size w5 w6 := hba0.trans (hb0.mono hba0.size)
        have hs6 : w5.heap.size + 1 ≤ w6.heap.size := by have h := hb0.size; simp at h; omega
        have HL_6 := Lib.hid (HL_5.out.trans (hb.mono (by omega)))
        have If_6 := Lib.hid (inv_up If_5.out hb)
        have Bf_6 := Lib.hid (FormBox.later Bf_5.out hb)
        have Ix_5 := Lib.hid (inv_up Ix_4.out hb)
        have Ex_5 := Lib.hid (EndlessAt.later Ex_4.out hb)
        have Bx_5 := Lib.hid (FormBox.later Bx_4.out hb)
        have Iy_4 := Lib.hid (inv_up Iy_3.out hb)
        have By_4 := Lib.hid (FormBox.later By_3.out hb)
        have HBL_2 := Lib.hid (HBL_1.out.trans (hb.mono (by omega)))
        have Bfr_2 := Lib.hid (FormBox.later Bfr_1.out hb)
        have Bxr_2 := Lib.hid (FormBox.later Bxr_1.out hb)
        have HKB_2 := Lib.hid (KidBox.later HKB_1.out hb)
        have HKI_2 := Lib.hid (inv_up HKI_1.out hb)
        have HLB_2 := Lib.hid (KidBox.later HLB_1.out hb)
        have HLI_2 := Lib.hid (inv_up HLI_1.out hb)
        have Ik_1 := Lib.hid (inv_up Ik.out hb)
        have Ek_1 := Lib.hid (EndlessAt.later Ek.out hb)
        have Bk_1 := Lib.hid (FormBox.later Bk.out hb0)
        clear HL_5 If_5 Bf_5 Ix_4 Ex_4 Bx_4 Iy_3 By_3 HBL_1 Bfr_1 Bxr_1 HKB_1 HKI_1 HLB_1 HLI_1 Ik Ek Bk
        clear hu hb hb0 hba0
        have hS1 : (fun WS : World => FormBox WS w5.heap.size Q k0 k1 k2 k3 ∧ FormBox WS w2.heap.size R x0 x1 (some ⟨xb, xo, none⟩) x3 ∧ KidBox WS xb (xo + j * 5) Q la lb lc ld) w6 := ⟨Bk_1.out, Bxr_2.out, HLB_2.out⟩
        refine upto_take (i := 0) (d := some 70) (v := ?_) rfl rfl (by kernel_rfl) (by kernel_rfl) (by kernel_rfl) (by kernel_rfl) (fun _ _ _ h => h) (Or.inl ⟨by rfl, ?_⟩) hS1 ?_
        rotate_left
        · (intro wS hSw; obtain ⟨⟨_, _, _, _, _⟩, ⟨_, _, _, _, _⟩, ⟨_, _, _, _, _⟩⟩ := hSw; go_simp; try with_reducible rfl)
        try simp only [Act.put, List.setIfInBounds_toArray, List.set_cons_zero, List.set_cons_succ]
        refine upto_take (i := 1) (d := some 71) (v := ?_) rfl rfl (by kernel_rfl) (by kernel_rfl) (by kernel_rfl) (by kernel_rfl) (fun _ _ _ h => h) (Or.inl ⟨by rfl, ?_⟩) hS1 ?_
        rotate_left
        · (intro wS hSw; obtain ⟨⟨_, _, _, _, _⟩, ⟨_, _, _, _, _⟩, ⟨_, _, _, _, _⟩⟩ := hSw; go_simp; try with_reducible rfl)
        try simp only [Act.put, List.setIfInBounds_toArray, List.set_cons_zero, List.set_cons_succ]
        refine upto_take (i := 2) (d := some 72) (v := ?_) rfl rfl (by kernel_rfl) (by kernel_rfl) (by kernel_rfl) (by kernel_rfl) (fun _ _ _ h => h) (Or.inl ⟨by rfl, ?_⟩) hS1 ?_
        rotate_left
        · (intro wS hSw; obtain ⟨⟨_, _, _, _, _⟩, ⟨_, _, _, _, _⟩, ⟨_, _, _, _, _⟩⟩ := hSw; go_simp; try with_reducible rfl)
        try simp only [Act.put, List.setIfInBounds_toArray, List.set_cons_zero, List.set_cons_succ]
        refine upto_take (i := 3) (d := some 73) (v := ?_) rfl rfl (by kernel_rfl) (by kernel_rfl) (by kernel_rfl) (by kernel_rfl) (fun _ _ _ h => h) (Or.inl ⟨by rfl, ?_⟩) hS1 ?_
        rotate_left
        · (intro wS hSw; obtain ⟨⟨_, _, _, _, _⟩, ⟨_, _, _, _, _⟩, ⟨_, _, _, _, _⟩⟩ := hSw; go_simp; try with_reducible rfl)
        try simp only [Act.put, List.setIfInBounds_toArray, List.set_cons_zero, List.set_cons_succ]
        refine upto_take (i := 4) (d := some 74) (v := ?_) rfl rfl (by kernel_rfl) (by kernel_rfl) (by kernel_rfl) (by kernel_rfl) (fun _ _ _ h => h) (Or.inl ⟨by rfl, ?_⟩) hS1 ?_
        rotate_left
        · (intro wS hSw; obtain ⟨⟨_, _, _, _, _⟩, ⟨_, _, _, _, _⟩, ⟨_, _, _, _, _⟩⟩ := hSw; go_simp; try with_reducible rfl)
        try simp only [Act.put, List.setIfInBounds_toArray, List.set_cons_zero, List.set_cons_succ]
        refine upto_take (i := 5) (d := some 75) (v := ?_) rfl rfl (by kernel_rfl) (by kernel_rfl) (by kernel_rfl) (by kernel_rfl) (fun _ _ _ h => h) (Or.inl ⟨by rfl, ?_⟩) hS1 ?_
        rotate_left
        · (intro wS hSw; obtain ⟨⟨_, _, _, _, _⟩, ⟨_, _, _, _, _⟩, ⟨_, _, _, _, _⟩⟩ := hSw; go_simp; try with_reducible rfl)
        try simp only [Act.put, List.setIfInBounds_toArray, List.set_cons_zero, List.set_cons_succ]
        refine upto_take (i := 6) (d := some 76) (v := ?_) rfl rfl (by kernel_rfl) (by kernel_rfl) (by kernel_rfl) (by kernel_rfl) (fun _ _ _ h => h) (Or.inl ⟨by rfl, ?_⟩) hS1 ?_
        rotate_left
        · (intro wS hSw; obtain ⟨⟨_, _, _, _, _⟩, ⟨_, _, _, _, _⟩, ⟨_, _, _, _, _⟩⟩ := hSw; go_simp; try with_reducible rfl)
        try simp only [Act.put, List.setIfInBounds_toArray, List.set_cons_zero, List.set_cons_succ]
        refine upto_take (i := 7) (d := some 77) (v := ?_) rfl rfl (by kernel_rfl) (by kernel_rfl) (by kernel_rfl) (by kernel_rfl) (fun _ _ _ h => h) (Or.inl ⟨by rfl, ?_⟩) hS1 ?_
        rotate_left
        · (intro wS hSw; obtain ⟨⟨_, _, _, _, _⟩, ⟨_, _, _, _, _⟩, ⟨_, _, _, _, _⟩⟩ := hSw; go_simp; try with_reducible rfl)
        try simp only [Act.put, List.setIfInBounds_toArray, List.set_cons_zero, List.set_cons_succ]
        refine upto_take (i := 8) (d := some 78) (v := ?_) rfl rfl (by kernel_rfl) (by kernel_rfl) (by kernel_rfl) (by kernel_rfl) (fun _ _ _ h => h) (Or.inl ⟨by rfl, ?_⟩) hS1 ?_
        rotate_left
        · (intro wS hSw; obtain ⟨⟨_, _, _, _, _⟩, ⟨_, _, _, _, _⟩, ⟨_, _, _, _, _⟩⟩ := hSw; go_simp; try with_reducible rfl)
        try simp only [Act.put, List.setIfInBounds_toArray, List.set_cons_zero, List.set_cons_succ]
        refine upto_one (i := 9) (by kernel_rfl) rfl (fun K hK => ?_)
        go_simp
        refine (implSame_law Q Q _ _ w6 Ik_1.out HLI_2.out HQC.out Ek_1.out true (sameB_refl Q)).mono ?_
        rintro e w7 ⟨rfl, hb⟩
        have hs7 : w6.heap.size ≤ w7.heap.size := hb.size
        clear hS1
        have HL_7 := Lib.hid (HL_6.out.trans (hb.mono (by omega)))
        have If_7 := Lib.hid (inv_up If_6.out hb)
        have Bf_7 := Lib.hid (FormBox.later Bf_6.out hb)
        have Ix_6 := Lib.hid (inv_up Ix_5.out hb)
        have Ex_6 := Lib.hid (EndlessAt.later Ex_5.out hb)
        have Bx_6 := Lib.hid (FormBox.later Bx_5.out hb)
        have Iy_5 := Lib.hid (inv_up Iy_4.out hb)
        have By_5 := Lib.hid (FormBox.later By_4.out hb)
        have HBL_3 := Lib.hid (HBL_2.out.trans (hb.mono (by omega)))
        have Bfr_3 := Lib.hid (FormBox.later Bfr_2.out hb)
        have Bxr_3 := Lib.hid (FormBox.later Bxr_2.out hb)
        have HKB_3 := Lib.hid (KidBox.later HKB_2.out hb)
        have HKI_3 := Lib.hid (inv_up HKI_2.out hb)
        have HLB_3 := Lib.hid (KidBox.later HLB_2.out hb)
        have HLI_3 := Lib.hid (inv_up HLI_2.out hb)
        have Ik_2 := Lib.hid (inv_up Ik_1.out hb)
        have Ek_2 := Lib.hid (EndlessAt.later Ek_1.out hb)
        have Bk_2 := Lib.hid (FormBox.later Bk_1.out hb)
        clear HL_6 If_6 Bf_6 Ix_5 Ex_5 Bx_5 Iy_4 By_4 HBL_2 Bfr_2 Bxr_2 HKB_2 HKI_2 HLB_2 HLI_2 Ik_1 Ek_1 Bk_1
        have hS2 : (fun WS : World => FormBox WS w5.heap.size Q k0 k1 k2 k3 ∧ FormBox WS w2.heap.size R x0 x1 (some ⟨xb, xo, none⟩) x3 ∧ KidBox WS xb (xo + j * 5) Q la lb lc ld) w7 := ⟨Bk_2.out, Bxr_3.out, HLB_3.out⟩
        refine hK.out _ _ (.inr hS2) ?_
        clear hK K hb
        refine upto_take (i := 10) (d := some 80) (v := ?_) rfl rfl (by kernel_rfl) (by kernel_rfl) (by kernel_rfl) (by kernel_rfl) (fun _ _ _ h => h) (Or.inl ⟨by rfl, ?_⟩) hS2 ?_
        rotate_left
        · (intro wS hSw; obtain ⟨⟨_, _, _, _, _⟩, ⟨_, _, _, _, _⟩, ⟨_, _, _, _, _⟩⟩ := hSw; go_simp; try with_reducible rfl)
        try simp only [Act.put, List.setIfInBounds_toArray, List.set_cons_zero, List.set_cons_succ]
        refine upto_take (i := 11) (d := some 81) (v := ?_) rfl rfl (by kernel_rfl) (by kernel_rfl) (by kernel_rfl) (by kernel_rfl) (fun _ _ _ h => h) (Or.inl ⟨by rfl, ?_⟩) hS2 ?_
        rotate_left
        · (intro wS hSw; obtain ⟨⟨_, _, _, _, _⟩, ⟨_, _, _, _, _⟩, ⟨_, _, _, _, _⟩⟩ := hSw; go_simp; try with_reducible rfl)
        try simp only [Act.put, List.setIfInBounds_toArray, List.set_cons_zero, List.set_cons_succ]
        clear hS2
        refine upto_done (by kernel_rfl) ?_ _
        go_wp2_with fail
        go_roundw
        case rel => exact ⟨j + 1, by go_num, by omega, HBL_3.out⟩
        case measure => simp [intOf]; omega
      · have hnb : ¬ ((j : Int) < (f.kids.length : Int)) := by omega
        obtain ⟨ld0, ld1, ld2, ld3, ld4⟩ := Bf_4.out
        have hx0 : w1.heap.size < wr.heap.size := Bf_4.out.lt
        obtain ⟨ld5, ld6, ld7, ld8, ld9⟩ := Bx_3.out
        have hx1 : w2.heap.size < wr.heap.size := Bx_3.out.lt
        go_wp2_with fail
        clear ld0 ld1 ld2 ld3 ld4 ld5 ld6 ld7 ld8 ld9 hx0 hx1
        refine upto_begin (fun WS : World => FormBox WS w1.heap.size f f0 f1 f2 f3 ∧ FormBox WS w2.heap.size R x0 x1 x2 x3) 15 (by kernel_rfl) ?_
        refine gen_upto (fun w5 hu => ?_)
        have hb0 : Below wr.heap.size wr w5 := by rw [hu]; exact (Below.refl _ _).drew
        have hb := hb0
        have hs5 : wr.heap.size ≤ w5.heap.size := hb.size
        have HL_5 := Lib.hid (HL_4.out.trans (hb.mono (by omega)))
        have If_5 := Lib.hid (inv_up If_4.out hb)
        have Bf_5 := Lib.hid (FormBox.later Bf_4.out hb)
        have Ix_4 := Lib.hid (inv_up Ix_3.out hb)
        have Ex_4 := Lib.hid (EndlessAt.later Ex_3.out hb)
        have Bx_4 := Lib.hid (FormBox.later Bx_3.out hb)
        have Iy_3 := Lib.hid (inv_up Iy_2.out hb)
        have By_3 := Lib.hid (FormBox.later By_2.out hb)
        have HBL_1 := Lib.hid (HBL.out.trans (hb.mono (by omega)))
        clear HL_4 If_4 Bf_4 Ix_3 Ex_3 Bx_3 Iy_2 By_2 HBL
        clear hu hb hb0 
        have hS1 : (fun WS : World => FormBox WS w1.heap.size f f0 f1 f2 f3 ∧ FormBox WS w2.heap.size R x0 x1 x2 x3) w5 := ⟨Bf_5.out, Bx_4.out⟩
        refine upto_take (i := 0) (d := some 82) (v := ?_) rfl rfl (by kernel_rfl) (by kernel_rfl) (by kernel_rfl) (by kernel_rfl) (fun _ _ _ h => h) (Or.inl ⟨by rfl, ?_⟩) hS1 ?_
        rotate_left
        · (intro wS hSw; obtain ⟨⟨_, _, _, _, _⟩, ⟨_, _, _, _, _⟩⟩ := hSw; go_simp; try with_reducible rfl)
        try simp only [Act.put, List.setIfInBounds_toArray, List.set_cons_zero, List.set_cons_succ]
        refine upto_take (i := 1) (d := some 83) (v := ?_) rfl rfl (by kernel_rfl) (by kernel_rfl) (by kernel_rfl) (by kernel_rfl) (fun _ _ _ h => h) (Or.inl ⟨by rfl, ?_⟩) hS1 ?_
        rotate_left
        · (intro wS hSw; obtain ⟨⟨_, _, _, _, _⟩, ⟨_, _, _, _, _⟩⟩ := hSw; go_simp; try with_reducible rfl)
        try simp only [Act.put, List.setIfInBounds_toArray, List.set_cons_zero, List.set_cons_succ]
        refine upto_take (i := 2) (d := some 84) (v := ?_) rfl rfl (by kernel_rfl) (by kernel_rfl) (by kernel_rfl) (by kernel_rfl) (fun _ _ _ h => h) (Or.inl ⟨by rfl, ?_⟩) hS1 ?_
        rotate_left
        · (intro wS hSw; obtain ⟨⟨_, _, _, _, _⟩, ⟨_, _, _, _, _⟩⟩ := hSw; go_simp; try with_reducible rfl)
        try simp only [Act.put, List.setIfInBounds_toArray, List.set_cons_zero, List.set_cons_succ]
        refine upto_take (i := 3) (d := some 85) (v := ?_) rfl rfl (by kernel_rfl) (by kernel_rfl) (by kernel_rfl) (by kernel_rfl) (fun _ _ _ h => h) (Or.inl ⟨by rfl, ?_⟩) hS1 ?_
        rotate_left
        · (intro wS hSw; obtain ⟨⟨_, _, _, _, _⟩, ⟨_, _, _, _, _⟩⟩ := hSw; go_simp; try with_reducible rfl)
        try simp only [Act.put, List.setIfInBounds_toArray, List.set_cons_zero, List.set_cons_succ]
        refine upto_take (i := 4) (d := some 86) (v := ?_) rfl rfl (by kernel_rfl) (by kernel_rfl) (by kernel_rfl) (by kernel_rfl) (fun _ _ _ h => h) (Or.inl ⟨by rfl, ?_⟩) hS1 ?_
        rotate_left
        · (intro wS hSw; obtain ⟨⟨_, _, _, _, _⟩, ⟨_, _, _, _, _⟩⟩ := hSw; go_simp; try with_reducible rfl)
        try simp only [Act.put, List.setIfInBounds_toArray, List.set_cons_zero, List.set_cons_succ]
        refine upto_take (i := 5) (d := some 87) (v := ?_) rfl rfl (by kernel_rfl) (by kernel_rfl) (by kernel_rfl) (by kernel_rfl) (fun _ _ _ h => h) (Or.inl ⟨by rfl, ?_⟩) hS1 ?_
        rotate_left
        · (intro wS hSw; obtain ⟨⟨_, _, _, _, _⟩, ⟨_, _, _, _, _⟩⟩ := hSw; go_simp; try with_reducible rfl)
        try simp only [Act.put, List.setIfInBounds_toArray, List.set_cons_zero, List.set_cons_succ]
        refine upto_take (i := 6) (d := some 88) (v := ?_) rfl rfl (by kernel_rfl) (by kernel_rfl) (by kernel_rfl) (by kernel_rfl) (fun _ _ _ h => h) (Or.inl ⟨by rfl, ?_⟩) hS1 ?_
        rotate_left
        · (intro wS hSw; obtain ⟨⟨_, _, _, _, _⟩, ⟨_, _, _, _, _⟩⟩ := hSw; go_simp; try with_reducible rfl)
        try simp only [Act.put, List.setIfInBounds_toArray, List.set_cons_zero, List.set_cons_succ]
        refine upto_take (i := 7) (d := some 89) (v := ?_) rfl rfl (by kernel_rfl) (by kernel_rfl) (by kernel_rfl) (by kernel_rfl) (fun _ _ _ h => h) (Or.inl ⟨by rfl, ?_⟩) hS1 ?_
        rotate_left
        · (intro wS hSw; obtain ⟨⟨_, _, _, _, _⟩, ⟨_, _, _, _, _⟩⟩ := hSw; go_simp; try with_reducible rfl)
        try simp only [Act.put, List.setIfInBounds_toArray, List.set_cons_zero, List.set_cons_succ]
        refine upto_take (i := 8) (d := some 90) (v := ?_) rfl rfl (by kernel_rfl) (by kernel_rfl) (by kernel_rfl) (by kernel_rfl) (fun _ _ _ h => h) (Or.inl ⟨by rfl, ?_⟩) hS1 ?_
        rotate_left
        · (intro wS hSw; obtain ⟨⟨_, _, _, _, _⟩, ⟨_, _, _, _, _⟩⟩ := hSw; go_simp; try with_reducible rfl)
        try simp only [Act.put, List.setIfInBounds_toArray, List.set_cons_zero, List.set_cons_succ]
        refine upto_take (i := 10) (d := some 92) (v := ?_) rfl rfl (by kernel_rfl) (by kernel_rfl) (by kernel_rfl) (by kernel_rfl) (fun _ _ _ h => h) (Or.inl ⟨by rfl, ?_⟩) hS1 ?_
        rotate_left
        · (intro wS hSw; obtain ⟨⟨_, _, _, _, _⟩, ⟨_, _, _, _, _⟩⟩ := hSw; go_simp; try with_reducible rfl)
        try simp only [Act.put, List.setIfInBounds_toArray, List.set_cons_zero, List.set_cons_succ]
        refine upto_one (i := 9) (by kernel_rfl) rfl (fun K hK => ?_)
        go_simp
        refine (implStrip_law f _ w5 If_5.out hszf (valid_end HVF.out If_5.out) Z HZ0.out).mono ?_
        rintro e w6 ⟨za, zb, zc, zd, rfl, hin, hend, hb⟩
        have hs6 : w5.heap.size ≤ w6.heap.size := hb.size
        clear hS1
        have HL_6 := Lib.hid (HL_5.out.trans (hb.mono (by omega)))
        have If_6 := Lib.hid (inv_up If_5.out hb)
        have Bf_6 := Lib.hid (FormBox.later Bf_5.out hb)
        have Ix_5 := Lib.hid (inv_up Ix_4.out hb)
        have Ex_5 := Lib.hid (EndlessAt.later Ex_4.out hb)
        have Bx_5 := Lib.hid (FormBox.later Bx_4.out hb)
        have Iy_4 := Lib.hid (inv_up Iy_3.out hb)
        have By_4 := Lib.hid (FormBox.later By_3.out hb)
        have HBL_2 := Lib.hid (HBL_1.out.trans (hb.mono (by omega)))
        clear HL_5 If_5 Bf_5 Ix_4 Ex_4 Bx_4 Iy_3 By_3 HBL_1
        have hS2 : (fun WS : World => FormBox WS w1.heap.size f f0 f1 f2 f3 ∧ FormBox WS w2.heap.size R x0 x1 x2 x3) w6 := ⟨Bf_6.out, Bx_5.out⟩
        have IZ := Lib.hid (InV.mono (ψ := (· < w6.heap.size)) (fun k hk => hk.2) _ _ hin)
        have EZ := Lib.hid hend
        clear hin hend
        refine hK.out _ _ (.inr hS2) ?_
        clear hK K hb
        refine upto_one (i := 11) (by kernel_rfl) rfl (fun K hK => ?_)
        go_simp
        refine (implStrip_law R _ w6 Ix_5.out hszR Ex_5.out Z HST.out).mono ?_
        rintro e w7 ⟨ya, yb, yc, yd, rfl, hin, hend, hb⟩
        have hs7 : w6.heap.size ≤ w7.heap.size := hb.size
        clear hS2
        have HL_7 := Lib.hid (HL_6.out.trans (hb.mono (by omega)))
        have If_7 := Lib.hid (inv_up If_6.out hb)
        have Bf_7 := Lib.hid (FormBox.later Bf_6.out hb)
        have Ix_6 := Lib.hid (inv_up Ix_5.out hb)
        have Ex_6 := Lib.hid (EndlessAt.later Ex_5.out hb)
        have Bx_6 := Lib.hid (FormBox.later Bx_5.out hb)
        have Iy_5 := Lib.hid (inv_up Iy_4.out hb)
        have By_5 := Lib.hid (FormBox.later By_4.out hb)
        have HBL_3 := Lib.hid (HBL_2.out.trans (hb.mono (by omega)))
        have IZ_1 := Lib.hid (inv_up IZ.out hb)
        have EZ_1 := Lib.hid (EndlessAt.later EZ.out hb)
        clear HL_6 If_6 Bf_6 Ix_5 Ex_5 Bx_5 Iy_4 By_4 HBL_2 IZ EZ
        have hS3 : (fun WS : World => FormBox WS w1.heap.size f f0 f1 f2 f3 ∧ FormBox WS w2.heap.size R x0 x1 x2 x3) w7 := ⟨Bf_7.out, Bx_6.out⟩
        have IY := Lib.hid (InV.mono (ψ := (· < w7.heap.size)) (fun k hk => hk.2) _ _ hin)
        clear hin hend
        refine hK.out _ _ (.inr hS3) ?_
        clear hK K hb
        refine upto_one (i := 12) (by kernel_rfl) rfl (fun K hK => ?_)
        go_simp
        refine (implSame_law Z Z _ _ w7 IZ_1.out IY.out HZC.out EZ_1.out true (sameB_refl Z)).mono ?_
        rintro e w8 ⟨rfl, hb⟩
        have hs8 : w7.heap.size ≤ w8.heap.size := hb.size
        clear hS3
        have HL_8 := Lib.hid (HL_7.out.trans (hb.mono (by omega)))
        have If_8 := Lib.hid (inv_up If_7.out hb)
        have Bf_8 := Lib.hid (FormBox.later Bf_7.out hb)
        have Ix_7 := Lib.hid (inv_up Ix_6.out hb)
        have Ex_7 := Lib.hid (EndlessAt.later Ex_6.out hb)
        have Bx_7 := Lib.hid (FormBox.later Bx_6.out hb)
        have Iy_6 := Lib.hid (inv_up Iy_5.out hb)
        have By_6 := Lib.hid (FormBox.later By_5.out hb)
        have HBL_4 := Lib.hid (HBL_3.out.trans (hb.mono (by omega)))
        have IZ_2 := Lib.hid (inv_up IZ_1.out hb)
        have EZ_2 := Lib.hid (EndlessAt.later EZ_1.out hb)
        have IY_1 := Lib.hid (inv_up IY.out hb)
        clear HL_7 If_7 Bf_7 Ix_6 Ex_6 Bx_6 Iy_5 By_5 HBL_3 IZ_1 EZ_1 IY
        have hS4 : (fun WS : World => FormBox WS w1.heap.size f f0 f1 f2 f3 ∧ FormBox WS w2.heap.size R x0 x1 x2 x3) w8 := ⟨Bf_8.out, Bx_7.out⟩
        refine hK.out _ _ (.inr hS4) ?_
        clear hK K hb
        refine upto_take (i := 13) (d := some 95) (v := ?_) rfl rfl (by kernel_rfl) (by kernel_rfl) (by kernel_rfl) (by kernel_rfl) (fun _ _ _ h => h) (Or.inl ⟨by rfl, ?_⟩) hS4 ?_
        rotate_left
        · (intro wS hSw; obtain ⟨⟨_, _, _, _, _⟩, ⟨_, _, _, _, _⟩⟩ := hSw; go_simp; try with_reducible rfl)
        try simp only [Act.put, List.setIfInBounds_toArray, List.set_cons_zero, List.set_cons_succ]
        refine upto_take (i := 14) (d := some 2) (v := ?_) rfl rfl (by kernel_rfl) (by kernel_rfl) (by kernel_rfl) (by kernel_rfl) (fun _ _ _ h => h) (Or.inl ⟨by rfl, ?_⟩) hS4 ?_
        rotate_left
        · (intro wS hSw; obtain ⟨⟨_, _, _, _, _⟩, ⟨_, _, _, _, _⟩⟩ := hSw; go_simp; try with_reducible rfl)
        try simp only [Act.put, List.setIfInBounds_toArray, List.set_cons_zero, List.set_cons_succ]
        clear hS4
        refine upto_done (by kernel_rfl) ?_ _
        go_wp2_with fail
        go_ret
        exact ⟨rfl, HL_8.out⟩
theorem own : ownKnob Try.prog.godebug = none := by kernel_rfl
theorem laidOut : laidOutB Try.prog = true := by kernel_rfl
set_option maxRecDepth 100000 in
theorem lifted (os : Os) (started : os.Started) (H : Type) (enc : TypeId × Value → H) :
    ReturnsInHanded {} Try.checked os 11 .any (Rows.fnFlipPartsSpec.pre6 enc Try.prog Try.f11 Rows.fnFlipPartsRow.domain false) (Rows.fnFlipPartsSpec.post enc Try.prog Try.f11 false true false false) := by
  refine returnsInHanded_of_change (C := Try.checked) own started (by kernel_rfl) Try.func11
    (ChangeSpec.witness6 (enc := enc) (C := Try.checked) false ⟨#[], #[.slice none 0 0], []⟩ 12 (by kernel_rfl) (by kernel_rfl) (by kernel_rfl) (by kernel_rfl)) ?_
  intro W base args ds gs before hval0 hW hcnd _
  have hval : ∀ (j : Nat) t v, Try.f11.params[j]? = some t → args[j]? = some v → Value.okWide Try.prog W .any base t v := hval0
  have hW' := hW
  obtain ⟨p, q, hA0, hV, rfl, hfz, hnd⟩ := hW
  have hA : DataW.TrodAll enc Try.prog W 0 (fun _ => true) true Try.f11.params.toList args.toList ds p := hA0
  rw [Try.params11] at hA hval
  obtain ⟨v0, vs0, d0, ds0, p0, q0, hargs, rfl, rfl, h0, r0⟩ := trodAll_cons hA
  obtain ⟨rfl, rfl, rfl⟩ := trodAll_nil r0
  obtain rfl : args = #[v0] := by cases args; simp_all
  obtain ⟨rfl, rfl⟩ := trodVars_none hV
  have k0 := h0
  have lt0 : ∀ x ∈ p0, x.block < W.heap.size := by obtain ⟨m, hm⟩ := k0; exact DataW.trod_lt m _ _ _ hm
  obtain ⟨f0, i0⟩ := open_bytes_arg (hval 0 22 v0 rfl rfl) h0
  clear hA0 hval0
  try simp only [List.append_nil] at hW'
  refine (walk W f0 v0 i0).mono fun e W' ⟨he, bel⟩ => ?_
  subst he
  exact ⟨_, rfl, _, _, _, [], _, [], hW', trodAll_mk1 (shut_bool Try.underlying4 _), (trodAll_cons_mk (Below.trod laidOut (by kernel_rfl) (of_decide_eq_true (by kernel_rfl)) k0 bel lt0) trodAll_mk0), rfl, bel.frame _, fun h => by cases h⟩
theorem over_named : Try.pinned.checked.prog.funcNamed Rows.fnFlipPartsRow.func = some 11 := by kernel_rfl
theorem over_closed : joinedFacts Try.pinned.checked.prog 11 Try.f11 Rows.fnFlipPartsSpec Rows.fnFlipPartsRow = true := by kernel_rfl
theorem over_inst : Func.isInstance Try.pinned.checked.prog Try.f11 Rows.fnFlipPartsRow.origin Rows.fnFlipPartsRow.targs := of_decide_eq_true (by kernel_rfl)
theorem over_wrap : Func.isWrapper Try.pinned.checked.prog Try.f11 Rows.fnFlipPartsRow.wrapper Rows.fnFlipPartsRow.mainSum := (by unfold Func.isWrapper; first | (rw [if_pos (by decide +kernel)]; kernel_rfl) | (rw [if_neg (by decide +kernel)]; exact ⟨rfl, rfl⟩))
theorem over : Rows.fnFlipPartsRow.holds Try.pinned (OpenSpec.ofChange Rows.fnFlipPartsSpec) :=
  OpenClaim.holds_of_wide 11 Try.f11 rfl rfl rfl rfl rfl rfl rfl ⟨rfl, rfl, rfl, rfl, rfl⟩ rfl rfl rfl rfl rfl over_named Try.func11 over_closed over_inst over_wrap
    (fun os started H enc _ => lifted os started H enc)
theorem proved : Rows.FnFlipPartsSaid := over
end Go.Proofs.Ytmakaoomdnlebaa.lwFlipParts
