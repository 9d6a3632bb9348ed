/- The contract of the program's comparison of core programs. -/
import Derived.Test.YtbclgmabidjegaaSameDataC
import Derived.Test.YtbclgmabidjegaaImplSame
namespace Go.Proofs.Ytbclgmabidjegaa.CoreT
open Go.RowKit
set_option linter.unusedVariables false
set_option linter.unusedSimpArgs false
set_option maxRecDepth 100000 in
set_option maxHeartbeats 4000000 in
theorem sameCoreNode_any (f g : Ck) (v u : Value) (w : World) (hv : InC (Pl w.heap.size w) w f v) (hu : InC (· < w.heap.size) w g u) (hsz : f.data.count ≤ 4294967296) :
    Calls Try.prog 78 #[v, u] w fun e w' => e = .returned (.bool (nodeSameC f g)) ∧ Below w.heap.size w w' := by
  cases f with
  | mk k id nm n ids d ks =>
  cases g with
  | mk k' id' nm' n' ids' d' ks' =>
  unfold InC at hv hu
  obtain ⟨i1, j1, s1, t1, k1, l1, a, cap, rfl, _, _, _, hnm, hvs, hd, hcap, hmax, hks⟩ := hv
  obtain ⟨i1b, j1b, s1b, t1b, k1b, l1b, ab, capb, rfl, _, _, _, hnmb, hvsb, hdb, hcapb, hmaxb, hksb⟩ := hu
  have HVS := Lib.hid (IntRow.mono (ψ := (· < w.heap.size)) (fun k hk => hk.1) hvs)
  have HVSB := Lib.hid hvsb
  have HEND := Lib.hid (endlessAt_in hd hsz)
  have HD := Lib.hid (InV.mono (ψ := (· < w.heap.size)) (fun k hk => hk.1) _ _ hd)
  have HDB := Lib.hid hdb
  clear hks hksb hvs hvsb hd hdb
  change d.count ≤ 4294967296 at hsz
  have HN : Hid ((nm.toList == nm'.toList) = (nm.data.toList == nm'.data.toList)) := by unfold Hid; rw [Lib.toList_data, Lib.toList_data]
  have hA2 : ∀ O O', Below w.heap.size w ((w.alloc O).alloc O') := fun O O' => ((Below.refl _ w).alloc (Nat.le_refl _) _).alloc (by simp) _
  have HA2 := Lib.hid hA2
  clear hA2
  by_cases hk : k = k'
  rotate_left
  · have hk1 : (k == k') = false := by rw [beq_eq_false_iff_ne]; exact hk
    have HE : Hid (nodeSameC (.mk k id nm n ids d ks) (.mk k' id' nm' n' ids' d' ks') = false) := by
      unfold Hid nodeSameC; simp only [Ck.kind, Ck.id, Ck.name, Ck.n, Ck.ids, Ck.data, Ck.kids]; rw [beq_eq_false_iff_ne.2 hk]; simp
    clear hk
    go_enter Try.func78, Try.ntmps78
    go_wp2_with fail
    go_ret
    exact ⟨ret_bool HE.out.symm, HA2.out _ _⟩
  subst hk
  have hk1 : (k == k) = true := by simp
  by_cases hi : id = id'
  rotate_left
  · have hi1 : (id == id') = false := by rw [beq_eq_false_iff_ne]; exact hi
    have HE : Hid (nodeSameC (.mk k id nm n ids d ks) (.mk k id' nm' n' ids' d' ks') = false) := by
      unfold Hid nodeSameC; simp only [Ck.kind, Ck.id, Ck.name, Ck.n, Ck.ids, Ck.data, Ck.kids]; rw [beq_eq_false_iff_ne.2 hi]; simp
    clear hi
    go_enter Try.func78, Try.ntmps78
    go_wp2_with fail
    go_ret
    exact ⟨ret_bool HE.out.symm, HA2.out _ _⟩
  subst hi
  have hi1 : (id == id) = true := by simp
  by_cases hn : nm.data.toList = nm'.data.toList
  rotate_left
  · have hnm1 : (nm.toList == nm'.toList) = false := by rw [HN.out]; rw [beq_eq_false_iff_ne]; exact hn
    have hnm2 : (nm.toList != nm'.toList) = true := by unfold bne; rw [hnm1]; rfl
    have HE : Hid (nodeSameC (.mk k id nm n ids d ks) (.mk k id nm' n' ids' d' ks') = false) := by
      unfold Hid nodeSameC; simp only [Ck.kind, Ck.id, Ck.name, Ck.n, Ck.ids, Ck.data, Ck.kids]; rw [beq_eq_false_iff_ne.2 hn]; simp
    clear hn
    go_enter Try.func78, Try.ntmps78
    go_wp2_with fail
    go_ret
    exact ⟨ret_bool HE.out.symm, HA2.out _ _⟩
  have hnm1 : (nm.toList == nm'.toList) = true := by rw [HN.out, hn]; simp
  have hnm2 : (nm.toList != nm'.toList) = false := by unfold bne; rw [hnm1]; rfl
  have HNM := Lib.hid hn
  clear hn
  by_cases hx : n = n'
  rotate_left
  · have hx1 : (n == n') = false := by rw [beq_eq_false_iff_ne]; exact hx
    have HE : Hid (nodeSameC (.mk k id nm n ids d ks) (.mk k id nm' n' ids' d' ks') = false) := by
      unfold Hid nodeSameC; simp only [Ck.kind, Ck.id, Ck.name, Ck.n, Ck.ids, Ck.data, Ck.kids]; rw [beq_eq_false_iff_ne.2 hx]; simp
    clear hx
    go_enter Try.func78, Try.ntmps78
    go_wp2_with fail
    go_ret
    exact ⟨ret_bool HE.out.symm, HA2.out _ _⟩
  subst hx
  have hx1 : (n == n) = true := by simp
  go_enter Try.func78, Try.ntmps78
  go_wp2_with fail
  refine (slicesEqual_any (· < w.heap.size) (· < w.heap.size) ids ids' _ _ _ (HVS.out.later (same_below (HA2.out _ _))) (HVSB.out.later (same_below (HA2.out _ _)))).mono ?_
  rintro e w1 ⟨rfl, hb1⟩
  have hs1 : w.heap.size + 2 ≤ w1.heap.size := by have := hb1.size; simpa using this
  have cA5 : w1.cell? ⟨w.heap.size, 5, none⟩ = some (.int .i64 d.kind) := (hb1.cell (p := ⟨w.heap.size, 5, none⟩) (by simp; omega)).trans (by simp)
  have cA6 : w1.cell? ⟨w.heap.size, 6, none⟩ = some (.string d.name) := (hb1.cell (p := ⟨w.heap.size, 6, none⟩) (by simp; omega)).trans (by simp)
  have cA7 : w1.cell? ⟨w.heap.size, 7, none⟩ = some (.int .i64 d.n) := (hb1.cell (p := ⟨w.heap.size, 7, none⟩) (by simp; omega)).trans (by simp)
  have cA8 : w1.cell? ⟨w.heap.size, 8, none⟩ = some (.slice s1 d.scopes.length t1) := (hb1.cell (p := ⟨w.heap.size, 8, none⟩) (by simp; omega)).trans (by simp)
  have cA9 : w1.cell? ⟨w.heap.size, 9, none⟩ = some (.slice k1 d.kids.length l1) := (hb1.cell (p := ⟨w.heap.size, 9, none⟩) (by simp; omega)).trans (by simp)
  have cA10 : w1.cell? ⟨w.heap.size, 10, none⟩ = some (.slice a ks.length cap) := (hb1.cell (p := ⟨w.heap.size, 10, none⟩) (by simp; omega)).trans (by simp)
  have cB5 : w1.cell? ⟨w.heap.size + 1, 5, none⟩ = some (.int .i64 d'.kind) := (hb1.cell (p := ⟨w.heap.size + 1, 5, none⟩) (by simp)).trans (by simp)
  have cB6 : w1.cell? ⟨w.heap.size + 1, 6, none⟩ = some (.string d'.name) := (hb1.cell (p := ⟨w.heap.size + 1, 6, none⟩) (by simp)).trans (by simp)
  have cB7 : w1.cell? ⟨w.heap.size + 1, 7, none⟩ = some (.int .i64 d'.n) := (hb1.cell (p := ⟨w.heap.size + 1, 7, none⟩) (by simp)).trans (by simp)
  have cB8 : w1.cell? ⟨w.heap.size + 1, 8, none⟩ = some (.slice s1b d'.scopes.length t1b) := (hb1.cell (p := ⟨w.heap.size + 1, 8, none⟩) (by simp)).trans (by simp)
  have cB9 : w1.cell? ⟨w.heap.size + 1, 9, none⟩ = some (.slice k1b d'.kids.length l1b) := (hb1.cell (p := ⟨w.heap.size + 1, 9, none⟩) (by simp)).trans (by simp)
  have cB10 : w1.cell? ⟨w.heap.size + 1, 10, none⟩ = some (.slice ab ks'.length capb) := (hb1.cell (p := ⟨w.heap.size + 1, 10, none⟩) (by simp)).trans (by simp)
  have HB1 : Hid (Below w.heap.size w w1) := (HA2.out _ _).trans (hb1.mono (by simp; omega))
  clear hb1
  cases hsc : (ids == ids') with
  | false =>
    have HE : Hid (nodeSameC (.mk k id nm n ids d ks) (.mk k id nm' n ids' d' ks') = false) := by
      unfold Hid nodeSameC; simp only [Ck.kind, Ck.id, Ck.name, Ck.n, Ck.ids, Ck.data, Ck.kids]; rw [hsc]; simp
    go_wp2_with fail
    go_ret
    exact ⟨ret_bool HE.out.symm, HB1.out⟩
  | true =>
    have HSC := Lib.hid hsc
    clear hsc
    go_wp2_with fail
    refine (implSame_any w1.heap.size d d' _ _ w1 (Nat.le_refl _) (InV.mono (fun k (hk : k < w.heap.size) => by omega) _ _ (InV.later (same_below HB1.out) _ _ HD.out)) (InV.mono (fun k (hk : k < w.heap.size) => by omega) _ _ (InV.later (same_below HB1.out) _ _ HDB.out)) hsz (HEND.out.later HB1.out)).mono ?_
    rintro e w2 ⟨rfl, hb2⟩
    have hs2 := hb2.size
    have dA := cell_later' hb2 cA10
    have dB := cell_later' hb2 cB10
    have HB2 : Hid (Below w.heap.size w w2) := HB1.out.trans (hb2.mono (by omega))
    clear hb2 cA5 cA6 cA7 cA8 cA9 cA10 cB5 cB6 cB7 cB8 cB9 cB10
    have HE : Hid (nodeSameC (.mk k id nm n ids d ks) (.mk k id nm' n ids' d' ks') = (sameB d d' && (ks.length == ks'.length))) := by
      unfold Hid nodeSameC; simp only [Ck.kind, Ck.id, Ck.name, Ck.n, Ck.ids, Ck.data, Ck.kids]; rw [HSC.out, HNM.out]; simp
    cases hdd : sameB d d' with
    | false =>
      have HE : Hid (nodeSameC (.mk k id nm n ids d ks) (.mk k id nm' n ids' d' ks') = false) := by unfold Hid; rw [HE.out, hdd]; rfl
      clear hdd
      go_wp2_with fail
      go_ret
      exact ⟨ret_bool HE.out.symm, HB2.out⟩
    | true =>
      by_cases hl : ks.length = ks'.length
      · have hl1 : ((ks.length : Int) == (ks'.length : Int)) = true := by rw [beq_iff_eq]; omega
        have HE : Hid (nodeSameC (.mk k id nm n ids d ks) (.mk k id nm' n ids' d' ks') = true) := by unfold Hid; rw [HE.out, hdd, Bool.true_and, beq_iff_eq]; exact hl
        clear hl hdd
        go_wp2_with fail
        go_ret
        exact ⟨ret_bool HE.out.symm, HB2.out⟩
      · have hl1 : ((ks.length : Int) == (ks'.length : Int)) = false := by rw [beq_eq_false_iff_ne]; omega
        have HE : Hid (nodeSameC (.mk k id nm n ids d ks) (.mk k id nm' n ids' d' ks') = false) := by unfold Hid; rw [HE.out, hdd, Bool.true_and, beq_eq_false_iff_ne]; exact hl
        clear hl hdd
        go_wp2_with fail
        go_ret
        exact ⟨ret_bool HE.out.symm, HB2.out⟩
def SameRel (f g : Ck) (base : Nat) (w0 : World) (k : Nat) (t : Value) (wr : World) : Prop :=
  ∃ pb v l, t = .pointer (some ⟨pb, 0, none⟩) ∧ SameMid 175 (Pl base w0) base w0 wr pb v l ∧ k = countP l ∧ countP l ≤ f.count ∧ sameC f g = sameP l
theorem info_pair : (Try.prog.info? 175).map (fun i => (i.zero, i.size, i.bytes)) = some (some (.agg #[.pointer none, .pointer none]), 2, 16) := by kernel_rfl
/-- what the loads of the inner loop's region read -/
def SameHeld (pb qg n qc : Nat) (w' : World) : Prop := w'.cell? ⟨pb, 0, none⟩ = some (.slice (some ⟨qg, 0, none⟩) n qc)
/-- the state between two rounds of the inner loop -/
def SameIn (T : TypeId) (base : Nat) (w1 wr : World) (pb kb ko kb' ko' : Nat) (fi gi : Ck) (l0 : Pairs) (i : Value) : Prop :=
  ∃ (j qg qc : Nat) (L : Pairs), L = l0 ++ kidsP kb ko kb' ko' (fi.kids.take j) (gi.kids.take j) ∧ j ≤ fi.kids.length ∧ i = .int .i64 j ∧ SameMid T (Pl base w1) base w1 wr pb (.slice (some ⟨qg, 0, none⟩) L.length qc) L
theorem SameMid.drewN {T : TypeId} {φ : Nat → Prop} {base : Nat} {w0 wr : World} {pb : Nat} {v : Value} {l : Pairs} (h : SameMid T φ base w0 wr pb v l) (n : Nat) : SameMid T φ base w0 (wr.drewN n) pb v l :=
  ⟨h.le, h.cell, h.free, h.own, h.ne, below_drewN h.below n, h.size, h.nodes⟩
set_option maxRecDepth 100000 in
set_option maxHeartbeats 4000000 in
theorem sameTrees_any (f g : Ck) (p0 q0 : Addr) (w : World) (hp0 : NodeAt (Pl w.heap.size w) w p0 f) (hq0 : NodeAt (Pl w.heap.size w) w q0 g) (hc : f.count ≤ 4294967296) :
    Calls Try.prog 77 #[.pointer (some p0), .pointer (some q0), .func (.func 76) #[] #[], .func (.func 78) #[] #[]] w
      fun e w' => e = .returned (.bool (sameC f g)) ∧ Below w.heap.size w w' := by
  have HP0 := Lib.hid hp0
  have HQ0 := Lib.hid hq0
  obtain ⟨i0, hi0, hz0, hz1, hz2⟩ := info_parts info_pair
  clear hp0 hq0
  go_enter Try.func77, Try.ntmps77
  go_wp2_with fail
  go_loopg [9] f.count (fun k t wr => SameRel f g w.heap.size w k t wr)
  case atStart =>
    refine ⟨w.heap.size + 1, _, [((p0, f), (q0, g))], rfl, ⟨by omega, World.cell?_alloc_at _ _ _ _ (by simp), World.frozen?_alloc_at _ _ _ _ (by simp), ?_, ?_, ?_, ?_, ?_⟩, by simp [countP], by simp [countP], by simp [sameP]⟩
    · exact ((World.ownsRow_lit w _ 1 (Nat.le_refl _) (by unfold maxLen; omega) (by simp)).alloc _)
    · simp [Value.ownBlock]
    · exact (((Below.refl _ w).alloc (Nat.le_refl _) _).alloc (by simp) _)
    · simp; omega
    · intro x hx
      rw [List.mem_singleton] at hx
      subst hx
      exact ⟨HP0.out, HQ0.out⟩
  case round =>
    obtain ⟨pb, v, l, rfl, hm, hk, hkc, hsame⟩ := hrel
    have HM := Lib.hid hm
    have HK := Lib.hid hk
    have HSAME := Lib.hid hsame
    clear hm hk hsame
    have hcount : countP l ≤ 4294967296 := by omega
    rcases List.eq_nil_or_concat l with rfl | ⟨l0, x, rfl⟩
    · have HE : Hid (sameC f g = true) := HSAME.out
      have hcell := HM.out.cell
      have HBW : Hid (Below w.heap.size w wr) := HM.out.below
      have hform : ∃ a cap, v = .slice a 0 cap := by
        rcases HM.out.own.2 with ⟨h, _⟩ | ⟨g, cap, _, h, _⟩
        · exact ⟨none, 0, h⟩
        · exact ⟨_, cap, h⟩
      obtain ⟨va, vc, rfl⟩ := hform
      go_wp2_with fail
      go_ret
      exact ⟨ret_bool HE.out.symm, HBW.out⟩
    · rw [List.concat_eq_append] at HM HK HSAME hcount hkc
      obtain ⟨⟨p, fi⟩, ⟨q, gi⟩⟩ := x
      obtain ⟨g', gcap, rfl, hown, hne, hbg, hgl⟩ := HM.out.pop
      have hcell := HM.out.cell
      have hfree := HM.out.free
      obtain ⟨hnp, hnq⟩ := HM.out.nodes ((p, fi), (q, gi)) (by simp)
      have hlen := length_countP (l0 ++ [((p, fi), (q, gi))])
      rw [List.length_append, List.length_singleton] at hlen
      have HOWN := Lib.hid hown
      have HNP := Lib.hid hnp
      have HNQ := Lib.hid hnq
      clear hown hnp hnq
      go_wp2_with fail
      refine (popPair_any (w.heap.size) pb g' gcap l0.length (cellsP l0) p q _ hcell hfree HOWN.out (cellsP_length l0) hne HM.out.le HM.out.size).mono ?_
      rintro e w2 ⟨rfl, hpop⟩
      have HPOP := Lib.hid hpop
      have hbw2 : Below (w.heap.size) w w2 := HM.out.below.trans hpop.2.2.2.2.2
      obtain ⟨b, o, rfl, hb, hzf1, i1, j1, s1, t1, k1, l1, a1, cap1, p0, p1, p2, p3, p4, p5, p6, p7, p8, p9, p10, hin⟩ := HNP.out
      obtain ⟨b', o', rfl, hb', hzf2, i2, j2, s2, t2, k2, l2, a2, cap2, q0, q1, q2, q3, q4, q5, q6, q7, q8, q9, q10, hin'⟩ := HNQ.out
      have p0 := ((same_below hbw2).cell hb.1).trans p0
      have p1 := ((same_below hbw2).cell hb.1).trans p1
      have p2 := ((same_below hbw2).cell hb.1).trans p2
      have p3 := ((same_below hbw2).cell hb.1).trans p3
      have p4 := ((same_below hbw2).cell hb.1).trans p4
      have p5 := ((same_below hbw2).cell hb.1).trans p5
      have p6 := ((same_below hbw2).cell hb.1).trans p6
      have p7 := ((same_below hbw2).cell hb.1).trans p7
      have p8 := ((same_below hbw2).cell hb.1).trans p8
      have p9 := ((same_below hbw2).cell hb.1).trans p9
      have p10 := ((same_below hbw2).cell hb.1).trans p10
      have q0 := ((same_below hbw2).cell hb'.1).trans q0
      have q1 := ((same_below hbw2).cell hb'.1).trans q1
      have q2 := ((same_below hbw2).cell hb'.1).trans q2
      have q3 := ((same_below hbw2).cell hb'.1).trans q3
      have q4 := ((same_below hbw2).cell hb'.1).trans q4
      have q5 := ((same_below hbw2).cell hb'.1).trans q5
      have q6 := ((same_below hbw2).cell hb'.1).trans q6
      have q7 := ((same_below hbw2).cell hb'.1).trans q7
      have q8 := ((same_below hbw2).cell hb'.1).trans q8
      have q9 := ((same_below hbw2).cell hb'.1).trans q9
      have q10 := ((same_below hbw2).cell hb'.1).trans q10
      have hbx : b < w.heap.size := hb.1
      have hbx' : b' < w.heap.size := hb'.1
      have HBW2 := Lib.hid hbw2
      have hsz2 : wr.heap.size ≤ w2.heap.size := hpop.2.2.2.1
      have hszr : w.heap.size ≤ wr.heap.size := HM.out.size
      have hbl : b < w2.heap.size := by omega
      have hbl' : b' < w2.heap.size := by omega
      have HIN := Lib.hid hin
      have HIN' := Lib.hid hin'
      clear hin hin' hpop hcell hfree hbw2
      go_wp2_with fail
      generalize hW : w2.alloc (Obj.cells #[.pointer (some ⟨b, o, none⟩), .pointer (some ⟨b', o', none⟩)] 175) = W
      have hbW : Below w2.heap.size w2 W := by rw [← hW]; exact (Below.refl _ _).alloc (Nat.le_refl _) _
      have r0 : W.cell? ⟨w2.heap.size, 0, none⟩ = some (.pointer (some ⟨b, o, none⟩)) := by rw [← hW]; simp
      have r1 : W.cell? ⟨w2.heap.size, 1, none⟩ = some (.pointer (some ⟨b', o', none⟩)) := by rw [← hW]; simp
      have hszW : W.heap.size = w2.heap.size + 1 := by rw [← hW]; simp
      have p0 := cell_later' hbW p0
      have p1 := cell_later' hbW p1
      have p2 := cell_later' hbW p2
      have p3 := cell_later' hbW p3
      have p4 := cell_later' hbW p4
      have p5 := cell_later' hbW p5
      have p6 := cell_later' hbW p6
      have p7 := cell_later' hbW p7
      have p8 := cell_later' hbW p8
      have p9 := cell_later' hbW p9
      have p10 := cell_later' hbW p10
      have q0 := cell_later' hbW q0
      have q1 := cell_later' hbW q1
      have q2 := cell_later' hbW q2
      have q3 := cell_later' hbW q3
      have q4 := cell_later' hbW q4
      have q5 := cell_later' hbW q5
      have q6 := cell_later' hbW q6
      have q7 := cell_later' hbW q7
      have q8 := cell_later' hbW q8
      have q9 := cell_later' hbW q9
      have q10 := cell_later' hbW q10
      have HBW := Lib.hid hbW
      have HSZW := Lib.hid hszW
      have hlW : w2.heap.size < W.heap.size := by omega
      clear hW hbW hszW
      go_still_tail 9, (by kernel_rfl)
      change wpList _ _ _ _ _ W.drew
      go_wp2_with fail
      refine (sameCoreNode_any fi gi _ _ W.drew (InC.pl (HBW2.out.trans (HBW.out.drew.mono (by omega))) HIN.out) (InC.mono (fun k hk => by have h1 := hk.1; show k < W.heap.size; omega) _ _ (InC.later (w := w) (w' := W.drew) (Same.of_below (HBW2.out.trans (HBW.out.drew.mono (by omega))) (fun k hk => hk.1)) _ _ HIN'.out)) (by have h1 := fi.sz_eq; have h2 := fi.data.count_le; omega)).mono ?_
      rintro e w3 ⟨rfl, hb3⟩
      have hb3' : Below W.heap.size W w3 := ((Below.refl W.heap.size W).drew).trans hb3
      have r0 := cell_later' hb3' r0
      have r1 := cell_later' hb3' r1
      have p10 := cell_later' hb3' p10
      have q10 := cell_later' hb3' q10
      have hb23 : Below w2.heap.size w2 w3 := HBW.out.trans (hb3'.mono (by omega))
      have hsz3 : w2.heap.size < w3.heap.size := by have := hb3'.size; omega
      have HMID : Hid (SameMid 175 (Pl w.heap.size w) (w.heap.size) w w3 pb (.slice (some ⟨g', 0, none⟩) l0.length gcap) l0) := by
        obtain ⟨u1, u2, u3, u4, u5, u6⟩ := HPOP.out.later hb23 HM.out.size
        exact HM.out.popped u1 u2 u3 hne u6
      have HB3 : Hid (Below w.heap.size w w3) := HMID.out.below
      have HNS := Lib.hid (sameC_node fi gi)
      clear hb3 hb3' hb23 p0 p1 p2 p3 p4 p5 p6 p7 p8 p9 q0 q1 q2 q3 q4 q5 q6 q7 q8 q9
      cases hn : nodeSameC fi gi with
      | false =>
        have HE : Hid (sameC f g = false) := by
          have h1 := HSAME.out
          have h2 := HNS.out
          rw [hn, Bool.false_and] at h2
          unfold Hid
          rw [h1, sameP_append]
          simp [sameP, h2]
        clear hn
        go_wp2_with fail
        go_ret
        exact ⟨ret_bool HE.out.symm, HB3.out⟩
      | true =>
        have hlk : fi.kids.length = gi.kids.length := by
          unfold nodeSameC at hn
          simp only [Bool.and_eq_true, beq_iff_eq] at hn
          exact hn.2
        have HE : Hid (sameC f g = (sameP l0 && sameCs fi.kids gi.kids)) := by
          have h1 := HSAME.out
          have h2 := HNS.out
          rw [hn, Bool.true_and] at h2
          unfold Hid
          rw [h1, sameP_append]
          simp [sameP, h2]
        clear hn
        have HLK := Lib.hid hlk
        obtain ⟨kc1, km1, hkids⟩ := InC.kids HIN.out
        obtain ⟨kc2, km2, hkids'⟩ := InC.kids HIN'.out
        unfold maxLen at km1 km2
        have hadr : ∃ kb ko kb' ko', (fi.kids ≠ [] → a1 = some ⟨kb, ko, none⟩ ∧ Pl w.heap.size w kb ∧ RowC (Pl w.heap.size w) w kb ko fi.kids ∧ a2 = some ⟨kb', ko', none⟩ ∧ Pl w.heap.size w kb' ∧ RowC (Pl w.heap.size w) w kb' ko' gi.kids) := by
          rcases hkids with h | ⟨kb, ko, h1, h2, h3⟩
          · exact ⟨0, 0, 0, 0, fun h' => absurd h h'⟩
          · rcases hkids' with h' | ⟨kb', ko', h1', h2', h3'⟩
            · exact ⟨0, 0, 0, 0, fun h'' => absurd (List.length_eq_zero_iff.1 (hlk.trans (by rw [h']; rfl))) h''⟩
            · exact ⟨kb, ko, kb', ko', fun _ => ⟨h1, h2, h3, h1', h2', h3'⟩⟩
        obtain ⟨kb, ko, kb', ko', hadr⟩ := hadr
        have HADR := Lib.hid hadr
        have hl1 : fi.kids.length ≤ gi.kids.length := by omega
        have hl2 : gi.kids.length ≤ fi.kids.length := by omega
        clear hkids hkids' hadr hlk
        have hgne : g' ≠ w2.heap.size := by omega
        go_wp2_with fail
        go_quiet ((first | exact quiet_left (kidsOfCore_any b o _ _ p10) | exact quiet_left (kidsOfCore_any b' o' _ _ q10)))
        go_wp2_with fail
        go_loopw [43] (fun i wr2 => SameIn 175 w.heap.size w wr2 pb kb ko kb' ko' fi gi l0 i) (fun i _ => fi.kids.length - (intOf i).toNat)
        case atStart => exact ⟨0, g', gcap, l0, by simp [kidsP], Nat.zero_le _, rfl, HMID.out.drewN _⟩
        case round =>
          clear p10 q10
          obtain ⟨j, qg, qc, L, hL, hj, rfl, hq⟩ := hrel
          have HQ := Lib.hid hq
          have HL := Lib.hid hL
          clear hL
          by_cases hlt : j < fi.kids.length
          · obtain ⟨rfl, hkb, hrow, rfl, hkb', hrow'⟩ := HADR.out (by intro e; rw [e] at hlt; simp at hlt)
            have hlt2 : j < gi.kids.length := by omega
            have hcell := hq.cell
            have hfree := hq.free
            have hown := hq.own
            have hj0 : (0 : Int) ≤ (j : Int) := by omega
            have hj1 : (j : Int) < (fi.kids.length : Int) := by omega
            have hj2 : (j : Int) < (gi.kids.length : Int) := by omega
            obtain ⟨hqb, hql, _, _, _⟩ := ownsRow_at hown
            have hqp : qg ≠ pb := fun e => hq.ne (by simp [Value.ownBlock, e])
            have hbz : w.heap.size ≤ wr.heap.size := hq.size
            clear hq
            have ap : (Value.slice (some ⟨qg, 0, none⟩) L.length qc).ownBlock ≠ some pb := by simp [Value.ownBlock, hqp]
            have hpbl : pb < wr.heap.size := cell_lt hcell
            have hLn : L.length ≤ 8589934592 := by
              have e1 := HL.out
              have e2 : (kidsP kb ko kb' ko' (fi.kids.take j) (gi.kids.take j)).length = (fi.kids.take j).length := kidsP_length _ _ _ _ _ _ (take_length_eq HLK.out j)
              have e3 := length_countCs fi.kids
              have e4 := Ck.count_eq fi
              have e5 := countP_append l0 [(((⟨b, o, none⟩ : Addr), fi), ((⟨b', o', none⟩ : Addr), gi))]
              simp only [countP] at e5
              rw [e1, List.length_append, e2, List.length_take]
              omega
            have hL1 : L.length + 1 ≤ maxLen := by unfold maxLen; omega
            have hL2 : (L.length + 1) * 16 ≤ 140737488355328 := by omega
            go_wp2_with fail
            have hS0 : SameHeld pb qg L.length qc wr.drew := hcell
            refine upto_begin (SameHeld pb qg L.length qc) 10 (by kernel_rfl) ?_
            refine upto_take (i := 0) (d := some 46) (v := ?_) rfl rfl (by kernel_rfl) (by kernel_rfl) (by kernel_rfl) (by kernel_rfl) (fun _ _ _ h => h) (Or.inl ⟨by rfl, ?_⟩) hS0 ?_
            rotate_left
            · (intro wS hSw; have y0 := hSw; unfold SameHeld at y0; go_simp; try with_reducible rfl)
            try simp only [Act.put, List.setIfInBounds_toArray, List.set_cons_zero, List.set_cons_succ]
            refine upto_take (i := 1) (d := some 47) (v := ?_) rfl rfl (by kernel_rfl) (by kernel_rfl) (by kernel_rfl) (by kernel_rfl) (fun _ _ _ h => h) (Or.inl ⟨by rfl, ?_⟩) hS0 ?_
            rotate_left
            · (intro wS hSw; have y0 := hSw; unfold SameHeld at y0; go_simp; try with_reducible rfl)
            try simp only [Act.put, List.setIfInBounds_toArray, List.set_cons_zero, List.set_cons_succ]
            refine upto_take (i := 2) (d := some 48) (v := ?_) rfl rfl (by kernel_rfl) (by kernel_rfl) (by kernel_rfl) (by kernel_rfl) (fun _ _ _ h => h) (Or.inl ⟨by rfl, ?_⟩) hS0 ?_
            rotate_left
            · (intro wS hSw; have y0 := hSw; unfold SameHeld at y0; go_simp; try with_reducible rfl)
            try simp only [Act.put, List.setIfInBounds_toArray, List.set_cons_zero, List.set_cons_succ]
            refine upto_take (i := 3) (d := some 49) (v := ?_) rfl rfl (by kernel_rfl) (by kernel_rfl) (by kernel_rfl) (by kernel_rfl) (fun _ _ _ h => h) (Or.inl ⟨by rfl, ?_⟩) hS0 ?_
            rotate_left
            · (intro wS hSw; have y0 := hSw; unfold SameHeld at y0; go_simp; try with_reducible rfl)
            try simp only [Act.put, List.setIfInBounds_toArray, List.set_cons_zero, List.set_cons_succ]
            refine upto_take (i := 4) (d := some 50) (v := ?_) rfl rfl (by kernel_rfl) (by kernel_rfl) (by kernel_rfl) (by kernel_rfl) (fun _ _ _ h => h) (Or.inl ⟨by rfl, ?_⟩) hS0 ?_
            rotate_left
            · (intro wS hSw; have y0 := hSw; unfold SameHeld at y0; go_simp; try with_reducible rfl)
            try simp only [Act.put, List.setIfInBounds_toArray, List.set_cons_zero, List.set_cons_succ]
            refine upto_take (i := 5) (d := some 51) (v := ?_) rfl rfl (by kernel_rfl) (by kernel_rfl) (by kernel_rfl) (by kernel_rfl) (fun _ _ _ h => h) (Or.inl ⟨by rfl, ?_⟩) hS0 ?_
            rotate_left
            · (intro wS hSw; have y0 := hSw; unfold SameHeld at y0; go_simp; try with_reducible rfl)
            try simp only [Act.put, List.setIfInBounds_toArray, List.set_cons_zero, List.set_cons_succ]
            refine upto_take (i := 6) (d := some 52) (v := ?_) rfl rfl (by kernel_rfl) (by kernel_rfl) (by kernel_rfl) (by kernel_rfl) (fun _ _ _ h => h) (Or.inl ⟨by rfl, ?_⟩) hS0 ?_
            rotate_left
            · (intro wS hSw; have y0 := hSw; unfold SameHeld at y0; go_simp; try with_reducible rfl)
            try simp only [Act.put, List.setIfInBounds_toArray, List.set_cons_zero, List.set_cons_succ]
            refine upto_take (i := 7) (d := some 53) (v := ?_) rfl rfl (by kernel_rfl) (by kernel_rfl) (by kernel_rfl) (by kernel_rfl) (fun _ _ _ h => h) (Or.inl ⟨by rfl, ?_⟩) hS0 ?_
            rotate_left
            · (intro wS hSw; have y0 := hSw; unfold SameHeld at y0; go_simp; try with_reducible rfl)
            try simp only [Act.put, List.setIfInBounds_toArray, List.set_cons_zero, List.set_cons_succ]
            refine upto_one (i := 8) (by kernel_rfl) rfl (fun K hK => ?_)
            go_simp
            have hbA : Below wr.heap.size wr (wr.alloc (Obj.cells #[.pointer (some ⟨kb, ko + j * 11, none⟩), .pointer (some ⟨kb', ko' + j * 11, none⟩)] 175)).drew := ((Below.refl _ wr).alloc (Nat.le_refl _) _).drew
            have a0 := cell_later' hbA hcell
            have af := (hbA.frozen (p := ⟨pb, 0, none⟩) hpbl).trans hfree
            refine hK.out _ _ (.inr a0) ?_
            clear hK K
            refine upto_oper (i := 9) ⟨some 55, .call { callee := .builtin .append, args := #[.tmp 46, .tmp 54], argTypes := #[176, 176] }, 176, _, _, _⟩ (by kernel_rfl) rfl rfl (fun K hK => ?_)
            refine wp_append_lies _ (.tmp 46) (.tmp 54) 176 rfl (w.heap.size) 175 i0 _ 2 16 Try.underlying176 hi0 hz0 hz1 hz2 rfl (by omega) _ L.length (cellsP L) (by rfl) ((hown.alloc _).drew)
                  ⟨wr.heap.size, 0, none⟩ 1 1 [.pointer (some ⟨kb, ko + j * 11, none⟩), .pointer (some ⟨kb', ko' + j * 11, none⟩)] (by rfl) (by rfl) (World.news_of_block (cs := #[.pointer (some ⟨kb, ko + j * 11, none⟩), .pointer (some ⟨kb', ko' + j * 11, none⟩)]) (t := 175) (fr := (0, 0)) (heap_alloc_new wr _)) (by simp [Value.oneCell'])
                  (by omega) hL1 hL2 (by simp; omega) (wr.heap.size + 1) (by simp) ?_
            intro gg qcap w4 hown1 hgrow hat hlt4
            have hc4 := (hgrow.cell_far ⟨pb, 0, none⟩ (by simp; omega) (Ne.symm ap)).trans a0
            have hf4 := (hgrow.frozen_far ⟨pb, 0, none⟩ (by simp; omega) (Ne.symm ap)).trans af
            refine hK.out _ _ (.inr hc4) ?_
            clear hK K
            refine upto_one (i := 10) (by kernel_rfl) rfl (fun K hK => ?_)
            go_simp
            refine hK.out _ _ (.inl rfl) ?_
            clear hK K
            refine upto_done (by kernel_rfl) ?_ _
            have hgp : gg ≠ pb := by
              rcases hat with h | h
              · simp [Value.ownBlock] at h; omega
              · omega
            have hb5 : Below (w.heap.size) wr (w4.setCell ⟨pb, 0, none⟩ (.slice (some ⟨gg, 0, none⟩) (L.length + 1) qcap)) :=
              ((hbA.mono hbz).grown hgrow (by simp; omega) (fun k hk => by simp [Value.ownBlock] at hk; omega)).setCell (p := ⟨pb, 0, none⟩) HQ.out.le _
            have HREL : Hid (SameIn 175 (w.heap.size) w (w4.setCell ⟨pb, 0, none⟩ (.slice (some ⟨gg, 0, none⟩) (L.length + 1) qcap)) pb kb ko kb' ko' fi gi l0 (.int .i64 (j + 1 : Nat))) :=
              ⟨j + 1, gg, qcap, L ++ [((⟨kb, ko + j * 11, none⟩, fi.kids[j]), (⟨kb', ko' + j * 11, none⟩, gi.kids[j]))], by rw [HL.out, kidsP_take_succ _ _ _ _ _ _ j hlt hlt2, List.append_assoc], by omega, rfl,
                by rw [List.length_append, List.length_singleton]; exact HQ.out.push (World.cell?_setCell_same _ _ _ hc4) (by rw [World.frozen?_setCell]; exact hf4) (ownsRow_setFar hown1 hgp) hgp hb5 ⟨hrow.node hkb j hlt (by have := Ck.kid_sz hlt; omega), hrow'.node hkb' j hlt2 (by have := Ck.kid_sz hlt2; omega)⟩⟩
            clear hb5 hgrow hown1 hat hbA
            go_wp2_with fail
            go_roundw
            case rel =>
              have e := HREL.out
              rw [show ((j + 1 : Nat) : Int) = (j : Int) + 1 from by omega] at e
              exact e
            case measure => simp [intOf]; omega
          · obtain rfl : j = fi.kids.length := by omega
            have hcell := hq.cell
            have HREL : Hid (SameRel f g (w.heap.size) w (countP L) (.pointer (some ⟨wr.heap.size, 0, none⟩)) (wr.alloc (.cells #[.slice (some ⟨qg, 0, none⟩) L.length qc] 176)) ∧ countP L < gk) := by
              have e1 := HL.out
              rw [List.take_length, HLK.out, List.take_length] at e1
              have e5 := countP_append l0 [(((⟨b, o, none⟩ : Addr), fi), ((⟨b', o', none⟩ : Addr), gi))]
              have e6 := countP_append l0 (kidsP kb ko kb' ko' fi.kids gi.kids)
              rw [kidsP_count _ _ _ _ _ _ HLK.out, ← e1] at e6
              have e4 := Ck.count_eq fi
              simp only [countP] at e5
              have e7 := HK.out
              refine ⟨⟨wr.heap.size, _, L, rfl, HQ.out.move, rfl, by omega, ?_⟩, by omega⟩
              rw [HE.out, e1, sameP_append, kidsP_same _ _ _ _ _ _ HLK.out]
            clear hq
            go_wp2_with fail
            go_roundg (countP L)
            case measure => exact HREL.out.2
            case rel => exact HREL.out.1
set_option maxRecDepth 100000 in
set_option maxHeartbeats 2000000 in
theorem implCoreSame_any (x y : CItem) (w : World) (hv : InC (Pl w.heap.size w) w x.f x.val) (hu : InC (Pl w.heap.size w) w y.f y.val) (hz1 : x.f.sz ≤ 1048576) (hz2 : y.f.sz ≤ 1048576) (hend : FiniteAt x w) :
    Calls Try.prog 19 #[x.val, y.val] w fun e w' => e = .returned (.bool (sameC x.f y.f)) ∧ Below w.heap.size w w' := by
  have HV := Lib.hid hv
  have HU := Lib.hid hu
  have HEND := Lib.hid hend
  clear hv hu hend
  rw [CItem.val_eq, CItem.val_eq]
  go_enter Try.func19, Try.ntmps19
  go_wp2_with fail
  obtain ⟨W, hW⟩ : ∃ W, W = (w.alloc (.cells #[.int .i64 x.f.kind, .int .i64 x.f.id, .string x.f.name, .int .i64 x.f.n, .slice x.i1 x.f.ids.length x.j1, .int .i64 x.f.data.kind, .string x.f.data.name, .int .i64 x.f.data.n, .slice x.s1 x.f.data.scopes.length x.t1, .slice x.k1 x.f.data.kids.length x.l1, .slice x.a x.f.kids.length x.cap] 36)).alloc (.cells #[.int .i64 y.f.kind, .int .i64 y.f.id, .string y.f.name, .int .i64 y.f.n, .slice y.i1 y.f.ids.length y.j1, .int .i64 y.f.data.kind, .string y.f.data.name, .int .i64 y.f.data.n, .slice y.s1 y.f.data.scopes.length y.t1, .slice y.k1 y.f.data.kids.length y.l1, .slice y.a y.f.kids.length y.cap] 36) := ⟨_, rfl⟩
  rw [← hW]
  have hbW : Below w.heap.size w W := by rw [hW]; exact (below_alloc w _).alloc (by simp) _
  have hsW : W.heap.size = w.heap.size + 2 := by rw [hW]; simp
  have HX : Hid (CoreBox W w.heap.size x) := by unfold Hid; rw [hW]; exact (CoreBox.fresh w x _).later (below_alloc _ _)
  have HY : Hid (CoreBox W (w.heap.size + 1) y) := by
    unfold Hid; rw [hW]
    have := CoreBox.fresh (w.alloc (.cells #[.int .i64 x.f.kind, .int .i64 x.f.id, .string x.f.name, .int .i64 x.f.n, .slice x.i1 x.f.ids.length x.j1, .int .i64 x.f.data.kind, .string x.f.data.name, .int .i64 x.f.data.n, .slice x.s1 x.f.data.scopes.length x.t1, .slice x.k1 x.f.data.kids.length x.l1, .slice x.a x.f.kids.length x.cap] 36)) y 36
    rw [size_alloc'] at this
    exact this
  have HPX : Hid (Plain W w.heap.size) := by unfold Hid; rw [hW]; exact (Plain.fresh w _ _).later (below_alloc _ _)
  have HPY : Hid (Plain W (w.heap.size + 1)) := by
    unfold Hid; rw [hW]
    have := Plain.fresh (w.alloc (.cells #[.int .i64 x.f.kind, .int .i64 x.f.id, .string x.f.name, .int .i64 x.f.n, .slice x.i1 x.f.ids.length x.j1, .int .i64 x.f.data.kind, .string x.f.data.name, .int .i64 x.f.data.n, .slice x.s1 x.f.data.scopes.length x.t1, .slice x.k1 x.f.data.kids.length x.l1, .slice x.a x.f.kids.length x.cap] 36)) #[.int .i64 y.f.kind, .int .i64 y.f.id, .string y.f.name, .int .i64 y.f.n, .slice y.i1 y.f.ids.length y.j1, .int .i64 y.f.data.kind, .string y.f.data.name, .int .i64 y.f.data.n, .slice y.s1 y.f.data.scopes.length y.t1, .slice y.k1 y.f.data.kids.length y.l1, .slice y.a y.f.kids.length y.cap] 36
    rw [size_alloc'] at this
    exact this
  have HBW := Lib.hid hbW
  obtain ⟨_, _, _, _, _, _, _, _, _, _, x10⟩ := HX.out
  clear hW hbW
  refine (HEND.out W w.heap.size HBW.out (Nat.le_refl _) (by omega) HPX.out x10).mono ?_
  rintro e w1 ⟨rfl, hb1⟩
  have hs1 := hb1.size
  have HB1 : Hid (Below w.heap.size w w1) := HBW.out.trans (hb1.mono (by omega))
  have HN1 : Hid (NodeAt (Pl w1.heap.size w1) w1 ⟨w.heap.size, 0, none⟩ x.f) := by
    obtain ⟨x0, x1, x2, x3, x4, x5, x6, x7, x8, x9, x10⟩ := HX.out.later hb1
    exact ⟨_, 0, rfl, ⟨by omega, HPX.out.later hb1⟩, hz1, x.i1, x.j1, x.s1, x.t1, x.k1, x.l1, x.a, x.cap, x0, x1, x2, x3, x4, x5, x6, x7, x8, x9, x10, InC.pl HB1.out HV.out⟩
  have HN2 : Hid (NodeAt (Pl w1.heap.size w1) w1 ⟨w.heap.size + 1, 0, none⟩ y.f) := by
    obtain ⟨x0, x1, x2, x3, x4, x5, x6, x7, x8, x9, x10⟩ := HY.out.later hb1
    exact ⟨_, 0, rfl, ⟨by omega, HPY.out.later hb1⟩, hz2, y.i1, y.j1, y.s1, y.t1, y.k1, y.l1, y.a, y.cap, x0, x1, x2, x3, x4, x5, x6, x7, x8, x9, x10, InC.pl HB1.out HU.out⟩
  clear hb1 x10
  go_wp2_with fail
  refine (sameTrees_any x.f y.f _ _ w1 HN1.out HN2.out (by have := x.f.count_le; omega)).mono ?_
  rintro e w2 ⟨rfl, hb2⟩
  have HB2 : Hid (Below w.heap.size w w2) := HB1.out.trans (hb2.mono (by omega))
  clear hb2
  go_wp2_with fail
  go_ret
  exact ⟨rfl, HB2.out⟩
end Go.Proofs.Ytbclgmabidjegaa.CoreT
