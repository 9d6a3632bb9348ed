/- The contract of the program's comparison of forms. -/
import Derived.Test.YtbclgmabidjegaaEndAt
import Derived.Test.YtbclgmabidjegaaPop2
import Derived.Test.YtbclgmabidjegaaData
import Derived.Test.YtbclgmabidjegaaSame
import Derived.Deep.LoopGhost
import Derived.Deep.RegionHeld3
import Derived.StillTailTactics
namespace Go.Proofs.Ytbclgmabidjegaa
open Go.RowKit
set_option linter.unusedVariables false
set_option linter.unusedSimpArgs false
def SameRel (f g : Fm) (base : Nat) (w0 : World) (k : Nat) (t : Value) (wr : World) : Prop :=
  ∃ pb v l, t = .pointer (some ⟨pb, 0, none⟩) ∧ SameMid 255 (· < base) base w0 wr pb v l ∧ k = countP l ∧ countP l ≤ f.count ∧ sameB f g = sameP l
theorem info_pair : (Try.prog.info? 255).map (fun i => (i.zero, i.size, i.bytes)) = some (some (.agg #[.pointer none, .pointer none]), 2, 16) := by kernel_rfl
/-- what the loads of the inner loop's region read -/
def SameHeld (pb qg n qc : Nat) (w' : World) : Prop := w'.cell? ⟨pb, 0, none⟩ = some (.slice (some ⟨qg, 0, none⟩) n qc)
/-- the state between two rounds of the inner loop -/
def SameIn (T : TypeId) (base : Nat) (w1 wr : World) (pb kb ko kb' ko' : Nat) (fi gi : Fm) (l0 : Pairs) (i : Value) : Prop :=
  ∃ (j qg qc : Nat) (L : Pairs), L = l0 ++ kidsP kb ko kb' ko' (fi.kids.take j) (gi.kids.take j) ∧ j ≤ fi.kids.length ∧ i = .int .i64 j ∧ SameMid T (· < base) base w1 wr pb (.slice (some ⟨qg, 0, none⟩) L.length qc) L
theorem SameMid.drewN {T : TypeId} {φ : Nat → Prop} {base : Nat} {w0 wr : World} {pb : Nat} {v : Value} {l : Pairs} (h : SameMid T φ base w0 wr pb v l) (n : Nat) : SameMid T φ base w0 (wr.drewN n) pb v l :=
  ⟨h.le, h.cell, h.free, h.own, h.ne, below_drewN h.below n, h.size, h.nodes⟩
theorem quiet_left {P : Program} {f : FuncId} {args : Array Value} {w : World} {n : Nat} {v : Value}
    (h : Calls P f args (w.drewN n) fun e w' => e = .returned v ∧ w.drewN n = w') : Calls P f args (w.drewN n) fun e w' => e = .returned v ∧ ∃ m, w' = w.drewN m :=
  h.mono fun _ _ ⟨he, hm⟩ => ⟨he, n, hm.symm⟩
set_option maxRecDepth 100000 in
set_option maxHeartbeats 4000000 in
theorem sameTrees_any (f g : Fm) (p0 q0 : Addr) (w : World) (hp0 : NodeAt (· < w.heap.size) w p0 f) (hq0 : NodeAt (· < w.heap.size) w q0 g) (hc : f.count ≤ 4294967296) :
    Calls Try.prog 190 #[.pointer (some p0), .pointer (some q0), .func (.func 179) #[] #[], .func (.func 191) #[] #[]] w
      fun e w' => e = .returned (.bool (sameB f g)) ∧ Below w.heap.size w w' := by
  have HP0 := Lib.hid hp0
  have HQ0 := Lib.hid hq0
  obtain ⟨i0, hi0, hz0, hz1, hz2⟩ := info_parts info_pair
  clear hp0 hq0
  go_enter Try.func190, Try.ntmps190
  go_wp2_with fail
  go_loopg [9] f.count (fun k t wr => SameRel f g w.heap.size w k t wr)
  case atStart =>
    refine ⟨w.heap.size + 1, _, [((p0, f), (q0, g))], rfl, ⟨by omega, World.cell?_alloc_at _ _ _ _ (by simp), World.frozen?_alloc_at _ _ _ _ (by simp), ?_, ?_, ?_, ?_, ?_⟩, by simp [countP], by simp [countP], by simp [sameP]⟩
    · exact ((World.ownsRow_lit w _ 1 (Nat.le_refl _) (by unfold maxLen; omega) (by simp)).alloc _)
    · simp [Value.ownBlock]
    · exact (((Below.refl _ w).alloc (Nat.le_refl _) _).alloc (by simp) _)
    · simp; omega
    · intro x hx
      rw [List.mem_singleton] at hx
      subst hx
      exact ⟨HP0.out, HQ0.out⟩
  case round =>
    obtain ⟨pb, v, l, rfl, hm, hk, hkc, hsame⟩ := hrel
    have HM := Lib.hid hm
    have HK := Lib.hid hk
    have HSAME := Lib.hid hsame
    clear hm hk hsame
    have hcount : countP l ≤ 4294967296 := by omega
    rcases List.eq_nil_or_concat l with rfl | ⟨l0, x, rfl⟩
    · have HE : Hid (sameB f g = true) := HSAME.out
      have hcell := HM.out.cell
      have HBW : Hid (Below w.heap.size w wr) := HM.out.below
      have hform : ∃ a cap, v = .slice a 0 cap := by
        rcases HM.out.own.2 with ⟨h, _⟩ | ⟨g, cap, _, h, _⟩
        · exact ⟨none, 0, h⟩
        · exact ⟨_, cap, h⟩
      obtain ⟨va, vc, rfl⟩ := hform
      go_wp2_with fail
      go_ret
      exact ⟨ret_bool HE.out.symm, HBW.out⟩
    · rw [List.concat_eq_append] at HM HK HSAME hcount hkc
      obtain ⟨⟨p, fi⟩, ⟨q, gi⟩⟩ := x
      obtain ⟨g', gcap, rfl, hown, hne, hbg, hgl⟩ := HM.out.pop
      have hcell := HM.out.cell
      have hfree := HM.out.free
      obtain ⟨hnp, hnq⟩ := HM.out.nodes ((p, fi), (q, gi)) (by simp)
      have hlen := length_countP (l0 ++ [((p, fi), (q, gi))])
      rw [List.length_append, List.length_singleton] at hlen
      have HOWN := Lib.hid hown
      have HNP := Lib.hid hnp
      have HNQ := Lib.hid hnq
      clear hown hnp hnq
      go_wp2_with fail
      refine (popPair_any (w.heap.size) pb g' gcap l0.length (cellsP l0) p q _ hcell hfree HOWN.out (cellsP_length l0) hne HM.out.le HM.out.size).mono ?_
      rintro e w2 ⟨rfl, hpop⟩
      have HPOP := Lib.hid hpop
      have hbw2 : Below (w.heap.size) w w2 := HM.out.below.trans hpop.2.2.2.2.2
      obtain ⟨b, o, rfl, hb, sa1, scap1, a1, cap1, p0, p1, p2, p3, p4, hin⟩ := HNP.out
      obtain ⟨b', o', rfl, hb', sa2, scap2, a2, cap2, q0, q1, q2, q3, q4, hin'⟩ := HNQ.out
      have p0 := ((same_below hbw2).cell hb).trans p0
      have p1 := ((same_below hbw2).cell hb).trans p1
      have p2 := ((same_below hbw2).cell hb).trans p2
      have p3 := ((same_below hbw2).cell hb).trans p3
      have P4 := Lib.hid p4
      have Q4 := Lib.hid q4
      have p4 := ((same_below hbw2).cell hb).trans p4
      have q0 := ((same_below hbw2).cell hb').trans q0
      have q1 := ((same_below hbw2).cell hb').trans q1
      have q2 := ((same_below hbw2).cell hb').trans q2
      have q3 := ((same_below hbw2).cell hb').trans q3
      have q4 := ((same_below hbw2).cell hb').trans q4
      have HBW2 := Lib.hid hbw2
      have hsz2 : wr.heap.size ≤ w2.heap.size := hpop.2.2.2.1
      have hszr : w.heap.size ≤ wr.heap.size := HM.out.size
      have hbl : b < w2.heap.size := by omega
      have hbl' : b' < w2.heap.size := by omega
      have HIN := Lib.hid hin
      have HIN' := Lib.hid hin'
      clear hin hin' hpop hcell hfree hbw2
      go_wp2_with fail
      generalize hW : w2.alloc (Obj.cells #[.pointer (some ⟨b, o, none⟩), .pointer (some ⟨b', o', none⟩)] 255) = W
      have hbW : Below w2.heap.size w2 W := by rw [← hW]; exact (Below.refl _ _).alloc (Nat.le_refl _) _
      have r0 : W.cell? ⟨w2.heap.size, 0, none⟩ = some (.pointer (some ⟨b, o, none⟩)) := by rw [← hW]; simp
      have r1 : W.cell? ⟨w2.heap.size, 1, none⟩ = some (.pointer (some ⟨b', o', none⟩)) := by rw [← hW]; simp
      have hszW : W.heap.size = w2.heap.size + 1 := by rw [← hW]; simp
      have p0 := cell_later' hbW p0
      have p1 := cell_later' hbW p1
      have p2 := cell_later' hbW p2
      have p3 := cell_later' hbW p3
      have p4 := cell_later' hbW p4
      have q0 := cell_later' hbW q0
      have q1 := cell_later' hbW q1
      have q2 := cell_later' hbW q2
      have q3 := cell_later' hbW q3
      have q4 := cell_later' hbW q4
      have HBW := Lib.hid hbW
      have HSZW := Lib.hid hszW
      have hlW : w2.heap.size < W.heap.size := by omega
      clear hW hbW hszW
      go_still_tail 9, (by kernel_rfl)
      change wpList _ _ _ _ _ W.drew
      go_wp2_with fail
      refine (sameNode_any (w.heap.size) fi gi _ _ W.drew (by show _ ≤ W.heap.size; omega) (InV.later (w := w) (w' := W.drew) (same_below (HBW2.out.trans (HBW.out.drew.mono (by omega)))) _ _ HIN.out) (InV.later (w := w) (w' := W.drew) (same_below (HBW2.out.trans (HBW.out.drew.mono (by omega)))) _ _ HIN'.out)).mono ?_
      rintro e w3 ⟨rfl, hb3⟩
      have hb3' : Below W.heap.size W w3 := ((Below.refl W.heap.size W).drew).trans hb3
      have r0 := cell_later' hb3' r0
      have r1 := cell_later' hb3' r1
      have p4 := cell_later' hb3' p4
      have q4 := cell_later' hb3' q4
      have hb23 : Below w2.heap.size w2 w3 := HBW.out.trans (hb3'.mono (by omega))
      have hsz3 : w2.heap.size < w3.heap.size := by have := hb3'.size; omega
      have HMID : Hid (SameMid 255 (· < w.heap.size) (w.heap.size) w w3 pb (.slice (some ⟨g', 0, none⟩) l0.length gcap) l0) := by
        obtain ⟨u1, u2, u3, u4, u5, u6⟩ := HPOP.out.later hb23 HM.out.size
        exact HM.out.popped u1 u2 u3 hne u6
      have HB3 : Hid (Below w.heap.size w w3) := HMID.out.below
      have HNS := Lib.hid (sameB_node fi gi)
      clear hb3 hb3' hb23 p0 p1 p2 p3 q0 q1 q2 q3
      cases hn : nodeSame fi gi with
      | false =>
        have HE : Hid (sameB f g = false) := by
          have h1 := HSAME.out
          have h2 := HNS.out
          rw [hn, Bool.false_and] at h2
          unfold Hid
          rw [h1, sameP_append]
          simp [sameP, h2]
        clear hn
        go_wp2_with fail
        go_ret
        exact ⟨ret_bool HE.out.symm, HB3.out⟩
      | true =>
        have hlk : fi.kids.length = gi.kids.length := by
          unfold nodeSame at hn
          simp only [Bool.and_eq_true, beq_iff_eq] at hn
          exact hn.2
        have HE : Hid (sameB f g = (sameP l0 && sameAll fi.kids gi.kids)) := by
          have h1 := HSAME.out
          have h2 := HNS.out
          rw [hn, Bool.true_and] at h2
          unfold Hid
          rw [h1, sameP_append]
          simp [sameP, h2]
        clear hn
        have HLK := Lib.hid hlk
        obtain ⟨_, kc1, km1, hkids⟩ := HIN.out.kids
        obtain ⟨_, kc2, km2, hkids'⟩ := HIN'.out.kids
        unfold maxLen at km1 km2
        have hadr : ∃ kb ko kb' ko', (fi.kids ≠ [] → a1 = some ⟨kb, ko, none⟩ ∧ kb < w.heap.size ∧ RowIn (· < w.heap.size) w kb ko fi.kids ∧ a2 = some ⟨kb', ko', none⟩ ∧ kb' < w.heap.size ∧ RowIn (· < w.heap.size) w kb' ko' gi.kids) := by
          rcases hkids with h | ⟨kb, ko, h1, h2, h3⟩
          · exact ⟨0, 0, 0, 0, fun h' => absurd h h'⟩
          · rcases hkids' with h' | ⟨kb', ko', h1', h2', h3'⟩
            · exact ⟨0, 0, 0, 0, fun h'' => absurd (List.length_eq_zero_iff.1 (hlk.trans (by rw [h']; rfl))) h''⟩
            · exact ⟨kb, ko, kb', ko', fun _ => ⟨h1, h2, h3, h1', h2', h3'⟩⟩
        obtain ⟨kb, ko, kb', ko', hadr⟩ := hadr
        have HADR := Lib.hid hadr
        have hl1 : fi.kids.length ≤ gi.kids.length := by omega
        have hl2 : gi.kids.length ≤ fi.kids.length := by omega
        clear hkids hkids' hadr hlk
        have hgne : g' ≠ w2.heap.size := by omega
        go_wp2_with fail
        go_quiet ((first | exact quiet_left (kidsOf_any b o _ _ p4) | exact quiet_left (kidsOf_any b' o' _ _ q4)))
        go_wp2_with fail
        go_loopw [43] (fun i wr2 => SameIn 255 w.heap.size w wr2 pb kb ko kb' ko' fi gi l0 i) (fun i _ => fi.kids.length - (intOf i).toNat)
        case atStart => exact ⟨0, g', gcap, l0, by simp [kidsP], Nat.zero_le _, rfl, HMID.out.drewN _⟩
        case round =>
          clear p4 q4
          obtain ⟨j, qg, qc, L, hL, hj, rfl, hq⟩ := hrel
          have HQ := Lib.hid hq
          have HL := Lib.hid hL
          clear hL
          by_cases hlt : j < fi.kids.length
          · obtain ⟨rfl, hkb, hrow, rfl, hkb', hrow'⟩ := HADR.out (by intro e; rw [e] at hlt; simp at hlt)
            have hlt2 : j < gi.kids.length := by omega
            have hcell := hq.cell
            have hfree := hq.free
            have hown := hq.own
            have hj0 : (0 : Int) ≤ (j : Int) := by omega
            have hj1 : (j : Int) < (fi.kids.length : Int) := by omega
            have hj2 : (j : Int) < (gi.kids.length : Int) := by omega
            obtain ⟨hqb, hql, _, _, _⟩ := ownsRow_at hown
            have hqp : qg ≠ pb := fun e => hq.ne (by simp [Value.ownBlock, e])
            have hbz : w.heap.size ≤ wr.heap.size := hq.size
            clear hq
            have ap : (Value.slice (some ⟨qg, 0, none⟩) L.length qc).ownBlock ≠ some pb := by simp [Value.ownBlock, hqp]
            have hpbl : pb < wr.heap.size := cell_lt hcell
            have hLn : L.length ≤ 8589934592 := by
              have e1 := HL.out
              have e2 : (kidsP kb ko kb' ko' (fi.kids.take j) (gi.kids.take j)).length = (fi.kids.take j).length := kidsP_length _ _ _ _ _ _ (take_length_eq HLK.out j)
              have e3 := length_countAll fi.kids
              have e4 := count_eq fi
              have e5 := countP_append l0 [(((⟨b, o, none⟩ : Addr), fi), ((⟨b', o', none⟩ : Addr), gi))]
              simp only [countP] at e5
              rw [e1, List.length_append, e2, List.length_take]
              omega
            have hL1 : L.length + 1 ≤ maxLen := by unfold maxLen; omega
            have hL2 : (L.length + 1) * 16 ≤ 140737488355328 := by omega
            go_wp2_with fail
            have hS0 : SameHeld pb qg L.length qc wr.drew := hcell
            refine upto_begin (SameHeld pb qg L.length qc) 10 (by kernel_rfl) ?_
            refine upto_take (i := 0) (d := some 46) (v := ?_) rfl rfl (by kernel_rfl) (by kernel_rfl) (by kernel_rfl) (by kernel_rfl) (fun _ _ _ h => h) (Or.inl ⟨by rfl, ?_⟩) hS0 ?_
            rotate_left
            · (intro wS hSw; have y0 := hSw; unfold SameHeld at y0; go_simp; try with_reducible rfl)
            try simp only [Act.put, List.setIfInBounds_toArray, List.set_cons_zero, List.set_cons_succ]
            refine upto_take (i := 1) (d := some 47) (v := ?_) rfl rfl (by kernel_rfl) (by kernel_rfl) (by kernel_rfl) (by kernel_rfl) (fun _ _ _ h => h) (Or.inl ⟨by rfl, ?_⟩) hS0 ?_
            rotate_left
            · (intro wS hSw; have y0 := hSw; unfold SameHeld at y0; go_simp; try with_reducible rfl)
            try simp only [Act.put, List.setIfInBounds_toArray, List.set_cons_zero, List.set_cons_succ]
            refine upto_take (i := 2) (d := some 48) (v := ?_) rfl rfl (by kernel_rfl) (by kernel_rfl) (by kernel_rfl) (by kernel_rfl) (fun _ _ _ h => h) (Or.inl ⟨by rfl, ?_⟩) hS0 ?_
            rotate_left
            · (intro wS hSw; have y0 := hSw; unfold SameHeld at y0; go_simp; try with_reducible rfl)
            try simp only [Act.put, List.setIfInBounds_toArray, List.set_cons_zero, List.set_cons_succ]
            refine upto_take (i := 3) (d := some 49) (v := ?_) rfl rfl (by kernel_rfl) (by kernel_rfl) (by kernel_rfl) (by kernel_rfl) (fun _ _ _ h => h) (Or.inl ⟨by rfl, ?_⟩) hS0 ?_
            rotate_left
            · (intro wS hSw; have y0 := hSw; unfold SameHeld at y0; go_simp; try with_reducible rfl)
            try simp only [Act.put, List.setIfInBounds_toArray, List.set_cons_zero, List.set_cons_succ]
            refine upto_take (i := 4) (d := some 50) (v := ?_) rfl rfl (by kernel_rfl) (by kernel_rfl) (by kernel_rfl) (by kernel_rfl) (fun _ _ _ h => h) (Or.inl ⟨by rfl, ?_⟩) hS0 ?_
            rotate_left
            · (intro wS hSw; have y0 := hSw; unfold SameHeld at y0; go_simp; try with_reducible rfl)
            try simp only [Act.put, List.setIfInBounds_toArray, List.set_cons_zero, List.set_cons_succ]
            refine upto_take (i := 5) (d := some 51) (v := ?_) rfl rfl (by kernel_rfl) (by kernel_rfl) (by kernel_rfl) (by kernel_rfl) (fun _ _ _ h => h) (Or.inl ⟨by rfl, ?_⟩) hS0 ?_
            rotate_left
            · (intro wS hSw; have y0 := hSw; unfold SameHeld at y0; go_simp; try with_reducible rfl)
            try simp only [Act.put, List.setIfInBounds_toArray, List.set_cons_zero, List.set_cons_succ]
            refine upto_take (i := 6) (d := some 52) (v := ?_) rfl rfl (by kernel_rfl) (by kernel_rfl) (by kernel_rfl) (by kernel_rfl) (fun _ _ _ h => h) (Or.inl ⟨by rfl, ?_⟩) hS0 ?_
            rotate_left
            · (intro wS hSw; have y0 := hSw; unfold SameHeld at y0; go_simp; try with_reducible rfl)
            try simp only [Act.put, List.setIfInBounds_toArray, List.set_cons_zero, List.set_cons_succ]
            refine upto_take (i := 7) (d := some 53) (v := ?_) rfl rfl (by kernel_rfl) (by kernel_rfl) (by kernel_rfl) (by kernel_rfl) (fun _ _ _ h => h) (Or.inl ⟨by rfl, ?_⟩) hS0 ?_
            rotate_left
            · (intro wS hSw; have y0 := hSw; unfold SameHeld at y0; go_simp; try with_reducible rfl)
            try simp only [Act.put, List.setIfInBounds_toArray, List.set_cons_zero, List.set_cons_succ]
            refine upto_one (i := 8) (by kernel_rfl) rfl (fun K hK => ?_)
            go_simp
            have hbA : Below wr.heap.size wr (wr.alloc (Obj.cells #[.pointer (some ⟨kb, ko + j * 5, none⟩), .pointer (some ⟨kb', ko' + j * 5, none⟩)] 255)).drew := ((Below.refl _ wr).alloc (Nat.le_refl _) _).drew
            have a0 := cell_later' hbA hcell
            have af := (hbA.frozen (p := ⟨pb, 0, none⟩) hpbl).trans hfree
            refine hK.out _ _ (.inr a0) ?_
            clear hK K
            refine upto_oper (i := 9) ⟨some 55, .call { callee := .builtin .append, args := #[.tmp 46, .tmp 54], argTypes := #[256, 256] }, 256, _, _, _⟩ (by kernel_rfl) rfl rfl (fun K hK => ?_)
            refine wp_append_lies _ (.tmp 46) (.tmp 54) 256 rfl (w.heap.size) 255 i0 _ 2 16 Try.underlying256 hi0 hz0 hz1 hz2 rfl (by omega) _ L.length (cellsP L) (by rfl) ((hown.alloc _).drew)
                  ⟨wr.heap.size, 0, none⟩ 1 1 [.pointer (some ⟨kb, ko + j * 5, none⟩), .pointer (some ⟨kb', ko' + j * 5, none⟩)] (by rfl) (by rfl) (World.news_of_block (cs := #[.pointer (some ⟨kb, ko + j * 5, none⟩), .pointer (some ⟨kb', ko' + j * 5, none⟩)]) (t := 255) (fr := (0, 0)) (heap_alloc_new wr _)) (by simp [Value.oneCell'])
                  (by omega) hL1 hL2 (by simp; omega) (wr.heap.size + 1) (by simp) ?_
            intro gg qcap w4 hown1 hgrow hat hlt4
            have hc4 := (hgrow.cell_far ⟨pb, 0, none⟩ (by simp; omega) (Ne.symm ap)).trans a0
            have hf4 := (hgrow.frozen_far ⟨pb, 0, none⟩ (by simp; omega) (Ne.symm ap)).trans af
            refine hK.out _ _ (.inr hc4) ?_
            clear hK K
            refine upto_one (i := 10) (by kernel_rfl) rfl (fun K hK => ?_)
            go_simp
            refine hK.out _ _ (.inl rfl) ?_
            clear hK K
            refine upto_done (by kernel_rfl) ?_ _
            have hgp : gg ≠ pb := by
              rcases hat with h | h
              · simp [Value.ownBlock] at h; omega
              · omega
            have hb5 : Below (w.heap.size) wr (w4.setCell ⟨pb, 0, none⟩ (.slice (some ⟨gg, 0, none⟩) (L.length + 1) qcap)) :=
              ((hbA.mono hbz).grown hgrow (by simp; omega) (fun k hk => by simp [Value.ownBlock] at hk; omega)).setCell (p := ⟨pb, 0, none⟩) HQ.out.le _
            have HREL : Hid (SameIn 255 (w.heap.size) w (w4.setCell ⟨pb, 0, none⟩ (.slice (some ⟨gg, 0, none⟩) (L.length + 1) qcap)) pb kb ko kb' ko' fi gi l0 (.int .i64 (j + 1 : Nat))) :=
              ⟨j + 1, gg, qcap, L ++ [((⟨kb, ko + j * 5, none⟩, fi.kids[j]), (⟨kb', ko' + j * 5, none⟩, gi.kids[j]))], by rw [HL.out, kidsP_take_succ _ _ _ _ _ _ j hlt hlt2, List.append_assoc], by omega, rfl,
                by rw [List.length_append, List.length_singleton]; exact HQ.out.push (World.cell?_setCell_same _ _ _ hc4) (by rw [World.frozen?_setCell]; exact hf4) (ownsRow_setFar hown1 hgp) hgp hb5 ⟨hrow.node hkb j hlt, hrow'.node hkb' j hlt2⟩⟩
            clear hb5 hgrow hown1 hat hbA
            go_wp2_with fail
            go_roundw
            case rel =>
              have e := HREL.out
              rw [show ((j + 1 : Nat) : Int) = (j : Int) + 1 from by omega] at e
              exact e
            case measure => simp [intOf]; omega
          · obtain rfl : j = fi.kids.length := by omega
            have hcell := hq.cell
            have HREL : Hid (SameRel f g (w.heap.size) w (countP L) (.pointer (some ⟨wr.heap.size, 0, none⟩)) (wr.alloc (.cells #[.slice (some ⟨qg, 0, none⟩) L.length qc] 256)) ∧ countP L < gk) := by
              have e1 := HL.out
              rw [List.take_length, HLK.out, List.take_length] at e1
              have e5 := countP_append l0 [(((⟨b, o, none⟩ : Addr), fi), ((⟨b', o', none⟩ : Addr), gi))]
              have e6 := countP_append l0 (kidsP kb ko kb' ko' fi.kids gi.kids)
              rw [kidsP_count _ _ _ _ _ _ HLK.out, ← e1] at e6
              have e4 := count_eq fi
              simp only [countP] at e5
              have e7 := HK.out
              refine ⟨⟨wr.heap.size, _, L, rfl, HQ.out.move, rfl, by omega, ?_⟩, by omega⟩
              rw [HE.out, e1, sameP_append, kidsP_same _ _ _ _ _ _ HLK.out]
            clear hq
            go_wp2_with fail
            go_roundg (countP L)
            case measure => exact HREL.out.2
            case rel => exact HREL.out.1
set_option maxRecDepth 100000 in
set_option maxHeartbeats 1000000 in
theorem implSame_any (B : Nat) (f g : Fm) (v u : Value) (w : World) (hB : B ≤ w.heap.size) (hv : InV (· < B) w f v) (hu : InV (· < B) w g u) (hc : f.count ≤ 4294967296) (hend : EndlessAt v w) :
    Calls Try.prog 137 #[v, u] w fun e w' => e = .returned (.bool (sameB f g)) ∧ Below w.heap.size w w' := by
  have HV := Lib.hid hv
  have HU := Lib.hid hu
  obtain ⟨sa, scap, a, cap, rfl⟩ := hv.form
  obtain ⟨sa', scap', a', cap', rfl⟩ := hu.form
  have HEND := Lib.hid hend
  clear hv hu hend
  go_enter Try.func137, Try.ntmps137
  go_wp2_with fail
  refine (HEND.out _ (((Below.refl _ w).alloc (Nat.le_refl _) _).alloc (by simp) _)).mono ?_
  rintro e w1 ⟨rfl, hb1⟩
  have hs1 : w.heap.size + 2 ≤ w1.heap.size := by have := hb1.size; simpa using this
  have HN1 : Hid (NodeAt (· < w1.heap.size) w1 ⟨w.heap.size, 0, none⟩ f) := by
    obtain ⟨c0, c1, c2, c3, c4⟩ := ((FormBox.fresh w f sa a scap cap 33).later (below_alloc _ _)).later hb1
    exact ⟨_, 0, rfl, by omega, sa, scap, a, cap, c0, c1, c2, c3, c4, InV.mono (fun k (hk : k < B) => (by omega : k < w1.heap.size)) _ _ (HV.out.later (same_below (((((Below.refl B w).alloc hB _).alloc (by simp; omega) _)).trans (hb1.mono (by simp; omega)))))⟩
  have HN2 : Hid (NodeAt (· < w1.heap.size) w1 ⟨w.heap.size + 1, 0, none⟩ g) := by
    have hz : ∀ i, w1.cell? ⟨w.heap.size + 1, i, none⟩ = (#[Value.int .i64 g.kind, .string g.name, .int .i64 g.n, .slice sa' g.scopes.length scap', .slice a' g.kids.length cap'])[i]? := fun i =>
      (hb1.cell (p := ⟨w.heap.size + 1, i, none⟩) (by simp)).trans (World.cell?_alloc_at _ _ _ _ (by simp))
    exact ⟨_, 0, rfl, by omega, sa', scap', a', cap', hz 0, hz 1, hz 2, hz 3, hz 4, InV.mono (fun k (hk : k < B) => (by omega : k < w1.heap.size)) _ _ (HU.out.later (same_below (((((Below.refl B w).alloc hB _).alloc (by simp; omega) _)).trans (hb1.mono (by simp; omega)))))⟩
  have HB1 : Hid (Below w.heap.size w w1) := (((Below.refl _ w).alloc (Nat.le_refl _) _).alloc (by simp) _).trans (hb1.mono (by simp; omega))
  clear hb1
  go_wp2_with fail
  refine (sameTrees_any f g _ _ w1 HN1.out HN2.out hc).mono ?_
  rintro e w2 ⟨rfl, hb2⟩
  have HB2 : Hid (Below w.heap.size w w2) := HB1.out.trans (hb2.mono (by omega))
  clear hb2
  go_wp2_with fail
  go_ret
  exact ⟨rfl, HB2.out⟩
end Go.Proofs.Ytbclgmabidjegaa
