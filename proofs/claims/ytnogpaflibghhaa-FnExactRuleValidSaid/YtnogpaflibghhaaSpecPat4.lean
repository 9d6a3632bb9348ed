/- The contracts of the model's check of patterns. -/
import Derived.Test.YtnogpaflibghhaaSpecPat3
namespace Go.Proofs.Ytnogpaflibghhaa
open Go.RowKit
set_option linter.unusedVariables false
set_option linter.unusedSimpArgs false
/-- what stands in place of a pattern's variables and depths -/
def restB (f : Fm) (ls : List Fm) : Bool := onceUp (varsF ls f) (varsF ls f).length && (shallowB (depF ls f 0) && decide ((varsF ls f).length ≤ 20))
theorem patternB_eq (f : Fm) (ls : List Fm) : patternB f ls = (formB f && (distinctB ls 9 && (shapeF f && restB f ls))) := rfl
theorem ownsRow_empty (w : World) (T : TypeId) (size base : Nat) (hb : base ≤ w.heap.size) : (w.alloc (.cells #[] T)).ownsRow base T size (.slice (some ⟨w.heap.size, 0, none⟩) 0 0) 0 [] := by
  have := World.ownsRow_lit (base := base) (e := T) (size := size) w #[] 0 hb (by unfold maxLen; omega) (by simp)
  exact this
theorem ownsRow_slice {w : World} {base n : Nat} {T : TypeId} {size : Nat} {v : Value} {xs : List Value} (h : w.ownsRow base T size v n xs) : ∃ a cap, v = .slice a n cap ∧ n ≤ cap ∧ cap ≤ maxLen := by
  rcases h.2 with ⟨rfl, h0⟩ | ⟨g, cap, cur, rfl, hb, hg, hn, hm, _⟩
  · exact ⟨none, 0, by rw [h0], by omega, by unfold maxLen; omega⟩
  · exact ⟨_, cap, rfl, hn, hm⟩
set_option maxRecDepth 100000 in
set_option maxHeartbeats 4000000 in
theorem l4Is_any (B : Nat) (f : Fm) (ls : List Fm) (la : Option Addr) (lcap : Nat) (sa : Option Addr) (scap : Nat) (a : Option Addr) (cap : Nat) (w : World) (hB : B ≤ w.heap.size) (hl : FormsIn (· < B) w la lcap ls) (hv : InV (· < B) w f (.agg #[.int .i64 f.kind, .string f.name, .int .i64 f.n, .slice sa f.scopes.length scap, .slice a f.kids.length cap])) (hcn : ∀ g ∈ ls, g.count ≤ 1048577) (hcf : f.count ≤ 1048577) :
    Calls Try.prog 81 #[(.agg #[.int .i64 f.kind, .string f.name, .int .i64 f.n, .slice sa f.scopes.length scap, .slice a f.kids.length cap]), .slice la ls.length lcap] w fun e w' => e = .returned (.bool (patternB f ls)) ∧ Below w.heap.size w w' := by
  have HL := Lib.hid hl
  have HV := Lib.hid hv
  have HCN := Lib.hid hcn
  have HPE := Lib.hid (patternB_eq f ls)
  clear hl hv hcn
  go_enter Try.func81, Try.ntmps81
  go_wp2_with fail
  refine (specFormValid_any B f _ _ (by simp; omega) (InV.later (same_below ((below_alloc w _).mono hB)) _ _ HV.out) (by omega)).mono ?_
  rintro e w1 ⟨rfl, hb1⟩
  have hs1 : w.heap.size + 1 ≤ w1.heap.size := by have := hb1.size; simpa using this
  have hbox := (FormBox.fresh w f sa a scap cap 33).later hb1
  have HB1 : Hid (Below w.heap.size w w1) := (below_alloc w _).trans (hb1.mono (by simp))
  have HBOX1 := Lib.hid hbox
  obtain ⟨x0, x1, x2, x3, x4⟩ := hbox
  clear hb1
  cases hf : formB f with
  | false =>
    have HE : Hid (patternB f ls = false) := by unfold Hid; rw [HPE.out, hf]; rfl
    clear hf
    go_wp2_with fail
    go_ret
    exact ⟨ret_bool HE.out.symm, HB1.out⟩
  | true =>
    have HFB := Lib.hid hf
    clear hf
    go_wp2_with fail
    refine (l4Literals_any B ls la lcap w1 (by omega) (HL.out.later (same_below (HB1.out.mono hB))) HCN.out).mono ?_
    rintro e w2 ⟨rfl, hb2⟩
    have hs2 := hb2.size
    have hbox := HBOX1.out.later hb2
    have HB2 : Hid (Below w.heap.size w w2) := HB1.out.trans (hb2.mono (by omega))
    have HBOX2 := Lib.hid hbox
    clear hb2 x0 x1 x2 x3 x4
    obtain ⟨x0, x1, x2, x3, x4⟩ := hbox
    cases hd : distinctB ls 9 with
    | false =>
      have HE : Hid (patternB f ls = false) := by unfold Hid; rw [HPE.out, HFB.out, hd]; rfl
      clear hd
      go_wp2_with fail
      go_ret
      exact ⟨ret_bool HE.out.symm, HB2.out⟩
    | true =>
      have HDB := Lib.hid hd
      clear hd
      go_wp2_with fail
      refine (l4Shape_any B f sa scap a cap w2 (by omega) (InV.later (same_below (HB2.out.mono hB)) _ _ HV.out)).mono ?_
      rintro e w3 ⟨rfl, hb3⟩
      have hs3 := hb3.size
      have hbox := HBOX2.out.later hb3
      have HB3 : Hid (Below w.heap.size w w3) := HB2.out.trans (hb3.mono (by omega))
      have HBOX3 := Lib.hid hbox
      clear hb3 x0 x1 x2 x3 x4
      obtain ⟨x0, x1, x2, x3, x4⟩ := hbox
      cases hsh : shapeF f with
      | false =>
        have HE : Hid (patternB f ls = false) := by unfold Hid; rw [HPE.out, HFB.out, HDB.out, hsh]; rfl
        clear hsh
        go_wp2_with fail
        go_ret
        exact ⟨ret_bool HE.out.symm, HB3.out⟩
      | true =>
        have HPR : Hid (patternB f ls = restB f ls) := by unfold Hid; rw [HPE.out, HFB.out, HDB.out, hsh]; rfl
        clear hsh
        have HOE := Lib.hid (ownsRow_empty w3 33 5 w3.heap.size (Nat.le_refl _))
        have hb34 := below_alloc w3 (.cells #[] 33)
        have HB34 : Hid (Below w.heap.size w (w3.alloc (.cells #[] 33))) := HB3.out.trans (hb34.mono (by omega))
        have HBOX34 := Lib.hid (HBOX3.out.later hb34)
        clear hb34 x0 x1 x2 x3 x4
        obtain ⟨x0, x1, x2, x3, x4⟩ := HBOX34.out
        go_wp2_with fail
        refine (l4Vars_any B ls la lcap f sa scap a cap [] _ w3.heap.size _ (by omega) (by simp) (HL.out.later (same_below (HB34.out.mono hB))) HOE.out (InV.later (same_below (HB34.out.mono hB)) _ _ HV.out) (by simp; omega)).mono ?_
        rintro e w5 ⟨v5, new, rfl, hnew, hins, hr5, hg5, _⟩
        simp only [List.nil_append] at hr5
        have hb35 : Below w3.heap.size w3 w5 := (below_alloc w3 _).trans (below_grownP hg5 (by simp) (fun q h => by simp [Value.ownBlock] at h; omega))
        have hs5 := hb35.size
        have hs5' : w3.heap.size + 1 ≤ w5.heap.size := by have := hg5.size; simpa using this
        obtain ⟨va, vcap, rfl, hvc, hvm⟩ := ownsRow_slice hr5
        unfold maxLen at hvm
        have hcard : new.length = (varsF ls f).length := by rw [← hnew, List.length_map]
        have hvl := varsF_length ls f
        have HB5 : Hid (Below w.heap.size w w5) := HB3.out.trans (hb35.mono (by omega))
        have HBOX5 : Hid (FormBox w5 w.heap.size f sa scap a cap) := by
          have h1 := hg5.cell_far
          have h2 : ∀ i, w5.cell? ⟨w.heap.size, i, none⟩ = (w3.alloc (.cells #[] 33)).cell? ⟨w.heap.size, i, none⟩ := fun i => h1 ⟨w.heap.size, i, none⟩ (by simp; omega) (by simp [Value.ownBlock]; omega)
          obtain ⟨y0, y1, y2, y3, y4⟩ := HBOX34.out
          exact ⟨(h2 _).trans y0, (h2 _).trans y1, (h2 _).trans y2, (h2 _).trans y3, (h2 _).trans y4⟩
        have HFI : Hid (FormsIn (· < w5.heap.size) w5 va vcap (varsF ls f)) := by
          have h1 : ∀ y ∈ new, InV (· < w5.heap.size) w5 y.f y.val := fun y hy => InV.mono (fun k (hk : k < B) => by show k < w5.heap.size; omega) _ _ (InV.later (w := w3.alloc (.cells #[] 33)) (w' := w5) (fun k (hk : k < B) => by rw [hb35.block k (by omega), (below_alloc w3 _).block k (by omega)]) _ _ (hins y hy))
          have h2 := formsIn_items (φ := (· < w5.heap.size)) hr5 h1 (fun k _ hk => hk)
          rw [hnew] at h2
          exact h2
        rw [hcard]
        have hlen : (varsF ls f).length ≤ 1048577 := by omega
        rw [hcard] at hvc
        clear hnew hins hr5 hg5 hb35 x0 x1 x2 x3 x4
        obtain ⟨x0, x1, x2, x3, x4⟩ := HBOX5.out
        go_wp2_with fail
        go_loopw [6] (fun i wr => ∃ j : Nat, j ≤ (varsF ls f).length ∧ i = .int .i64 j ∧ onceUp (varsF ls f) j = true ∧ Below w5.heap.size w5 wr) (fun i _ => (varsF ls f).length - (intOf i).toNat)
        case atStart => exact ⟨0, Nat.zero_le _, rfl, rfl, Below.refl _ _⟩
        case round =>
          obtain ⟨j, hj, rfl, hon, hb⟩ := hrel
          have HON := Lib.hid hon
          have HB := Lib.hid hb
          have hsz := hb.size
          clear hon hb
          by_cases hlt : j < (varsF ls f).length
          · have hfr := (HFI.out.later (same_below HB.out)).2.2
            rcases hfr with h0 | ⟨b, off, rfl, hbB, hr⟩
            · exfalso; rw [h0] at hlt; simp at hlt
            · obtain ⟨ga, gcap, ka, kcap, c0, c1, c2, c3, c4, hin⟩ := hr.at' j hlt
              have HIN := Lib.hid hin
              have HOS := Lib.hid (onceUp_succ hlt)
              have hji : (0 : Int) ≤ (j : Int) := by omega
              have hjl : (j : Int) < ((varsF ls f).length : Int) := by omega
              have hjc : j ≤ vcap := by omega
              clear hin hr
              go_wp2_with fail
              go_still_tail 7, (by kernel_rfl)
              change wpList _ _ _ _ _ wr.drew
              go_wp2_with fail
              refine (l4In_take w5.heap.size (varsF ls f) j (by omega) _ vcap (varsF ls f)[j] _ wr.drew (by show _ ≤ wr.heap.size; omega) (HFI.out.later (w := w5) (w' := wr.drew) (fun k hk => HB.out.block k hk)) (InV.later (w := wr) (w' := wr.drew) (fun _ _ => rfl) _ _ HIN.out)).mono ?_
              rintro e w6 ⟨rfl, hb6⟩
              have hb6' := below_drew hb6
              have HB6 : Hid (Below w5.heap.size w5 w6) := HB.out.trans (hb6'.mono hsz)
              clear hb6 hb6' c0 c1 c2 c3 c4
              cases hin : inF ((varsF ls f).take j) (varsF ls f)[j] with
              | true =>
                have HE : Hid (patternB f ls = false) := by
                  unfold Hid
                  rw [HPR.out]
                  unfold restB
                  rw [onceUp_no (i := j + 1) (by rw [HOS.out, hin]; simp) _ (by omega)]
                  rfl
                clear hin
                go_wp2_with fail
                go_ret
                exact ⟨ret_bool HE.out.symm, HB5.out.trans (HB6.out.mono (by omega))⟩
              | false =>
                have HN : Hid (onceUp (varsF ls f) (j + 1) = true) := by unfold Hid; rw [HOS.out, HON.out, hin]; rfl
                clear hin
                go_wp2_with fail
                go_roundw
                case rel => exact ⟨j + 1, by omega, by go_num, HN.out, HB6.out⟩
                case measure => simp [intOf]; omega
          · obtain rfl : j = (varsF ls f).length := by omega
            have HRB : Hid (patternB f ls = (shallowB (depF ls f 0) && decide ((varsF ls f).length ≤ 20))) := by
              unfold Hid
              rw [HPR.out]
              unfold restB
              rw [HON.out, Bool.true_and]
            have HOE := Lib.hid (ownsRow_empty wr 3 1 wr.heap.size (Nat.le_refl _))
            have HBW : Hid (Below w.heap.size w wr) := HB5.out.trans (HB.out.mono (by omega))
            have HBA : Hid (Below w.heap.size w (wr.alloc (.cells #[] 3))) := HBW.out.trans ((below_alloc wr _).mono (by omega))
            have hbox := HBOX5.out.later HB.out
            clear x0 x1 x2 x3 x4
            have hbox2 := hbox.later (below_alloc wr (.cells #[] 3))
            obtain ⟨x0, x1, x2, x3, x4⟩ := hbox2
            clear hbox
            go_wp2_with fail
            refine (l4Depths_any B ls la lcap f sa scap a cap [] 0 _ wr.heap.size _ (by omega) (by simp) (HL.out.later (same_below (HBA.out.mono hB))) (by simpa using HOE.out) (InV.later (same_below (HBA.out.mono hB)) _ _ HV.out) (by simp; omega) ⟨by omega, by omega⟩).mono ?_
            rintro e w7 ⟨v7, rfl, hr7, hg7, _⟩
            simp only [List.nil_append] at hr7
            obtain ⟨da, dcap, rfl, hdc, hdm⟩ := ownsRow_slice hr7
            unfold maxLen at hdm
            have hdl : (depF ls f 0).length = (varsF ls f).length := depF_length ls f 0
            have HB7 : Hid (Below w.heap.size w w7) := HBA.out.trans (below_grownP hg7 (by simp; omega) (fun q h => by simp [Value.ownBlock] at h; omega))
            have HR7 := Lib.hid hr7
            clear hr7 hg7
            go_wp2_with fail
            go_loop [8] (fun i => ∃ j : Nat, j ≤ (depF ls f 0).length ∧ i = .int .i64 j ∧ shallowB ((depF ls f 0).take j) = true) (fun i => (depF ls f 0).length - (intOf i).toNat)
            case atStart => exact ⟨0, Nat.zero_le _, rfl, by simp [shallowB]⟩
            case round =>
              obtain ⟨q, hq, rfl, hsh⟩ := hrel
              have HSH := Lib.hid hsh
              clear hsh
              by_cases hql : q < (depF ls f 0).length
              · obtain ⟨g, gcap, e1, _, _⟩ := HR7.out.form (by omega)
                injection e1 with e1 e2 e3
                subst e1 e3
                have hcell : w7.cell? ⟨g, q, none⟩ = some (.int .i64 (depF ls f 0)[q]) := by
                  rw [HR7.out.cellAt q (by omega), List.getElem?_map, List.getElem?_eq_getElem hql]
                  rfl
                have HTS := Lib.hid (shallow_take_succ (depF ls f 0) q hql)
                have hqi : (0 : Int) ≤ (q : Int) := by omega
                have hqn : (q : Int) < ((depF ls f 0).length : Int) := by omega
                by_cases h3 : (depF ls f 0)[q] ≤ 3
                · have HN : Hid (shallowB ((depF ls f 0).take (q + 1)) = true) := by unfold Hid; rw [HTS.out, HSH.out, decide_eq_true h3]; rfl
                  go_wp2_with fail
                  go_round
                  case rel => exact ⟨q + 1, by omega, by go_num, HN.out⟩
                  case measure => simp [intOf]; omega
                · have HE : Hid (patternB f ls = false) := by
                    unfold Hid
                    rw [HRB.out, shallow_no (depF ls f 0) (q + 1) (by rw [HTS.out, decide_eq_false h3, Bool.and_false])]
                    rfl
                  go_wp2_with fail
                  go_ret
                  exact ⟨ret_bool HE.out.symm, HB7.out⟩
              · obtain rfl : q = (depF ls f 0).length := by omega
                have HE : Hid (patternB f ls = decide ((varsF ls f).length ≤ 20)) := by
                  have h1 := HSH.out
                  rw [List.take_length] at h1
                  unfold Hid
                  rw [HRB.out, h1, Bool.true_and]
                go_wp2_with fail
                go_ret
                exact ⟨ret_bool (by rw [HE.out, Bool.eq_iff_iff]; simp; try omega), HB7.out⟩
end Go.Proofs.Ytnogpaflibghhaa
