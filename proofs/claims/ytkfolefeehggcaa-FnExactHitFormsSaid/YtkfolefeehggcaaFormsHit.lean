/- The forms of a hit: as data, and the contracts of the model. -/
import Derived.Test.YtkfolefeehggcaaCountH
import Derived.Test.YtkfolefeehggcaaData
import Derived.Test.YtkfolefeehggcaaSpecHit
import Derived.Test.YtkfolefeehggcaaSpecPat
import Derived.Test.YtkfolefeehggcaaSpecCopy
namespace Go.Proofs.Ytkfolefeehggcaa
section
open Go.RowKit
set_option linter.unusedVariables false
mutual
/-- all forms of a hit, in order -/
def Ht.forms : Ht → List Fm
  | .mk _ d one many => if d = 0 then [one] else formsHs many
def formsHs : List Ht → List Fm
  | [] => []
  | x :: r => x.forms ++ formsHs r
end
theorem formsHs_take_succ : ∀ (l : List Ht) (j : Nat) (h : j < l.length), formsHs (l.take (j + 1)) = formsHs (l.take j) ++ l[j].forms
  | x :: r, 0, _ => by simp [formsHs]
  | x :: r, j + 1, h => by
    have := formsHs_take_succ r j (by simpa using h)
    simp only [List.take_succ_cons, formsHs, List.getElem_cons_succ, this, List.append_assoc]
theorem szHs_take_succ : ∀ (l : List Ht) (j : Nat) (h : j < l.length), szHs (l.take (j + 1)) = szHs (l.take j) + l[j].sz + 1
  | x :: r, 0, _ => by simp [szHs]
  | x :: r, j + 1, h => by
    have := szHs_take_succ r j (by simpa using h)
    simp only [List.take_succ_cons, szHs, List.getElem_cons_succ, this]
    omega
theorem szHs_take_le : ∀ (l : List Ht) (j : Nat), szHs (l.take j) ≤ szHs l
  | [], j => by simp
  | x :: r, 0 => by simp [szHs]
  | x :: r, j + 1 => by
    have := szHs_take_le r j
    simp only [List.take_succ_cons, szHs]
    omega
mutual
theorem Ht.forms_length : ∀ x : Ht, x.forms.length ≤ x.sz + 1
  | .mk nm d one many => by
    have := formsHs_length many
    unfold Ht.forms Ht.sz
    split
    · simp
    · omega
theorem formsHs_length : ∀ l : List Ht, (formsHs l).length ≤ szHs l
  | [] => by simp [formsHs, szHs]
  | x :: r => by
    have h1 := Ht.forms_length x
    have h2 := formsHs_length r
    simp only [formsHs, szHs, List.length_append]
    omega
end
mutual
theorem Ht.forms_sz : ∀ x : Ht, szAll x.forms ≤ x.sz + 1
  | .mk nm d one many => by
    have := formsHs_sz many
    unfold Ht.forms Ht.sz
    split
    · simp only [szAll]; omega
    · omega
theorem formsHs_sz : ∀ l : List Ht, szAll (formsHs l) ≤ szHs l
  | [] => by simp [formsHs, szHs, szAll]
  | x :: r => by
    have h1 := Ht.forms_sz x
    have h2 := formsHs_sz r
    have h3 : ∀ (a b : List Fm), szAll (a ++ b) = szAll a + szAll b := fun a b => by
      induction a with
      | nil => simp [szAll]
      | cons y r ih => simp only [List.cons_append, szAll, ih]; omega
    simp only [formsHs, szHs, h3]
    omega
end
theorem ownsRow_sliceH {w : World} {base n : Nat} {T : TypeId} {size : Nat} {v : Value} {xs : List Value} (h : w.ownsRow base T size v n xs) : ∃ a cap, v = .slice a n cap ∧ n ≤ cap ∧ cap ≤ maxLen := by
  rcases h.2 with ⟨rfl, h0⟩ | ⟨g, cap, cur, rfl, hb, hg, hn, hm, _⟩
  · exact ⟨none, 0, by rw [h0], by omega, by unfold maxLen; omega⟩
  · exact ⟨_, cap, rfl, hn, hm⟩
theorem ownsRow_emptyH (w : World) (T : TypeId) (size base : Nat) (hb : base ≤ w.heap.size) : (w.alloc (.cells #[] T)).ownsRow base T size (.slice (some ⟨w.heap.size, 0, none⟩) 0 0) 0 [] := by
  have := World.ownsRow_lit (base := base) (e := T) (size := size) w #[] 0 hb (by unfold maxLen; omega) (by simp)
  exact this
/-- forms whose blocks are none of the growing row's -/
def GoodIts (w : World) (o : Value) (its : List Item) : Prop := ∀ y ∈ its, InV (fun k => k < w.heap.size ∧ some k ≠ o.ownBlock) w y.f y.val
theorem GoodIts.grown {w w' : World} {o o' : Value} {its : List Item} (h : GoodIts w o its) (hg : w.grownBy w' o.ownBlock) (hq : ∀ q, o'.ownBlock = some q → w.heap.size ≤ q ∨ o.ownBlock = some q) : GoodIts w' o' its := fun y hy =>
  InV.mono (fun k hk => ⟨Nat.lt_of_lt_of_le hk.1 hg.size, fun e => (hq k e.symm).elim (fun h1 => by have := hk.1; omega) (fun h1 => hk.2 h1.symm)⟩) _ _ (InV.later (fun k hk => hg.block k hk.1 hk.2) _ _ (h y hy))
theorem GoodIts.append {w : World} {o : Value} {its new : List Item} (h : GoodIts w o its) (g : GoodIts w o new) : GoodIts w o (its ++ new) := fun y hy => by
  rcases List.mem_append.1 hy with h1 | h1
  · exact h y h1
  · exact g y h1
theorem GoodIts.left {w : World} {o : Value} {its new : List Item} (h : GoodIts w o (its ++ new)) : GoodIts w o its := fun y hy => h y (List.mem_append_left _ hy)
theorem GoodIts.right {w : World} {o : Value} {its new : List Item} (h : GoodIts w o (its ++ new)) : GoodIts w o new := fun y hy => h y (List.mem_append_right _ hy)
end
end Go.Proofs.Ytkfolefeehggcaa
namespace Go.Proofs.Ytkfolefeehggcaa
section
open Go.RowKit
set_option linter.unusedVariables false
set_option linter.unusedSimpArgs false
set_option maxRecDepth 100000 in
set_option maxHeartbeats 4000000 in
theorem l4Forms_any (B : Nat) (h : Ht) : ∀ (u : Value) (its : List Item) (vo : Value) (base : Nat) (w : World), B ≤ base → base ≤ w.heap.size → InH (· < B) w h u → h.sz ≤ 1048576 → w.ownsRow base 36 5 vo its.length (rowOf its) → GoodIts w vo its → its.length + h.sz + 1 ≤ 4194304 →
    Calls Try.prog 88 #[vo, u] w fun e w' => ∃ v' new, e = .returned v' ∧ new.map (·.f) = h.forms ∧ GoodIts w' v' (its ++ new) ∧ w'.ownsRow base 36 5 v' (its ++ new).length (rowOf (its ++ new)) ∧
      w.grownBy w' vo.ownBlock ∧ (∀ q, v'.ownBlock = some q → w.heap.size ≤ q ∨ vo.ownBlock = some q) := by
  induction h using Ht.ind with
  | h nm d one many ih =>
    intro u its vo base w hB hbase hv hsz hown hgood hcnt
    unfold InH at hv
    obtain ⟨s1, t1, k1, l1, s2, t2, k2, l2, a, cap, rfl, hd, hn, ho, hcap, hmax, hmany⟩ := hv
    unfold maxLen at hmax
    have hsz1 : one.sz ≤ 1048576 := by simp only [Ht.sz] at hsz; omega
    have hszm : szHs many ≤ 1048576 := by simp only [Ht.sz] at hsz; omega
    have hcnt2 : its.length + szHs many + 1 ≤ 4194304 := by simp only [Ht.sz] at hcnt; omega
    have hcnt1 : its.length + 1 ≤ 4194304 := by omega
    obtain ⟨i0, hi0, hz0, hz1, hz2⟩ := info_parts Try.infoFm
    have HO := Lib.hid hown
    have HLT : Hid (∀ q, vo.ownBlock = some q → base ≤ q ∧ q < w.heap.size) := hown.lt
    have HIH := Lib.hid ih
    have HMANY := Lib.hid hmany
    have HONE := Lib.hid ho
    have HGOOD := Lib.hid hgood
    have hBw : B ≤ w.heap.size := by omega
    clear hown ih hmany hn ho hgood hcnt hsz
    have hb0 := below_alloc w (.cells #[.int .i64 nm.kind, .string nm.name, .int .i64 nm.n, .slice s1 nm.scopes.length t1, .slice k1 nm.kids.length l1, .int .i64 d, .int .i64 one.kind, .string one.name, .int .i64 one.n, .slice s2 one.scopes.length t2, .slice k2 one.kids.length l2, .slice a many.length cap] 38)
    have HG0 : Hid (w.grownBy (w.alloc (.cells #[.int .i64 nm.kind, .string nm.name, .int .i64 nm.n, .slice s1 nm.scopes.length t1, .slice k1 nm.kids.length l1, .int .i64 d, .int .i64 one.kind, .string one.name, .int .i64 one.n, .slice s2 one.scopes.length t2, .slice k2 one.kids.length l2, .slice a many.length cap] 38)) vo.ownBlock) := World.grownBy_alloc w _ _
    have HONE0 := Lib.hid (InV.later (same_below (hb0.mono hBw)) _ _ HONE.out)
    have HO0 : Hid ((w.alloc (.cells #[.int .i64 nm.kind, .string nm.name, .int .i64 nm.n, .slice s1 nm.scopes.length t1, .slice k1 nm.kids.length l1, .int .i64 d, .int .i64 one.kind, .string one.name, .int .i64 one.n, .slice s2 one.scopes.length t2, .slice k2 one.kids.length l2, .slice a many.length cap] 38)).ownsRow base 36 5 vo its.length (rowOf its)) := HO.out.alloc _
    clear hb0
    by_cases h0 : d = 0
    · subst h0
      have HE : Hid (Ht.forms (.mk nm 0 one many) = [one]) := by unfold Hid Ht.forms; simp
      go_enter Try.func88, Try.ntmps88
      go_wp2_with fail
      refine (specCopy_any B one _ _ (by simp; omega) HONE0.out hsz1).mono ?_
      rintro e w2 ⟨v2, rfl, hin2, hb2⟩
      obtain ⟨sa, scap, ka, kcap, rfl⟩ := hin2.form
      have hs2 : w.heap.size + 1 ≤ w2.heap.size := by have := hb2.size; simpa using this
      have HG2 : Hid (w.grownBy w2 vo.ownBlock) := grown_down HG0.out hb2
      have HIN2 := Lib.hid hin2
      have HO2 : Hid (w2.ownsRow base 36 5 vo its.length (rowOf its)) := ownsRow_same' HO0.out (fun g hg => hb2.block g (by have := (HLT.out g hg).2; simp; omega))
      have hL1 : its.length + 1 ≤ maxLen := by unfold maxLen; omega
      have hL2 : (its.length + 1) * 80 ≤ 140737488355328 := by omega
      clear hb2 hin2
      go_wp2_with (at_builtin; refine wpList_append_lies _ rfl _ _ 34 rfl base 36 i0 _ 5 80 Try.underlying34 hi0 hz0 hz1 hz2 rfl (by decide) _ its.length (rowOf its) rfl (HO2.out.alloc _) ⟨w2.heap.size, 0, none⟩ 1 1 [.int .i64 one.kind, .string one.name, .int .i64 one.n, .slice sa one.scopes.length scap, .slice ka one.kids.length kcap] rfl rfl (World.news_of_block (cs := #[.int .i64 one.kind, .string one.name, .int .i64 one.n, .slice sa one.scopes.length scap, .slice ka one.kids.length kcap]) (t := 36) (fr := (0, 0)) (heap_alloc_new w2 _)) (by simp [Value.oneCell']) (by omega) hL1 hL2 (by simp; omega) (w2.heap.size + 1) (by simp) ?_; intro gq qd w3 hown3 hgrow hat hlt4; have HOWN3 := Lib.hid hown3; have HGROW := Lib.hid hgrow; have HAT := Lib.hid hat; clear hown3 hgrow hat)
      have hg23 : w2.grownBy w3 vo.ownBlock := (World.grownBy_alloc _ _ vo.ownBlock).trans HGROW.out
      have HG3 : Hid (w.grownBy w3 vo.ownBlock) := HG2.out.trans hg23
      have HQ3 : Hid (∀ q, (Value.slice (some ⟨gq, 0, none⟩) (its.length + 1) qd).ownBlock = some q → w2.heap.size ≤ q ∨ vo.ownBlock = some q) := fun q h => by
        have h2 : some gq = some q := h
        injection h2 with h2
        subst h2
        exact HAT.out.elim (fun h3 => .inr h3) (fun h3 => .inl (by omega))
      have HR3 : Hid (w3.ownsRow base 36 5 (.slice (some ⟨gq, 0, none⟩) (its.length + 1) qd) (its ++ [(⟨one, sa, scap, ka, kcap⟩ : Item)]).length (rowOf (its ++ [(⟨one, sa, scap, ka, kcap⟩ : Item)]))) := by
        have := HOWN3.out
        unfold Hid
        rw [rowOf_snoc, List.length_append]
        exact this
      have HGI : Hid (GoodIts w3 (.slice (some ⟨gq, 0, none⟩) (its.length + 1) qd) (its ++ [(⟨one, sa, scap, ka, kcap⟩ : Item)])) := by
        refine GoodIts.append (HGOOD.out.grown HG3.out (fun q h => (HQ3.out q h).elim (fun h1 => .inl (by omega)) .inr)) ?_
        refine GoodIts.grown (w := w2) (o := vo) (fun y hy => ?_) hg23 HQ3.out
        rw [List.mem_singleton] at hy
        subst hy
        exact InV.mono (fun k hk => ⟨hk.2, fun e => by have h1 := (HLT.out k e.symm).2; have h2 := hk.1; simp at h2; omega⟩) _ _ HIN2.out
      clear hg23
      go_ret
      exact ⟨_, [(⟨one, sa, scap, ka, kcap⟩ : Item)], rfl, HE.out.symm, HGI.out, HR3.out, HG3.out, fun q h => (HQ3.out q h).elim (fun h1 => .inl (by omega)) .inr⟩
    · have hd1 : (d == 0) = false := by rw [beq_eq_false_iff_ne]; exact h0
      have HE : Hid (Ht.forms (.mk nm d one many) = formsHs many) := by unfold Hid Ht.forms; rw [if_neg h0]
      have c11 : (w.alloc (.cells #[.int .i64 nm.kind, .string nm.name, .int .i64 nm.n, .slice s1 nm.scopes.length t1, .slice k1 nm.kids.length l1, .int .i64 d, .int .i64 one.kind, .string one.name, .int .i64 one.n, .slice s2 one.scopes.length t2, .slice k2 one.kids.length l2, .slice a many.length cap] 38)).cell? ⟨w.heap.size, 11, none⟩ = some (.slice a many.length cap) := World.cell?_alloc_at _ _ _ _ rfl
      have HGI0 : Hid (GoodIts (w.alloc (.cells #[.int .i64 nm.kind, .string nm.name, .int .i64 nm.n, .slice s1 nm.scopes.length t1, .slice k1 nm.kids.length l1, .int .i64 d, .int .i64 one.kind, .string one.name, .int .i64 one.n, .slice s2 one.scopes.length t2, .slice k2 one.kids.length l2, .slice a many.length cap] 38)) vo its) := HGOOD.out.grown HG0.out (fun q h => .inr h)
      clear h0
      go_enter Try.func88, Try.ntmps88
      go_wp2_with fail
      go_loopw [0, 5] (fun o i wr => ∃ (j : Nat) (new : List Item), j ≤ many.length ∧ i = .int .i64 j ∧ new.map (·.f) = formsHs (many.take j) ∧ GoodIts wr o (its ++ new) ∧ wr.ownsRow base 36 5 o (its ++ new).length (rowOf (its ++ new)) ∧
          w.grownBy wr vo.ownBlock ∧ (∀ q, o.ownBlock = some q → w.heap.size + 1 ≤ q ∨ vo.ownBlock = some q) ∧ w.heap.size < wr.heap.size ∧ wr.cell? ⟨w.heap.size, 11, none⟩ = some (.slice a many.length cap)) (fun _ i _ => many.length - (intOf i).toNat)
      case atStart => exact ⟨0, [], Nat.zero_le _, rfl, by simp [formsHs], by simpa using HGI0.out, by simpa using HO0.out, HG0.out, fun q h => .inr h, by simp, c11⟩
      case round =>
        obtain ⟨j, new, hj, rfl, hnew, hgi, hr, hg, hq, hsz, hc11⟩ := hrel
        have HR := Lib.hid hr
        have HG := Lib.hid hg
        have HQ := Lib.hid hq
        have HNEW := Lib.hid hnew
        have HGI := Lib.hid hgi
        have HBL : Hid (Below base w wr) := below_grownP hg hbase (fun q h => (HLT.out q h).1)
        have HCN : Hid ((its ++ new).length ≤ its.length + szHs (many.take j)) := by
          have h1 := congrArg List.length hnew
          have h2 := formsHs_length (many.take j)
          rw [List.length_map] at h1
          unfold Hid
          rw [List.length_append]
          omega
        clear hr hg hq hnew hgi
        by_cases hlt : j < many.length
        · rcases HMANY.out with h0 | ⟨b, off, rfl, hbB, hrow⟩
          · exfalso; rw [h0] at hlt; simp at hlt
          · obtain ⟨p1, p2, p3, p4, p5, p6, p7, p8, pa, pc, x0, x1, x2, x3, x4, x5, x6, x7, x8, x9, x10, x11, hin⟩ := (hrow.later (same_below (HBL.out.mono hB)) b hbB).at' j hlt
            have HIN := Lib.hid hin
            have HCT := Lib.hid (szHs_take_succ many j hlt)
            have HCL := Lib.hid (szHs_take_le many (j + 1))
            have HVS := Lib.hid (formsHs_take_succ many j hlt)
            have hbw : base ≤ wr.heap.size := by omega
            have hji : (0 : Int) ≤ (j : Int) := by omega
            have hjl : (j : Int) < (many.length : Int) := by omega
            clear hin hrow
            go_wp2_with fail
            refine (HIH.out many[j] (List.getElem_mem hlt) _ _ _ base wr hB hbw HIN.out (by have h2 := HCT.out; have h3 := HCL.out; omega) HR.out HGI.out (by have h1 := HCN.out; have h2 := HCT.out; have h3 := HCL.out; omega)).mono ?_
            rintro e w1 ⟨v1, nw, rfl, hn1, hi1, hr1, hg1, hq1⟩
            have HR1 : Hid (w1.ownsRow base 36 5 v1 (its ++ (new ++ nw)).length (rowOf (its ++ (new ++ nw)))) := by rw [← List.append_assoc]; exact hr1
            have HN1 : Hid ((new ++ nw).map (·.f) = formsHs (many.take (j + 1))) := by
              unfold Hid
              rw [List.map_append, HNEW.out, hn1, HVS.out]
            have HI1 : Hid (GoodIts w1 v1 (its ++ (new ++ nw))) := by rw [← List.append_assoc]; exact hi1
            have hd11 := hg1.cell hc11 (by intro h; have h5 := HQ.out w.heap.size h.symm; exact h5.elim (fun h6 => by omega) (fun h6 => by have := (HLT.out _ h6).2; omega))
            have hs1 := hg1.size
            have HG1 : Hid (w.grownBy w1 vo.ownBlock) := HG.out.andThen hg1 (fun q h => (HQ.out q h).elim (fun h5 => .inl (by omega)) (fun h5 => .inr h5))
            have HQ1 : Hid (∀ q, v1.ownBlock = some q → w.heap.size + 1 ≤ q ∨ vo.ownBlock = some q) := fun q h => by
              rcases hq1 q h with h5 | h5
              · exact .inl (by omega)
              · exact HQ.out q h5
            clear hr1 hg1 hq1 hn1 hi1 hc11 x0 x1 x2 x3 x4 x5 x6 x7 x8 x9 x10 x11
            go_wp2_with fail
            go_roundw
            case rel => exact ⟨j + 1, new ++ nw, by omega, by go_num, HN1.out, HI1.out, HR1.out, HG1.out, HQ1.out, by omega, hd11⟩
            case measure => simp [intOf]; omega
        · obtain rfl : j = many.length := by omega
          have HE2 : Hid (new.map (·.f) = Ht.forms (.mk nm d one many)) := by
            unfold Hid
            rw [HNEW.out, List.take_length, HE.out]
          go_wp2_with fail
          go_ret
          exact ⟨_, new, rfl, HE2.out, HGI.out, HR.out, HG.out, fun q h => (HQ.out q h).elim (fun h5 => .inl (by omega)) (fun h5 => .inr h5)⟩
end
end Go.Proofs.Ytkfolefeehggcaa
namespace Go.Proofs.Ytkfolefeehggcaa
section
open Go.RowKit
set_option linter.unusedVariables false
set_option linter.unusedSimpArgs false
/-- what HitForms gives -/
def hformsB (h : Ht) : List Fm := if hitB h h.depth = true then h.forms else []
set_option maxRecDepth 100000 in
set_option maxHeartbeats 2000000 in
theorem specHitForms_any (B : Nat) (h : Ht) (v : Value) (w : World) (hB : B ≤ w.heap.size) (hv : InH (· < B) w h v) (hsz : h.sz ≤ 1048576) :
    Calls Try.prog 31 #[v] w fun e w' => ∃ a cap, e = .returned (.slice a (hformsB h).length cap) ∧ FormsIn (· < w'.heap.size) w' a cap (hformsB h) ∧ Below w.heap.size w w' := by
  have HV := Lib.hid hv
  cases h with
  | mk nm d one many =>
  unfold InH at hv
  obtain ⟨s1, t1, k1, l1, s2, t2, k2, l2, a, cap, rfl, hd, _⟩ := hv
  have HB0 : Hid (Below w.heap.size w (w.alloc (.cells #[.int .i64 nm.kind, .string nm.name, .int .i64 nm.n, .slice s1 nm.scopes.length t1, .slice k1 nm.kids.length l1, .int .i64 d, .int .i64 one.kind, .string one.name, .int .i64 one.n, .slice s2 one.scopes.length t2, .slice k2 one.kids.length l2, .slice a many.length cap] 38))) := below_alloc w _
  go_enter Try.func31, Try.ntmps31
  go_wp2_with fail
  refine (l4Hit_any B (.mk nm d one many) d _ _ (by simp; omega) (InH.later (same_below (HB0.out.mono hB)) _ _ HV.out) hsz hd).mono ?_
  rintro e w1 ⟨rfl, hb1⟩
  have hs1 : w.heap.size + 1 ≤ w1.heap.size := by have := hb1.size; simpa using this
  have HX1 := Lib.hid ((HitBox.fresh w nm d one many s1 t1 k1 l1 s2 t2 k2 l2 a cap 38).later hb1)
  have HB1 : Hid (Below w.heap.size w w1) := HB0.out.trans (hb1.mono (by simp))
  clear hb1 HB0
  cases h1 : hitB (.mk nm d one many) d with
  | false =>
    have HE : Hid (hformsB (.mk nm d one many) = []) := if_neg (by show ¬ hitB (.mk nm d one many) d = true; rw [h1]; decide)
    clear h1
    go_wp2_with fail
    go_ret
    rw [HE.out]
    exact ⟨_, _, rfl, ⟨Nat.le_refl _, Nat.zero_le _, .inl rfl⟩, HB1.out.alloc HB1.out.size _⟩
  | true =>
    have HE : Hid (hformsB (.mk nm d one many) = (Ht.mk nm d one many).forms) := if_pos h1
    clear h1
    have hb4 := below_alloc w1 (.cells #[] 36)
    have HOE := Lib.hid (ownsRow_emptyH w1 36 5 w1.heap.size (Nat.le_refl _))
    have HV4 := Lib.hid (InH.later (same_below ((HB1.out.trans (hb4.mono HB1.out.size)).mono hB)) _ _ HV.out)
    obtain ⟨x0, x1, x2, x3, x4, x5, x6, x7, x8, x9, x10, x11⟩ := HX1.out.later hb4
    clear hb4
    go_wp2_with fail
    refine (l4Forms_any B (.mk nm d one many) _ [] _ w1.heap.size _ (by omega) (by simp) HV4.out hsz HOE.out (fun y hy => by cases hy) (by simp; omega)).mono ?_
    rintro e w5 ⟨v5, new, rfl, hnew, hgi, hr5, hg5, _⟩
    simp only [List.nil_append] at hr5 hgi
    have hb35 : Below w1.heap.size w1 w5 := (below_alloc w1 _).trans (below_grownP hg5 (by simp) (fun q h => by simp [Value.ownBlock] at h; omega))
    obtain ⟨va, vcap, rfl, hvc, hvm⟩ := ownsRow_sliceH hr5
    have hcard : new.length = (Ht.mk nm d one many).forms.length := by rw [← hnew, List.length_map]
    have HB5 : Hid (Below w.heap.size w w5) := HB1.out.trans (hb35.mono HB1.out.size)
    have HFI : Hid (FormsIn (· < w5.heap.size) w5 va vcap (Ht.mk nm d one many).forms) := by
      have h2 := formsIn_items (φ := (· < w5.heap.size)) hr5 (fun y hy => InV.mono (fun k hk => hk.1) _ _ (hgi y hy)) (fun k _ hk => hk)
      rw [hnew] at h2
      exact h2
    rw [hcard]
    clear hnew hgi hr5 hg5 hb35 hcard x0 x1 x2 x3 x4 x5 x6 x7 x8 x9 x10 x11
    go_wp2_with fail
    go_ret
    rw [HE.out]
    exact ⟨_, _, rfl, HFI.out, HB5.out⟩
end
end Go.Proofs.Ytkfolefeehggcaa
