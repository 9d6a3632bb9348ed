/- The contracts of the model's pieces of patterns: dots, membership, variables, depths, shapes. -/
import Derived.Test.YtbclgmabidjegaaMaPat
import Derived.Test.YtbclgmabidjegaaForms
import Derived.Test.YtbclgmabidjegaaSpecSame
import Derived.Test.YtbclgmabidjegaaMids
import Derived.StillTailTactics
namespace Go.Proofs.Ytbclgmabidjegaa
open Go.RowKit
set_option linter.unusedVariables false
set_option linter.unusedSimpArgs false
set_option maxRecDepth 100000 in
set_option maxHeartbeats 400000 in
theorem l4Dots_any (f : Fm) (sa : Option Addr) (scap : Nat) (a : Option Addr) (cap : Nat) (w : World) :
    Calls Try.prog 160 #[.agg #[.int .i64 f.kind, .string f.name, .int .i64 f.n, .slice sa f.scopes.length scap, .slice a f.kids.length cap]] w fun e w' => e = .returned (.bool (dotsB f)) ∧ Below w.heap.size w w' := by
  cases hk : (f.kind == 1) with
  | false =>
    have HD : Hid (dotsB f = false) := by unfold Hid dotsB; rw [hk]; rfl
    go_enter Try.func160, Try.ntmps160
    go_wp2_with fail
    go_ret
    exact ⟨ret_bool HD.out.symm, below_alloc w _⟩
  | true =>
    have HD : Hid (dotsB f = (f.name.toList == [46, 46, 46])) := by unfold Hid dotsB; rw [hk]; rfl
    go_enter Try.func160, Try.ntmps160
    go_wp2_with fail
    go_ret
    exact ⟨ret_bool HD.out.symm, below_alloc w _⟩
set_option maxRecDepth 100000 in
set_option maxHeartbeats 1000000 in
theorem l4In_any (B : Nat) (ls : List Fm) (la : Option Addr) (lcap : Nat) (f : Fm) (v : Value) (w : World) (hB : B ≤ w.heap.size) (hl : FormsIn (· < B) w la lcap ls) (hv : InV (· < B) w f v) :
    Calls Try.prog 143 #[.slice la ls.length lcap, v] w fun e w' => e = .returned (.bool (inF ls f)) ∧ Below w.heap.size w w' := by
  obtain ⟨hlen, hmax, hrow⟩ := hl
  unfold maxLen at hmax
  have HROW := Lib.hid hrow
  have HV := Lib.hid hv
  obtain ⟨sa, scap, a, cap, rfl⟩ := hv.form
  clear hv hrow
  go_enter Try.func143, Try.ntmps143
  go_wp2_with fail
  go_loopw [5] (fun i wr => ∃ j : Nat, j ≤ ls.length ∧ i = .int .i64 j ∧ inF (ls.take j) f = false ∧ Below w.heap.size w wr ∧ FormBox wr w.heap.size f sa scap a cap) (fun i _ => ls.length - (intOf i).toNat)
  case atStart => exact ⟨0, Nat.zero_le _, rfl, by simp [inF], below_alloc w _, FormBox.fresh w f sa a scap cap _⟩
  case round =>
    obtain ⟨j, hj, rfl, hno, hb, hbox⟩ := hrel
    have HNO := Lib.hid hno
    have HB := Lib.hid hb
    have HBOX := Lib.hid hbox
    have hsz := hb.size
    clear hno hb hbox
    by_cases hlt : j < ls.length
    · rcases HROW.out with h0 | ⟨b, off, rfl, hbB, hr⟩
      · exfalso; rw [h0] at hlt; simp at hlt
      · obtain ⟨ga, gcap, ka, kcap, c0, c1, c2, c3, c4, hin⟩ := (hr.later (same_below (HB.out.mono hB)) b hbB).at' j hlt
        obtain ⟨x0, x1, x2, x3, x4⟩ := HBOX.out
        have HIN := Lib.hid hin
        have HNX := Lib.hid (inF_take_succ ls f j hlt)
        have HMEM := Lib.hid (List.getElem_mem hlt)
        have hji : (0 : Int) ≤ (j : Int) := by omega
        have hjl : (j : Int) < (ls.length : Int) := by omega
        clear hin hr
        go_wp2_with fail
        go_still_tail 5, (by kernel_rfl)
        change wpList _ _ _ _ _ wr.drew
        go_wp2_with fail
        refine (specSame_any B ls[j] f _ _ wr.drew (by show B ≤ wr.heap.size; omega) (InV.later (w := wr) (w' := wr.drew) (fun _ _ => rfl) _ _ HIN.out) (InV.later (w := w) (w' := wr.drew) (fun k (hk : k < B) => HB.out.block k (by omega)) _ _ HV.out)).mono ?_
        rintro e w1 ⟨rfl, hb1⟩
        have hb1' := below_drew hb1
        have HB1 : Hid (Below w.heap.size w w1) := HB.out.trans (hb1'.mono hsz)
        have HBOX1 : Hid (FormBox w1 w.heap.size f sa scap a cap) := HBOX.out.later hb1'
        clear hb1 hb1' c0 c1 c2 c3 c4 x0 x1 x2 x3 x4
        cases hx : sameB ls[j] f with
        | true =>
          have HY : Hid (inF ls f = true) := by unfold Hid inF; rw [List.any_eq_true]; exact ⟨ls[j], HMEM.out, hx⟩
          go_wp2_with fail
          go_ret
          exact ⟨ret_bool HY.out.symm, HB1.out⟩
        | false =>
          have HY : Hid (inF (ls.take (j + 1)) f = false) := by unfold Hid; rw [HNX.out, HNO.out, hx]; rfl
          go_wp2_with fail
          go_roundw
          case rel => exact ⟨j + 1, by omega, by go_num, HY.out, HB1.out, HBOX1.out⟩
          case measure => simp [intOf]; omega
    · obtain rfl : j = ls.length := by omega
      have HY : Hid (inF ls f = false) := by have := HNO.out; rw [List.take_length] at this; exact this
      go_wp2_with fail
      go_ret
      exact ⟨ret_bool HY.out.symm, HB.out⟩
set_option maxRecDepth 100000 in
set_option maxHeartbeats 1000000 in
theorem l4Var_any (B : Nat) (ls : List Fm) (la : Option Addr) (lcap : Nat) (f : Fm) (sa : Option Addr) (scap : Nat) (a : Option Addr) (cap : Nat) (w : World) (hB : B ≤ w.heap.size) (hl : FormsIn (· < B) w la lcap ls) (hv : InV (· < B) w f (.agg #[.int .i64 f.kind, .string f.name, .int .i64 f.n, .slice sa f.scopes.length scap, .slice a f.kids.length cap])) :
    Calls Try.prog 145 #[(.agg #[.int .i64 f.kind, .string f.name, .int .i64 f.n, .slice sa f.scopes.length scap, .slice a f.kids.length cap]), .slice la ls.length lcap] w fun e w' => e = .returned (.bool (varB ls f)) ∧ Below w.heap.size w w' := by
  have HL := Lib.hid hl
  have HV := Lib.hid hv
  clear hl hv
  cases hk : (f.kind == 1) with
  | false =>
    have HD : Hid (varB ls f = false) := by unfold Hid varB; rw [hk]; rfl
    go_enter Try.func145, Try.ntmps145
    go_wp2_with fail
    go_ret
    exact ⟨ret_bool HD.out.symm, below_alloc w _⟩
  | true =>
    cases h3 : (f.name.toList == [46, 46, 46]) with
    | true =>
      have HD : Hid (varB ls f = false) := by unfold Hid varB; rw [hk, h3]; rfl
      go_enter Try.func145, Try.ntmps145
      go_wp2_with fail
      go_ret
      exact ⟨ret_bool HD.out.symm, below_alloc w _⟩
    | false =>
      cases h1 : (f.name.toList == [95]) with
      | true =>
        have HD : Hid (varB ls f = false) := by unfold Hid varB; rw [hk, h3, h1]; rfl
        go_enter Try.func145, Try.ntmps145
        go_wp2_with fail
        go_ret
        exact ⟨ret_bool HD.out.symm, below_alloc w _⟩
      | false =>
        have HD : Hid (varB ls f = !inF ls f) := by unfold Hid varB; rw [hk, h3, h1]; rfl
        go_enter Try.func145, Try.ntmps145
        go_wp2_with fail
        refine (l4In_any B ls la lcap f _ _ (by simp; omega) (HL.out.later (same_below ((below_alloc w _).mono hB))) (InV.later (same_below ((below_alloc w _).mono hB)) _ _ HV.out)).mono ?_
        rintro e w1 ⟨rfl, hb1⟩
        have HB1 : Hid (Below w.heap.size w w1) := (below_alloc w _).trans (hb1.mono (by simp))
        clear hb1
        cases hin : inF ls f with
        | true =>
          have HE : Hid (varB ls f = false) := by unfold Hid; rw [HD.out, hin]; rfl
          go_wp2_with fail
          go_ret
          exact ⟨ret_bool HE.out.symm, HB1.out⟩
        | false =>
          have HE : Hid (varB ls f = true) := by unfold Hid; rw [HD.out, hin]; rfl
          go_wp2_with fail
          go_ret
          exact ⟨ret_bool HE.out.symm, HB1.out⟩
theorem grown_down {a w w' : World} {row : Option Nat} (h : a.grownBy w row) (hb : Below w.heap.size w w') : a.grownBy w' row :=
  ⟨hb.os.trans h.os, hb.tape.trans h.tape, hb.output.trans h.output, Nat.le_trans h.size hb.size, fun k hk hn => (hb.block k (Nat.lt_of_lt_of_le hk h.size)).trans (h.block k hk hn)⟩
theorem below_grownP {base : Nat} {w w' : World} {row : Option Nat} (h : w.grownBy w' row) (hb : base ≤ w.heap.size) (hr : ∀ q, row = some q → base ≤ q) : Below base w w' :=
  ⟨h.os, h.tape, h.output, h.size, fun k hk => h.block k (by omega) (fun e => by have := hr k e.symm; omega)⟩
theorem item_kid {B : Nat} {w : World} {f : Fm} {v : Value} (h : InV (· < B) w f v) : ∃ x : Item, x.f = f ∧ v = x.val := by
  obtain ⟨sa, scap, a, cap, rfl⟩ := h.form
  exact ⟨⟨f, sa, scap, a, cap⟩, rfl, rfl⟩
set_option maxRecDepth 100000 in
set_option maxHeartbeats 2000000 in
theorem l4Vars_any (B : Nat) (ls : List Fm) (la : Option Addr) (lcap : Nat) (f : Fm) : ∀ (sa : Option Addr) (scap : Nat) (a : Option Addr) (cap : Nat) (its : List Item) (vo : Value) (base : Nat) (w : World), B ≤ base → base ≤ w.heap.size → FormsIn (· < B) w la lcap ls →
    w.ownsRow base 33 5 vo its.length (rowOf its) → InV (· < B) w f (.agg #[.int .i64 f.kind, .string f.name, .int .i64 f.n, .slice sa f.scopes.length scap, .slice a f.kids.length cap]) → its.length + f.count ≤ 4194304 →
    Calls Try.prog 89 #[vo, (.agg #[.int .i64 f.kind, .string f.name, .int .i64 f.n, .slice sa f.scopes.length scap, .slice a f.kids.length cap]), .slice la ls.length lcap] w fun e w' => ∃ v' new, e = .returned v' ∧ new.map (·.f) = varsF ls f ∧ (∀ y ∈ new, InV (· < B) w y.f y.val) ∧ w'.ownsRow base 33 5 v' (its ++ new).length (rowOf (its ++ new)) ∧
      w.grownBy w' vo.ownBlock ∧ (∀ q, v'.ownBlock = some q → w.heap.size ≤ q ∨ vo.ownBlock = some q) := by
  induction f using Fm.ind with
  | h k nm n sc ks ih =>
    intro sa scap a cap its vo base w hB hbase hl ho hv hcnt
    simp only [Fm.kind, Fm.name, Fm.n, Fm.scopes, Fm.kids] at hv ⊢
    have HV := Lib.hid hv
    obtain ⟨_, hcap, hmax, hks⟩ := hv.kids
    simp only [Fm.kids] at hcap hks
    unfold maxLen at hmax
    have hcnt2 : its.length + countAll ks + 1 ≤ 4194304 := by simp only [Fm.count] at hcnt; omega
    obtain ⟨i0, hi0, hz0, hz1, hz2⟩ := info_parts Try.infoFm
    have HO := Lib.hid ho
    have HLT : Hid (∀ q, vo.ownBlock = some q → base ≤ q ∧ q < w.heap.size) := ho.lt
    have HIH := Lib.hid ih
    have HKS := Lib.hid hks
    have HL := Lib.hid hl
    clear hv ho ih hks hcnt hl
    have hb0 := below_alloc w (.cells #[.int .i64 k, .string nm, .int .i64 n, .slice sa sc.length scap, .slice a ks.length cap] 33)
    have hBw : B ≤ w.heap.size := by omega
    have hL0 := HL.out.later (same_below (hb0.mono hBw))
    have hV0 := InV.later (same_below (hb0.mono hBw)) _ _ HV.out
    have HL0 := Lib.hid hL0
    have HV0 := Lib.hid hV0
    have HG0 : Hid (w.grownBy (w.alloc (.cells #[.int .i64 k, .string nm, .int .i64 n, .slice sa sc.length scap, .slice a ks.length cap] 33)) vo.ownBlock) := World.grownBy_alloc w _ _
    clear hb0 hL0 hV0
    go_enter Try.func89, Try.ntmps89
    go_wp2_with fail
    refine (l4Var_any B ls la lcap (Fm.mk k nm n sc ks) sa scap a cap _ (by simp; omega) HL0.out HV0.out).mono ?_
    rintro e w1 ⟨rfl, hb1⟩
    have hs1 : w.heap.size + 1 ≤ w1.heap.size := by have := hb1.size; simpa using this
    obtain ⟨x0, x1, x2, x3, x4⟩ := (FormBox.fresh w (Fm.mk k nm n sc ks) sa a scap cap 33).later hb1
    simp only [Fm.kind, Fm.name, Fm.n, Fm.scopes, Fm.kids] at x0 x1 x2 x3 x4
    have HG1 : Hid (w.grownBy w1 vo.ownBlock) := grown_down HG0.out hb1
    have HO1 : Hid (w1.ownsRow base 33 5 vo its.length (rowOf its)) := ownsRow_same' HO.out (fun g hg => (hb1.block g (by have := (HLT.out g hg).2; simp; omega)).trans ((below_alloc w _).block g (HLT.out g hg).2))
    clear hb1
    cases hvb : varB ls (Fm.mk k nm n sc ks) with
    | false =>
      have HVB := Lib.hid hvb
      clear hvb
      go_wp2_with fail
      go_loopw [0, 7] (fun o i wr => ∃ (j : Nat) (new : List Item), j ≤ ks.length ∧ i = .int .i64 j ∧ new.map (·.f) = ([] : List Fm) ++ varsAll ls (ks.take j) ∧ (∀ y ∈ new, InV (· < B) w y.f y.val) ∧ wr.ownsRow base 33 5 o (its ++ new).length (rowOf (its ++ new)) ∧
          w.grownBy wr vo.ownBlock ∧ (∀ q, o.ownBlock = some q → w.heap.size + 1 ≤ q ∨ vo.ownBlock = some q) ∧ w.heap.size < wr.heap.size ∧ wr.cell? ⟨w.heap.size, 4, none⟩ = some (.slice a ks.length cap)) (fun _ i _ => ks.length - (intOf i).toNat)
      case atStart => exact ⟨0, [], Nat.zero_le _, rfl, by simp [varsAll, preAll], by simp, by simpa using HO1.out, HG1.out, fun q h => .inr h, by omega, x4⟩
      case round =>
        obtain ⟨j, new, hj, rfl, hnew, hins, hr, hg, hq, hsz, hc4⟩ := hrel
        have HR := Lib.hid hr
        have HG := Lib.hid hg
        have HQ := Lib.hid hq
        have HNEW := Lib.hid hnew
        have HINS := Lib.hid hins
        have HBL : Hid (Below base w wr) := below_grownP hg hbase (fun q h => (HLT.out q h).1)
        have HCN : Hid ((its ++ new).length ≤ its.length + 1 + countAll (ks.take j)) := by
          have h1 := congrArg List.length hnew
          have h2 := varsAll_length ls (ks.take j)
          rw [List.length_map, List.length_append] at h1
          have h3 : (([] : List Fm) : List Fm).length ≤ 1 := by simp
          unfold Hid
          rw [List.length_append]
          omega
        clear hr hg hq hnew hins
        by_cases hlt : j < ks.length
        · rcases HKS.out with h0 | ⟨b, off, rfl, hbB, hrow⟩
          · exfalso; rw [h0] at hlt; simp at hlt
          · obtain ⟨ga, gcap, ka, kcap, c0, c1, c2, c3, c4, hin⟩ := (hrow.later (same_below (HBL.out.mono hB)) b hbB).at' j hlt
            have HIN := Lib.hid hin
            have HCT := Lib.hid (countAll_take_succ ks j hlt)
            have HCL := Lib.hid (countAll_take_le ks (j + 1))
            have HVS := Lib.hid (varsAll_take_succ ls ks j hlt)
            have hbw : base ≤ wr.heap.size := by omega
            have hji : (0 : Int) ≤ (j : Int) := by omega
            have hjl : (j : Int) < (ks.length : Int) := by omega
            clear hin hrow
            go_wp2_with fail
            refine (HIH.out ks[j] (List.getElem_mem hlt) ga gcap ka kcap _ _ base wr hB hbw (HL.out.later (same_below (HBL.out.mono hB))) HR.out HIN.out (by have h1 := HCN.out; have h2 := HCT.out; have h3 := HCL.out; omega)).mono ?_
            rintro e w1 ⟨v1, nw, rfl, hn1, hi1, hr1, hg1, hq1⟩
            have HR1 : Hid (w1.ownsRow base 33 5 v1 (its ++ (new ++ nw)).length (rowOf (its ++ (new ++ nw)))) := by rw [← List.append_assoc]; exact hr1
            have HN1 : Hid ((new ++ nw).map (·.f) = ([] : List Fm) ++ varsAll ls (ks.take (j + 1))) := by
              unfold Hid
              rw [List.map_append, HNEW.out, hn1, HVS.out, List.append_assoc]
            have HI1 : Hid (∀ y ∈ new ++ nw, InV (· < B) w y.f y.val) := fun y hy => by
              rcases List.mem_append.1 hy with h | h
              · exact HINS.out y h
              · exact InV.later (fun k (hk : k < B) => (HBL.out.block k (by omega)).symm) _ _ (hi1 y h)
            have hd4 := hg1.cell hc4 (by intro h; have h5 := HQ.out w.heap.size h.symm; exact h5.elim (fun h6 => by omega) (fun h6 => by have := (HLT.out _ h6).2; omega))
            have hs1 := hg1.size
            have HG1 : Hid (w.grownBy w1 vo.ownBlock) := HG.out.andThen hg1 (fun q h => (HQ.out q h).elim (fun h5 => .inl (by omega)) (fun h5 => .inr h5))
            have HQ1 : Hid (∀ q, v1.ownBlock = some q → w.heap.size + 1 ≤ q ∨ vo.ownBlock = some q) := fun q h => by
              rcases hq1 q h with h5 | h5
              · exact .inl (by omega)
              · exact HQ.out q h5
            clear hr1 hg1 hq1 hn1 hi1 hc4 c0 c1 c2 c3 c4
            go_wp2_with fail
            go_roundw
            case rel => exact ⟨j + 1, new ++ nw, by omega, by go_num, HN1.out, HI1.out, HR1.out, HG1.out, HQ1.out, by omega, hd4⟩
            case measure => simp [intOf]; omega
        · obtain rfl : j = ks.length := by omega
          have HE : Hid (new.map (·.f) = varsF ls (Fm.mk k nm n sc ks)) := by
            unfold Hid
            rw [HNEW.out, List.take_length, varsF_eq, HVB.out]
            simp [Fm.kids]
          go_wp2_with fail
          go_ret
          exact ⟨_, new, rfl, HE.out, HINS.out, HR.out, HG.out, fun q h => (HQ.out q h).elim (fun h5 => .inl (by omega)) (fun h5 => .inr h5)⟩
    | true =>
      have HVB := Lib.hid hvb
      clear hvb
      have hL1 : its.length + 1 ≤ maxLen := by unfold maxLen; omega
      have hL2 : (its.length + 1) * 80 ≤ 140737488355328 := by omega
      have hne : some w.heap.size ≠ vo.ownBlock := fun h => by have := (HLT.out _ h.symm).2; omega
      go_wp2_with (at_builtin; refine wpList_append_lies _ rfl _ _ 31 rfl base 33 i0 _ 5 80 Try.underlying31 hi0 hz0 hz1 hz2 rfl (by decide) _ its.length (rowOf its) rfl (HO1.out.alloc _) ⟨w1.heap.size, 0, none⟩ 1 1 [.int .i64 k, .string nm, .int .i64 n, .slice sa sc.length scap, .slice a ks.length cap] rfl rfl (World.news_of_block (cs := #[.int .i64 k, .string nm, .int .i64 n, .slice sa sc.length scap, .slice a ks.length cap]) (t := 33) (fr := (0, 0)) (heap_alloc_new w1 _)) (by simp [Value.oneCell']) (by omega) hL1 hL2 (by simp; omega) (w1.heap.size + 1) (by simp) ?_; intro gq qd w3 hown3 hgrow hat hlt4; have HOWN3 := Lib.hid hown3; have HGROW := Lib.hid hgrow; have HAT := Lib.hid hat; clear hown3 hgrow hat)
      have HG3 : Hid (w.grownBy w3 vo.ownBlock) := (HG1.out.trans (World.grownBy_alloc _ _ vo.ownBlock)).trans HGROW.out
      have HQ3 : Hid (∀ q, (Value.slice (some ⟨gq, 0, none⟩) (its.length + 1) qd).ownBlock = some q → w.heap.size + 1 ≤ q ∨ vo.ownBlock = some q) := fun q h => by
        have h2 : some gq = some q := h
        injection h2 with h2
        subst h2
        exact HAT.out.elim (fun h3 => .inr h3) (fun h3 => .inl (by omega))
      have HS3 : Hid (w.heap.size < w3.heap.size) := by have := HGROW.out.size; simp at this; unfold Hid; omega
      have HC3 : Hid (w3.cell? ⟨w.heap.size, 4, none⟩ = some (.slice a ks.length cap)) := HGROW.out.cell (cell_later' (below_alloc _ _) x4) hne
      have HR3 : Hid (w3.ownsRow base 33 5 (.slice (some ⟨gq, 0, none⟩) (its.length + 1) qd) (its ++ [(⟨Fm.mk k nm n sc ks, sa, scap, a, cap⟩ : Item)]).length (rowOf (its ++ [(⟨Fm.mk k nm n sc ks, sa, scap, a, cap⟩ : Item)]))) := by
        have := HOWN3.out
        unfold Hid
        rw [rowOf_snoc, List.length_append]
        exact this
      have HI3 : Hid (∀ y ∈ [(⟨Fm.mk k nm n sc ks, sa, scap, a, cap⟩ : Item)], InV (· < B) w y.f y.val) := fun y hy => by
        rw [List.mem_singleton] at hy
        subst hy
        exact HV.out
      clear hne hlt4 x0 x1 x2 x3 x4
      go_loopw [0, 7] (fun o i wr => ∃ (j : Nat) (new : List Item), j ≤ ks.length ∧ i = .int .i64 j ∧ new.map (·.f) = [Fm.mk k nm n sc ks] ++ varsAll ls (ks.take j) ∧ (∀ y ∈ new, InV (· < B) w y.f y.val) ∧ wr.ownsRow base 33 5 o (its ++ new).length (rowOf (its ++ new)) ∧
          w.grownBy wr vo.ownBlock ∧ (∀ q, o.ownBlock = some q → w.heap.size + 1 ≤ q ∨ vo.ownBlock = some q) ∧ w.heap.size < wr.heap.size ∧ wr.cell? ⟨w.heap.size, 4, none⟩ = some (.slice a ks.length cap)) (fun _ i _ => ks.length - (intOf i).toNat)
      case atStart => exact ⟨0, _, Nat.zero_le _, rfl, by simp [varsAll, preAll], HI3.out, HR3.out, HG3.out, HQ3.out, HS3.out, HC3.out⟩
      case round =>
        obtain ⟨j, new, hj, rfl, hnew, hins, hr, hg, hq, hsz, hc4⟩ := hrel
        have HR := Lib.hid hr
        have HG := Lib.hid hg
        have HQ := Lib.hid hq
        have HNEW := Lib.hid hnew
        have HINS := Lib.hid hins
        have HBL : Hid (Below base w wr) := below_grownP hg hbase (fun q h => (HLT.out q h).1)
        have HCN : Hid ((its ++ new).length ≤ its.length + 1 + countAll (ks.take j)) := by
          have h1 := congrArg List.length hnew
          have h2 := varsAll_length ls (ks.take j)
          rw [List.length_map, List.length_append] at h1
          have h3 : ([Fm.mk k nm n sc ks] : List Fm).length ≤ 1 := by simp
          unfold Hid
          rw [List.length_append]
          omega
        clear hr hg hq hnew hins
        by_cases hlt : j < ks.length
        · rcases HKS.out with h0 | ⟨b, off, rfl, hbB, hrow⟩
          · exfalso; rw [h0] at hlt; simp at hlt
          · obtain ⟨ga, gcap, ka, kcap, c0, c1, c2, c3, c4, hin⟩ := (hrow.later (same_below (HBL.out.mono hB)) b hbB).at' j hlt
            have HIN := Lib.hid hin
            have HCT := Lib.hid (countAll_take_succ ks j hlt)
            have HCL := Lib.hid (countAll_take_le ks (j + 1))
            have HVS := Lib.hid (varsAll_take_succ ls ks j hlt)
            have hbw : base ≤ wr.heap.size := by omega
            have hji : (0 : Int) ≤ (j : Int) := by omega
            have hjl : (j : Int) < (ks.length : Int) := by omega
            clear hin hrow
            go_wp2_with fail
            refine (HIH.out ks[j] (List.getElem_mem hlt) ga gcap ka kcap _ _ base wr hB hbw (HL.out.later (same_below (HBL.out.mono hB))) HR.out HIN.out (by have h1 := HCN.out; have h2 := HCT.out; have h3 := HCL.out; omega)).mono ?_
            rintro e w1 ⟨v1, nw, rfl, hn1, hi1, hr1, hg1, hq1⟩
            have HR1 : Hid (w1.ownsRow base 33 5 v1 (its ++ (new ++ nw)).length (rowOf (its ++ (new ++ nw)))) := by rw [← List.append_assoc]; exact hr1
            have HN1 : Hid ((new ++ nw).map (·.f) = [Fm.mk k nm n sc ks] ++ varsAll ls (ks.take (j + 1))) := by
              unfold Hid
              rw [List.map_append, HNEW.out, hn1, HVS.out, List.append_assoc]
            have HI1 : Hid (∀ y ∈ new ++ nw, InV (· < B) w y.f y.val) := fun y hy => by
              rcases List.mem_append.1 hy with h | h
              · exact HINS.out y h
              · exact InV.later (fun k (hk : k < B) => (HBL.out.block k (by omega)).symm) _ _ (hi1 y h)
            have hd4 := hg1.cell hc4 (by intro h; have h5 := HQ.out w.heap.size h.symm; exact h5.elim (fun h6 => by omega) (fun h6 => by have := (HLT.out _ h6).2; omega))
            have hs1 := hg1.size
            have HG1 : Hid (w.grownBy w1 vo.ownBlock) := HG.out.andThen hg1 (fun q h => (HQ.out q h).elim (fun h5 => .inl (by omega)) (fun h5 => .inr h5))
            have HQ1 : Hid (∀ q, v1.ownBlock = some q → w.heap.size + 1 ≤ q ∨ vo.ownBlock = some q) := fun q h => by
              rcases hq1 q h with h5 | h5
              · exact .inl (by omega)
              · exact HQ.out q h5
            clear hr1 hg1 hq1 hn1 hi1 hc4 c0 c1 c2 c3 c4
            go_wp2_with fail
            go_roundw
            case rel => exact ⟨j + 1, new ++ nw, by omega, by go_num, HN1.out, HI1.out, HR1.out, HG1.out, HQ1.out, by omega, hd4⟩
            case measure => simp [intOf]; omega
        · obtain rfl : j = ks.length := by omega
          have HE : Hid (new.map (·.f) = varsF ls (Fm.mk k nm n sc ks)) := by
            unfold Hid
            rw [HNEW.out, List.take_length, varsF_eq, HVB.out]
            simp [Fm.kids]
          go_wp2_with fail
          go_ret
          exact ⟨_, new, rfl, HE.out, HINS.out, HR.out, HG.out, fun q h => (HQ.out q h).elim (fun h5 => .inl (by omega)) (fun h5 => .inr h5)⟩
end Go.Proofs.Ytbclgmabidjegaa
