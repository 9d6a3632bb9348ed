/- The names that a step adds: both contracts. -/
import Derived.Test.YtbclgmabidjegaaSpecPat
import Derived.Test.YtbclgmabidjegaaSpecHas
import Derived.Test.YtbclgmabidjegaaSpecCopy
import Derived.Test.YtbclgmabidjegaaGoodIts
import Derived.Test.YtbclgmabidjegaaValid
import Derived.Deep.CutRange
import Derived.Test.YtbclgmabidjegaaStepKit
import Derived.Test.YtbclgmabidjegaaStepMark
import Derived.Test.YtbclgmabidjegaaImplPat4
import Derived.Test.YtbclgmabidjegaaVisits
import Derived.Test.YtbclgmabidjegaaNodeOk
import Derived.Test.YtbclgmabidjegaaCopyForm
import Derived.Test.YtbclgmabidjegaaEndDag
import Derived.Test.YtbclgmabidjegaaFolds
import Derived.Test.YtbclgmabidjegaaFormsS
namespace Go.Proofs.Ytbclgmabidjegaa
section
open Go.RowKit
set_option linter.unusedVariables false
set_option linter.unusedSimpArgs false
/-- names with a scope, each once: one form more -/
def introStep (s : Int) (out : List Fm) (g : Fm) : List Fm := if ((g.kind == 1) && (hasB g.scopes s && !inF out g)) = true then out ++ [g] else out
def introL (s : Int) (out : List Fm) (V : List Fm) : List Fm := V.foldl (introStep s) out
theorem introL_append (s : Int) (out : List Fm) (V W : List Fm) : introL s out (V ++ W) = introL s (introL s out V) W := List.foldl_append ..
theorem introStep_length (s : Int) (out : List Fm) (g : Fm) : (introStep s out g).length ≤ out.length + 1 := by unfold introStep; split <;> simp
theorem introL_length (s : Int) : ∀ (V : List Fm) (out : List Fm), (introL s out V).length ≤ out.length + V.length
  | [], out => by simp [introL]
  | g :: V, out => by
    have h1 := introStep_length s out g
    have h2 := introL_length s V (introStep s out g)
    unfold introL at h2 ⊢
    simp only [List.foldl_cons, List.length_cons]
    omega
theorem preAll_snoc : ∀ (ks : List Fm) (j : Nat) (h : j < ks.length), preAll (ks.take (j + 1)) = preAll (ks.take j) ++ ks[j].pre
  | x :: r, 0, _ => by simp [preAll]
  | x :: r, j + 1, h => by
    have := preAll_snoc r j (by simpa using h)
    simp only [List.take_succ_cons, preAll, List.getElem_cons_succ, this, List.append_assoc]
theorem szAll_kids (f : Fm) : szAll f.kids ≤ f.sz := by
  cases f
  simp only [Fm.sz, Fm.kids]
  omega
theorem szAll_get' : ∀ (ks : List Fm) (j : Nat) (h : j < ks.length), (ks[j]).sz ≤ szAll ks
  | x :: r, 0, _ => by simp only [szAll, List.getElem_cons_zero]; omega
  | x :: r, j + 1, h => by
    have := szAll_get' r j (by simpa using h)
    simp only [szAll, List.getElem_cons_succ]
    omega
theorem formScopes' {φ : Nat → Prop} {w : World} {f : Fm} {sa a : Option Addr} {scap cap : Nat} (h : InV φ w f (.agg #[.int .i64 f.kind, .string f.name, .int .i64 f.n, .slice sa f.scopes.length scap, .slice a f.kids.length cap])) : IntRow φ w (.slice sa f.scopes.length scap) f.scopes := by
  cases f with
  | mk k nm n sc ks =>
    unfold InV at h
    obtain ⟨vs, a', cap', e, _, _, _, h1, _⟩ := h
    injection e with e
    injection e with e
    simp only [List.cons.injEq, and_true] at e
    obtain ⟨_, _, _, e1, _⟩ := e
    rw [← e1] at h1
    exact h1
theorem formKids' {φ : Nat → Prop} {w : World} {f : Fm} {sa a : Option Addr} {scap cap : Nat} (h : InV φ w f (.agg #[.int .i64 f.kind, .string f.name, .int .i64 f.n, .slice sa f.scopes.length scap, .slice a f.kids.length cap])) : FormsIn φ w a cap f.kids := (InV.kids h).2
/-- what l10Names leaves -/
def L10Post (base : Nat) (its : List Item) (vo : Value) (s : Int) (f : Fm) (w : World) (e : Ending) (w' : World) : Prop :=
  ∃ v' new, e = .returned v' ∧ (its ++ new).map (·.f) = introL s (its.map (·.f)) f.pre ∧ GoodIts w' v' (its ++ new) ∧ w'.ownsRow base 33 5 v' (its ++ new).length (rowOf (its ++ new)) ∧
    w.grownBy w' vo.ownBlock ∧ (∀ q, v'.ownBlock = some q → w.heap.size ≤ q ∨ vo.ownBlock = some q)
set_option maxRecDepth 100000 in
set_option maxHeartbeats 4000000 in
theorem l10Names_any (B : Nat) (s : Int) (f : Fm) : ∀ (v : Value) (its : List Item) (vo : Value) (base : Nat) (w : World), B ≤ base → base ≤ w.heap.size → InV (· < B) w f v → f.sz ≤ 1048576 → w.ownsRow base 33 5 vo its.length (rowOf its) → GoodIts w vo its → its.length + f.count ≤ 4194304 →
    Calls Try.prog 122 #[vo, v, .int .i64 s] w (L10Post base its vo s f w) := by
  induction f using Fm.ind with
  | h k nm n sc ks ih =>
    intro v its vo base w hB hbase hv hsz hown hgood hcnt
    obtain ⟨sa, scap, a, cap, rfl⟩ := hv.form
    obtain ⟨g, hg⟩ : ∃ g, g = Fm.mk k nm n sc ks := ⟨_, rfl⟩
    rw [← hg] at hv hsz hcnt ⊢
    have hcnt1 : its.length + 1 + countAll ks ≤ 4194304 := by rw [hg] at hcnt; unfold Fm.count at hcnt; omega
    have hszk : szAll g.kids ≤ 1048576 := Nat.le_trans (szAll_kids g) hsz
    have hpre : Hid (g.pre = g :: preAll ks) := by unfold Hid; rw [hg]; exact pre_eq _
    have hkids : g.kids = ks := by rw [hg]; rfl
    subst hkids
    have hparts := hv
    obtain ⟨i0, hi0, hz0, hz1, hz2⟩ := info_parts Try.infoFm
    have HIH := Lib.hid ih
    have HV := Lib.hid hv
    have HSC : Hid (IntRow (· < B) w (.slice sa g.scopes.length scap) g.scopes) := formScopes' hv
    have HKI : Hid (FormsIn (· < B) w a cap g.kids) := formKids' hv
    have HO := Lib.hid hown
    have HLT : Hid (∀ q, vo.ownBlock = some q → base ≤ q ∧ q < w.heap.size) := hown.lt
    have HGOOD := Lib.hid hgood
    have hBw : B ≤ w.heap.size := by omega
    have HG := Lib.hid hg
    clear hown hgood ih hv hcnt hparts hg
    obtain ⟨w0, hw0⟩ : ∃ w0, w0 = w.alloc (.cells #[.int .i64 g.kind, .string g.name, .int .i64 g.n, .slice sa g.scopes.length scap, .slice a g.kids.length cap] 33) := ⟨_, rfl⟩
    have hb0 : Below w.heap.size w w0 := by rw [hw0]; exact below_alloc _ _
    have hz0' : w0.heap.size = w.heap.size + 1 := by rw [hw0]; simp
    have HX0 : Hid (FormBox w0 w.heap.size g sa scap a cap) := by
      rw [hw0]
      exact FormBox.fresh w g sa a scap cap 33
    have HG0 : Hid (w.grownBy w0 vo.ownBlock) := by rw [hw0]; exact World.grownBy_alloc _ _ _
    have HO0 : Hid (w0.ownsRow base 33 5 vo its.length (rowOf its)) := ownsRow_same' HO.out (fun q hq => hb0.block q (HLT.out q hq).2)
    have HGI0 : Hid (GoodIts w0 vo its) := HGOOD.out.grown HG0.out (fun q h => .inr h)
    have HBB0 : Hid (Below w.heap.size w w0) := hb0
    have hs0 : w.heap.size + 1 ≤ w0.heap.size := by omega
    have HW0 := Lib.hid hw0
    clear hw0 hb0 hz0'
    obtain ⟨c, hc⟩ : ∃ c, c = ((g.kind == 1) && (hasB g.scopes s && !inF (its.map (·.f)) g)) := ⟨_, rfl⟩
    have HC := Lib.hid hc
    clear hc
    obtain ⟨va, vcap, rfl, hvc, hvm⟩ := ownsRow_sliceH HO0.out
    have HFI : Hid (FormsIn (· < w0.heap.size) w0 va vcap (its.map (·.f))) := formsIn_items HO0.out (fun y hy => InV.mono (fun k hk => hk.1) _ _ (HGI0.out y hy)) (fun k _ hk => hk)
    have hlen : (its.map (·.f)).length = its.length := List.length_map ..
    have HLEN := Lib.hid hlen
    have HV0 : Hid (InV (· < B) w0 g (.agg #[.int .i64 g.kind, .string g.name, .int .i64 g.n, .slice sa g.scopes.length scap, .slice a g.kids.length cap])) := InV.later (same_below (HBB0.out.mono hBw)) _ _ HV.out
    clear hlen
    go_enter Try.func122, Try.ntmps122
    go_upto_region 1 with fail
    rw [← HW0.out]
    clear HW0
    obtain ⟨x0, x1, x2, x3, x4⟩ := HX0.out
    go_cut [22] from 8 (fun s22 wx => s22 = .bool c ∧ Below w0.heap.size w0 wx)
    case first =>
      cases hk1 : (g.kind == 1) with
      | false =>
        obtain rfl : c = false := by rw [HC.out, hk1]; rfl
        go_wp2_with fail
        go_meet
        exact ⟨rfl, Below.refl _ _⟩
      | true =>
        have HK1 := Lib.hid hk1
        go_wp2_with fail
        refine (l2Has_any (· < B) g.scopes _ s w0 (HSC.out.later (same_below (HBB0.out.mono hBw)))).mono ?_
        rintro e w1 ⟨rfl, hw1⟩
        rw [hw1]
        clear hw1 w1
        cases hh : hasB g.scopes s with
        | false =>
          obtain rfl : c = false := by rw [HC.out, HK1.out, hh]; rfl
          clear hh hk1
          go_wp2_with fail
          go_meet
          exact ⟨rfl, Below.refl _ _⟩
        | true =>
          have HH := Lib.hid hh
          clear hh
          go_wp2_with fail
          have hl4 := l4In_any w0.heap.size (its.map (·.f)) va vcap g (.agg #[.int .i64 g.kind, .string g.name, .int .i64 g.n, .slice sa g.scopes.length scap, .slice a g.kids.length cap]) w0 (Nat.le_refl _) HFI.out (InV.mono (fun k (hk : k < B) => by show k < _; omega) _ _ HV0.out)
          rw [HLEN.out] at hl4
          refine hl4.mono ?_
          clear hl4
          rintro e w1 ⟨rfl, hb1⟩
          have HB1 := Lib.hid hb1
          clear hb1 x0 x1 x2 x3 x4
          cases hi : inF (its.map (·.f)) g with
          | false =>
            obtain rfl : c = true := by rw [HC.out, HK1.out, HH.out, hi]; rfl
            clear hi hk1
            go_wp2_with fail
            go_meet
            exact ⟨rfl, HB1.out⟩
          | true =>
            obtain rfl : c = false := by rw [HC.out, HK1.out, HH.out, hi]; rfl
            clear hi hk1
            go_wp2_with fail
            go_meet
            exact ⟨rfl, HB1.out⟩
    case rest =>
    obtain ⟨rfl, hbc⟩ := hcut
    have HX1 := Lib.hid (HX0.out.later hbc)
    have HBC := Lib.hid hbc
    have hsc := hbc.size
    clear hbc x0 x1 x2 x3 x4 HX0
    have HG1 : Hid (w.grownBy wc (Value.slice va its.length vcap).ownBlock) := grown_down HG0.out HBC.out
    have HO1 : Hid (wc.ownsRow base 33 5 (.slice va its.length vcap) its.length (rowOf its)) := ownsRow_same' HO0.out (fun q hq => HBC.out.block q (by have := (HLT.out q hq).2; omega))
    have HGI1 : Hid (GoodIts wc (.slice va its.length vcap) its) := HGOOD.out.grown HG1.out (fun q h => .inr h)
    have HV1 : Hid (InV (· < B) wc g (.agg #[.int .i64 g.kind, .string g.name, .int .i64 g.n, .slice sa g.scopes.length scap, .slice a g.kids.length cap])) := InV.later (same_below (HBC.out.mono (by omega))) _ _ HV0.out
    go_upto_if 22 with fail
    go_cut [0] from 8 (fun o wx => ∃ new : List Item, (its ++ new).map (·.f) = introStep s (its.map (·.f)) g ∧ GoodIts wx o (its ++ new) ∧ wx.ownsRow base 33 5 o (its ++ new).length (rowOf (its ++ new)) ∧
        w.grownBy wx (Value.slice va its.length vcap).ownBlock ∧ (∀ q, o.ownBlock = some q → w.heap.size + 1 ≤ q ∨ (Value.slice va its.length vcap).ownBlock = some q) ∧ FormBox wx w.heap.size g sa scap a cap ∧ w.heap.size < wx.heap.size)
    case first =>
      cases c with
      | false =>
        have HE : Hid (introStep s (its.map (·.f)) g = its.map (·.f)) := if_neg (by rw [← HC.out]; decide)
        go_wp2_with fail
        go_meet
        exact ⟨[], by rw [HE.out, List.append_nil], by simpa using HGI1.out, by simpa using HO1.out, HG1.out, fun q h => .inr h, HX1.out, by omega⟩
      | true =>
        have HE : Hid (introStep s (its.map (·.f)) g = its.map (·.f) ++ [g]) := if_pos (by rw [← HC.out])
        obtain ⟨x0, x1, x2, x3, x4⟩ := HX1.out
        go_wp2_with fail
        refine (specCopy_any B g _ wc (by omega) HV1.out hsz).mono ?_
        rintro e w2 ⟨v2, rfl, hin2, hb2⟩
        obtain ⟨ta, tcap, ka, kcap, rfl⟩ := hin2.form
        have hs2 : wc.heap.size ≤ w2.heap.size := hb2.size
        have HG2 : Hid (w.grownBy w2 (Value.slice va its.length vcap).ownBlock) := grown_down HG1.out hb2
        have HX2 := Lib.hid (HX1.out.later hb2)
        have HIN2 := Lib.hid hin2
        have HO2 : Hid (w2.ownsRow base 33 5 (.slice va its.length vcap) its.length (rowOf its)) := ownsRow_same' HO1.out (fun q hq => hb2.block q (by have := (HLT.out q hq).2; omega))
        have hL1 : its.length + 1 ≤ maxLen := by unfold maxLen; omega
        have hL2 : (its.length + 1) * 80 ≤ 140737488355328 := by omega
        clear hb2 hin2 x0 x1 x2 x3 x4
        go_wp2_with (at_builtin; refine wpList_append_lies _ rfl _ _ 31 rfl base 33 i0 _ 5 80 Try.underlying31 hi0 hz0 hz1 hz2 rfl (by decide) _ its.length (rowOf its) rfl (HO2.out.alloc _) ⟨w2.heap.size, 0, none⟩ 1 1 [.int .i64 g.kind, .string g.name, .int .i64 g.n, .slice ta g.scopes.length tcap, .slice ka g.kids.length kcap] rfl rfl (World.news_of_block (cs := #[.int .i64 g.kind, .string g.name, .int .i64 g.n, .slice ta g.scopes.length tcap, .slice ka g.kids.length kcap]) (t := 33) (fr := (0, 0)) (heap_alloc_new w2 _)) (by simp [Value.oneCell']) (by omega) hL1 hL2 (by simp; omega) (w2.heap.size + 1) (by simp) ?_; intro gq qd w3 hown3 hgrow hat hlt4; have HOWN3 := Lib.hid hown3; have HGROW := Lib.hid hgrow; have HAT := Lib.hid hat; clear hown3 hgrow hat)
        have hg23 : w2.grownBy w3 (Value.slice va its.length vcap).ownBlock := (World.grownBy_alloc _ _ (Value.slice va its.length vcap).ownBlock).trans HGROW.out
        have HG3 : Hid (w.grownBy w3 (Value.slice va its.length vcap).ownBlock) := HG2.out.trans hg23
        have HQ3 : Hid (∀ q, (Value.slice (some ⟨gq, 0, none⟩) (its.length + 1) qd).ownBlock = some q → w2.heap.size ≤ q ∨ (Value.slice va its.length vcap).ownBlock = some q) := fun q h => by
          have h2 : some gq = some q := h
          injection h2 with h2
          subst h2
          exact HAT.out.elim (fun h3 => .inr h3) (fun h3 => .inl (by omega))
        have HR3 : Hid (w3.ownsRow base 33 5 (.slice (some ⟨gq, 0, none⟩) (its.length + 1) qd) (its ++ [(⟨g, ta, tcap, ka, kcap⟩ : Item)]).length (rowOf (its ++ [(⟨g, ta, tcap, ka, kcap⟩ : Item)]))) := by
          have := HOWN3.out
          unfold Hid
          rw [rowOf_snoc, List.length_append]
          exact this
        have HGI : Hid (GoodIts w3 (.slice (some ⟨gq, 0, none⟩) (its.length + 1) qd) (its ++ [(⟨g, ta, tcap, ka, kcap⟩ : Item)])) := by
          refine GoodIts.append (HGOOD.out.grown HG3.out (fun q h => (HQ3.out q h).elim (fun h1 => .inl (by omega)) .inr)) ?_
          refine GoodIts.grown (w := w2) (o := .slice va its.length vcap) (fun y hy => ?_) hg23 HQ3.out
          rw [List.mem_singleton] at hy
          subst hy
          exact InV.mono (fun k hk => ⟨hk.2, fun e => by have h1 := (HLT.out k e.symm).2; have h2 := hk.1; omega⟩) _ _ HIN2.out
        have HX3 : Hid (FormBox w3 w.heap.size g sa scap a cap) := by
          have hne : some w.heap.size ≠ (Value.slice va its.length vcap).ownBlock := fun h => by have := (HLT.out _ h.symm).2; omega
          have hblk : w3.heap[w.heap.size]? = w2.heap[w.heap.size]? := hg23.block _ (by omega) hne
          obtain ⟨x0, x1, x2, x3, x4⟩ := HX2.out
          exact ⟨(World.cell?_of_block (a := ⟨w.heap.size, 0, none⟩) hblk).trans x0, (World.cell?_of_block (a := ⟨w.heap.size, 1, none⟩) hblk).trans x1, (World.cell?_of_block (a := ⟨w.heap.size, 2, none⟩) hblk).trans x2, (World.cell?_of_block (a := ⟨w.heap.size, 3, none⟩) hblk).trans x3, (World.cell?_of_block (a := ⟨w.heap.size, 4, none⟩) hblk).trans x4⟩
        have hs3 := hg23.size
        clear hg23
        go_meet
        exact ⟨[(⟨g, ta, tcap, ka, kcap⟩ : Item)], by rw [HE.out, List.map_append]; rfl, HGI.out, HR3.out, HG3.out, fun q h => (HQ3.out q h).elim (fun h1 => .inl (by omega)) .inr, HX3.out, by omega⟩
    case rest =>
    obtain ⟨nw0, hn0, hgi0, hr0, hg0, hq0, hx0, hlt0⟩ := hcut
    clear HG1 HO1 HGI1 HV1 HX1 HBC HFI HLEN HC HGI0 HO0 HG0
    go_wp2_with fail
    go_loopw [0, 7] (fun o i wr => ∃ (j : Nat) (new : List Item), j ≤ g.kids.length ∧ i = .int .i64 j ∧ (its ++ new).map (·.f) = introL s (its.map (·.f)) (g :: preAll (g.kids.take j)) ∧ GoodIts wr o (its ++ new) ∧ wr.ownsRow base 33 5 o (its ++ new).length (rowOf (its ++ new)) ∧
        w.grownBy wr (Value.slice va its.length vcap).ownBlock ∧ (∀ q, o.ownBlock = some q → w.heap.size + 1 ≤ q ∨ (Value.slice va its.length vcap).ownBlock = some q) ∧ FormBox wr w.heap.size g sa scap a cap ∧ w.heap.size < wr.heap.size) (fun _ i _ => g.kids.length - (intOf i).toNat)
    case atStart => exact ⟨0, nw0, Nat.zero_le _, rfl, by simpa [introL, preAll] using hn0, hgi0, hr0, hg0, hq0, hx0, hlt0⟩
    case round =>
      obtain ⟨j, new, hj, rfl, hnew, hgi, hr, hgr, hq, hx, hlt1⟩ := hrel
      have HR := Lib.hid hr
      have HGR := Lib.hid hgr
      have HQ := Lib.hid hq
      have HNEW := Lib.hid hnew
      have HGI := Lib.hid hgi
      have HX := Lib.hid hx
      have HBL : Hid (Below base w wr) := below_grownP hgr hbase (fun q h => (HLT.out q h).1)
      have HCN : Hid ((its ++ new).length ≤ its.length + 1 + countAll (g.kids.take j)) := by
        have h1 := congrArg List.length hnew
        have h2 := introL_length s (g :: preAll (g.kids.take j)) (its.map (·.f))
        rw [List.length_map] at h1
        rw [List.length_map, List.length_cons, preAll_length] at h2
        unfold Hid
        omega
      have hwr : w.heap.size ≤ wr.heap.size := by omega
      have hkcap := HKI.out.1
      have hkmax := HKI.out.2.1
      unfold maxLen at hkmax
      clear hr hgr hq hnew hgi hx
      obtain ⟨x0, x1, x2, x3, x4⟩ := HX.out
      by_cases hlt : j < g.kids.length
      · rcases HKI.out.2.2 with h0 | ⟨b, off, hka, hbB, hrow⟩
        · exfalso; rw [h0] at hlt; simp at hlt
        · obtain ⟨ga, gcap, ka, kcap, c0, c1, c2, c3, c4, hin⟩ := (hrow.later (same_below (HBL.out.mono hB)) b hbB).at' j hlt
          have HIN := Lib.hid hin
          have HCT := Lib.hid (countAll_take_succ g.kids j hlt)
          have HCL := Lib.hid (countAll_take_le g.kids (j + 1))
          have HVS := Lib.hid (preAll_snoc g.kids j hlt)
          have HSJ : Hid ((g.kids[j]).sz ≤ 1048576) := by have := szAll_get' g.kids j hlt; unfold Hid; omega
          have hbw : base ≤ wr.heap.size := by omega
          have hji : (0 : Int) ≤ (j : Int) := by omega
          have hjl : (j : Int) < (g.kids.length : Int) := by omega
          rw [hka] at x4
          clear hin hrow hka
          go_wp2_with fail
          refine (HIH.out g.kids[j] (List.getElem_mem hlt) _ (its ++ new) _ base wr hB hbw HIN.out HSJ.out HR.out HGI.out (by have h1 := HCN.out; have h2 := HCT.out; have h3 := HCL.out; omega)).mono ?_
          rintro e w1 ⟨v1, nw, rfl, hn1, hi1, hr1, hg1, hq1⟩
          have HR1 : Hid (w1.ownsRow base 33 5 v1 (its ++ (new ++ nw)).length (rowOf (its ++ (new ++ nw)))) := by rw [← List.append_assoc]; exact hr1
          have HN1 : Hid ((its ++ (new ++ nw)).map (·.f) = introL s (its.map (·.f)) (g :: preAll (g.kids.take (j + 1)))) := by
            unfold Hid
            rw [← List.append_assoc, hn1, HNEW.out, HVS.out, ← List.cons_append, introL_append]
          have HI1 : Hid (GoodIts w1 v1 (its ++ (new ++ nw))) := by rw [← List.append_assoc]; exact hi1
          have HX1 : Hid (FormBox w1 w.heap.size g sa scap a cap) := by
            have hne : ∀ o : Value, (∀ q, o.ownBlock = some q → w.heap.size + 1 ≤ q ∨ (Value.slice va its.length vcap).ownBlock = some q) → some w.heap.size ≠ o.ownBlock := fun o ho h => (ho _ h.symm).elim (fun h6 => by omega) (fun h6 => by have := (HLT.out _ h6).2; omega)
            have hblk : w1.heap[w.heap.size]? = wr.heap[w.heap.size]? := hg1.block _ hlt1 (hne _ HQ.out)
            obtain ⟨y0, y1, y2, y3, y4⟩ := HX.out
            exact ⟨(World.cell?_of_block (a := ⟨w.heap.size, 0, none⟩) hblk).trans y0, (World.cell?_of_block (a := ⟨w.heap.size, 1, none⟩) hblk).trans y1, (World.cell?_of_block (a := ⟨w.heap.size, 2, none⟩) hblk).trans y2, (World.cell?_of_block (a := ⟨w.heap.size, 3, none⟩) hblk).trans y3, (World.cell?_of_block (a := ⟨w.heap.size, 4, none⟩) hblk).trans y4⟩
          have hs1 := hg1.size
          have HG1 : Hid (w.grownBy w1 (Value.slice va its.length vcap).ownBlock) := HGR.out.andThen hg1 (fun q h => (HQ.out q h).elim (fun h5 => .inl (by omega)) (fun h5 => .inr h5))
          have HQ1 : Hid (∀ q, v1.ownBlock = some q → w.heap.size + 1 ≤ q ∨ (Value.slice va its.length vcap).ownBlock = some q) := fun q h => by
            rcases hq1 q h with h5 | h5
            · exact .inl (by omega)
            · exact HQ.out q h5
          clear hr1 hg1 hq1 hn1 hi1 x0 x1 x2 x3 x4 c0 c1 c2 c3 c4
          go_wp2_with fail
          go_roundw
          case rel => exact ⟨j + 1, new ++ nw, by omega, by go_num, HN1.out, HI1.out, HR1.out, HG1.out, HQ1.out, HX1.out, by omega⟩
          case measure => simp [intOf]; omega
      · obtain rfl : j = g.kids.length := by omega
        have HE2 : Hid ((its ++ new).map (·.f) = introL s (its.map (·.f)) g.pre) := by
          unfold Hid
          rw [HNEW.out, List.take_length, hpre.out]
        go_wp2_with fail
        go_ret
        exact ⟨_, new, rfl, HE2.out, HGI.out, HR.out, HGR.out, fun q h => (HQ.out q h).elim (fun h5 => .inl (by omega)) (fun h5 => .inr h5)⟩
end
end Go.Proofs.Ytbclgmabidjegaa
namespace Go.Proofs.Ytbclgmabidjegaa
section
open Go.RowKit
set_option linter.unusedVariables false
set_option linter.unusedSimpArgs false
set_option maxRecDepth 100000 in
set_option maxHeartbeats 1000000 in
theorem indexInts_any (φ : Nat → Prop) (l : List Int) (v : Value) (n : Int) (w : World) (hv : IntRow φ w v l) :
    Calls Try.prog 180 #[v, .int .i64 n] w fun e w' => (∃ r : Int, e = .returned (.int .i64 r) ∧ ((hasB l n = true ∧ 0 ≤ r) ∨ (hasB l n = false ∧ r = -1))) ∧ w' = w := by
  obtain ⟨a, cap, rfl, hcap, hmax, hwf, hrow⟩ := hv
  unfold maxLen at hmax
  go_enter Try.func180, Try.ntmps180
  have HROW := Lib.hid hrow
  clear hrow
  go_wp2_with fail
  go_loop [8, 5] (fun i _ => ∃ j : Nat, j ≤ l.length ∧ i = .int .i64 j ∧ hasB (l.take j) n = false) (fun i _ => l.length - (intOf i).toNat)
  case atStart => exact ⟨0, Nat.zero_le _, rfl, by simp [hasB]⟩
  case round =>
    obtain ⟨j, hj, rfl, hno⟩ := hrel
    by_cases hlt : j < l.length
    · rcases HROW.out with h0 | ⟨b, off, rfl, _, hcells⟩
      · exfalso; rw [h0] at hlt; simp at hlt
      · have hc := hcells j hlt
        have HNX := Lib.hid (hasB_take_succ l n j hlt)
        have HNO := Lib.hid hno
        have HIN := Lib.hid (List.getElem_mem hlt)
        clear hcells hno
        by_cases hx : l[j] = n
        · have HY : Hid (hasB l n = true) := by unfold Hid hasB; rw [List.any_eq_true]; exact ⟨l[j], HIN.out, by simp [hx]⟩
          have hx2 : (n == l[j]) = true := by rw [beq_iff_eq]; exact hx.symm
          clear hx
          go_wp2_with fail
          go_ret
          exact ⟨⟨_, rfl, .inl ⟨HY.out, by omega⟩⟩, rfl⟩
        · have HY : Hid (hasB (l.take (j + 1)) n = false) := by unfold Hid; rw [HNX.out, HNO.out, beq_eq_false_iff_ne.2 hx]; rfl
          have hx2 : (n == l[j]) = false := by rw [beq_eq_false_iff_ne]; exact fun h => hx h.symm
          clear hx
          go_wp2_with fail
          go_round
          case rel => exact ⟨j + 1, by omega, by go_num, HY.out⟩
          case measure => simp [intOf]; omega
    · obtain rfl : j = l.length := by omega
      have HY : Hid (hasB l n = false) := by have := hno; rw [List.take_length] at this; exact this
      clear hno
      go_wp2_with fail
      go_ret
      exact ⟨⟨_, rfl, .inr ⟨HY.out, rfl⟩⟩, rfl⟩
set_option maxRecDepth 100000 in
set_option maxHeartbeats 1000000 in
theorem containsInts_any (φ : Nat → Prop) (l : List Int) (v : Value) (n : Int) (w : World) (hv : IntRow φ w v l) :
    Calls Try.prog 125 #[v, .int .i64 n] w fun e w' => e = .returned (.bool (hasB l n)) ∧ w' = w := by
  have HV := Lib.hid hv
  obtain ⟨a, cap, rfl, _⟩ := hv
  go_enter Try.func125, Try.ntmps125
  go_wp2_with fail
  refine (indexInts_any φ l _ n w HV.out).mono ?_
  rintro e w1 ⟨⟨r, rfl, hr⟩, rfl⟩
  rcases hr with ⟨h1, h2⟩ | ⟨h1, rfl⟩
  · have HY := Lib.hid h1
    clear h1
    go_wp2_with fail
    go_ret
    exact ⟨ret_bool (by rw [HY.out]), rfl⟩
  · have HY := Lib.hid h1
    clear h1
    go_wp2_with fail
    go_ret
    exact ⟨ret_bool (by rw [HY.out]), rfl⟩
end
end Go.Proofs.Ytbclgmabidjegaa
namespace Go.Proofs.Ytbclgmabidjegaa
section
open Go.RowKit
set_option linter.unusedVariables false
set_option linter.unusedSimpArgs false
theorem l7In_any (a b c : Int) (w : World) : Calls Try.prog 121 #[.int .i64 a, .int .i64 b, .int .i64 c] w fun e w' => e = .returned (.bool (decide (b ≤ a) && decide (a ≤ c))) ∧ w' = w := by
  by_cases h1 : b ≤ a
  · have HE : Hid ((decide (b ≤ a) && decide (a ≤ c)) = decide (a ≤ c)) := by unfold Hid; rw [decide_eq_true h1, Bool.true_and]
    go_enter Try.func121, Try.ntmps121
    go_wp2_with fail
    go_ret
    exact ⟨by rw [HE.out]; rfl, rfl⟩
  · have HE : Hid ((decide (b ≤ a) && decide (a ≤ c)) = false) := by unfold Hid; rw [decide_eq_false h1, Bool.false_and]
    go_enter Try.func121, Try.ntmps121
    go_wp2_with fail
    go_ret
    exact ⟨by rw [HE.out]; rfl, rfl⟩
/-- what IntroducedNames gives -/
def introB (s : Int) (r : Fm) : List Fm := if (formB r && (decide (1 ≤ s) && decide (s ≤ 99))) = true then introL s [] r.pre else []
/-- the thirteen cells of a step at the head of a block -/
def StepBox (w : World) (b : Nat) (n1 n2 n3 : Int) (p t : Fm) (s1 : Option Addr) (t1 : Nat) (k1 : Option Addr) (l1 : Nat) (s2 : Option Addr) (t2 : Nat) (k2 : Option Addr) (l2 : Nat) : Prop :=
  w.cell? ⟨b, 0, none⟩ = some (.int .i64 n1) ∧ w.cell? ⟨b, 1, none⟩ = some (.int .i64 n2) ∧ w.cell? ⟨b, 2, none⟩ = some (.int .i64 n3) ∧ w.cell? ⟨b, 3, none⟩ = some (.int .i64 p.kind) ∧ w.cell? ⟨b, 4, none⟩ = some (.string p.name) ∧ w.cell? ⟨b, 5, none⟩ = some (.int .i64 p.n) ∧ w.cell? ⟨b, 6, none⟩ = some (.slice s1 p.scopes.length t1) ∧ w.cell? ⟨b, 7, none⟩ = some (.slice k1 p.kids.length l1) ∧
    w.cell? ⟨b, 8, none⟩ = some (.int .i64 t.kind) ∧ w.cell? ⟨b, 9, none⟩ = some (.string t.name) ∧ w.cell? ⟨b, 10, none⟩ = some (.int .i64 t.n) ∧ w.cell? ⟨b, 11, none⟩ = some (.slice s2 t.scopes.length t2) ∧ w.cell? ⟨b, 12, none⟩ = some (.slice k2 t.kids.length l2)
theorem StepBox.later {w w' : World} {b : Nat} {n1 n2 n3 : Int} {p t : Fm} {s1 : Option Addr} {t1 : Nat} {k1 : Option Addr} {l1 : Nat} {s2 : Option Addr} {t2 : Nat} {k2 : Option Addr} {l2 : Nat} (h : StepBox w b n1 n2 n3 p t s1 t1 k1 l1 s2 t2 k2 l2) (hb : Below w.heap.size w w') : StepBox w' b n1 n2 n3 p t s1 t1 k1 l1 s2 t2 k2 l2 := by
  obtain ⟨x0, x1, x2, x3, x4, x5, x6, x7, x8, x9, x10, x11, x12⟩ := h
  exact ⟨cell_later' hb x0, cell_later' hb x1, cell_later' hb x2, cell_later' hb x3, cell_later' hb x4, cell_later' hb x5, cell_later' hb x6, cell_later' hb x7, cell_later' hb x8, cell_later' hb x9, cell_later' hb x10, cell_later' hb x11, cell_later' hb x12⟩
theorem StepBox.fresh (w : World) (n1 n2 n3 : Int) (p t : Fm) (s1 : Option Addr) (t1 : Nat) (k1 : Option Addr) (l1 : Nat) (s2 : Option Addr) (t2 : Nat) (k2 : Option Addr) (l2 : Nat) (T : TypeId) :
    StepBox (w.alloc (.cells #[.int .i64 n1, .int .i64 n2, .int .i64 n3, .int .i64 p.kind, .string p.name, .int .i64 p.n, .slice s1 p.scopes.length t1, .slice k1 p.kids.length l1, .int .i64 t.kind, .string t.name, .int .i64 t.n, .slice s2 t.scopes.length t2, .slice k2 t.kids.length l2] T)) w.heap.size n1 n2 n3 p t s1 t1 k1 l1 s2 t2 k2 l2 :=
  ⟨World.cell?_alloc_at _ _ _ _ rfl, World.cell?_alloc_at _ _ _ _ rfl, World.cell?_alloc_at _ _ _ _ rfl, World.cell?_alloc_at _ _ _ _ rfl, World.cell?_alloc_at _ _ _ _ rfl, World.cell?_alloc_at _ _ _ _ rfl, World.cell?_alloc_at _ _ _ _ rfl, World.cell?_alloc_at _ _ _ _ rfl, World.cell?_alloc_at _ _ _ _ rfl, World.cell?_alloc_at _ _ _ _ rfl, World.cell?_alloc_at _ _ _ _ rfl, World.cell?_alloc_at _ _ _ _ rfl, World.cell?_alloc_at _ _ _ _ rfl⟩
set_option maxRecDepth 100000 in
set_option maxHeartbeats 4000000 in
theorem specIntro_any (B : Nat) (n1 n2 n3 : Int) (p t : Fm) (v : Value) (w : World) (hB : B ≤ w.heap.size) (hv : StIn (· < B) w n1 n2 n3 p t v) (hsz : t.sz ≤ 1048576) :
    Calls Try.prog 59 #[v] w fun e w' => ∃ a cap, e = .returned (.slice a (introB n3 t).length cap) ∧ FormsIn (· < w'.heap.size) w' a cap (introB n3 t) ∧ Below w.heap.size w w' := by
  obtain ⟨s1, t1, k1, l1, s2, t2, k2, l2, rfl, hbd, hp, ht⟩ := hv
  have HT := Lib.hid ht
  have hcl := t.count_le
  clear hp ht
  obtain ⟨w0, hw0⟩ : ∃ w0, w0 = w.alloc (.cells #[.int .i64 n1, .int .i64 n2, .int .i64 n3, .int .i64 p.kind, .string p.name, .int .i64 p.n, .slice s1 p.scopes.length t1, .slice k1 p.kids.length l1, .int .i64 t.kind, .string t.name, .int .i64 t.n, .slice s2 t.scopes.length t2, .slice k2 t.kids.length l2] 94) := ⟨_, rfl⟩
  have HB0 : Hid (Below w.heap.size w w0) := by rw [hw0]; exact below_alloc _ _
  have HX0 : Hid (StepBox w0 w.heap.size n1 n2 n3 p t s1 t1 k1 l1 s2 t2 k2 l2) := by rw [hw0]; exact StepBox.fresh w n1 n2 n3 p t s1 t1 k1 l1 s2 t2 k2 l2 _
  have hs0 : w.heap.size + 1 ≤ w0.heap.size := by rw [hw0]; simp
  have HW0 := Lib.hid hw0
  clear hw0
  go_enter Try.func59, Try.ntmps59
  go_upto_region 1 with fail
  rw [← HW0.out]
  clear HW0
  obtain ⟨x0, x1, x2, x3, x4, x5, x6, x7, x8, x9, x10, x11, x12⟩ := HX0.out
  go_wp2_with fail
  refine (specFormValid_any B t _ w0 (by omega) (InV.later (same_below (HB0.out.mono hB)) _ _ HT.out) (by omega)).mono ?_
  rintro e w1 ⟨rfl, hb1⟩
  have HX1 := Lib.hid (HX0.out.later hb1)
  have HB1 : Hid (Below w.heap.size w w1) := HB0.out.trans (hb1.mono (by omega))
  have hs1 : w0.heap.size ≤ w1.heap.size := hb1.size
  clear hb1 x0 x1 x2 x3 x4 x5 x6 x7 x8 x9 x10 x11 x12 HX0
  obtain ⟨x0, x1, x2, x3, x4, x5, x6, x7, x8, x9, x10, x11, x12⟩ := HX1.out
  cases hf : formB t with
  | false =>
    have HE : Hid (introB n3 t = []) := if_neg (by rw [hf]; simp)
    clear hf
    go_wp2_with fail
    go_ret
    rw [HE.out]
    exact ⟨_, _, rfl, ⟨Nat.le_refl _, Nat.zero_le _, .inl rfl⟩, HB1.out.alloc HB1.out.size _⟩
  | true =>
    have HF := Lib.hid hf
    clear hf
    go_wp2_with fail
    refine (l7In_any n3 1 99 w1).mono ?_
    rintro e w2 ⟨rfl, hw2⟩
    rw [hw2]
    clear hw2 w2
    cases hi : (decide (1 ≤ n3) && decide (n3 ≤ 99)) with
    | false =>
      have HE : Hid (introB n3 t = []) := if_neg (by rw [hi]; simp)
      clear hi
      go_wp2_with fail
      go_ret
      rw [HE.out]
      exact ⟨_, _, rfl, ⟨Nat.le_refl _, Nat.zero_le _, .inl rfl⟩, HB1.out.alloc HB1.out.size _⟩
    | true =>
      have HE : Hid (introB n3 t = introL n3 [] t.pre) := if_pos (by rw [HF.out, hi]; rfl)
      clear hi
      have hb4 := below_alloc w1 (.cells #[] 33)
      have HOE := Lib.hid (ownsRow_emptyH w1 33 5 w1.heap.size (Nat.le_refl _))
      have HV4 := Lib.hid (InV.later (same_below ((HB1.out.trans (hb4.mono HB1.out.size)).mono hB)) _ _ HT.out)
      have HX4 := Lib.hid (HX1.out.later hb4)
      clear hb4 x0 x1 x2 x3 x4 x5 x6 x7 x8 x9 x10 x11 x12
      obtain ⟨x0, x1, x2, x3, x4, x5, x6, x7, x8, x9, x10, x11, x12⟩ := HX4.out
      go_wp2_with fail
      refine (l10Names_any B n3 t _ [] _ w1.heap.size _ (by omega) (by simp) HV4.out hsz HOE.out (fun y hy => by cases hy) (by simp; omega)).mono ?_
      rintro e w5 ⟨v5, new, rfl, hnew, hgi, hr5, hg5, _⟩
      simp only [List.nil_append, List.map_nil] at hr5 hgi hnew
      have hb35 : Below w1.heap.size w1 w5 := (below_alloc w1 _).trans (below_grownP hg5 (by simp) (fun q h => by simp [Value.ownBlock] at h; omega))
      obtain ⟨va, vcap, rfl, hvc, hvm⟩ := ownsRow_sliceH hr5
      have hcard : new.length = (introL n3 [] t.pre).length := by rw [← hnew, List.length_map]
      have HB5 : Hid (Below w.heap.size w w5) := HB1.out.trans (hb35.mono HB1.out.size)
      have HFI : Hid (FormsIn (· < w5.heap.size) w5 va vcap (introL n3 [] t.pre)) := by
        have h2 := formsIn_items (φ := (· < w5.heap.size)) hr5 (fun y hy => InV.mono (fun k hk => hk.1) _ _ (hgi y hy)) (fun k _ hk => hk)
        rw [hnew] at h2
        exact h2
      rw [hcard]
      clear hnew hgi hr5 hg5 hb35 hcard x0 x1 x2 x3 x4 x5 x6 x7 x8 x9 x10 x11 x12
      go_wp2_with fail
      go_ret
      rw [HE.out]
      exact ⟨_, _, rfl, HFI.out, HB5.out⟩
end
end Go.Proofs.Ytbclgmabidjegaa
namespace Go.Proofs.Ytbclgmabidjegaa
section
open Go.RowKit
set_option linter.unusedVariables false
set_option linter.unusedSimpArgs false
abbrev Own1 := Item × List Nat
def flatO (ys : List Own1) : List Nat := ys.flatMap (·.2)
def itsO (ys : List Own1) : List Item := ys.map (·.1)
def fmsO (ys : List Own1) : List Fm := ys.map fun y => y.1.f
theorem flatO_snoc (ys : List Own1) (y : Own1) : flatO (ys ++ [y]) = flatO ys ++ y.2 := by simp [flatO]
theorem itsO_length (ys : List Own1) : (itsO ys).length = ys.length := List.length_map ..
theorem fmsO_its (ys : List Own1) : (itsO ys).map (·.f) = fmsO ys := by simp [itsO, fmsO]
structure IntroAt (base sb ab : Nat) (s : Int) (ys : List Own1) (nv : Value) (W : World) : Prop where
  sc : W.cell? ⟨sb, 2, none⟩ = some (.int .i64 s)
  c0 : W.cell? ⟨ab, 0, none⟩ = some nv
  f0 : W.frozen? ⟨ab, 0, none⟩ = false
  row : W.ownsRow base 33 5 nv ys.length (rowOf (itsO ys))
  own : ∀ y ∈ ys, OwnV W y.1.f y.1.val y.2
  nd : (flatO ys).Nodup
  far : ∀ c ∈ flatO ys, base ≤ c ∧ c < W.heap.size ∧ nv.ownBlock ≠ some c
  lo : base ≤ W.heap.size
/-- the state behind the forms 'pre' -/
def IntroI (base sb ab : Nat) (s : Int) (pre : List Fm) (E : Nat → Prop) (W : World) : Prop :=
  ∃ ys nv, fmsO ys = introL s [] pre ∧ IntroAt base sb ab s ys nv W ∧ ∀ k, E k ↔ (k = ab ∨ k = sb ∨ nv.ownBlock = some k ∨ k ∈ flatO ys)
theorem IntroAt.still {base sb ab : Nat} {s : Int} {ys : List Own1} {nv : Value} {W W' : World} (h : IntroAt base sb ab s ys nv W) (hz : W.heap.size ≤ W'.heap.size) (hs : ∀ k, (k = ab ∨ k = sb ∨ nv.ownBlock = some k ∨ k ∈ flatO ys) → W'.heap[k]? = W.heap[k]?) : IntroAt base sb ab s ys nv W' :=
  ⟨(World.cell?_of_block (a := ⟨sb, 2, none⟩) (hs sb (.inr (.inl rfl)))).trans h.sc, (World.cell?_of_block (a := ⟨ab, 0, none⟩) (hs ab (.inl rfl))).trans h.c0, (World.frozen?_of_block (a := ⟨ab, 0, none⟩) (hs ab (.inl rfl))).trans h.f0,
    ownsRow_same' h.row (fun g hg => hs g (.inr (.inr (.inl hg)))), fun y hy => (h.own y hy).later _ _ _ (fun c hc => hs c (.inr (.inr (.inr (List.mem_flatMap.2 ⟨y, hy, hc⟩))))), h.nd, fun c hc => ⟨(h.far c hc).1, Nat.lt_of_lt_of_le (h.far c hc).2.1 hz, (h.far c hc).2.2⟩, Nat.le_trans h.lo hz⟩
/-- a row of forms in blocks of their own -/
theorem rowOwn_of {W : World} {b : Nat} (hfz : ∀ j, W.frozen? ⟨b, j, none⟩ = false) : ∀ (ys : List Own1) (off : Nat), (∀ j, j < ys.length * 5 → W.cell? ⟨b, off + j, none⟩ = (rowOf (itsO ys))[j]?) → (∀ y ∈ ys, OwnV W y.1.f y.1.val y.2) → RowOwn W b off (fmsO ys) (flatO ys)
  | [], off, _, _ => by simp [fmsO, flatO, RowOwn]
  | y :: r, off, hc, ho => by
    have hrow : rowOf (itsO (y :: r)) = y.1.cells ++ rowOf (itsO r) := by simp [itsO, rowOf]
    have hlen : y.1.cells.length = 5 := rfl
    have h5 : ∀ j (hj : j < 5), W.cell? ⟨b, off + j, none⟩ = some (y.1.cells[j]'(by rw [hlen]; exact hj)) := fun j hj => by
      rw [hc j (by simp; omega), hrow, List.getElem?_append_left (by rw [hlen]; exact hj)]
      exact List.getElem?_eq_getElem _
    have hr : RowOwn W b (off + 5) (fmsO r) (flatO r) := by
      refine rowOwn_of hfz r (off + 5) (fun j hj => ?_) (fun y' hy' => ho y' (by simp [hy']))
      have := hc (5 + j) (by simp; omega)
      rw [hrow, List.getElem?_append_right (by rw [hlen]; omega), hlen, show 5 + j - 5 = j from by omega, ← Nat.add_assoc] at this
      exact this
    show RowOwn W b off (y.1.f :: fmsO r) (y.2 ++ flatO r)
    unfold RowOwn
    exact ⟨y.2, flatO r, rfl, ⟨_, _, _, _, _, h5 0 (by omega), h5 1 (by omega), h5 2 (by omega), h5 3 (by omega), h5 4 (by omega), fun j _ => hfz _, ho y (by simp)⟩, hr⟩
theorem IntroAt.kids {base sb ab : Nat} {s : Int} {ys : List Own1} {nv : Value} {W : World} (h : IntroAt base sb ab s ys nv W) : ∃ a cap bs, nv = .slice a ys.length cap ∧ KidsOwn W a cap (fmsO ys) bs ∧ (∀ c ∈ bs, base ≤ c ∧ c < W.heap.size) ∧ bs.Nodup := by
  have hl : (fmsO ys).length = ys.length := List.length_map ..
  rcases h.row.2 with ⟨h1, h2⟩ | ⟨g, cap, cur, h1, hb, hg, hn, hm, hs, hx⟩
  · have : ys = [] := List.length_eq_zero_iff.1 h2
    subst this
    exact ⟨none, 0, [], h1, ⟨Nat.le_refl _, Nat.zero_le _, .inl ⟨rfl, rfl⟩⟩, fun c hc => (by cases hc), List.nodup_nil⟩
  · have hro := h.row
    rw [h1] at hro
    have hlt : g < W.heap.size := (Array.getElem?_eq_some_iff.1 hg).1
    refine ⟨some ⟨g, 0, none⟩, cap, g :: flatO ys, h1, ⟨by rw [hl]; exact hn, hm, .inr ⟨g, 0, flatO ys, rfl, rfl, rowOwn_of (fun j => hro.frozenAt j) ys 0 (fun j hj => by rw [Nat.zero_add]; exact hro.cellAt j hj) h.own⟩⟩, fun c hc => ?_, ?_⟩
    · rcases List.mem_cons.1 hc with rfl | hc
      · exact ⟨hb, hlt⟩
      · exact ⟨(h.far c hc).1, (h.far c hc).2.1⟩
    · exact List.nodup_cons.2 ⟨fun hc => (h.far g hc).2.2 (by rw [h1]; rfl), h.nd⟩
/-- a form whose names have a scope is a name -/
theorem named_of {d : Nat} {g : Fm} {s : Int} (h : isB d g = true) (hs : hasB g.scopes s = true) : (g.kind == 1) = true ∧ isNameB g = true := by
  have hk : g.kind = 1 := by
    cases g with
    | mk k nm n sc ks =>
      by_cases e : k = 1
      · exact e
      · have := (isB_node h).2.1 e
        subst this
        simp [hasB, Fm.scopes] at hs
  exact ⟨by rw [beq_iff_eq]; exact hk, isB_lone h hk⟩
theorem introStep_prog {d : Nat} {g : Fm} (h : isB d g = true) (s : Int) (out : List Fm) : introStep s out g = if (hasB g.scopes s && !inN out g) = true then out ++ [g] else out := by
  unfold introStep
  cases hs : hasB g.scopes s with
  | false => simp
  | true =>
    obtain ⟨h1, h2⟩ := named_of h hs
    rw [h1, inN_inF h2]
    rfl
section
variable {P : Program} {ops : Array Oper} {Q : Exit → Act → World → Prop} {md : Region.Mode} {S : World → Prop} {L : List Nat}
/-- one of two may come up, beside late ones -/
theorem uptos_two {i j : Nat} {o p : Oper} {fuel : Nat} {listed : Array Bool} {a : Act} {w : World} (hr : Region.ready md ops listed = [i, j]) (ho : ops[i]? = some o) (hp : ops[j]? = some p)
    (h : ∀ K' : Act → World → Prop, Shut (∀ a w, (i ∈ L ∨ S w) → anyUptos P md ops Q S L fuel (listed.setIfInBounds i true) a w → K' a w) → if Region.wanted o (yielded ops a.tmps) = true then Oper.wp P o a w K' Q else K' (a.put o.dst undef) w)
    (h' : ∀ K' : Act → World → Prop, Shut (∀ a w, (j ∈ L ∨ S w) → anyUptos P md ops Q S L fuel (listed.setIfInBounds j true) a w → K' a w) → if Region.wanted p (yielded ops a.tmps) = true then Oper.wp P p a w K' Q else K' (a.put p.dst undef) w) :
    anyUptos P md ops Q S L (fuel + 1) listed a w :=
  ⟨fun h0 => (by rw [hr] at h0; cases h0), fun n hn => by
    rw [hr] at hn
    simp only [List.mem_cons, List.not_mem_nil, or_false] at hn
    rcases hn with rfl | rfl
    · exact wpOp_step ho (fun K' hK => h K' (fun a w h1 h2 => hK a w ⟨h1, h2⟩))
    · exact wpOp_step hp (fun K' hK => h' K' (fun a w h1 h2 => hK a w ⟨h1, h2⟩))⟩
end
/-- what the visitor's second step leaves: one form more, in blocks of its own -/
theorem intro_done {base sb ab : Nat} {s : Int} {ys : List Own1} {nv : Value} {W1 W2 Z : World} {f : Fm} {ua ka : Option Addr} {ucap kcap : Nat} {bs : List Nat} {gq qd : Nat} {z0 z1 z2 z3 z4 : Value}
    (hA : IntroAt base sb ab s ys nv W1) (hab : ab < base) (hsb : sb < base) (hne : ab ≠ sb)
    (hrow : W2.ownsRow base 33 5 (.slice (some ⟨gq, 0, none⟩) (ys.length + 1) qd) (ys.length + 1) (rowOf (itsO ys) ++ [z0, z1, z2, z3, z4]))
    (hown : OwnV W2 f (Item.val ⟨f, ua, ucap, ka, kcap⟩) bs) (hnd : bs.Nodup) (hfar : ∀ c ∈ bs, W1.heap.size ≤ c ∧ c < W2.heap.size ∧ c ≠ gq)
    (hgq : nv.ownBlock = some gq ∨ (W1.heap.size ≤ gq ∧ gq < W2.heap.size)) (hblk : ∀ q, q < W1.heap.size → nv.ownBlock ≠ some q → W2.heap[q]? = W1.heap[q]?)
    (hos : W2.os = W1.os) (htp : W2.tape = W1.tape) (hou : W2.output = W1.output) (hsz : W1.heap.size ≤ W2.heap.size)
    (hZ : Z = (set5 W2 gq (ys.length * 5) (.int .i64 f.kind) (.string f.name) (.int .i64 f.n) (.slice ua f.scopes.length ucap) (.slice ka f.kids.length kcap)).setCell ⟨ab, 0, none⟩ (.slice (some ⟨gq, 0, none⟩) (ys.length + 1) qd)) :
    IntroAt base sb ab s (ys ++ [(⟨f, ua, ucap, ka, kcap⟩, bs)]) (.slice (some ⟨gq, 0, none⟩) (ys.length + 1) qd) Z ∧ Z.os = W1.os ∧ Z.tape = W1.tape ∧ Z.output = W1.output ∧ Z.heap.size = W2.heap.size ∧
      (∀ q, q < W1.heap.size → q ≠ ab → nv.ownBlock ≠ some q → Z.heap[q]? = W1.heap[q]?) := by
  have hbw := hA.lo
  have hrl : ∀ q, nv.ownBlock = some q → base ≤ q ∧ q < W1.heap.size := hA.row.lt
  have hgb : base ≤ gq := by
    rcases hgq with h | h
    · exact (hrl gq h).1
    · omega
  have hga : gq ≠ ab := by omega
  have hgs : gq ≠ sb := by omega
  obtain ⟨n1, n2, n3, n4⟩ := set5_world W2 gq (ys.length * 5) ab (.int .i64 f.kind) (.string f.name) (.int .i64 f.n) (.slice ua f.scopes.length ucap) (.slice ka f.kids.length kcap) (.slice (some ⟨gq, 0, none⟩) (ys.length + 1) qd)
  rw [← hZ] at n1 n2 n3 n4
  have hb : ∀ q, q ≠ ab → q ≠ gq → Z.heap[q]? = W2.heap[q]? := fun q h1 h2 => by
    rw [hZ, Below.heap_setCell _ _ _ _ h1, set5_block _ _ _ _ _ _ _ _ h2]
  have h5 : (set5 W2 gq (ys.length * 5) (.int .i64 f.kind) (.string f.name) (.int .i64 f.n) (.slice ua f.scopes.length ucap) (.slice ka f.kids.length kcap)).heap[ab]? = W2.heap[ab]? := set5_block _ _ _ _ _ _ _ _ (Ne.symm hga)
  have hna : ∀ k, k < base → nv.ownBlock ≠ some k := fun k hk e => by have := (hrl k e).1; omega
  have hab2 : W2.heap[ab]? = W1.heap[ab]? := hblk ab (by omega) (hna ab hab)
  have hsb2 : W2.heap[sb]? = W1.heap[sb]? := hblk sb (by omega) (hna sb hsb)
  have hrow5 := ownsRow_set5v (.int .i64 f.kind) (.string f.name) (.int .i64 f.n) (.slice ua f.scopes.length ucap) (.slice ka f.kids.length kcap) (by rw [rowOf_length, itsO_length]) hrow
  have hit : itsO (ys ++ [(⟨f, ua, ucap, ka, kcap⟩, bs)]) = itsO ys ++ [(⟨f, ua, ucap, ka, kcap⟩ : Item)] := by simp [itsO]
  refine ⟨⟨?_, ?_, ?_, ?_, ?_, ?_, ?_, by omega⟩, n1.trans hos, n2.trans htp, n3.trans hou, n4, fun q h1 h2 h3 => ?_⟩
  · exact (World.cell?_of_block (a := ⟨sb, 2, none⟩) ((hb sb (Ne.symm hne) (Ne.symm hgs)).trans hsb2)).trans hA.sc
  · rw [hZ]
    exact World.cell?_setCell_same _ _ _ ((World.cell?_of_block (a := ⟨ab, 0, none⟩) (h5.trans hab2)).trans hA.c0)
  · rw [hZ, World.frozen?_setCell]
    exact (World.frozen?_of_block (a := ⟨ab, 0, none⟩) (h5.trans hab2)).trans hA.f0
  · have h2 := ownsRow_setFar (o := 0) (u := .slice (some ⟨gq, 0, none⟩) (ys.length + 1) qd) hrow5 hga
    rw [← hZ] at h2
    rw [hit, rowOf_snoc, List.length_append]
    exact h2
  · intro y hy
    rcases List.mem_append.1 hy with hy | hy
    · refine (hA.own y hy).later _ _ _ (fun c hc => ?_)
      have hcf := hA.far c (List.mem_flatMap.2 ⟨y, hy, hc⟩)
      rw [hb c (by omega) (by
        rcases hgq with h | h
        · intro e; rw [← e] at h; exact hcf.2.2 h
        · omega)]
      exact hblk c hcf.2.1 hcf.2.2
    · rw [List.mem_singleton] at hy
      subst hy
      refine hown.later _ _ _ (fun c hc => hb c ?_ (hfar c hc).2.2)
      have := (hfar c hc).1
      omega
  · rw [flatO_snoc]
    refine List.nodup_append.2 ⟨hA.nd, hnd, fun a ha b hb' e => ?_⟩
    subst e
    have h1 := (hA.far a ha).2.1
    have h2 := (hfar a hb').1
    omega
  · intro c hc
    rw [flatO_snoc] at hc
    rw [n4]
    have hog : ∀ c, c ≠ gq → (Value.slice (some ⟨gq, 0, none⟩) (ys.length + 1) qd).ownBlock ≠ some c := fun c h e => by
      have e2 : some gq = some c := e
      injection e2 with e2
      exact h e2.symm
    rcases List.mem_append.1 hc with hc | hc
    · have hcf := hA.far c hc
      refine ⟨hcf.1, by omega, hog c ?_⟩
      rcases hgq with h | h
      · intro e; rw [← e] at h; exact hcf.2.2 h
      · omega
    · have := hfar c hc
      exact ⟨by omega, this.2.1, hog c this.2.2⟩
  · rw [hb q h2 (by
      rcases hgq with h | h
      · intro e; rw [← e] at h; exact h3 h
      · omega)]
    exact hblk q h1 h3
end
end Go.Proofs.Ytbclgmabidjegaa
namespace Go.Proofs.Ytbclgmabidjegaa
section
open Go.RowKit
set_option linter.unusedVariables false
set_option linter.unusedSimpArgs false
/-- what a visit leaves -/
def IntroPost (base sb ab : Nat) (s : Int) (pre : List Fm) (E : Nat → Prop) (W : World) (e : Ending) (W' : World) : Prop :=
  e = .returned (.tuple #[]) ∧ ∃ E', IntroI base sb ab s pre E' W' ∧ OnlyE E W W' ∧ (∀ k, E' k → (E k ∨ W.heap.size ≤ k) ∧ k < W'.heap.size)
theorem introPost_same {base sb ab : Nat} {s : Int} {pre : List Fm} {x : Fm} {E : Nat → Prop} {ys : List Own1} {nv : Value} {W W' : World} (hys : fmsO ys = introL s [] pre) (hx : introStep s (fmsO ys) x = fmsO ys)
    (hA : IntroAt base sb ab s ys nv W) (hE : ∀ k, E k ↔ (k = ab ∨ k = sb ∨ nv.ownBlock = some k ∨ k ∈ flatO ys)) (hb : Below W.heap.size W W') (hEl : ∀ k, E k → k < W.heap.size) :
    IntroPost base sb ab s (pre ++ [x]) E W (.returned (.tuple #[])) W' := by
  refine ⟨rfl, E, ⟨ys, nv, ?_, hA.still hb.size (fun k hk => hb.block k (hEl k ((hE k).2 hk))), hE⟩, ⟨hb.os, hb.tape, hb.output, hb.size, fun k hk _ => hb.block k hk⟩, fun k hk => ⟨.inl hk, by have := hEl k hk; have := hb.size; omega⟩⟩
  rw [introL_append, ← hys]
  exact hx.symm
theorem intro_region {φ : Prop} (h : φ) : φ := h
/-- what the loads of the second step read -/
def IntroHeld (pb ab : Nat) (f : Fm) (sa : Option Addr) (scap : Nat) (a : Option Addr) (cap : Nat) (nv : Value) (W : World) : Prop := FormBox W pb f sa scap a cap ∧ W.cell? ⟨ab, 0, none⟩ = some nv
set_option maxRecDepth 100000 in
set_option maxHeartbeats 8000000 in
theorem introVisitor (B base sb ab : Nat) (s : Int) (hBa : B ≤ ab) (hBs : B ≤ sb) (hab : ab < base) (hsb : sb < base) (hne : ab ≠ sb) : Visitor NodeOk B 124 #[.pointer (some ⟨sb, 0, none⟩), .pointer (some ⟨ab, 0, none⟩)] (IntroI base sb ab s) := by
  refine ⟨enters_of Try.func124 (by kernel_rfl) rfl, ?_, ?_⟩
  · rintro pre E W W' ⟨ys, nv, h1, h2, h3⟩ _ _ _ hz hs _
    exact ⟨ys, nv, h1, h2.still hz (fun k hk => hs k ((h3 k).2 hk)), h3⟩
  · rintro pre E x W ⟨ys, nv, hys, hA, hEk⟩ hl hok hE hin
    have hEl : ∀ k, E k → k < W.heap.size := fun k hk => (hE k hk).2
    have habl : ab < W.heap.size := hEl ab ((hEk ab).2 (.inl rfl))
    have hsbl : sb < W.heap.size := hEl sb ((hEk sb).2 (.inr (.inl rfl)))
    obtain ⟨hszx, d0, hd0⟩ := hok
    have hcy : ys.length ≤ pre.length := by
      have h1 := congrArg List.length hys
      have h2 := introL_length s pre []
      simp only [fmsO, List.length_map] at h1
      simp only [List.length_nil] at h2
      omega
    have hbase : base ≤ W.heap.size ∨ True := .inr trivial
    have hsc : IntRow (· < B) W (.slice x.sa x.f.scopes.length x.scap) x.f.scopes := formScopes' hin
    have HSP := Lib.hid (introStep_prog hd0 s (fmsO ys))
    have HA := Lib.hid hA
    have HYS := Lib.hid hys
    have HEK := Lib.hid hEk
    have HEL := Lib.hid hEl
    have HIN := Lib.hid hin
    have HSC := Lib.hid hsc
    have hBW : B ≤ W.heap.size := by omega
    clear hA hys hEk hEl hin hsc hE hbase
    obtain ⟨i0, hi0, hz0, hz1, hz2⟩ := info_parts Try.infoFm
    obtain ⟨w0, hw0⟩ : ∃ w0, w0 = W.alloc (.cells #[.int .i64 x.f.kind, .string x.f.name, .int .i64 x.f.n, .slice x.sa x.f.scopes.length x.scap, .slice x.a x.f.kids.length x.cap] 33) := ⟨_, rfl⟩
    have hb0 : Below W.heap.size W w0 := by rw [hw0]; exact below_alloc _ _
    have HX0 : Hid (FormBox w0 W.heap.size x.f x.sa x.scap x.a x.cap) := by rw [hw0]; exact FormBox.fresh W x.f x.sa x.a x.scap x.cap _
    have hs0 : W.heap.size + 1 ≤ w0.heap.size := by rw [hw0]; simp
    have HA0 : Hid (IntroAt base sb ab s ys nv w0) := HA.out.still hb0.size (fun k hk => hb0.block k (HEL.out k ((HEK.out k).2 hk)))
    have HB0 := Lib.hid hb0
    have HW0 := Lib.hid hw0
    clear hw0 hb0
    show Calls Try.prog 124 #[x.val, .pointer (some ⟨sb, 0, none⟩), .pointer (some ⟨ab, 0, none⟩)] W (IntroPost base sb ab s (pre ++ [x.f]) E W)
    unfold Item.val
    go_enter Try.func124, Try.ntmps124
    go_upto_region 1 with fail
    rw [← HW0.out]
    clear HW0
    obtain ⟨x0, x1, x2, x3, x4⟩ := HX0.out
    have hcs := HA0.out.sc
    have hc0 := HA0.out.c0
    go_wp2_with fail
    refine (containsInts_any (· < B) x.f.scopes _ s w0 (HSC.out.later (same_below (HB0.out.mono hBW)))).mono ?_
    rintro e w1 ⟨rfl, hw1⟩
    rw [hw1]
    clear hw1 w1
    cases hh : hasB x.f.scopes s with
    | false =>
      have HE : Hid (introStep s (fmsO ys) x.f = fmsO ys) := by unfold Hid; rw [HSP.out, hh]; rfl
      clear hh
      go_wp2_with fail
      go_end0
      exact introPost_same HYS.out HE.out HA.out HEK.out HB0.out HEL.out
    | true =>
      have HH := Lib.hid hh
      obtain ⟨va, vcap, rfl, hvc, hvm⟩ := ownsRow_sliceH HA0.out.row
      have hfl : (fmsO ys).length = ys.length := List.length_map ..
      have HFL := Lib.hid hfl
      have HFI : Hid (FormsIn (· < w0.heap.size) w0 va vcap (fmsO ys)) := by
        have hr := HA0.out.row
        rw [← itsO_length ys] at hr
        have h2 := formsIn_items (φ := (· < w0.heap.size)) hr (fun y hy => by
          obtain ⟨z, hz, rfl⟩ := List.mem_map.1 hy
          exact OwnV.inV (φ := (· < w0.heap.size)) _ _ z.2 (fun c hc => (HA0.out.far c (List.mem_flatMap.2 ⟨z, hz, hc⟩)).2.1) (HA0.out.own z hz)) (fun k _ hk => hk)
        rw [fmsO_its] at h2
        exact h2
      clear hh hfl
      go_wp2_with fail
      rw [← HFL.out]
      refine (hasName_any w0.heap.size (fmsO ys) va vcap x.f _ w0 (Nat.le_refl _) HFI.out (InV.mono (fun k (hk : k < B) => by show k < _; omega) _ _ (InV.later (same_below (HB0.out.mono hBW)) _ _ HIN.out))).mono ?_
      rintro e w1 ⟨rfl, hb1⟩
      have HX1 := Lib.hid (HX0.out.later hb1)
      have hs1 : w0.heap.size ≤ w1.heap.size := hb1.size
      have HB1 : Hid (Below W.heap.size W w1) := HB0.out.trans (hb1.mono (by omega))
      have HA1 : Hid (IntroAt base sb ab s ys (.slice va ys.length vcap) w1) := HA.out.still HB1.out.size (fun k hk => HB1.out.block k (HEL.out k ((HEK.out k).2 hk)))
      clear hb1 x0 x1 x2 x3 x4 hcs hc0
      rw [HFL.out]
      cases hi : inN (fmsO ys) x.f with
      | true =>
        have HE : Hid (introStep s (fmsO ys) x.f = fmsO ys) := by unfold Hid; rw [HSP.out, HH.out, hi]; rfl
        clear hi
        go_wp2_with fail
        go_end0
        exact introPost_same HYS.out HE.out HA.out HEK.out HB1.out HEL.out
      | false =>
        have HE : Hid (introStep s (fmsO ys) x.f = fmsO ys ++ [x.f]) := by unfold Hid; rw [HSP.out, HH.out, hi]; rfl
        clear hi
        have hc0 := HA1.out.c0
        have hcs := HA1.out.sc
        obtain ⟨x0, x1, x2, x3, x4⟩ := HX1.out
        have hL1 : ys.length + 1 ≤ maxLen := by unfold maxLen; omega
        have hL2 : (ys.length + 1) * 80 ≤ 140737488355328 := by omega
        have hlo := HA1.out.lo
        have hrl : ∀ q, (Value.slice va ys.length vcap).ownBlock = some q → base ≤ q ∧ q < w1.heap.size := HA1.out.row.lt
        have HRL := Lib.hid hrl
        have hVX : InV (· < w1.heap.size) w1 x.f (.agg #[.int .i64 x.f.kind, .string x.f.name, .int .i64 x.f.n, .slice x.sa x.f.scopes.length x.scap, .slice x.a x.f.kids.length x.cap]) := InV.mono (fun k (hk : k < B) => by show k < _; omega) _ _ (InV.later (same_below (HB1.out.mono hBW)) _ _ HIN.out)
        have HVX := Lib.hid hVX
        have HR1 : Hid (w1.ownsRow base 33 5 (.slice va ys.length vcap) ys.length (rowOf (itsO ys))) := HA1.out.row
        clear hrl hVX
        go_wp2_with fail
        have hix : (ys.length : Int) < (ys.length : Int) + 1 := by omega
        have hix0 : (0 : Int) ≤ (ys.length : Int) := by omega
        have hS0 : (IntroHeld W.heap.size ab x.f x.sa x.scap x.a x.cap (.slice va ys.length vcap)) w1.drew := ⟨HX1.out, hc0⟩
        refine uptos_begin (IntroHeld W.heap.size ab x.f x.sa x.scap x.a x.cap (.slice va ys.length vcap)) [6, 7, 8] (by kernel_rfl) ?_
        refine uptos_take (i := 0) (d := some 15) (v := ?_) rfl rfl (by kernel_rfl) (by kernel_rfl) (by kernel_rfl) (by kernel_rfl) (fun _ _ _ h => h) (Or.inl ⟨by rfl, ?_⟩) hS0 ?_
        rotate_left
        · (intro wS hSw; obtain ⟨⟨y0, y1, y2, y3, y4⟩, _⟩ := hSw; go_simp; try with_reducible rfl)
        try simp only [Act.put, List.setIfInBounds_toArray, List.set_cons_zero, List.set_cons_succ]
        refine uptos_take (i := 1) (d := some 16) (v := ?_) rfl rfl (by kernel_rfl) (by kernel_rfl) (by kernel_rfl) (by kernel_rfl) (fun _ _ _ h => h) (Or.inl ⟨by rfl, ?_⟩) hS0 ?_
        rotate_left
        · (intro wS hSw; obtain ⟨⟨y0, y1, y2, y3, y4⟩, _⟩ := hSw; go_simp; try with_reducible rfl)
        try simp only [Act.put, List.setIfInBounds_toArray, List.set_cons_zero, List.set_cons_succ]
        refine uptos_take (i := 3) (d := some 18) (v := ?_) rfl rfl (by kernel_rfl) (by kernel_rfl) (by kernel_rfl) (by kernel_rfl) (fun _ _ _ h => h) (Or.inl ⟨by rfl, ?_⟩) hS0 ?_
        rotate_left
        · (intro wS hSw; obtain ⟨⟨y0, y1, y2, y3, y4⟩, _⟩ := hSw; go_simp; try with_reducible rfl)
        try simp only [Act.put, List.setIfInBounds_toArray, List.set_cons_zero, List.set_cons_succ]
        refine uptos_two (i := 2) (j := 4) (by kernel_rfl) rfl rfl (fun K2 hK2 => ?_) (fun K2 hK2 => ?_)
        · go_simp
          have hbd : Below w1.heap.size w1 w1.drew := (Below.refl _ _).drew
          refine (copyForm_any x.f _ w1.drew (InV.mono (fun k (hk : k < w1.heap.size) => by show k < _; have := (hbd).size; omega) _ _ (InV.later (same_below (hbd)) _ _ HVX.out)) hszx).mono ?_
          rintro e w2 ⟨ua, ucap, ka, kcap, bs, rfl, hown, hnew, _, hbw2⟩
          have hzw2 := hbw2.size
          have hb12 : Below w1.heap.size w1 w2 := hbd.trans (hbw2.mono (by show w1.heap.size ≤ w1.heap.size; omega))
          have hb12z : w1.heap.size ≤ w2.heap.size := hb12.size
          have hSw2 : (IntroHeld W.heap.size ab x.f x.sa x.scap x.a x.cap (.slice va ys.length vcap)) w2 := by
            have e1 : w2.heap[ab]? = w1.heap[ab]? := (fun q h1 _ => hb12.block q h1 : ∀ q, q < w1.heap.size → (Value.slice va ys.length vcap).ownBlock ≠ some q → w2.heap[q]? = w1.heap[q]?) ab (by omega) (fun e => by have := (HRL.out ab e).1; omega)
            have e2 : w2.heap[W.heap.size]? = w1.heap[W.heap.size]? := (fun q h1 _ => hb12.block q h1 : ∀ q, q < w1.heap.size → (Value.slice va ys.length vcap).ownBlock ≠ some q → w2.heap[q]? = w1.heap[q]?) W.heap.size (by omega) (fun e => by have := (HEL.out W.heap.size ((HEK.out W.heap.size).2 (.inr (.inr (.inl e))))); omega)
            exact ⟨⟨(World.cell?_of_block (a := ⟨W.heap.size, 0, none⟩) e2).trans x0, (World.cell?_of_block (a := ⟨W.heap.size, 1, none⟩) e2).trans x1, (World.cell?_of_block (a := ⟨W.heap.size, 2, none⟩) e2).trans x2, (World.cell?_of_block (a := ⟨W.heap.size, 3, none⟩) e2).trans x3, (World.cell?_of_block (a := ⟨W.heap.size, 4, none⟩) e2).trans x4⟩, (World.cell?_of_block (a := ⟨ab, 0, none⟩) e1).trans hc0⟩
          refine hK2.out _ _ (.inr hSw2) ?_
          clear hK2 K2
          refine uptos_one (i := 4) (by kernel_rfl) rfl (fun K2 hK2 => ?_)
          go_simp
          have hbz := below_alloc w2 (Obj.cells #[.int .i64 0, .string { data := #[] }, .int .i64 0, .slice none 0 0, .slice none 0 0] 33)
          have hSz : (IntroHeld W.heap.size ab x.f x.sa x.scap x.a x.cap (.slice va ys.length vcap)) (w2.alloc (Obj.cells #[.int .i64 0, .string { data := #[] }, .int .i64 0, .slice none 0 0, .slice none 0 0] 33)) := ⟨hSw2.1.later hbz, cell_later' hbz hSw2.2⟩
          refine hK2.out _ _ (.inr hSz) ?_
          clear hK2 K2
          refine uptos_oper (i := 5) ⟨some 20, .call { callee := .builtin .append, args := #[.tmp 15, .tmp 19], argTypes := #[31, 31] }, 31, _, _, _⟩ (by kernel_rfl) rfl rfl (fun K3 hK3 => ?_)
          refine wp_append_lies _ (.tmp 15) (.tmp 19) 31 rfl base 33 i0 _ 5 80 Try.underlying31 hi0 hz0 hz1 hz2 rfl (by omega) _ ys.length (rowOf (itsO ys)) (by rfl) ((ownsRow_same' HR1.out (fun g hg => hb12.block g (HRL.out g hg).2)).alloc _)
            ⟨w2.heap.size, 0, none⟩ 1 1 [.int .i64 0, .string { data := #[] }, .int .i64 0, .slice none 0 0, .slice none 0 0] (by rfl) (by rfl) (World.news_of_block (cs := #[.int .i64 0, .string { data := #[] }, .int .i64 0, .slice none 0 0, .slice none 0 0]) (t := 33) (fr := (0, 0)) (heap_alloc_new w2 _)) (by simp [Value.oneCell'])
            (by omega) hL1 hL2 (by simp; omega) (w2.heap.size + 1) (by simp) ?_
          intro gq qd w6 hown1 hgrow hat hlt4
          have hrow := hown1
          have hgq : (Value.slice va ys.length vcap).ownBlock = some gq ∨ (w1.heap.size ≤ gq ∧ gq < w6.heap.size) := hat.elim .inl (fun h => .inr ⟨by omega, hlt4⟩)
          have hgz : w2.heap.size + 1 ≤ w6.heap.size := by have := hgrow.size; simpa using this
          have hblk : ∀ q, q < w1.heap.size → (Value.slice va ys.length vcap).ownBlock ≠ some q → w6.heap[q]? = w1.heap[q]? := fun q h1 h2 => (hgrow.block q (by simp; omega) (fun e => h2 e.symm)).trans ((hbz.block q (by omega)).trans (hb12.block q h1))
          have hsame : ∀ c ∈ bs, w6.heap[c]? = w2.heap[c]? := fun c hc => by
            have h1 := hnew.2 c hc
            have h1a : w1.heap.size ≤ c := h1.1
            rw [hgrow.block c (by simp; omega) (fun e => by have := (HRL.out c e.symm).2; omega)]
            exact hbz.block c h1.2
          have hOW : OwnV w6 x.f (Item.val ⟨x.f, ua, ucap, ka, kcap⟩) bs := hown.later _ _ _ hsame
          have hfar : ∀ c ∈ bs, w1.heap.size ≤ c ∧ c < w6.heap.size ∧ c ≠ gq := fun c hc => by
            have h1 := hnew.2 c hc
            have h1a : w1.heap.size ≤ c := h1.1
            refine ⟨h1a, by omega, ?_⟩
            rcases hat with h | h
            · have := (HRL.out gq h).2; omega
            · omega
          have hos : w6.os = w1.os := hgrow.os.trans (hbz.os.trans hb12.os)
          have htp : w6.tape = w1.tape := hgrow.tape.trans (hbz.tape.trans hb12.tape)
          have hou : w6.output = w1.output := hgrow.output.trans (hbz.output.trans hb12.output)
          have hsz : w1.heap.size ≤ w6.heap.size := by omega
          have hSw6 : (IntroHeld W.heap.size ab x.f x.sa x.scap x.a x.cap (.slice va ys.length vcap)) w6 := by
            have e1 : w6.heap[ab]? = w1.heap[ab]? := hblk ab (by omega) (fun e => by have := (HRL.out ab e).1; omega)
            have e2 : w6.heap[W.heap.size]? = w1.heap[W.heap.size]? := hblk W.heap.size (by omega) (fun e => by have := (HEL.out W.heap.size ((HEK.out W.heap.size).2 (.inr (.inr (.inl e))))); omega)
            exact ⟨⟨(World.cell?_of_block (a := ⟨W.heap.size, 0, none⟩) e2).trans x0, (World.cell?_of_block (a := ⟨W.heap.size, 1, none⟩) e2).trans x1, (World.cell?_of_block (a := ⟨W.heap.size, 2, none⟩) e2).trans x2, (World.cell?_of_block (a := ⟨W.heap.size, 3, none⟩) e2).trans x3, (World.cell?_of_block (a := ⟨W.heap.size, 4, none⟩) e2).trans x4⟩, (World.cell?_of_block (a := ⟨ab, 0, none⟩) e1).trans hc0⟩
          refine hK3.out _ _ (.inr hSw6) ?_
          clear hK3 K3
          have hcc : w6.cell? ⟨ab, 0, none⟩ = some (.slice va ys.length vcap) := hSw6.2
          have hff : w6.frozen? ⟨ab, 0, none⟩ = false := (World.frozen?_of_block (a := ⟨ab, 0, none⟩) (hblk ab (by omega) (fun e => by have := (HRL.out ab e).1; omega))).trans HA1.out.f0
          have hgab : gq ≠ ab := by
            rcases hgq with h | h
            · have := (HRL.out gq h).1; omega
            · omega
          have hcells : ∀ j, j < 5 → ∃ u, w6.cell? ⟨gq, ys.length * 5 + j, none⟩ = some u := fun j hj => by
            rw [hrow.cellAt (ys.length * 5 + j) (by omega)]
            exact ⟨_, List.getElem?_eq_getElem (by rw [List.length_append, rowOf_length, itsO_length]; simp; omega)⟩
          obtain ⟨u0, k0⟩ := hcells 0 (by omega)
          obtain ⟨u1, k1⟩ := hcells 1 (by omega)
          obtain ⟨u2, k2⟩ := hcells 2 (by omega)
          obtain ⟨u3, k3⟩ := hcells 3 (by omega)
          obtain ⟨u4, k4⟩ := hcells 4 (by omega)
          rw [Nat.add_zero] at k0
          have m0 := hrow.frozenAt (ys.length * 5)
          have m1 := hrow.frozenAt (ys.length * 5 + 1)
          have m2 := hrow.frozenAt (ys.length * 5 + 2)
          have m3 := hrow.frozenAt (ys.length * 5 + 3)
          have m4 := hrow.frozenAt (ys.length * 5 + 4)
          have KEY : Hid (∀ Z, Z = (set5 w6 gq (ys.length * 5) (.int .i64 x.f.kind) (.string x.f.name) (.int .i64 x.f.n) (.slice ua x.f.scopes.length ucap) (.slice ka x.f.kids.length kcap)).setCell ⟨ab, 0, none⟩ (.slice (some ⟨gq, 0, none⟩) (ys.length + 1) qd) →
              IntroPost base sb ab s (pre ++ [x.f]) E W (.returned (.tuple #[])) Z) := by
            intro Z hZ
            obtain ⟨r1, r2, r3, r4, r5, r6⟩ := intro_done HA1.out hab hsb hne hrow hOW hnew.1 hfar hgq hblk hos htp hou hsz hZ
            have hfs : fmsO (ys ++ [((⟨x.f, ua, ucap, ka, kcap⟩ : Item), bs)]) = introL s [] (pre ++ [x.f]) := by
              rw [introL_append, ← HYS.out]
              show _ = introStep s (fmsO ys) x.f
              rw [HE.out]
              simp [fmsO]
            refine ⟨rfl, fun k => k = ab ∨ k = sb ∨ (Value.slice (some ⟨gq, 0, none⟩) (ys.length + 1) qd).ownBlock = some k ∨ k ∈ flatO (ys ++ [((⟨x.f, ua, ucap, ka, kcap⟩ : Item), bs)]), ⟨_, _, hfs, r1, fun k => Iff.rfl⟩, ⟨r2.trans HB1.out.os, r3.trans HB1.out.tape, r4.trans HB1.out.output, by rw [r5]; have := HB1.out.size; omega, fun k hk hn => ?_⟩, fun k hk => ?_⟩
            · rw [r6 k (by have := HB1.out.size; omega) (fun e => hn ((HEK.out k).2 (.inl e))) (fun e => hn ((HEK.out k).2 (.inr (.inr (.inl e)))))]
              exact HB1.out.block k hk
            · rw [r5]
              have hw1 := HB1.out.size
              rcases hk with h | h | h | h
              · subst h; exact ⟨.inl ((HEK.out _).2 (.inl rfl)), by omega⟩
              · subst h; exact ⟨.inl ((HEK.out _).2 (.inr (.inl rfl))), by omega⟩
              · have h2 : some gq = some k := h
                injection h2 with h2
                subst h2
                rcases hgq with h3 | h3
                · exact ⟨.inl ((HEK.out _).2 (.inr (.inr (.inl h3)))), by have := (HRL.out _ h3).2; omega⟩
                · exact ⟨.inr (by omega), h3.2⟩
              · rw [flatO_snoc] at h
                rcases List.mem_append.1 h with h | h
                · exact ⟨.inl ((HEK.out _).2 (.inr (.inr (.inr h)))), by have := (HA1.out.far k h).2.1; omega⟩
                · have := hfar k h
                  exact ⟨.inr (by omega), this.2.1⟩
          clear hcells
          refine uptos_rest (by kernel_rfl) ?_
          refine any_two (i := 6) (j := 8) (by kernel_rfl) rfl rfl (fun K4 hK4 => ?_) (fun K4 hK4 => ?_)
          · go_simp
            refine hK4.out _ _ ?_
            clear hK4 K4
            refine any_two (i := 7) (j := 8) (by kernel_rfl) rfl rfl (fun K4 hK4 => ?_) (fun K4 hK4 => ?_)
            · go_simp
              refine hK4.out _ _ ?_
              clear hK4 K4
              refine any_one (i := 8) (by kernel_rfl) rfl (fun K4 hK4 => ?_)
              go_simp
              refine hK4.out _ _ (any_done (by kernel_rfl) ?_ _)
              refine gen_worldV (fun Z hZ => ?_)
              have hfin := KEY.out Z (hZ.trans (by simp only [set5]))
              clear hZ
              go_end0
              exact hfin
            · go_simp
              refine hK4.out _ _ ?_
              clear hK4 K4
              refine any_one (i := 7) (by kernel_rfl) rfl (fun K4 hK4 => ?_)
              go_simp
              refine hK4.out _ _ (any_done (by kernel_rfl) ?_ _)
              refine gen_worldV (fun Z hZ => ?_)
              have hfin := KEY.out Z (hZ.trans (by have h := set5_setCell' w6 gq (ys.length * 5) ab (.int .i64 x.f.kind) (.string x.f.name) (.int .i64 x.f.n) (.slice ua x.f.scopes.length ucap) (.slice ka x.f.kids.length kcap) (.slice (some ⟨gq, 0, none⟩) (ys.length + 1) qd) hgab; unfold set5 at h ⊢; exact h))
              clear hZ
              go_end0
              exact hfin
          · go_simp
            refine hK4.out _ _ ?_
            clear hK4 K4
            refine any_one (i := 6) (by kernel_rfl) rfl (fun K4 hK4 => ?_)
            go_simp
            refine hK4.out _ _ ?_
            clear hK4 K4
            refine any_one (i := 7) (by kernel_rfl) rfl (fun K4 hK4 => ?_)
            go_simp
            refine hK4.out _ _ (any_done (by kernel_rfl) ?_ _)
            refine gen_worldV (fun Z hZ => ?_)
            have hfin := KEY.out Z (hZ.trans (by have h := set5_setCell' w6 gq (ys.length * 5) ab (.int .i64 x.f.kind) (.string x.f.name) (.int .i64 x.f.n) (.slice ua x.f.scopes.length ucap) (.slice ka x.f.kids.length kcap) (.slice (some ⟨gq, 0, none⟩) (ys.length + 1) qd) hgab; unfold set5 at h ⊢; exact h))
            clear hZ
            go_end0
            exact hfin
        · go_simp
          have hbz : Below w1.heap.size w1 (w1.alloc (Obj.cells #[.int .i64 0, .string { data := #[] }, .int .i64 0, .slice none 0 0, .slice none 0 0] 33)).drew := ((Below.refl _ w1).alloc (Nat.le_refl _) _).drew
          have hSz : (IntroHeld W.heap.size ab x.f x.sa x.scap x.a x.cap (.slice va ys.length vcap)) ((w1.alloc (Obj.cells #[.int .i64 0, .string { data := #[] }, .int .i64 0, .slice none 0 0, .slice none 0 0] 33)).drew) := ⟨HX1.out.later hbz, cell_later' hbz hc0⟩
          refine hK2.out _ _ (.inr hSz) ?_
          clear hK2 K2
          obtain ⟨wz, hwz⟩ : ∃ wz, wz = (w1.alloc (Obj.cells #[.int .i64 0, .string { data := #[] }, .int .i64 0, .slice none 0 0, .slice none 0 0] 33)).drew := ⟨_, rfl⟩
          rw [← hwz] at hbz hSz ⊢
          have hzn : wz.heap[w1.heap.size]? = some (.cells #[.int .i64 0, .string { data := #[] }, .int .i64 0, .slice none 0 0, .slice none 0 0] 33 (0, 0)) := by rw [hwz]; exact heap_alloc_new w1 _
          have hzz : wz.heap.size = w1.heap.size + 1 := by rw [hwz]; simp [World.drew]
          have HWZ := Lib.hid hwz
          clear hwz
          refine uptos_one (i := 2) (by kernel_rfl) rfl (fun K2 hK2 => ?_)
          go_simp
          refine (copyForm_any x.f _ wz (InV.mono (fun k (hk : k < w1.heap.size) => by show k < _; have := (hbz).size; omega) _ _ (InV.later (same_below (hbz)) _ _ HVX.out)) hszx).mono ?_
          rintro e w2 ⟨ua, ucap, ka, kcap, bs, rfl, hown, hnew, _, hbw2⟩
          have hzw2 := hbw2.size
          have hb12 : Below w1.heap.size w1 w2 := hbz.trans (hbw2.mono (by omega))
          have hb12z : w1.heap.size ≤ w2.heap.size := hb12.size
          have hw2z : w1.heap.size + 1 ≤ w2.heap.size := by omega
          have hSw2 : (IntroHeld W.heap.size ab x.f x.sa x.scap x.a x.cap (.slice va ys.length vcap)) w2 := by
            have e1 : w2.heap[ab]? = w1.heap[ab]? := (fun q h1 _ => hb12.block q h1 : ∀ q, q < w1.heap.size → (Value.slice va ys.length vcap).ownBlock ≠ some q → w2.heap[q]? = w1.heap[q]?) ab (by omega) (fun e => by have := (HRL.out ab e).1; omega)
            have e2 : w2.heap[W.heap.size]? = w1.heap[W.heap.size]? := (fun q h1 _ => hb12.block q h1 : ∀ q, q < w1.heap.size → (Value.slice va ys.length vcap).ownBlock ≠ some q → w2.heap[q]? = w1.heap[q]?) W.heap.size (by omega) (fun e => by have := (HEL.out W.heap.size ((HEK.out W.heap.size).2 (.inr (.inr (.inl e))))); omega)
            exact ⟨⟨(World.cell?_of_block (a := ⟨W.heap.size, 0, none⟩) e2).trans x0, (World.cell?_of_block (a := ⟨W.heap.size, 1, none⟩) e2).trans x1, (World.cell?_of_block (a := ⟨W.heap.size, 2, none⟩) e2).trans x2, (World.cell?_of_block (a := ⟨W.heap.size, 3, none⟩) e2).trans x3, (World.cell?_of_block (a := ⟨W.heap.size, 4, none⟩) e2).trans x4⟩, (World.cell?_of_block (a := ⟨ab, 0, none⟩) e1).trans hc0⟩
          refine hK2.out _ _ (.inr hSw2) ?_
          clear hK2 K2
          refine uptos_oper (i := 5) ⟨some 20, .call { callee := .builtin .append, args := #[.tmp 15, .tmp 19], argTypes := #[31, 31] }, 31, _, _, _⟩ (by kernel_rfl) rfl rfl (fun K3 hK3 => ?_)
          refine wp_append_lies _ (.tmp 15) (.tmp 19) 31 rfl base 33 i0 _ 5 80 Try.underlying31 hi0 hz0 hz1 hz2 rfl (by omega) _ ys.length (rowOf (itsO ys)) (by rfl) (ownsRow_same' HR1.out (fun g hg => hb12.block g (HRL.out g hg).2))
            ⟨w1.heap.size, 0, none⟩ 1 1 [.int .i64 0, .string { data := #[] }, .int .i64 0, .slice none 0 0, .slice none 0 0] (by rfl) (by rfl) (World.news_of_block (cs := #[.int .i64 0, .string { data := #[] }, .int .i64 0, .slice none 0 0, .slice none 0 0]) (t := 33) (fr := (0, 0)) ((hbw2.block _ (by omega)).trans hzn)) (by simp [Value.oneCell'])
            (by omega) hL1 hL2 (by omega) w2.heap.size rfl ?_
          intro gq qd w6 hown1 hgrow hat hlt4
          have hrow := hown1
          have hgq : (Value.slice va ys.length vcap).ownBlock = some gq ∨ (w1.heap.size ≤ gq ∧ gq < w6.heap.size) := hat.elim .inl (fun h => .inr ⟨by omega, hlt4⟩)
          have hgz : w2.heap.size ≤ w6.heap.size := hgrow.size
          have hblk : ∀ q, q < w1.heap.size → (Value.slice va ys.length vcap).ownBlock ≠ some q → w6.heap[q]? = w1.heap[q]? := fun q h1 h2 => (hgrow.block q (by omega) (fun e => h2 e.symm)).trans (hb12.block q h1)
          have hsame : ∀ c ∈ bs, w6.heap[c]? = w2.heap[c]? := fun c hc => by
            have h1 := hnew.2 c hc
            exact hgrow.block c h1.2 (fun e => by have := (HRL.out c e.symm).2; omega)
          have hOW : OwnV w6 x.f (Item.val ⟨x.f, ua, ucap, ka, kcap⟩) bs := hown.later _ _ _ hsame
          have hfar : ∀ c ∈ bs, w1.heap.size ≤ c ∧ c < w6.heap.size ∧ c ≠ gq := fun c hc => by
            have h1 := hnew.2 c hc
            refine ⟨by omega, by omega, ?_⟩
            rcases hat with h | h
            · have := (HRL.out gq h).2; omega
            · omega
          have hos : w6.os = w1.os := hgrow.os.trans hb12.os
          have htp : w6.tape = w1.tape := hgrow.tape.trans hb12.tape
          have hou : w6.output = w1.output := hgrow.output.trans hb12.output
          have hsz : w1.heap.size ≤ w6.heap.size := by omega
          have hSw6 : (IntroHeld W.heap.size ab x.f x.sa x.scap x.a x.cap (.slice va ys.length vcap)) w6 := by
            have e1 : w6.heap[ab]? = w1.heap[ab]? := hblk ab (by omega) (fun e => by have := (HRL.out ab e).1; omega)
            have e2 : w6.heap[W.heap.size]? = w1.heap[W.heap.size]? := hblk W.heap.size (by omega) (fun e => by have := (HEL.out W.heap.size ((HEK.out W.heap.size).2 (.inr (.inr (.inl e))))); omega)
            exact ⟨⟨(World.cell?_of_block (a := ⟨W.heap.size, 0, none⟩) e2).trans x0, (World.cell?_of_block (a := ⟨W.heap.size, 1, none⟩) e2).trans x1, (World.cell?_of_block (a := ⟨W.heap.size, 2, none⟩) e2).trans x2, (World.cell?_of_block (a := ⟨W.heap.size, 3, none⟩) e2).trans x3, (World.cell?_of_block (a := ⟨W.heap.size, 4, none⟩) e2).trans x4⟩, (World.cell?_of_block (a := ⟨ab, 0, none⟩) e1).trans hc0⟩
          refine hK3.out _ _ (.inr hSw6) ?_
          clear hK3 K3
          have hcc : w6.cell? ⟨ab, 0, none⟩ = some (.slice va ys.length vcap) := hSw6.2
          have hff : w6.frozen? ⟨ab, 0, none⟩ = false := (World.frozen?_of_block (a := ⟨ab, 0, none⟩) (hblk ab (by omega) (fun e => by have := (HRL.out ab e).1; omega))).trans HA1.out.f0
          have hgab : gq ≠ ab := by
            rcases hgq with h | h
            · have := (HRL.out gq h).1; omega
            · omega
          have hcells : ∀ j, j < 5 → ∃ u, w6.cell? ⟨gq, ys.length * 5 + j, none⟩ = some u := fun j hj => by
            rw [hrow.cellAt (ys.length * 5 + j) (by omega)]
            exact ⟨_, List.getElem?_eq_getElem (by rw [List.length_append, rowOf_length, itsO_length]; simp; omega)⟩
          obtain ⟨u0, k0⟩ := hcells 0 (by omega)
          obtain ⟨u1, k1⟩ := hcells 1 (by omega)
          obtain ⟨u2, k2⟩ := hcells 2 (by omega)
          obtain ⟨u3, k3⟩ := hcells 3 (by omega)
          obtain ⟨u4, k4⟩ := hcells 4 (by omega)
          rw [Nat.add_zero] at k0
          have m0 := hrow.frozenAt (ys.length * 5)
          have m1 := hrow.frozenAt (ys.length * 5 + 1)
          have m2 := hrow.frozenAt (ys.length * 5 + 2)
          have m3 := hrow.frozenAt (ys.length * 5 + 3)
          have m4 := hrow.frozenAt (ys.length * 5 + 4)
          have KEY : Hid (∀ Z, Z = (set5 w6 gq (ys.length * 5) (.int .i64 x.f.kind) (.string x.f.name) (.int .i64 x.f.n) (.slice ua x.f.scopes.length ucap) (.slice ka x.f.kids.length kcap)).setCell ⟨ab, 0, none⟩ (.slice (some ⟨gq, 0, none⟩) (ys.length + 1) qd) →
              IntroPost base sb ab s (pre ++ [x.f]) E W (.returned (.tuple #[])) Z) := by
            intro Z hZ
            obtain ⟨r1, r2, r3, r4, r5, r6⟩ := intro_done HA1.out hab hsb hne hrow hOW hnew.1 hfar hgq hblk hos htp hou hsz hZ
            have hfs : fmsO (ys ++ [((⟨x.f, ua, ucap, ka, kcap⟩ : Item), bs)]) = introL s [] (pre ++ [x.f]) := by
              rw [introL_append, ← HYS.out]
              show _ = introStep s (fmsO ys) x.f
              rw [HE.out]
              simp [fmsO]
            refine ⟨rfl, fun k => k = ab ∨ k = sb ∨ (Value.slice (some ⟨gq, 0, none⟩) (ys.length + 1) qd).ownBlock = some k ∨ k ∈ flatO (ys ++ [((⟨x.f, ua, ucap, ka, kcap⟩ : Item), bs)]), ⟨_, _, hfs, r1, fun k => Iff.rfl⟩, ⟨r2.trans HB1.out.os, r3.trans HB1.out.tape, r4.trans HB1.out.output, by rw [r5]; have := HB1.out.size; omega, fun k hk hn => ?_⟩, fun k hk => ?_⟩
            · rw [r6 k (by have := HB1.out.size; omega) (fun e => hn ((HEK.out k).2 (.inl e))) (fun e => hn ((HEK.out k).2 (.inr (.inr (.inl e)))))]
              exact HB1.out.block k hk
            · rw [r5]
              have hw1 := HB1.out.size
              rcases hk with h | h | h | h
              · subst h; exact ⟨.inl ((HEK.out _).2 (.inl rfl)), by omega⟩
              · subst h; exact ⟨.inl ((HEK.out _).2 (.inr (.inl rfl))), by omega⟩
              · have h2 : some gq = some k := h
                injection h2 with h2
                subst h2
                rcases hgq with h3 | h3
                · exact ⟨.inl ((HEK.out _).2 (.inr (.inr (.inl h3)))), by have := (HRL.out _ h3).2; omega⟩
                · exact ⟨.inr (by omega), h3.2⟩
              · rw [flatO_snoc] at h
                rcases List.mem_append.1 h with h | h
                · exact ⟨.inl ((HEK.out _).2 (.inr (.inr (.inr h)))), by have := (HA1.out.far k h).2.1; omega⟩
                · have := hfar k h
                  exact ⟨.inr (by omega), this.2.1⟩
          clear hcells
          refine uptos_rest (by kernel_rfl) ?_
          refine any_two (i := 6) (j := 8) (by kernel_rfl) rfl rfl (fun K4 hK4 => ?_) (fun K4 hK4 => ?_)
          · go_simp
            refine hK4.out _ _ ?_
            clear hK4 K4
            refine any_two (i := 7) (j := 8) (by kernel_rfl) rfl rfl (fun K4 hK4 => ?_) (fun K4 hK4 => ?_)
            · go_simp
              refine hK4.out _ _ ?_
              clear hK4 K4
              refine any_one (i := 8) (by kernel_rfl) rfl (fun K4 hK4 => ?_)
              go_simp
              refine hK4.out _ _ (any_done (by kernel_rfl) ?_ _)
              refine gen_worldV (fun Z hZ => ?_)
              have hfin := KEY.out Z (hZ.trans (by simp only [set5]))
              clear hZ
              go_end0
              exact hfin
            · go_simp
              refine hK4.out _ _ ?_
              clear hK4 K4
              refine any_one (i := 7) (by kernel_rfl) rfl (fun K4 hK4 => ?_)
              go_simp
              refine hK4.out _ _ (any_done (by kernel_rfl) ?_ _)
              refine gen_worldV (fun Z hZ => ?_)
              have hfin := KEY.out Z (hZ.trans (by have h := set5_setCell' w6 gq (ys.length * 5) ab (.int .i64 x.f.kind) (.string x.f.name) (.int .i64 x.f.n) (.slice ua x.f.scopes.length ucap) (.slice ka x.f.kids.length kcap) (.slice (some ⟨gq, 0, none⟩) (ys.length + 1) qd) hgab; unfold set5 at h ⊢; exact h))
              clear hZ
              go_end0
              exact hfin
          · go_simp
            refine hK4.out _ _ ?_
            clear hK4 K4
            refine any_one (i := 6) (by kernel_rfl) rfl (fun K4 hK4 => ?_)
            go_simp
            refine hK4.out _ _ ?_
            clear hK4 K4
            refine any_one (i := 7) (by kernel_rfl) rfl (fun K4 hK4 => ?_)
            go_simp
            refine hK4.out _ _ (any_done (by kernel_rfl) ?_ _)
            refine gen_worldV (fun Z hZ => ?_)
            have hfin := KEY.out Z (hZ.trans (by have h := set5_setCell' w6 gq (ys.length * 5) ab (.int .i64 x.f.kind) (.string x.f.name) (.int .i64 x.f.n) (.slice ua x.f.scopes.length ucap) (.slice ka x.f.kids.length kcap) (.slice (some ⟨gq, 0, none⟩) (ys.length + 1) qd) hgab; unfold set5 at h ⊢; exact h))
            clear hZ
            go_end0
            exact hfin
end
end Go.Proofs.Ytbclgmabidjegaa
namespace Go.Proofs.Ytbclgmabidjegaa
section
open Go.RowKit
set_option linter.unusedVariables false
set_option linter.unusedSimpArgs false
theorem introL_none {s : Int} : ∀ (V : List Fm) (out : List Fm), (∀ g ∈ V, hasB g.scopes s = false) → introL s out V = out
  | [], out, _ => rfl
  | g :: V, out, h => by
    unfold introL
    rw [List.foldl_cons]
    have h1 : introStep s out g = out := by unfold introStep; rw [h g (by simp)]; simp
    rw [h1]
    exact introL_none V out fun g' hg => h g' (by simp [hg])
theorem introB_valid {s : Int} {r : Fm} (h : formB r = true) : introB s r = introL s [] r.pre := by
  unfold introB
  by_cases hs : 1 ≤ s ∧ s ≤ 99
  · rw [if_pos (by rw [h, decide_eq_true hs.1, decide_eq_true hs.2]; rfl)]
  · rw [if_neg (by
      rw [h, Bool.true_and, Bool.and_eq_true, decide_eq_true_eq, decide_eq_true_eq]
      exact hs), introL_none r.pre []]
    intro g hg
    cases hb : hasB g.scopes s with
    | false => rfl
    | true =>
      exfalso
      have h1 := goodS_of (pre_ok r 40 (formB_isB h) g hg)
      unfold hasB at hb
      rw [List.any_eq_true] at hb
      obtain ⟨y, hy, e⟩ := hb
      rw [beq_iff_eq] at e
      subst e
      have := h1.2 y hy
      exact hs (by omega)
set_option maxRecDepth 100000 in
set_option maxHeartbeats 4000000 in
theorem implIntro_any (n1 n2 n3 : Int) (p t : Fm) (s1 : Option Addr) (t1 : Nat) (k1 : Option Addr) (l1 : Nat) (s2 : Option Addr) (t2 : Nat) (k2 : Option Addr) (l2 : Nat) (w : World)
    (ht : InV (Pl w.heap.size w) w t (.agg #[.int .i64 t.kind, .string t.name, .int .i64 t.n, .slice s2 t.scopes.length t2, .slice k2 t.kids.length l2])) (hsz : t.sz ≤ 1048576) :
    Calls Try.prog 61 #[.agg #[.int .i64 n1, .int .i64 n2, .int .i64 n3, .int .i64 p.kind, .string p.name, .int .i64 p.n, .slice s1 p.scopes.length t1, .slice k1 p.kids.length l1, .int .i64 t.kind, .string t.name, .int .i64 t.n, .slice s2 t.scopes.length t2, .slice k2 t.kids.length l2]] w
      fun e w' => ∃ a cap bs, e = .returned (.slice a (introB n3 t).length cap) ∧ KidsOwn w' a cap (introB n3 t) bs ∧ NewBs bs w.heap.size w'.heap.size ∧ Below w.heap.size w w' := by
  have HT := Lib.hid ht
  have hcl := t.count_le
  clear ht
  obtain ⟨w0, hw0⟩ : ∃ w0, w0 = w.alloc (.cells #[.int .i64 n1, .int .i64 n2, .int .i64 n3, .int .i64 p.kind, .string p.name, .int .i64 p.n, .slice s1 p.scopes.length t1, .slice k1 p.kids.length l1, .int .i64 t.kind, .string t.name, .int .i64 t.n, .slice s2 t.scopes.length t2, .slice k2 t.kids.length l2] 94) := ⟨_, rfl⟩
  have HB0 : Hid (Below w.heap.size w w0) := by rw [hw0]; exact below_alloc _ _
  have HX0 : Hid (StepBox w0 w.heap.size n1 n2 n3 p t s1 t1 k1 l1 s2 t2 k2 l2) := by rw [hw0]; exact StepBox.fresh w n1 n2 n3 p t s1 t1 k1 l1 s2 t2 k2 l2 _
  have hs0 : w.heap.size + 1 ≤ w0.heap.size := by rw [hw0]; simp
  have HW0 := Lib.hid hw0
  clear hw0
  go_enter Try.func61, Try.ntmps61
  go_upto_region 1 with fail
  rw [← HW0.out]
  clear HW0
  obtain ⟨x0, x1, x2, x3, x4, x5, x6, x7, x8, x9, x10, x11, x12⟩ := HX0.out
  go_wp2_with fail
  refine (implFormValid_any w.heap.size t _ w0 (by omega) (InV.later (same_below HB0.out) _ _ (InV.mono (fun k hk => hk.1) _ _ HT.out))).mono ?_
  rintro e w1 ⟨rfl, hb1⟩
  have hs1 : w0.heap.size ≤ w1.heap.size := hb1.size
  have HX1 := Lib.hid (HX0.out.later hb1)
  have HB1 : Hid (Below w.heap.size w w1) := HB0.out.trans (hb1.mono (by omega))
  clear hb1 x0 x1 x2 x3 x4 x5 x6 x7 x8 x9 x10 x11 x12 HX0
  cases hf : formB t with
  | false =>
    have HE : Hid (introB n3 t = []) := if_neg (by rw [hf]; simp)
    clear hf
    go_wp2_with fail
    go_ret
    rw [HE.out]
    exact ⟨none, 0, [], rfl, ⟨Nat.le_refl _, Nat.zero_le _, .inl ⟨rfl, rfl⟩⟩, NewBs.nil _ _, HB1.out⟩
  | true =>
    have HE : Hid (introB n3 t = introL n3 [] t.pre) := introB_valid hf
    have HF := Lib.hid hf
    clear hf
    go_upto_region 4 with fail
    obtain ⟨w2, hw2⟩ : ∃ w2, w2 = w1.alloc (.cells #[.slice none 0 0] 31) := ⟨_, rfl⟩
    have hb2 : Below w1.heap.size w1 w2 := by rw [hw2]; exact below_alloc _ _
    have hz2 : w2.heap.size = w1.heap.size + 1 := by rw [hw2]; simp
    have hc0 : w2.cell? ⟨w1.heap.size, 0, none⟩ = some (.slice none 0 0) := by rw [hw2]; exact World.cell?_alloc_at _ _ _ _ rfl
    have hf0 : w2.frozen? ⟨w1.heap.size, 0, none⟩ = false := by rw [hw2]; exact World.frozen?_alloc_at _ _ _ _ rfl
    have HX2 := Lib.hid (HX1.out.later hb2)
    have HB2 : Hid (Below w.heap.size w w2) := HB1.out.trans (hb2.mono (by omega))
    have HZ2 := Lib.hid hz2
    have hs2 : w1.heap.size + 1 ≤ w2.heap.size := by omega
    have HIA : Hid (IntroAt w2.heap.size w.heap.size w1.heap.size n3 [] (.slice none 0 0) w2) := by
      refine ⟨HX2.out.2.2.1, hc0, hf0, ?_, fun y hy => (by cases hy), List.nodup_nil, fun c hc => (by cases hc), Nat.le_refl _⟩
      exact ⟨by simp [itsO, rowOf], .inl ⟨rfl, rfl⟩⟩
    have HW2 := Lib.hid hw2
    clear hw2 hb2 hz2 hf0 hc0 HX1
    rw [← HW2.out]
    clear HW2
    obtain ⟨x0, x1, x2, x3, x4, x5, x6, x7, x8, x9, x10, x11, x12⟩ := HX2.out
    go_wp2_with fail
    have hno : NodeOk t := ⟨hsz, 40, formB_isB HF.out⟩
    refine (visit_any NodeOk (fun z hz => hz.kid) w.heap.size _ _ _ (introVisitor w.heap.size w2.heap.size w.heap.size w1.heap.size n3 (by omega) (Nat.le_refl _) (by omega) (by omega) (by omega)) ⟨t, s2, t2, k2, l2⟩ (fun k => k = w1.heap.size ∨ k = w.heap.size) w2 (by omega) (fun k hk => by omega)
      ⟨[], .slice none 0 0, rfl, HIA.out, fun k => by simp [flatO, Value.ownBlock]⟩ (InV.later (same_below HB2.out) _ _ (InV.mono (fun k hk => hk.1) _ _ HT.out)) (by show t.count ≤ _; omega) (endlessAt_in (InV.pl HB2.out HT.out) (by omega)) hno).mono ?_
    rintro e w3 ⟨rfl, E', ⟨ys, nv, hys, hat, hEk⟩, ho, hE'⟩
    have hcn := hat.c0
    obtain ⟨ra, rc, bs, rfl, hko, hbf, hbn⟩ := hat.kids
    have hbw3 : Below w.heap.size w w3 := ⟨ho.os.trans HB2.out.os, ho.tape.trans HB2.out.tape, ho.output.trans HB2.out.output, by have := ho.size; omega, fun k hk => (ho.block k (by omega) (by omega)).trans (HB2.out.block k hk)⟩
    have HB3 := Lib.hid hbw3
    have HL : Hid (introB n3 t = fmsO ys) := HE.out.trans hys.symm
    have hfl : (fmsO ys).length = ys.length := List.length_map ..
    have HFL := Lib.hid hfl
    have HKO := Lib.hid hko
    have HNB : Hid (NewBs bs w.heap.size w3.heap.size) := ⟨hbn, fun c hc => by have := hbf c hc; omega⟩
    clear hno hys hat hEk ho hE' hko hbf hbn hbw3 hfl x0 x1 x2 x3 x4 x5 x6 x7 x8 x9 x10 x11 x12
    go_wp2_with fail
    go_ret
    rw [HL.out, HFL.out]
    exact ⟨ra, rc, bs, rfl, HKO.out, HNB.out, HB3.out⟩
end
end Go.Proofs.Ytbclgmabidjegaa
namespace Go.Proofs.Ytbclgmabidjegaa
section
open Go.RowKit
set_option linter.unusedVariables false
set_option linter.unusedSimpArgs false
theorem StepBox.only {bs : List Nat} {w w' : World} {b : Nat} {n1 n2 n3 : Int} {p t : Fm} {s1 : Option Addr} {t1 : Nat} {k1 : Option Addr} {l1 : Nat} {s2 : Option Addr} {t2 : Nat} {k2 : Option Addr} {l2 : Nat} (h : StepBox w b n1 n2 n3 p t s1 t1 k1 l1 s2 t2 k2 l2) (ho : Only bs w w') (hn : b ∉ bs) : StepBox w' b n1 n2 n3 p t s1 t1 k1 l1 s2 t2 k2 l2 := by
  have hb := ho.block b (cell_lt h.1) hn
  obtain ⟨x0, x1, x2, x3, x4, x5, x6, x7, x8, x9, x10, x11, x12⟩ := h
  exact ⟨(World.cell?_of_block (a := ⟨b, 0, none⟩) hb).trans x0, (World.cell?_of_block (a := ⟨b, 1, none⟩) hb).trans x1, (World.cell?_of_block (a := ⟨b, 2, none⟩) hb).trans x2, (World.cell?_of_block (a := ⟨b, 3, none⟩) hb).trans x3, (World.cell?_of_block (a := ⟨b, 4, none⟩) hb).trans x4, (World.cell?_of_block (a := ⟨b, 5, none⟩) hb).trans x5, (World.cell?_of_block (a := ⟨b, 6, none⟩) hb).trans x6, (World.cell?_of_block (a := ⟨b, 7, none⟩) hb).trans x7, (World.cell?_of_block (a := ⟨b, 8, none⟩) hb).trans x8, (World.cell?_of_block (a := ⟨b, 9, none⟩) hb).trans x9, (World.cell?_of_block (a := ⟨b, 10, none⟩) hb).trans x10, (World.cell?_of_block (a := ⟨b, 11, none⟩) hb).trans x11, (World.cell?_of_block (a := ⟨b, 12, none⟩) hb).trans x12⟩
mutual
theorem pre_sz_le : ∀ (f : Fm), ∀ g ∈ f.pre, g.sz ≤ f.sz
  | .mk k nm n sc ks, g, hg => by
    rw [Fm.pre] at hg
    rcases List.mem_cons.1 hg with rfl | hg
    · exact Nat.le_refl _
    · have := preAll_sz_le ks g hg
      simp only [Fm.sz]
      omega
theorem preAll_sz_le : ∀ (l : List Fm), ∀ g ∈ preAll l, g.sz ≤ szAll l
  | [], g, hg => by simp [preAll] at hg
  | f :: r, g, hg => by
    rw [preAll] at hg
    simp only [szAll]
    rcases List.mem_append.1 hg with h | h
    · have := pre_sz_le f g h; omega
    · have := preAll_sz_le r g h; omega
end
theorem mem_introL {s : Int} : ∀ (V out : List Fm) (g : Fm), g ∈ introL s out V → g ∈ out ∨ g ∈ V
  | [], out, g, h => .inl h
  | x :: V, out, g, h => by
    unfold introL at h
    rw [List.foldl_cons] at h
    rcases mem_introL V (introStep s out x) g h with h1 | h1
    · unfold introStep at h1
      split at h1
      · rcases List.mem_append.1 h1 with h2 | h2
        · exact .inl h2
        · rw [List.mem_singleton] at h2; exact .inr (by rw [h2]; simp)
      · exact .inl h1
    · exact .inr (by simp [h1])
theorem szAll_bound (M : Nat) : ∀ (l : List Fm), (∀ g ∈ l, g.sz ≤ M) → szAll l ≤ l.length * (M + 1)
  | [], _ => by simp [szAll]
  | f :: r, h => by
    have h1 := h f (by simp)
    have h2 := szAll_bound M r fun g hg => h g (by simp [hg])
    simp only [szAll, List.length_cons, Nat.succ_mul]
    omega
set_option maxRecDepth 100000 in
theorem introB_sz (s : Int) (t : Fm) (h : t.sz ≤ 1048576) : szAll (introB s t) ≤ 400 * 1048577 := by
  unfold introB
  split
  · rename_i hc
    rw [Bool.and_eq_true] at hc
    have hf := hc.1
    have hcount : t.count ≤ 400 := by
      unfold formB at hf
      rw [Bool.and_eq_true, decide_eq_true_eq] at hf
      exact hf.2
    have h1 := introL_length s t.pre []
    rw [pre_length] at h1
    have h2 := szAll_bound 1048576 (introL s [] t.pre) (fun g hg => by
      rcases mem_introL t.pre [] g hg with h3 | h3
      · cases h3
      · exact Nat.le_trans (pre_sz_le t g h3) h)
    simp only [List.length_nil] at h1
    exact Nat.le_trans h2 (Nat.mul_le_mul_right (1048576 + 1) (by omega))
  · simp [szAll]
set_option maxRecDepth 100000 in
theorem introB_marks (s : Int) (t : Fm) (h : t.sz ≤ 1048576) : marksAll (introB s t) ≤ 1258292400 := by
  have h1 := marksAll_le (introB s t)
  have h2 := introB_sz s t h
  omega
end
end Go.Proofs.Ytbclgmabidjegaa
