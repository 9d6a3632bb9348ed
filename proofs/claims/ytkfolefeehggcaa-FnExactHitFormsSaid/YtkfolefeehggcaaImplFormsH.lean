/- The contract of the program's forms of a hit. -/
import Derived.Test.YtkfolefeehggcaaFormsHit
import Derived.Test.YtkfolefeehggcaaSpecPat
import Derived.Deep.AppendLies
namespace Go.Proofs.Ytkfolefeehggcaa
open Go.RowKit
set_option linter.unusedVariables false
set_option linter.unusedSimpArgs false
theorem run_append_zero {P : Program} (w : World) (t ty e : TypeId) (i : TypeInfo) (ht : P.underlying t = some (.slice e)) (hi : P.info? e = some i) (b : Option Addr) (n cp : Nat) (hle : n ≤ cp) (a : Option Addr) (c : Nat) :
    (Builtin.append_ #[t, t] ty #[.slice b n cp, .slice a 0 c]).run P w = .ok (.slice b n cp) w := by
  cases a <;> cases b <;> simp [Builtin.append_, run_underlying ht, sizeOf, typeInfo, hi, Builtin.lenOf, Builtin.firstCells, loadCells, loadCellsFrom, hle, storeCells, Result.andThen]
theorem wpList_append_zero {P : Program} {w : World} {ops : Array Oper} {rest : List Oper} {o : Oper} {a : Act} {Q : Exit → Act → World → Prop} (hgd : o.guard = none) (s x : Operand) (t : TypeId)
    (ho : o.op = .call { callee := .builtin .append, args := #[s, x], argTypes := #[t, t] }) (e : TypeId) (i : TypeInfo) (ht : P.underlying t = some (.slice e)) (hi : P.info? e = some i) (b : Option Addr) (n cp : Nat) (hle : n ≤ cp)
    (hs : a.eval s = .slice b n cp) (ad : Option Addr) (c : Nat) (hx : a.eval x = .slice ad 0 c) (h : wpList P ops Q rest (a.put o.dst (.slice b n cp)) w) : wpList P ops Q (o :: rest) a w := by
  refine wpList_plain hgd fun K hK => ?_
  have hrun := run_append_zero (P := P) w t o.type e i ht hi b n cp hle ad c
  unfold Oper.wp
  simp [execOp, ho, resolve, invoke, builtin, hs, hx, hrun, Result.andThen]
  exact hK _ _ h
theorem rowOf_one : ∀ (its : List Item), ∀ u ∈ rowOf its, u.oneCell' = true
  | [], u, h => by simp [rowOf] at h
  | x :: r, u, h => by
    have ih := rowOf_one r
    simp only [rowOf, List.flatMap_cons, List.mem_append] at h ih
    rcases h with h | h
    · simp only [Item.cells, List.mem_cons, List.not_mem_nil, or_false] at h
      rcases h with rfl | rfl | rfl | rfl | rfl <;> rfl
    · exact ih u h
theorem rowOf_app (a b : List Item) : rowOf (a ++ b) = rowOf a ++ rowOf b := by simp [rowOf]
def FormsSaidH (B : Nat) (h : Ht) : Prop := ∀ (u : Value) (w : World), B ≤ w.heap.size → InH (· < B) w h u → h.sz ≤ 1048576 →
    Calls Try.prog 90 #[u] w fun e w' => ∃ a cap its, e = .returned (.slice a its.length cap) ∧ its.map (·.f) = h.forms ∧ (∀ y ∈ its, InV (· < B) w y.f y.val) ∧ w'.ownsRow w.heap.size 36 5 (.slice a its.length cap) its.length (rowOf its) ∧ Below w.heap.size w w'
set_option maxRecDepth 100000 in
set_option maxHeartbeats 4000000 in
theorem hitForms_any (B : Nat) (h : Ht) : FormsSaidH B h := by
  induction h using Ht.ind with
  | h nm d one many ih =>
    intro u w hB hv hsz
    unfold InH at hv
    obtain ⟨s1, t1, k1, l1, s2, t2, k2, l2, a, cap, rfl, hd, hn, ho, hcap, hmax, hmany⟩ := hv
    unfold maxLen at hmax
    have hszm : szHs many ≤ 1048576 := by simp only [Ht.sz] at hsz; omega
    obtain ⟨i0, hi0, hz0, hz1, hz2⟩ := info_parts Try.infoFm
    have HIH := Lib.hid ih
    have HMANY := Lib.hid hmany
    have HONE := Lib.hid ho
    clear ih hmany hn ho hsz
    by_cases h0 : d = 0
    · subst h0
      have HE : Hid (Ht.forms (.mk nm 0 one many) = [one]) := by unfold Hid Ht.forms; simp
      have HB2 : Hid (∀ O O', Below w.heap.size w ((w.alloc O).alloc O')) := fun O O' => ((Below.refl _ w).alloc (Nat.le_refl _) _).alloc (by simp) _
      have HL := Lib.hid (World.ownsRow_lit (base := w.heap.size) (size := 5) (e := 36) (w.alloc (.cells #[.int .i64 nm.kind, .string nm.name, .int .i64 nm.n, .slice s1 nm.scopes.length t1, .slice k1 nm.kids.length l1, .int .i64 0, .int .i64 one.kind, .string one.name, .int .i64 one.n, .slice s2 one.scopes.length t2, .slice k2 one.kids.length l2, .slice a many.length cap] 38)) #[.int .i64 one.kind, .string one.name, .int .i64 one.n, .slice s2 one.scopes.length t2, .slice k2 one.kids.length l2] 1 (by simp) (by unfold maxLen; omega) (by simp))
      rw [size_alloc'] at HL
      go_enter Try.func90, Try.ntmps90
      go_wp2_with fail
      go_ret
      exact ⟨_, _, [(⟨one, s2, t2, k2, l2⟩ : Item)], rfl, HE.out.symm, fun y hy => by rw [List.mem_singleton] at hy; subst hy; exact HONE.out, HL.out, HB2.out _ _⟩
    · have hd1 : (d == 0) = false := by rw [beq_eq_false_iff_ne]; exact h0
      have HE : Hid (Ht.forms (.mk nm d one many) = formsHs many) := by unfold Hid Ht.forms; rw [if_neg h0]
      have HBA : Hid (Below w.heap.size w (w.alloc (.cells #[.int .i64 nm.kind, .string nm.name, .int .i64 nm.n, .slice s1 nm.scopes.length t1, .slice k1 nm.kids.length l1, .int .i64 d, .int .i64 one.kind, .string one.name, .int .i64 one.n, .slice s2 one.scopes.length t2, .slice k2 one.kids.length l2, .slice a many.length cap] 38))) := below_alloc w _
      clear h0
      go_enter Try.func90, Try.ntmps90
      go_wp2_with fail
      go_loopw [15, 3, 5] (fun i o p wr => ∃ (j : Nat) (its : List Item) (va : Option Addr) (vc : Nat), j ≤ many.length ∧ i = .int .i64 j ∧ o = .slice va its.length vc ∧ its.map (·.f) = formsHs (many.take j) ∧ (∀ y ∈ its, InV (· < B) w y.f y.val) ∧ wr.ownsRow w.heap.size 36 5 (.slice va its.length vc) its.length (rowOf its) ∧ Below w.heap.size w wr) (fun i _ _ _ => many.length - (intOf i).toNat)
      case atStart => exact ⟨0, [], none, 0, Nat.zero_le _, rfl, rfl, by simp [formsHs], by simp, World.ownsRow_nil _ _ _ _, HBA.out⟩
      case round =>
        obtain ⟨j, its, va, vc, hj, rfl, rfl, hits, hins, how, hb⟩ := hrel
        have HOW := Lib.hid how
        have HITS := Lib.hid hits
        have HINS := Lib.hid hins
        have HB := Lib.hid hb
        have hws := hb.size
        obtain ⟨hvc1, hvc2⟩ : its.length ≤ vc ∧ vc ≤ maxLen := by
          obtain ⟨a', c', e, h1, h2⟩ := ownsRow_sliceH how
          simp only [Value.slice.injEq, true_and] at e
          obtain ⟨rfl, rfl⟩ := e
          exact ⟨h1, h2⟩
        have HCN : Hid (its.length ≤ szHs (many.take j)) := by
          have h1 := congrArg List.length hits
          have h2 := formsHs_length (many.take j)
          rw [List.length_map] at h1
          unfold Hid
          omega
        clear how hits hins hb
        by_cases hlt : j < many.length
        · rcases HMANY.out with h0 | ⟨kb, off, rfl, hkb, hrow⟩
          · exfalso; rw [h0] at hlt; simp at hlt
          · obtain ⟨p1, p2, p3, p4, p5, p6, p7, p8, pa, pc, x0, x1, x2, x3, x4, x5, x6, x7, x8, x9, x10, x11, hin⟩ := hrow.at' j hlt
            have hcx : ∀ i, wr.cell? ⟨kb, i, none⟩ = w.cell? ⟨kb, i, none⟩ := fun i => HB.out.cell (p := ⟨kb, i, none⟩) (by show kb < _; omega)
            have x0 := (hcx _).trans x0
            have x1 := (hcx _).trans x1
            have x2 := (hcx _).trans x2
            have x3 := (hcx _).trans x3
            have x4 := (hcx _).trans x4
            have x5 := (hcx _).trans x5
            have x6 := (hcx _).trans x6
            have x7 := (hcx _).trans x7
            have x8 := (hcx _).trans x8
            have x9 := (hcx _).trans x9
            have x10 := (hcx _).trans x10
            have x11 := (hcx _).trans x11
            have HIN := Lib.hid hin
            have HIHJ := Lib.hid (HIH.out many[j] (List.getElem_mem hlt))
            have HCT := Lib.hid (szHs_take_succ many j hlt)
            have HCL := Lib.hid (szHs_take_le many (j + 1))
            have HVS := Lib.hid (formsHs_take_succ many j hlt)
            have hji : (0 : Int) ≤ (j : Int) := by omega
            have hjl : (j : Int) < (many.length : Int) := by omega
            clear hin hrow hcx
            obtain ⟨V, hV⟩ : ∃ V, V = wr.alloc (.cells #[.int .i64 many[j].name.kind, .string many[j].name.name, .int .i64 many[j].name.n, .slice p1 many[j].name.scopes.length p2, .slice p3 many[j].name.kids.length p4, .int .i64 many[j].depth, .int .i64 many[j].one.kind, .string many[j].one.name, .int .i64 many[j].one.n, .slice p5 many[j].one.scopes.length p6, .slice p7 many[j].one.kids.length p8, .slice pa many[j].many.length pc] 38) := ⟨_, rfl⟩
            have hbV : Below wr.heap.size wr V := by rw [hV]; exact below_alloc wr _
            have hsV : wr.heap.size + 1 = V.heap.size := by rw [hV]; simp
            have HBV : Hid (Below w.heap.size w V) := HB.out.trans (hbV.mono (by omega))
            have HOWV : Hid (V.ownsRow w.heap.size 36 5 (.slice va its.length vc) its.length (rowOf its)) := by unfold Hid; rw [hV]; exact HOW.out.alloc _
            have HV := Lib.hid hV
            clear hV hbV HOW
            go_wp2_with fail
            rw [← HV.out]
            clear HV
            refine (HIHJ.out _ V (by omega) (InH.later (same_below (HBV.out.mono hB)) _ _ HIN.out) (by have h2 := HCT.out; have h3 := HCL.out; omega)).mono ?_
            rintro e w4 ⟨ra, rc, nw, rfl, hn1, hi1, hr1, hb4⟩
            have hs4 := hb4.size
            have HB4 : Hid (Below w.heap.size w w4) := HBV.out.trans (hb4.mono (by omega))
            have HOW4 : Hid (w4.ownsRow w.heap.size 36 5 (.slice va its.length vc) its.length (rowOf its)) := ownsRow_same' HOWV.out (fun g hg => hb4.block g (HOWV.out.lt g hg).2)
            have HN1 : Hid ((its ++ nw).map (·.f) = formsHs (many.take (j + 1))) := by
              unfold Hid
              rw [List.map_append, HITS.out, hn1, HVS.out]
            have HI1 : Hid (∀ y ∈ its ++ nw, InV (· < B) w y.f y.val) := fun y hy => by
              rcases List.mem_append.1 hy with h | h
              · exact HINS.out y h
              · exact InV.later (fun k (hk : k < B) => (HBV.out.block k (by omega)).symm) _ _ (hi1 y h)
            have HNL : Hid (nw.length ≤ many[j].sz + 1) := by
              have h1 := congrArg List.length hn1
              have h2 := many[j].forms_length
              rw [List.length_map] at h1
              unfold Hid
              omega
            have HR1 := Lib.hid hr1
            clear hr1 hn1 hi1 hb4 x0 x1 x2 x3 x4 x5 x6 x7 x8 x9 x10 x11 HOWV
            rcases Nat.eq_zero_or_pos nw.length with h0 | h0
            · have hnw : nw = [] := List.eq_nil_of_length_eq_zero h0
              subst hnw
              simp only [List.append_nil] at HN1 HI1
              clear h0 HR1 HNL
              go_wp2_with (at_builtin; refine wpList_append_zero rfl _ _ 34 rfl 36 i0 Try.underlying34 hi0 va its.length vc hvc1 rfl _ _ rfl ?_)
              go_roundw
              case rel => exact ⟨j + 1, its, va, vc, by omega, by go_num, rfl, HN1.out, HI1.out, HOW4.out, HB4.out⟩
              case measure => simp [intOf]; omega
            · obtain ⟨rg, rcc, e, hg1, hg2⟩ := HR1.out.form h0
              simp only [Value.slice.injEq, true_and] at e
              obtain ⟨rfl, rfl⟩ := e
              have hL1 : its.length + nw.length ≤ maxLen := by have h1 := HCN.out; have h2 := HCT.out; have h3 := HCL.out; have h4 := HNL.out; unfold maxLen; omega
              have hL2 : (its.length + nw.length) * 80 ≤ 140737488355328 := by have h1 := HCN.out; have h2 := HCT.out; have h3 := HCL.out; have h4 := HNL.out; omega
              have HNEWS : Hid (∀ q u, (rowOf nw)[q]? = some u → w4.cell? ((⟨rg, 0, none⟩ : Addr).add q) = some u) := fun q u hq => by
                have h1 := (List.getElem?_eq_some_iff.1 hq).1
                rw [rowOf_length] at h1
                have h2 := HR1.out.cellAt q h1
                have hadd : (⟨rg, 0, none⟩ : Addr).add q = ⟨rg, q, none⟩ := by unfold Addr.add; split <;> simp_all
                rw [hadd, h2]
                exact hq
              have hw4 : w.heap.size ≤ w4.heap.size := by omega
              have HAPP : Hid (∀ (ops : Array Oper) (rest : List Oper) (o : Oper) (A : Act) (Q : Exit → Act → World → Prop) (hgd : o.guard = none) (s x : Operand) (ho : o.op = .call { callee := .builtin .append, args := #[s, x], argTypes := #[34, 34] }) (hs : A.eval s = .slice va its.length vc) (hx : A.eval x = .slice (some ⟨rg, 0, none⟩) nw.length rc)
                  (h : ∀ g cap w', w'.ownsRow w.heap.size 36 5 (.slice (some ⟨g, 0, none⟩) (its.length + nw.length) cap) (its.length + nw.length) (rowOf its ++ rowOf nw) → w4.grownBy w' (Value.slice va its.length vc).ownBlock → wpList Try.prog ops Q rest (A.put o.dst (.slice (some ⟨g, 0, none⟩) (its.length + nw.length) cap)) w'), wpList Try.prog ops Q (o :: rest) A w4) :=
                fun ops rest o A Q hgd s x ho hs hx h => wpList_append_lies w4 hgd s x 34 ho w.heap.size 36 i0 _ 5 80 Try.underlying34 hi0 hz0 hz1 hz2 rfl (by decide) (.slice va its.length vc) its.length (rowOf its) hs HOW4.out ⟨rg, 0, none⟩ nw.length rc (rowOf nw) hx (rowOf_length nw) HNEWS.out (rowOf_one nw) h0 hL1 hL2 hw4 w4.heap.size rfl (fun g cap w' h1 h2 _ _ => h g cap w' h1 h2)
              go_wp2_with (at_builtin; refine HAPP.out _ _ _ _ _ rfl _ _ rfl rfl rfl ?_; intro gq qd w5 hown5 hgrow; have HOWN5 := Lib.hid hown5; have HGROW := Lib.hid hgrow; clear hown5 hgrow)
              have HB5 : Hid (Below w.heap.size w w5) := HB4.out.grown HGROW.out hw4 (fun k hk => (HOW4.out.lt k hk).1)
              have HR5 : Hid (w5.ownsRow w.heap.size 36 5 (.slice (some ⟨gq, 0, none⟩) (its ++ nw).length qd) (its ++ nw).length (rowOf (its ++ nw))) := by
                have := HOWN5.out
                unfold Hid
                rw [rowOf_app, List.length_append]
                exact this
              have hln : its.length + nw.length = (its ++ nw).length := by rw [List.length_append]
              go_roundw
              case rel => exact ⟨j + 1, its ++ nw, _, qd, by omega, by go_num, by rw [← hln], HN1.out, HI1.out, HR5.out, HB5.out⟩
              case measure => simp [intOf]; omega
        · obtain rfl : j = many.length := by omega
          have HE2 : Hid (its.map (·.f) = Ht.forms (.mk nm d one many)) := by
            unfold Hid
            rw [HITS.out, List.take_length, HE.out]
          go_wp2_with fail
          go_ret
          exact ⟨_, _, its, rfl, HE2.out, HINS.out, HOW.out, HB.out⟩
end Go.Proofs.Ytkfolefeehggcaa
