/- The contracts of the model's copies of forms in memory of their own. -/
import Derived.Test.YtbbihbapmbjbgaaForms
import Derived.Test.YtbbihbapmbjbgaaSpecPat
import Derived.Test.YtbbihbapmbjbgaaMids
import Derived.Deep.LoopGhost
namespace Go.Proofs.Ytbbihbapmbjbgaa
open Go.RowKit
set_option linter.unusedVariables false
set_option linter.unusedSimpArgs false
theorem wpList_append_intsP {P : Program} {w : World} {ops : Array Oper} {rest : List Oper} {o : Oper} {a : Act} {Q : Exit → Act → World → Prop} (hgd : o.guard = none) (s x : Operand) (t e : TypeId)
    (ho : o.op = .call { callee := .builtin .append, args := #[s, x], argTypes := #[t, t] }) (i : TypeInfo) (ht : P.underlying t = some (.slice e)) (hi : P.info? e = some i) (hz : i.zero = some (.int .i64 0)) (hsize : i.size = 1) (hby : i.bytes = 8)
    (base eb : Nat) (sc : List Int) (sa : Option Addr) (scap : Nat) (φ : Nat → Prop) (hs : a.eval s = .slice (some ⟨eb, 0, none⟩) 0 0) (hx : a.eval x = .slice sa sc.length scap) (hv : IntRow φ w (.slice sa sc.length scap) sc)
    (hl : sc.length ≤ 1048576) (hown : w.ownsRow base e 1 (.slice (some ⟨eb, 0, none⟩) 0 0) 0 []) (hbase : base ≤ w.heap.size)
    (h : ∀ sa' scap' w', w.grownBy w' (some eb) → IntRow (fun k => (k = eb ∨ k = w.heap.size) ∧ k < w'.heap.size) w' (.slice sa' sc.length scap') sc → wpList P ops Q rest (a.put o.dst (.slice sa' sc.length scap')) w') : wpList P ops Q (o :: rest) a w :=
  wpList_plain hgd fun K hK => wp_append_ints s x t e ho i ht hi hz hsize hby base eb sc sa scap φ hs hx hv hl hown hbase fun sa' scap' w' h1 h2 => hK _ _ (h sa' scap' w' h1 h2)
/-- the contract of the copy of a form -/
def OwnSaid (f : Fm) : Prop := ∀ (sa : Option Addr) (scap : Nat) (a : Option Addr) (cap : Nat) (B : Nat) (w : World), B ≤ w.heap.size → InV (· < B) w f (.agg #[.int .i64 f.kind, .string f.name, .int .i64 f.n, .slice sa f.scopes.length scap, .slice a f.kids.length cap]) → f.sz ≤ 1048576 →
  Calls Try.prog 68 #[.agg #[.int .i64 f.kind, .string f.name, .int .i64 f.n, .slice sa f.scopes.length scap, .slice a f.kids.length cap]] w fun e w' => ∃ ra rb rc rd, e = .returned (.agg #[.int .i64 f.kind, .string f.name, .int .i64 f.n, .slice ra f.scopes.length rb, .slice rc f.kids.length rd]) ∧ InV (fun k => w.heap.size ≤ k ∧ k < w'.heap.size) w' f (.agg #[.int .i64 f.kind, .string f.name, .int .i64 f.n, .slice ra f.scopes.length rb, .slice rc f.kids.length rd]) ∧ Below w.heap.size w w'
/-- the contract of the copy of a list of forms -/
def OwnListSaid (ks : List Fm) : Prop := ∀ (a : Option Addr) (cap : Nat) (B : Nat) (w : World), B ≤ w.heap.size → FormsIn (· < B) w a cap ks → szAll ks ≤ 1048576 →
  Calls Try.prog 111 #[.slice a ks.length cap] w fun e w' => ∃ ra rc, e = .returned (.slice ra ks.length rc) ∧ FormsIn (fun k => w.heap.size ≤ k ∧ k < w'.heap.size) w' ra rc ks ∧ Below w.heap.size w w'
theorem inV_parts {φ : Nat → Prop} {w : World} {f : Fm} {sa a : Option Addr} {scap cap : Nat} (hb : (-9223372036854775808 ≤ f.kind ∧ f.kind ≤ 9223372036854775807) ∧ (-9223372036854775808 ≤ f.n ∧ f.n ≤ 9223372036854775807) ∧ f.name.size ≤ maxLen) (hs : IntRow φ w (.slice sa f.scopes.length scap) f.scopes) (hk : FormsIn φ w a cap f.kids) :
    InV φ w f (.agg #[.int .i64 f.kind, .string f.name, .int .i64 f.n, .slice sa f.scopes.length scap, .slice a f.kids.length cap]) := by
  obtain ⟨k, nm, n, sc, ks⟩ := f
  unfold InV
  exact ⟨_, a, cap, rfl, hb.1, hb.2.1, hb.2.2, hs, hk.1, hk.2.1, hk.2.2⟩
theorem InV.intsO {φ : Nat → Prop} {w : World} {g : Fm} {c0 c1 c2 c3 c4 : Value} (h : InV φ w g (.agg #[c0, c1, c2, c3, c4])) : IntRow φ w c3 g.scopes := by
  obtain ⟨k, nm, n, sc, ks⟩ := g
  unfold InV at h
  obtain ⟨vs, a, cap, he, _, _, _, hvs, _⟩ := h
  injection he with he
  injection he with he
  simp only [List.cons.injEq, and_true] at he
  obtain ⟨rfl, rfl, rfl, rfl, rfl⟩ := he
  exact hvs
theorem szAll_mem : ∀ (ks : List Fm), ∀ g ∈ ks, g.sz ≤ szAll ks ∧ ks.length ≤ szAll ks
  | [], g, h => by cases h
  | f :: r, g, h => by
    rw [List.mem_cons] at h
    have hl : r.length ≤ szAll r := by
      cases r with
      | nil => simp
      | cons x s => exact (szAll_mem (x :: s) x (by simp)).2
    simp only [szAll, List.length_cons]
    rcases h with rfl | h
    · exact ⟨by omega, by omega⟩
    · have := (szAll_mem r g h).1; exact ⟨by omega, by omega⟩
theorem ownsRow_sliceO {w : World} {base n : Nat} {T : TypeId} {size : Nat} {v : Value} {xs : List Value} (h : w.ownsRow base T size v n xs) : ∃ a cap, v = .slice a n cap ∧ n ≤ cap ∧ cap ≤ maxLen := by
  rcases h.2 with ⟨rfl, h0⟩ | ⟨g, cap, cur, rfl, hb, hg, hn, hm, _⟩
  · exact ⟨none, 0, by rw [h0], by omega, by unfold maxLen; omega⟩
  · exact ⟨_, cap, rfl, hn, hm⟩
set_option maxRecDepth 100000 in
set_option maxHeartbeats 4000000 in
theorem ownList_of (ks : List Fm) (ih : ∀ g ∈ ks, OwnSaid g) : OwnListSaid ks := by
  intro a cap B w hB hl hsz
  have hlen := szAll_length ks
  obtain ⟨hcap, hmax, hks⟩ := hl
  unfold maxLen at hmax
  have HKS := Lib.hid hks
  have HIH := Lib.hid ih
  obtain ⟨i0, hi0, hz0, hz1, hz2⟩ := info_parts Try.infoFm
  have HO0 : Hid ((w.alloc (.cells #[] 31)).ownsRow w.heap.size 31 5 (.slice (some ⟨w.heap.size, 0, none⟩) 0 0) ([] : List Item).length (rowOf [])) := by
    have := World.ownsRow_lit (base := w.heap.size) (e := 31) (size := 5) w #[] 0 (Nat.le_refl _) (by unfold maxLen; omega) (by simp)
    exact this
  have HB0 := Lib.hid (below_alloc w (.cells #[] 31))
  clear hks ih
  go_enter Try.func111, Try.ntmps111
  go_wp2_with fail
  go_loopw [3, 9, 5] (fun o i p wr => ∃ (j : Nat) (its : List Item), j ≤ ks.length ∧ i = .int .i64 j ∧ its.map (·.f) = ks.take j ∧ wr.ownsRow w.heap.size 31 5 o its.length (rowOf its) ∧
      (∀ y ∈ its, InV (fun k => w.heap.size ≤ k ∧ k < wr.heap.size ∧ o.ownBlock ≠ some k) wr y.f y.val) ∧ Below w.heap.size w wr) (fun _ i _ _ => ks.length - (intOf i).toNat)
  case atStart => exact ⟨0, [], Nat.zero_le _, rfl, by simp, HO0.out, by simp, HB0.out⟩
  case round =>
    obtain ⟨j, its, hj, rfl, hmap, hown, hins, hb⟩ := hrel
    have HMAP := Lib.hid hmap
    have HINS := Lib.hid hins
    have HB := Lib.hid hb
    have hsz1 := hb.size
    have hil : its.length = j := by have := congrArg List.length hmap; rw [List.length_map, List.length_take] at this; omega
    have HIL := Lib.hid hil
    have hil2 : its.length ≤ ks.length := by omega
    clear hil
    obtain ⟨oa, oc, rfl, hoc, hom⟩ := ownsRow_sliceO hown
    unfold maxLen at hom
    have HOWN := Lib.hid hown
    have HOL : Hid (∀ q, (Value.slice oa its.length oc).ownBlock = some q → w.heap.size ≤ q ∧ q < wr.heap.size) := hown.lt
    clear hmap hins hb hown
    by_cases hlt : j < ks.length
    · rcases HKS.out with h0 | ⟨b, off, rfl, hbB, hrow⟩
      · exfalso; rw [h0] at hlt; simp at hlt
      · obtain ⟨ga, gcap, ka, kcap, c0, c1, c2, c3, c4, hin⟩ := (hrow.later (same_below (HB.out.mono hB)) b hbB).at' j hlt
        have HIN := Lib.hid hin
        have hji : (0 : Int) ≤ (j : Int) := by omega
        have hjl : (j : Int) < (ks.length : Int) := by omega
        have hba := below_alloc wr (.cells #[.int .i64 ks[j].kind, .string ks[j].name, .int .i64 ks[j].n, .slice ga ks[j].scopes.length gcap, .slice ka ks[j].kids.length kcap] 31)
        have HBA := Lib.hid hba
        have hsk : ks[j].sz ≤ 1048576 := by have := (szAll_mem ks _ (List.getElem_mem hlt)).1; omega
        clear hin hrow hba
        go_wp2_with fail
        refine (HIH.out ks[j] (List.getElem_mem hlt) ga gcap ka kcap B _ (by simp; omega) (InV.later (fun k (hk : k < B) => HBA.out.block k (by omega)) _ _ HIN.out) hsk).mono ?_
        rintro e w3 ⟨ra, rb, rc, rd, rfl, hr, hb3⟩
        rw [size_alloc'] at hr
        have hs3 : wr.heap.size + 1 ≤ w3.heap.size := by have := hb3.size; simpa using this
        have HR := Lib.hid hr
        have HB3 : Hid (Below wr.heap.size wr w3) := HBA.out.trans (hb3.mono (by simp))
        have HO3 := Lib.hid (ownsRow_later HOWN.out HB3.out)
        have hL1 : its.length + 1 ≤ maxLen := by unfold maxLen; omega
        have hL2 : (its.length + 1) * 80 ≤ 140737488355328 := by omega
        clear hr hb3 c0 c1 c2 c3 c4
        go_wp2_with (at_builtin; refine wpList_append_lies _ rfl _ _ 29 rfl w.heap.size 31 i0 _ 5 80 Try.underlying29 hi0 hz0 hz1 hz2 rfl (by decide) _ its.length (rowOf its) rfl (HO3.out.alloc _) ⟨w3.heap.size, 0, none⟩ 1 1 [.int .i64 ks[j].kind, .string ks[j].name, .int .i64 ks[j].n, .slice ra ks[j].scopes.length rb, .slice rc ks[j].kids.length rd] rfl rfl (World.news_of_block (cs := #[.int .i64 ks[j].kind, .string ks[j].name, .int .i64 ks[j].n, .slice ra ks[j].scopes.length rb, .slice rc ks[j].kids.length rd]) (t := 31) (fr := (0, 0)) (heap_alloc_new w3 _)) (by simp [Value.oneCell']) (by omega) hL1 hL2 (by simp; omega) (w3.heap.size + 1) (by simp) ?_; intro gq qd w5 hown5 hgrow hat hlt5; have HOWN5 := Lib.hid hown5; have HGROW := Lib.hid hgrow; have HAT : Hid ((Value.slice oa its.length oc).ownBlock = some gq ∨ gq = w3.heap.size + 1) := hat; clear hown5 hgrow hat)
        have hs5 : w3.heap.size + 1 ≤ w5.heap.size := by have := HGROW.out.size; simpa using this
        have hbl : ∀ k, k < w3.heap.size → (Value.slice oa its.length oc).ownBlock ≠ some k → w5.heap[k]? = w3.heap[k]? := fun k h1 h2 => (HGROW.out.block k (by simp; omega) (fun e => h2 e.symm)).trans ((below_alloc w3 _).block k h1)
        have HR5 : Hid (w5.ownsRow w.heap.size 31 5 (.slice (some ⟨gq, 0, none⟩) (its.length + 1) qd) (its ++ [(⟨ks[j], ra, rb, rc, rd⟩ : Item)]).length (rowOf (its ++ [(⟨ks[j], ra, rb, rc, rd⟩ : Item)]))) := by
          unfold Hid
          rw [rowOf_snoc, List.length_append]
          exact HOWN5.out
        have HI5 : Hid (∀ y ∈ its ++ [(⟨ks[j], ra, rb, rc, rd⟩ : Item)], InV (fun k => w.heap.size ≤ k ∧ k < w5.heap.size ∧ (Value.slice (some ⟨gq, 0, none⟩) (its.length + 1) qd).ownBlock ≠ some k) w5 y.f y.val) := fun y hy => by
          rcases List.mem_append.1 hy with h | h
          · refine InV.mono (fun k hk => ⟨hk.1, by have := hk.2.1; omega, fun e => ?_⟩) _ _ (InV.later (w := wr) (w' := w5) (fun k hk => (hbl k (by have := hk.2.1; omega) hk.2.2).trans (HB3.out.block k hk.2.1)) _ _ (HINS.out y h))
            have e2 : some gq = some k := e
            injection e2 with e2
            rcases HAT.out with h5 | h5
            · exact hk.2.2 (by rw [h5, e2])
            · have := hk.2.1; omega
          · rw [List.mem_singleton] at h
            subst h
            refine InV.mono (fun k hk => ⟨by have := hk.1; omega, by have := hk.2; omega, fun e => ?_⟩) _ _ (InV.later (w := w3) (w' := w5) (fun k hk => hbl k hk.2 (fun e => by have := (HOL.out k e).2; have := hk.1; omega)) _ _ HR.out)
            have e2 : some gq = some k := e
            injection e2 with e2
            rcases HAT.out with h5 | h5
            · have := (HOL.out gq h5).2; have := hk.1; omega
            · have := hk.2; omega
        have HM5 : Hid ((its ++ [(⟨ks[j], ra, rb, rc, rd⟩ : Item)]).map (·.f) = ks.take (j + 1)) := by
          unfold Hid
          rw [List.map_append, HMAP.out, List.take_succ_eq_append_getElem hlt]
          rfl
        have HB5 : Hid (Below w.heap.size w w5) := HB.out.trans ⟨HGROW.out.os.trans HB3.out.os, HGROW.out.tape.trans HB3.out.tape, HGROW.out.output.trans HB3.out.output, by omega, fun k hk => (hbl k (by omega) (fun e => by have := (HOL.out k e).1; omega)).trans (HB3.out.block k (by omega))⟩
        clear hbl hlt5
        go_roundw
        case rel => exact ⟨j + 1, _, by omega, by go_num, HM5.out, HR5.out, HI5.out, HB5.out⟩
        case measure => simp [intOf]; omega
    · obtain rfl : j = ks.length := by omega
      have HFI : Hid (FormsIn (fun k => w.heap.size ≤ k ∧ k < wr.heap.size) wr oa oc ks) := by
        have h1 := formsIn_items (φ := fun k => w.heap.size ≤ k ∧ k < wr.heap.size) HOWN.out (fun y hy => InV.mono (fun k hk => ⟨hk.1, hk.2.1⟩) _ _ (HINS.out y hy)) (fun k h1 h2 => ⟨h1, h2⟩)
        rw [HMAP.out, List.take_length] at h1
        exact h1
      go_wp2_with fail
      go_ret
      exact ⟨oa, oc, by rw [HIL.out]; rfl, HFI.out, HB.out⟩
set_option maxRecDepth 100000 in
set_option maxHeartbeats 4000000 in
theorem ownForm_any (f : Fm) : OwnSaid f := by
  induction f using Fm.ind with
  | h k nm n sc ks ih =>
    have HLS := Lib.hid (ownList_of ks ih)
    intro sa scap a cap B w hB hv hsz
    generalize hf : Fm.mk k nm n sc ks = f at hv hsz ⊢
    have hfk : f.kids = ks := by rw [← hf]; rfl
    have HFK := Lib.hid hfk
    have HBD := Lib.hid hv.bounds
    have hslen : f.scopes.length ≤ 1048576 := Nat.le_trans (sz_scopes f).1 hsz
    have hszk : szAll ks ≤ 1048576 := by rw [← hf] at hsz; simp only [Fm.sz] at hsz; omega
    have hin := hv.intsO
    have hk4 := hv.kids
    have HFI : Hid (FormsIn (· < B) w a cap f.kids) := ⟨hk4.2.1, hk4.2.2.1, hk4.2.2.2⟩
    have HIR := Lib.hid hin
    have HV := Lib.hid hv
    obtain ⟨i0, hi0, hz0, hz1, hz2⟩ := info_parts Try.infoInt
    clear hf hfk hv hin hk4 ih
    have hb0 : Below w.heap.size w (((w.alloc (.cells #[.int .i64 f.kind, .string f.name, .int .i64 f.n, .slice sa f.scopes.length scap, .slice a f.kids.length cap] 31)).alloc (.cells #[.int .i64 0, .string { data := #[] }, .int .i64 0, .slice none 0 0, .slice none 0 0] 31)).alloc (.cells #[] 3)) := (((Below.refl _ w).alloc (Nat.le_refl _) _).alloc (by simp) _).alloc (by simp; omega) _
    have HB0 := Lib.hid hb0
    have HIR0 := Lib.hid (HIR.out.later (same_below (hb0.mono hB)))
    have HOE : Hid ((((w.alloc (.cells #[.int .i64 f.kind, .string f.name, .int .i64 f.n, .slice sa f.scopes.length scap, .slice a f.kids.length cap] 31)).alloc (.cells #[.int .i64 0, .string { data := #[] }, .int .i64 0, .slice none 0 0, .slice none 0 0] 31)).alloc (.cells #[] 3)).ownsRow w.heap.size 3 1 (.slice (some ⟨w.heap.size + 1 + 1, 0, none⟩) 0 0) 0 []) := by
      have := World.ownsRow_lit (base := w.heap.size) (e := 3) (size := 1) ((w.alloc (.cells #[.int .i64 f.kind, .string f.name, .int .i64 f.n, .slice sa f.scopes.length scap, .slice a f.kids.length cap] 31)).alloc (.cells #[.int .i64 0, .string { data := #[] }, .int .i64 0, .slice none 0 0, .slice none 0 0] 31)) #[] 0 (by simp; omega) (by unfold maxLen; omega) (by simp)
      rw [size_alloc', size_alloc'] at this
      exact this
    have HBX0 := Lib.hid (((FormBox.fresh w f sa a scap cap 31).later (below_alloc _ (.cells #[.int .i64 0, .string { data := #[] }, .int .i64 0, .slice none 0 0, .slice none 0 0] 31))).later (below_alloc _ (.cells #[] 3)))
    have HZ0 : Hid ((((w.alloc (.cells #[.int .i64 f.kind, .string f.name, .int .i64 f.n, .slice sa f.scopes.length scap, .slice a f.kids.length cap] 31)).alloc (.cells #[.int .i64 0, .string { data := #[] }, .int .i64 0, .slice none 0 0, .slice none 0 0] 31)).alloc (.cells #[] 3)).heap[w.heap.size + 1]? = some (.cells #[.int .i64 0, .string { data := #[] }, .int .i64 0, .slice none 0 0, .slice none 0 0] 31 (0, 0))) := by
      have := heap_alloc_new (w.alloc (.cells #[.int .i64 f.kind, .string f.name, .int .i64 f.n, .slice sa f.scopes.length scap, .slice a f.kids.length cap] 31)) (.cells #[.int .i64 0, .string { data := #[] }, .int .i64 0, .slice none 0 0, .slice none 0 0] 31)
      rw [size_alloc'] at this
      unfold Hid
      rw [(below_alloc _ _).block _ (by simp), this]
    have HPL0 : Hid (Plain (((w.alloc (.cells #[.int .i64 f.kind, .string f.name, .int .i64 f.n, .slice sa f.scopes.length scap, .slice a f.kids.length cap] 31)).alloc (.cells #[.int .i64 0, .string { data := #[] }, .int .i64 0, .slice none 0 0, .slice none 0 0] 31)).alloc (.cells #[] 3)) w.heap.size) := ⟨_, _, by rw [(below_alloc _ _).block _ (by simp; omega), (below_alloc _ _).block _ (by simp), heap_alloc_new]⟩
    clear hb0
    go_enter Try.func68, Try.ntmps68
    go_wp2_with (at_builtin; refine wpList_append_intsP rfl _ _ 22 3 rfl i0 Try.underlying22 hi0 hz0 hz1 hz2 w.heap.size (w.heap.size + 1 + 1) f.scopes sa scap _ rfl rfl HIR0.out hslen HOE.out (by simp; omega) ?_; intro sa3 scap3 w1 hg1 hi1; have hs1 : w.heap.size + 3 ≤ w1.heap.size := (by have := hg1.size; simp at this; omega); have hk1 : ∀ q, q < w.heap.size + 2 → w1.heap[q]? = (((w.alloc (.cells #[.int .i64 f.kind, .string f.name, .int .i64 f.n, .slice sa f.scopes.length scap, .slice a f.kids.length cap] 31)).alloc (.cells #[.int .i64 0, .string { data := #[] }, .int .i64 0, .slice none 0 0, .slice none 0 0] 31)).alloc (.cells #[] 3)).heap[q]? := (fun q hq => hg1.block q (by simp; omega) (fun e => (by injection e with e; omega))); have HG1 := Lib.hid hg1; have HI1 := Lib.hid hi1; have HK1 := Lib.hid hk1; have q3 : w1.cell? ⟨w.heap.size, 3, none⟩ = some (.slice sa f.scopes.length scap) := (World.cell?_of_block (a := ⟨w.heap.size, 3, none⟩) (hk1 w.heap.size (by omega))).trans HBX0.out.2.2.2.1; have q3f : w1.frozen? ⟨w.heap.size, 3, none⟩ = false := (World.frozen?_of_block (a := ⟨w.heap.size, 3, none⟩) (hk1 w.heap.size (by omega))).trans (HPL0.out.frozen 3); have q4 : w1.cell? ⟨w.heap.size, 4, none⟩ = some (.slice a f.kids.length cap) := (World.cell?_of_block (a := ⟨w.heap.size, 4, none⟩) (hk1 w.heap.size (by omega))).trans HBX0.out.2.2.2.2; have q4f : w1.frozen? ⟨w.heap.size, 4, none⟩ = false := (World.frozen?_of_block (a := ⟨w.heap.size, 4, none⟩) (hk1 w.heap.size (by omega))).trans (HPL0.out.frozen 4); clear hg1 hi1 hk1)
    have hW2s : (w1.setCell ⟨w.heap.size, 3, none⟩ (.slice sa3 f.scopes.length scap3)).heap.size = w1.heap.size := by simp [World.setCell]
    have hW2k : ∀ q, q < w.heap.size + 2 → q ≠ w.heap.size → (w1.setCell ⟨w.heap.size, 3, none⟩ (.slice sa3 f.scopes.length scap3)).heap[q]? = (((w.alloc (.cells #[.int .i64 f.kind, .string f.name, .int .i64 f.n, .slice sa f.scopes.length scap, .slice a f.kids.length cap] 31)).alloc (.cells #[.int .i64 0, .string { data := #[] }, .int .i64 0, .slice none 0 0, .slice none 0 0] 31)).alloc (.cells #[] 3)).heap[q]? := fun q h1 h2 => by
      rw [Below.heap_setCell _ _ _ _ h2]; exact HK1.out q h1
    have HLS2 : Hid (OwnListSaid f.kids) := by unfold Hid; rw [HFK.out]; exact HLS.out
    refine (HLS2.out a cap B _ (by rw [hW2s]; omega) (HFI.out.later (fun q (hq : q < B) => (hW2k q (by omega) (by omega)).trans (HB0.out.block q (by omega)))) (by rw [HFK.out]; exact hszk)).mono ?_
    rintro e w3 ⟨ra, rc, rfl, hf3, hb3⟩
    have hs3 : w1.heap.size ≤ w3.heap.size := by have := hb3.size; rw [hW2s] at this; exact this
    have hb3' : ∀ q, q < w1.heap.size → w3.heap[q]? = (w1.setCell ⟨w.heap.size, 3, none⟩ (.slice sa3 f.scopes.length scap3)).heap[q]? := fun q hq => hb3.block q (by rw [hW2s]; exact hq)
    have hx1 : w1.heap[w.heap.size]? = (((w.alloc (.cells #[.int .i64 f.kind, .string f.name, .int .i64 f.n, .slice sa f.scopes.length scap, .slice a f.kids.length cap] 31)).alloc (.cells #[.int .i64 0, .string { data := #[] }, .int .i64 0, .slice none 0 0, .slice none 0 0] 31)).alloc (.cells #[] 3)).heap[w.heap.size]? := HK1.out _ (by omega)
    have e3 := hb3' w.heap.size (by omega)
    have c0 : w3.cell? ⟨w.heap.size, 0, none⟩ = some (.int .i64 f.kind) := (World.cell?_of_block (a := ⟨w.heap.size, 0, none⟩) e3).trans ((World.cell?_setCell_other _ _ _ _ (addr_ne (by omega))).trans ((World.cell?_of_block (a := ⟨w.heap.size, 0, none⟩) hx1).trans HBX0.out.1))
    have c1 : w3.cell? ⟨w.heap.size, 1, none⟩ = some (.string f.name) := (World.cell?_of_block (a := ⟨w.heap.size, 1, none⟩) e3).trans ((World.cell?_setCell_other _ _ _ _ (addr_ne (by omega))).trans ((World.cell?_of_block (a := ⟨w.heap.size, 1, none⟩) hx1).trans HBX0.out.2.1))
    have c2 : w3.cell? ⟨w.heap.size, 2, none⟩ = some (.int .i64 f.n) := (World.cell?_of_block (a := ⟨w.heap.size, 2, none⟩) e3).trans ((World.cell?_setCell_other _ _ _ _ (addr_ne (by omega))).trans ((World.cell?_of_block (a := ⟨w.heap.size, 2, none⟩) hx1).trans HBX0.out.2.2.1))
    have c3 : w3.cell? ⟨w.heap.size, 3, none⟩ = some (.slice sa3 f.scopes.length scap3) := (World.cell?_of_block (a := ⟨w.heap.size, 3, none⟩) e3).trans (World.cell?_setCell_same _ _ _ q3)
    have c4 : w3.cell? ⟨w.heap.size, 4, none⟩ = some (.slice a f.kids.length cap) := (World.cell?_of_block (a := ⟨w.heap.size, 4, none⟩) e3).trans ((World.cell?_setCell_other _ _ _ _ (addr_ne (by omega))).trans q4)
    have c4f : w3.frozen? ⟨w.heap.size, 4, none⟩ = false := (World.frozen?_of_block (a := ⟨w.heap.size, 4, none⟩) e3).trans (by rw [World.frozen?_setCell]; exact q4f)
    have hzz : w3.heap[w.heap.size + 1]? = some (.cells #[.int .i64 0, .string { data := #[] }, .int .i64 0, .slice none 0 0, .slice none 0 0] 31 (0, 0)) := (hb3' _ (by omega)).trans ((hW2k _ (by omega) (by omega)).trans HZ0.out)
    have HB3 : Hid (Below w.heap.size w w3) := ⟨hb3.os.trans (HG1.out.os.trans HB0.out.os), hb3.tape.trans (HG1.out.tape.trans HB0.out.tape), hb3.output.trans (HG1.out.output.trans HB0.out.output), by omega, fun q hq => (hb3' q (by omega)).trans ((hW2k q (by omega) (by omega)).trans (HB0.out.block q hq))⟩
    have HI3 : Hid (IntRow (fun q => w.heap.size + 2 ≤ q ∧ q < w3.heap.size) w3 (.slice sa3 f.scopes.length scap3) f.scopes) := by
      have h1 := HI1.out
      have h2 : IntRow (fun q => w.heap.size + 2 ≤ q ∧ q < w1.heap.size) w1 (.slice sa3 f.scopes.length scap3) f.scopes := h1.mono (fun q hq => ⟨by have := hq.1; simp at this; omega, hq.2⟩)
      exact (IntRow.later (w := w1) (w' := w3) (fun q hq => (hb3' q hq.2).trans (Below.heap_setCell _ _ _ _ (show q ≠ w.heap.size by have := hq.1; omega))) h2).mono (fun q hq => ⟨hq.1, by have := hq.2; omega⟩)
    have HF3 : Hid (FormsIn (fun q => w.heap.size + 2 ≤ q ∧ q < w3.heap.size) w3 ra rc f.kids) := FormsIn.mono (fun q hq => ⟨by have := hq.1; rw [hW2s] at this; omega, hq.2⟩) hf3
    obtain ⟨r0, r1, r2, r3, r4, t0, t1, t2, t3, t4⟩ := zeroFacts hzz
    have hth := zeroThere hzz
    have HTH := Lib.hid hth
    clear hf3 hb3 hb3' hx1 e3 hzz hW2k hW2s hth q3 q4 q3f q4f
    go_wp2_with fail
    have hW4 : ∀ j, j < 5 → ∃ u, (w3.setCell ⟨w.heap.size, 4, none⟩ (.slice ra f.kids.length rc)).cell? ⟨w.heap.size + 1, 0 + j, none⟩ = some u := fun j hj => by
      obtain ⟨u, hu⟩ := HTH.out j hj
      exact ⟨u, by rw [World.cell?_setCell_other _ _ _ _ (by intro e; injection e with e1 _; omega)]; exact hu⟩
    obtain ⟨z0, z1, z2, z3, z4⟩ := set5_in (w3.setCell ⟨w.heap.size, 4, none⟩ (.slice ra f.kids.length rc)) (w.heap.size + 1) 0 (.int .i64 f.kind) (.string f.name) (.int .i64 f.n) (.slice sa3 f.scopes.length scap3) (.slice ra f.kids.length rc) hW4
    have hz5 : (set5 (w3.setCell ⟨w.heap.size, 4, none⟩ (.slice ra f.kids.length rc)) (w.heap.size + 1) 0 (.int .i64 f.kind) (.string f.name) (.int .i64 f.n) (.slice sa3 f.scopes.length scap3) (.slice ra f.kids.length rc)).heap.size = w3.heap.size := by rw [set5_size]; simp [World.setCell]
    have hbk : ∀ q, q ≠ w.heap.size → q ≠ w.heap.size + 1 → (set5 (w3.setCell ⟨w.heap.size, 4, none⟩ (.slice ra f.kids.length rc)) (w.heap.size + 1) 0 (.int .i64 f.kind) (.string f.name) (.int .i64 f.n) (.slice sa3 f.scopes.length scap3) (.slice ra f.kids.length rc)).heap[q]? = w3.heap[q]? := fun q h1 h2 => by
      rw [set5_block _ _ _ _ _ _ _ _ h2, Below.heap_setCell _ _ _ _ h1]
    have hbe := set5_below (HB3.out.setCell (p := ⟨w.heap.size, 4, none⟩) (Nat.le_refl _) (.slice ra f.kids.length rc)) (b := w.heap.size + 1) (by omega) 0 (.int .i64 f.kind) (.string f.name) (.int .i64 f.n) (.slice sa3 f.scopes.length scap3) (.slice ra f.kids.length rc)
    have hfin : InV (fun q => w.heap.size ≤ q ∧ q < (set5 (w3.setCell ⟨w.heap.size, 4, none⟩ (.slice ra f.kids.length rc)) (w.heap.size + 1) 0 (.int .i64 f.kind) (.string f.name) (.int .i64 f.n) (.slice sa3 f.scopes.length scap3) (.slice ra f.kids.length rc)).heap.size) (set5 (w3.setCell ⟨w.heap.size, 4, none⟩ (.slice ra f.kids.length rc)) (w.heap.size + 1) 0 (.int .i64 f.kind) (.string f.name) (.int .i64 f.n) (.slice sa3 f.scopes.length scap3) (.slice ra f.kids.length rc)) f (.agg #[.int .i64 f.kind, .string f.name, .int .i64 f.n, .slice sa3 f.scopes.length scap3, .slice ra f.kids.length rc]) := by
      have h1 := IntRow.later (w := w3) (w' := set5 (w3.setCell ⟨w.heap.size, 4, none⟩ (.slice ra f.kids.length rc)) (w.heap.size + 1) 0 (.int .i64 f.kind) (.string f.name) (.int .i64 f.n) (.slice sa3 f.scopes.length scap3) (.slice ra f.kids.length rc)) (fun q hq => hbk q (by have := hq.1; omega) (by have := hq.1; omega)) HI3.out
      have h2 := FormsIn.later (w := w3) (w' := set5 (w3.setCell ⟨w.heap.size, 4, none⟩ (.slice ra f.kids.length rc)) (w.heap.size + 1) 0 (.int .i64 f.kind) (.string f.name) (.int .i64 f.n) (.slice sa3 f.scopes.length scap3) (.slice ra f.kids.length rc)) (fun q hq => hbk q (by have := hq.1; omega) (by have := hq.1; omega)) HF3.out
      rw [hz5]
      exact inV_parts HBD.out (h1.mono (fun q hq => ⟨by have := hq.1; omega, hq.2⟩)) (FormsIn.mono (fun q hq => ⟨by have := hq.1; omega, hq.2⟩) h2)
    have HFIN := Lib.hid hfin
    have HBE := Lib.hid hbe
    unfold set5 at z0 z1 z2 z3 z4
    simp only [Nat.zero_add] at z0 z1 z2 z3 z4
    refine bodyPost_ret (v := .agg #[.int .i64 f.kind, .string f.name, .int .i64 f.n, .slice sa3 f.scopes.length scap3, .slice ra f.kids.length rc]) (by simp [results, Try.results68, go_sem, z0, z1, z2, z3, z4]) rfl ?_
    have h1 := HFIN.out
    have h2 := HBE.out
    unfold set5 at h1 h2
    simp only [Nat.zero_add] at h1 h2
    exact ⟨sa3, scap3, ra, rc, rfl, h1, h2⟩
end Go.Proofs.Ytbbihbapmbjbgaa
