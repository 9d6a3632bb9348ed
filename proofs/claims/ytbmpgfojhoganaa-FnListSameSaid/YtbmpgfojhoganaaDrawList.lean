/- The contract of the model's draw of a list of forms. -/
import Derived.Test.YtbmpgfojhoganaaDrawForm
import Derived.Test.YtbmpgfojhoganaaDrawMut
import Derived.Test.YtbmpgfojhoganaaOpenBy
import Derived.Test.YtbmpgfojhoganaaDrawPick
namespace Go.Proofs.Ytbmpgfojhoganaa
open Go.RowKit
set_option linter.unusedVariables false
set_option linter.unusedSimpArgs false
/-- between two rounds of the draw of a list -/
structure ListMid (T : TypeId) (B b : Nat) (w wr : World) (base q : Nat) (gs : List Fm) (v : Value) (xs : List Value) : Prop where
  own : wr.ownsRow base T 5 v gs.length xs
  vals : RowVals (fun k => base ≤ k ∧ k < wr.heap.size ∧ v.ownBlock ≠ some k) wr gs xs
  kept : Kept b 1 2 w wr
  rd : Rd B wr b q
  fix : b < base ∧ base ≤ wr.heap.size ∧ b < w.heap.size ∧ w.heap.size ≤ base
theorem ListMid.step {T : TypeId} {B b : Nat} {w wr w1 w2 w3 : World} {base q q' : Nat} {gs : List Fm} {v : Value} {xs : List Value} {g : Fm} {d0 d1 d2 d3 d4 : Value} {gq qd : Nat}
    (h : ListMid T B b w wr base q gs v xs) (hk1 : Kept b 1 2 wr w1) (hr1 : Rd B w1 b q') (hbA : Below w1.heap.size w1 w2) (hin : InV (fun k => wr.heap.size ≤ k ∧ k < w1.heap.size) w1 g (.agg #[d0, d1, d2, d3, d4]))
    (hown : w3.ownsRow base T 5 (.slice (some ⟨gq, 0, none⟩) (gs.length + 1) qd) (gs.length + 1) (xs ++ [d0, d1, d2, d3, d4])) (hgrow : w2.grownBy w3 v.ownBlock) (hat : v.ownBlock = some gq ∨ gq = w2.heap.size) :
    ListMid T B b w w3 base q' (gs ++ [g]) (.slice (some ⟨gq, 0, none⟩) (gs.length + 1) qd) (xs ++ [d0, d1, d2, d3, d4]) := by
  obtain ⟨f1, f2, f3, f4⟩ := h.fix
  have hs01 := hk1.size
  have hs12 := hbA.size
  have hs23 := hgrow.size
  have hvb : ∀ k, v.ownBlock = some k → base ≤ k ∧ k < wr.heap.size := fun k e => h.own.lt k e
  have hold3 : ∀ k, k < wr.heap.size → k ≠ b → v.ownBlock ≠ some k → w3.heap[k]? = wr.heap[k]? := fun k h1 h2 h3 => by
    rw [hgrow.block k (by omega) (Ne.symm h3), hbA.block k (by omega)]
    exact hk1.block k h1 h2
  have hlow : ∀ k, k < base → v.ownBlock ≠ some k := fun k hk e => by have := hvb k e; omega
  have hgqv : ∀ k, k < w2.heap.size → v.ownBlock ≠ some k → (Value.slice (some ⟨gq, 0, none⟩) (gs.length + 1) qd).ownBlock ≠ some k := fun k hk hv e => by
    simp only [Value.ownBlock, Option.some.injEq] at e
    subst e
    rcases hat with e | e
    · exact hv e
    · omega
  have hBb := hr1.1
  have hr3 : Rd B w3 b q' := hr1.same fun k hk => by
    rw [hgrow.block k (by have := hr1.lt; omega) (fun e => by have := hvb k e.symm; omega)]
    exact hbA.block k (by have := hr1.lt; omega)
  have hb1 : w3.heap[b]? = w1.heap[b]? := by
    rw [hgrow.block b (by omega) (fun e => by have := hvb b e.symm; omega)]
    exact hbA.block b (by omega)
  have hk3 : Kept b 1 2 w w3 := ⟨hgrow.os.trans (hbA.os.trans (hk1.os.trans h.kept.os)), hgrow.tape.trans (hbA.tape.trans (hk1.tape.trans h.kept.tape)), hgrow.output.trans (hbA.output.trans (hk1.output.trans h.kept.output)), by have := h.kept.size; omega,
    fun k h1 h2 => (hold3 k (by have := h.kept.size; omega) h2 (hlow k (by omega))).trans (h.kept.block k h1 h2),
    fun o ho => (World.cell?_of_block (a := ⟨b, o, none⟩) hb1).trans ((hk1.cell o ho).trans (h.kept.cell o ho)), fun o => (World.frozen?_of_block (a := ⟨b, o, none⟩) hb1).trans ((hk1.frozen o).trans (h.kept.frozen o))⟩
  refine ⟨?_, ?_, hk3, hr3, f1, by omega, f3, f4⟩
  · rw [List.length_append, List.length_singleton]
    exact hown
  · refine RowVals.snoc (InV.mono ?_ _ _ (InV.later (w := w1) ?_ _ _ hin)) (h.vals.keep ?_ ?_)
    · rintro k ⟨k1, k2⟩
      exact ⟨by omega, by omega, hgqv k (by omega) (fun e => by have := hvb k e; omega)⟩
    · rintro k ⟨k1, k2⟩
      rw [hgrow.block k (by omega) (fun e => by have := hvb k e.symm; omega)]
      exact hbA.block k k2
    · rintro k ⟨k1, k2, k3⟩
      exact hold3 k k2 (by omega) k3
    · rintro k ⟨k1, k2, k3⟩
      exact ⟨k1, by omega, hgqv k (by omega) k3⟩
theorem ListMid.ends {T : TypeId} {B b : Nat} {w wr : World} {base q : Nat} {gs : List Fm} {v : Value} {xs : List Value} (h : ListMid T B b w wr base q gs v xs) :
    ∃ a cap, v = .slice a gs.length cap ∧ FormsIn (fun k => base ≤ k ∧ k < wr.heap.size) wr a cap gs := by
  rcases h.own.2 with ⟨e, h0⟩ | ⟨g, cp, cur, e, hb, hg, hnc, hcm, _⟩
  · exact ⟨none, 0, by rw [e, h0], by omega, Nat.zero_le _, .inl (List.length_eq_zero_iff.1 h0)⟩
  · refine ⟨some ⟨g, 0, none⟩, cp, e, hnc, hcm, .inr ⟨g, 0, rfl, ⟨hb, (Array.getElem?_eq_some_iff.1 hg).1⟩, ?_⟩⟩
    refine RowVals.row (h.vals.keep (fun _ _ => rfl) fun k hk => ⟨hk.1, hk.2.1⟩) fun j u hj => ?_
    have := h.own.cells (g := g) (by rw [e]; rfl) j u hj
    unfold Addr.add at this
    split at this <;> simp_all
/-- what the draw of a list of forms leaves -/
def ListPost (w : World) (e : Ending) (w' : World) : Prop :=
  ∃ ks a cap, e = .returned (.slice a ks.length cap) ∧ FormsIn (fun k => w.heap.size ≤ k ∧ k < w'.heap.size) w' a cap ks ∧ ks.length ≤ 3 ∧ (∀ g ∈ ks, Slim 121 13 4 g) ∧ Below w.heap.size w w'
set_option maxRecDepth 100000 in
set_option maxHeartbeats 4000000 in
theorem drawListForm_any (v : Value) (n : Nat) (w : World) (h : Bytes w v n) : Calls Try.prog 21 #[v] w (ListPost w) := by
  obtain ⟨a, cap, rfl, hcap, hmax, hrow⟩ := h
  have HROW0 := Lib.hid hrow
  clear hrow
  go_enter Try.func21, Try.ntmps21
  go_wp2_with fail
  refine (open_any a n cap _ HROW0.out hcap hmax).mono ?_
  rintro e w1 ⟨b, rfl, hb, hrd, hbl⟩
  have hs1 : w.heap.size ≤ w1.heap.size := hbl.size
  have HB1 : Hid (Below w.heap.size w w1) := hbl
  have hbw := hrd.lt
  have HR1 := Lib.hid hrd
  clear hrd hbl
  go_wp2_with fail
  obtain ⟨w2, hw2⟩ : ∃ w2, w2 = w1.alloc (.cells #[] 26) := ⟨_, rfl⟩
  have hb2 : Below w1.heap.size w1 w2 := by rw [hw2]; exact below_alloc _ _
  have hs2 : w2.heap.size = w1.heap.size + 1 := by rw [hw2]; simp
  have hown2 : w2.ownsRow w1.heap.size 26 5 (.slice (some ⟨w1.heap.size, 0, none⟩) 0 0) 0 [] := by
    have := World.ownsRow_lit (base := w1.heap.size) (e := 26) (size := 5) w1 #[] 0 (by simp) (by unfold maxLen; omega) (by simp)
    rw [hw2]
    exact this
  rw [← hw2]
  have HOWN2 := Lib.hid hown2
  have HB2 := Lib.hid hb2
  have HR2 := Lib.hid (HR1.out.later hb2)
  clear hw2 hown2 hb2
  refine (pick_any b 0 4 _ HR2.out (by omega) (by omega) (by omega)).mono ?_
  rintro e w3 ⟨x, hx, rfl, hr3, hk3⟩
  have hs3 := hk3.size
  have hm0 : ListMid 26 w.heap.size b w1 w3 w1.heap.size (0 + 1) [] (.slice (some ⟨w1.heap.size, 0, none⟩) 0 0) [] :=
    ⟨ownsRow_same HOWN2.out fun k e => hk3.block k (by have := HOWN2.out.lt k e; omega) (by have := HOWN2.out.lt k e; omega), rfl, (Kept.of_below HB2.out hbw).trans hk3, hr3, hbw, by omega, hbw, Nat.le_refl _⟩
  have HM0 := Lib.hid hm0
  obtain ⟨i0, hi0, hz0, hz1, hz2⟩ := info_parts Try.infoFm
  have hP := pickS_four 2 (by omega)
  clear hm0 hr3 hk3 HR2 HOWN2 HB2
  go_wp2_with fail
  go_loopw [4, 5] (fun v i wr => ∃ (j : Nat) (gs : List Fm) (xs : List Value) (q : Nat), i = .int .i64 j ∧ j + gs.length = x ∧ (∀ g ∈ gs, Slim 121 13 4 g) ∧ q ≤ 1 + gs.length * 100 ∧
    ListMid 26 w.heap.size b w1 wr w1.heap.size q gs v xs) (fun _ i _ => (intOf i).toNat)
  case atStart => exact ⟨x, [], [], 0 + 1, rfl, by simp, fun g hg => (by cases hg), by simp, HM0.out⟩
  case round =>
    obtain ⟨j, gs, xs, q, rfl, hjx, hsl, hq, hm⟩ := hrel
    have HM := Lib.hid hm
    have HSL := Lib.hid hsl
    have HQ := Lib.hid hq
    have HJX := Lib.hid hjx
    have hgl : gs.length ≤ 3 := by omega
    obtain ⟨f1, f2, f3, f4⟩ := hm.fix
    clear hm hsl hjx
    by_cases hlt : 0 < j
    · have HW : Hid (wrap64 ((j : Int) - 1) = ((j - 1 : Nat) : Int)) := by
        have h := HJX.out
        unfold Hid wrap64
        omega
      have hj0 : (0 : Int) < (j : Int) := by omega
      have hL1 : gs.length + 1 ≤ maxLen := by unfold maxLen; omega
      have hL2 : (gs.length + 1) * 80 ≤ 140737488355328 := by omega
      go_wp2_with fail
      refine (l1Some_any 2 2 _ b q wr rfl (by omega) HM.out.rd (by have := HQ.out; omega)).mono ?_
      rintro e w4 ⟨f0, v0, p4, rfl, hin4, hsl4, hp4, hr4, hk4⟩
      have hs4 := hk4.size
      have HR4 := Lib.hid hr4
      have HSL4 : Hid (Slim 13 13 3 f0) := hsl4.mono (by decide) (Nat.le_refl _) (by omega)
      have hc0 : f0.count ≤ 13 := HSL4.out.1
      have HP4 : Hid (p4 ≤ q + 30) := hp4
      have HI4 : Hid (InV (· < w4.heap.size) w4 f0 v0) := InV.mono (fun k hk => hk.2) _ _ hin4
      have HK4 := Lib.hid hk4
      obtain ⟨sa0, scap0, a0, cap0, rfl⟩ := hin4.form
      clear hr4 hk4 hin4 hsl4 hp4
      go_wp2_with fail
      refine (l1Dress_aux f0.count f0 _ _ b p4 w4 (Nat.le_refl _) HR4.out (by have := HQ.out; have := HP4.out; omega) HI4.out (by have := HSL4.out.sz; omega) HSL4.out.2).mono ?_
      rintro e w5 ⟨f1', v5, p5, rfl, hin5, hdr, hp5, hr5, hk5⟩
      have hs5 := hk5.size
      have HSL5 : Hid (Slim 13 13 3 f1') := ⟨Nat.le_trans hdr.count hc0, hdr.slim⟩
      have hcf : f1'.count ≤ 13 := HSL5.out.1
      have HP5 : Hid (p5 ≤ q + 43) := by have := HP4.out; unfold Hid; omega
      have HR5 := Lib.hid hr5
      have HK5 : Hid (Kept b 1 2 wr w5) := HK4.out.trans hk5
      have HI5 : Hid (InV (· < w5.heap.size) w5 f1' v5) := InV.mono (fun k hk => hk.2) _ _ hin5
      obtain ⟨sa1, scap1, a1, cap1, rfl⟩ := hin5.form
      clear hr5 hk5 hin5 hdr hp5 HR4 HI4 HK4
      go_wp2_with fail
      refine (l1Mutate_any (k := 3) HR5.out (by have := HQ.out; have := HP5.out; omega) HI5.out (by have := HSL5.out.sz; omega) HSL5.out.2).mono ?_
      rintro e w6 ⟨G, v6, p6, rfl, hin6, hmu, hp6, hr6, hk6⟩
      have hs6 := hk6.size
      have HSL6 : Hid (Slim 121 13 4 G) := ⟨by have := hmu.count; omega, hmu.slim⟩
      have HP6 : Hid (p6 ≤ q + 100) := by have := HP5.out; unfold Hid; omega
      have HR6 := Lib.hid hr6
      have HK6 : Hid (Kept b 1 2 wr w6) := HK5.out.trans hk6
      obtain ⟨ksa, kscap, ka, kcap, rfl⟩ := hin6.form
      have HKV : Hid (InV (fun k => wr.heap.size ≤ k ∧ k < w6.heap.size) w6 G (.agg #[.int .i64 G.kind, .string G.name, .int .i64 G.n, .slice ksa G.scopes.length kscap, .slice ka G.kids.length kcap])) := InV.mono (fun k hk => by omega) _ _ hin6
      have hown6 : w6.ownsRow w1.heap.size 26 5 u4 gs.length xs := ownsRow_same HM.out.own fun k e => HK6.out.block k (HM.out.own.lt k e).2 (by have := HM.out.own.lt k e; omega)
      clear hr6 hk6 hin6 hmu hp6 HR5 HI5 HK5
      go_wp2_with (at_builtin; refine wpList_append_lies _ rfl _ _ 24 rfl w1.heap.size 26 i0 _ 5 80 Try.underlying24 hi0 hz0 hz1 hz2 rfl (by decide) _ _ _ rfl (hown6.alloc _) ⟨w6.heap.size, 0, none⟩ 1 1 [.int .i64 G.kind, .string G.name, .int .i64 G.n, .slice ksa G.scopes.length kscap, .slice ka G.kids.length kcap] rfl rfl (World.news_of_block (cs := #[.int .i64 G.kind, .string G.name, .int .i64 G.n, .slice ksa G.scopes.length kscap, .slice ka G.kids.length kcap]) (t := 26) (fr := (0, 0)) (heap_alloc_new w6 _)) (by simp [Value.oneCell']) (by omega) hL1 hL2 (by simp; omega) (w6.heap.size + 1) (by simp) ?_; intro gg qcap w7 hown1 hgrow hat hlt4; have HOWN1 := Lib.hid hown1; have HGROW := Lib.hid hgrow; have HAT := Lib.hid hat; clear hown1 hgrow hat)
      have HNEXT := Lib.hid (HM.out.step HK6.out HR6.out (below_alloc w6 (.cells #[.int .i64 G.kind, .string G.name, .int .i64 G.n, .slice ksa G.scopes.length kscap, .slice ka G.kids.length kcap] 26)) HKV.out HOWN1.out HGROW.out (HAT.out.imp (fun h => h) (fun h => by simpa using h)))
      clear HOWN1 HGROW HAT hown6
      go_wp2_with fail
      go_roundw
      case rel =>
        refine ⟨j - 1, gs ++ [G], xs ++ [.int .i64 G.kind, .string G.name, .int .i64 G.n, .slice ksa G.scopes.length kscap, .slice ka G.kids.length kcap], p6, by rw [HW.out], by have := HJX.out; rw [List.length_append, List.length_singleton]; omega, ?_, ?_, ?_⟩
        · intro g hg
          rcases List.mem_append.1 hg with hg | hg
          · exact HSL.out g hg
          · rw [List.mem_singleton] at hg
            subst hg
            exact HSL6.out
        · rw [List.length_append, List.length_singleton]
          have h1 := HQ.out
          have h2 := HP6.out
          omega
        · exact HNEXT.out
      case measure => rw [HW.out]; simp [intOf]; omega
    · obtain rfl : j = 0 := by omega
      obtain ⟨a2, cap2, rfl, hfi⟩ := HM.out.ends
      have HFI := Lib.hid hfi
      clear hfi
      go_wp2_with fail
      go_ret
      refine ⟨gs, a2, cap2, rfl, ?_, hgl, HSL.out, HB1.out.trans (HM.out.kept.below (by omega) (by omega))⟩
      refine ⟨HFI.out.1, HFI.out.2.1, ?_⟩
      rcases HFI.out.2.2 with h | ⟨b3, o3, h1, h2, h3⟩
      · exact .inl h
      · exact .inr ⟨b3, o3, h1, by omega, RowIn.mono (fun k hk => by omega) b3 o3 gs h3⟩
end Go.Proofs.Ytbmpgfojhoganaa
