/- The contracts of the model's copies of bindings. -/
import Derived.Test.YtcckhcedfmadeaaOwnB
import Derived.Test.YtcckhcedfmadeaaCopyDress
import Derived.Test.YtcckhcedfmadeaaNameIs
import Derived.Test.YtcckhcedfmadeaaValid
namespace Go.Proofs.Ytcckhcedfmadeaa
open Go.RowKit
set_option linter.unusedVariables false
set_option linter.unusedSimpArgs false
/-- the scopes of a form that reads -/
theorem InV.ints {φ : Nat → Prop} {w : World} {g : Fm} {c0 c1 c2 c3 c4 : Value} (h : InV φ w g (.agg #[c0, c1, c2, c3, c4])) : IntRow φ w c3 g.scopes := by
  obtain ⟨k, nm, n, sc, ks⟩ := g
  unfold InV at h
  obtain ⟨vs, a, cap, he, _, _, _, hvs, _⟩ := h
  injection he with he
  injection he with he
  simp only [List.cons.injEq, and_true] at he
  obtain ⟨rfl, rfl, rfl, rfl, rfl⟩ := he
  exact hvs
/-- the walk stops here -/
def Halt (p : Prop) : Prop := p
theorem halt_of {p : Prop} (h : Halt p) : p := h
/-- bindings as they lie in a row -/
def BdVals (φ : Nat → Prop) (w : World) : List Bd → List Value → Prop
  | [], xs => xs = []
  | x :: r, xs => ∃ sa scap t, xs = .string x.name :: .slice sa x.scopes.length scap :: .int .i64 x.id :: t ∧ IntRow φ w (.slice sa x.scopes.length scap) x.scopes ∧ BdVals φ w r t
theorem BdVals.keep {φ ψ : Nat → Prop} {w w' : World} (hs : Same φ w w') (hm : ∀ k, φ k → ψ k) : ∀ {l : List Bd} {xs : List Value}, BdVals φ w l xs → BdVals ψ w' l xs
  | [], _, h => h
  | x :: r, _, h => by
    obtain ⟨sa, scap, t, e, h1, h2⟩ := h
    exact ⟨sa, scap, t, e, (h1.later hs).mono hm, BdVals.keep hs hm h2⟩
theorem BdVals.snoc {φ : Nat → Prop} {w : World} {x : Bd} {sa : Option Addr} {scap : Nat} (hx : IntRow φ w (.slice sa x.scopes.length scap) x.scopes) : ∀ {l : List Bd} {xs : List Value}, BdVals φ w l xs →
    BdVals φ w (l ++ [x]) (xs ++ [.string x.name, .slice sa x.scopes.length scap, .int .i64 x.id])
  | [], xs, h => by
    have h : xs = [] := h
    subst h
    exact ⟨sa, scap, [], rfl, hx, rfl⟩
  | y :: r, xs, h => by
    obtain ⟨sb, sbcap, t, rfl, h1, h2⟩ := h
    exact ⟨sb, sbcap, _, rfl, h1, BdVals.snoc hx h2⟩
theorem BdVals.row {φ : Nat → Prop} {w : World} {b : Nat} : ∀ {l : List Bd} {xs : List Value} {off : Nat}, BdVals φ w l xs → (∀ j u, xs[j]? = some u → w.cell? ⟨b, off + j, none⟩ = some u) → ∀ i, (h : i < l.length) → BdAt φ w b (off + i * 3) l[i]
  | x :: r, xs, off, h, hc, 0, _ => by
    obtain ⟨sa, scap, t, rfl, h1, h2⟩ := h
    exact ⟨sa, scap, by simpa using hc 0 _ rfl, by simpa using hc 1 _ rfl, by simpa using hc 2 _ rfl, h1⟩
  | x :: r, xs, off, h, hc, i + 1, hi => by
    obtain ⟨sa, scap, t, rfl, h1, h2⟩ := h
    have := BdVals.row (off := off + 3) h2 (fun j u hj => by
      have := hc (j + 3) u (by simpa using hj)
      rw [show off + (j + 3) = off + 3 + j by omega] at this
      exact this) i (by simpa using hi)
    rw [show off + (i + 1) * 3 = off + 3 + i * 3 by omega]
    exact this
/-- a row of bindings that is built -/
structure BdMid (T : TypeId) (base : Nat) (wr : World) (l : List Bd) (v : Value) (xs : List Value) : Prop where
  own : wr.ownsRow base T 3 v l.length xs
  vals : BdVals (fun k => base ≤ k ∧ k < wr.heap.size ∧ v.ownBlock ≠ some k) wr l xs
theorem BdMid.keep {T : TypeId} {base : Nat} {wr w' : World} {l : List Bd} {v : Value} {xs : List Value} (h : BdMid T base wr l v xs) (hs : ∀ k, base ≤ k → k < wr.heap.size → w'.heap[k]? = wr.heap[k]?) (hz : wr.heap.size ≤ w'.heap.size) : BdMid T base w' l v xs :=
  ⟨ownsRow_same h.own fun k e => hs k (h.own.lt k e).1 (h.own.lt k e).2, h.vals.keep (fun k hk => hs k hk.1 hk.2.1) fun k hk => ⟨hk.1, by omega, hk.2.2⟩⟩
theorem BdMid.step {T : TypeId} {base : Nat} {wr w2 w3 : World} {l : List Bd} {v : Value} {xs : List Value} {x : Bd} {sa : Option Addr} {scap gq qd : Nat} (h : BdMid T base wr l v xs) (hbase : base ≤ wr.heap.size)
    (hbA : ∀ k, base ≤ k → k < wr.heap.size → w2.heap[k]? = wr.heap[k]?) (hz : wr.heap.size ≤ w2.heap.size) (hx : IntRow (fun k => base ≤ k ∧ k < w2.heap.size ∧ v.ownBlock ≠ some k) w2 (.slice sa x.scopes.length scap) x.scopes)
    (hown : w3.ownsRow base T 3 (.slice (some ⟨gq, 0, none⟩) (l.length + 1) qd) (l.length + 1) (xs ++ [.string x.name, .slice sa x.scopes.length scap, .int .i64 x.id])) (hgrow : w2.grownBy w3 v.ownBlock) (hat : v.ownBlock = some gq ∨ gq = w2.heap.size) :
    BdMid T base w3 (l ++ [x]) (.slice (some ⟨gq, 0, none⟩) (l.length + 1) qd) (xs ++ [.string x.name, .slice sa x.scopes.length scap, .int .i64 x.id]) := by
  have hs23 := hgrow.size
  have hvb : ∀ k, v.ownBlock = some k → base ≤ k ∧ k < wr.heap.size := fun k e => h.own.lt k e
  have hgqv : ∀ k, k < w2.heap.size → v.ownBlock ≠ some k → (Value.slice (some ⟨gq, 0, none⟩) (l.length + 1) qd).ownBlock ≠ some k := fun k hk hv e => by
    simp only [Value.ownBlock, Option.some.injEq] at e
    subst e
    rcases hat with e | e
    · exact hv e
    · omega
  refine ⟨by rw [List.length_append, List.length_singleton]; exact hown, ?_⟩
  refine BdVals.snoc ((hx.later (w' := w3) ?_).mono ?_) (h.vals.keep ?_ ?_)
  · rintro k ⟨k1, k2, k3⟩
    exact hgrow.block k k2 (Ne.symm k3)
  · rintro k ⟨k1, k2, k3⟩
    exact ⟨k1, by omega, hgqv k k2 k3⟩
  · rintro k ⟨k1, k2, k3⟩
    exact (hgrow.block k (by omega) (Ne.symm k3)).trans (hbA k k1 k2)
  · rintro k ⟨k1, k2, k3⟩
    exact ⟨k1, by omega, hgqv k (by omega) k3⟩
theorem BdMid.lower {T : TypeId} {base base' : Nat} {wr : World} {l : List Bd} {v : Value} {xs : List Value} (h : BdMid T base wr l v xs) (hb : base' ≤ base) : BdMid T base' wr l v xs :=
  ⟨ownsRow_lo h.own hb, h.vals.keep (fun _ _ => rfl) fun k hk => ⟨by omega, hk.2⟩⟩
theorem BdMid.ends {T : TypeId} {base : Nat} {wr : World} {l : List Bd} {v : Value} {xs : List Value} (h : BdMid T base wr l v xs) (hwf : ∀ x ∈ l, x.wf) : BdRow (fun k => base ≤ k ∧ k < wr.heap.size) wr v l := by
  rcases h.own.2 with ⟨e, h0⟩ | ⟨g, cp, cur, e, hb, hg, hnc, hcm, _⟩
  · exact ⟨none, 0, by rw [e, h0], by omega, Nat.zero_le _, hwf, .inl (List.length_eq_zero_iff.1 h0)⟩
  · refine ⟨some ⟨g, 0, none⟩, cp, e, hnc, hcm, hwf, .inr ⟨g, 0, rfl, ⟨hb, (Array.getElem?_eq_some_iff.1 hg).1⟩, ?_⟩⟩
    refine BdVals.row (h.vals.keep (fun _ _ => rfl) fun k hk => ⟨hk.1, hk.2.1⟩) fun j u hj => ?_
    have := h.own.cells (g := g) (by rw [e]; rfl) j u hj
    unfold Addr.add at this
    split at this <;> simp_all
theorem Try.infoBd3 : (Try.prog.info? 89).map (fun i => (i.zero, i.size, i.bytes)) = some (some (.agg #[.string ByteArray.empty, .slice none 0 0, .int .i64 0]), 3, 48) := by kernel_rfl
set_option maxRecDepth 100000 in
set_option maxHeartbeats 1000000 in
theorem l3Is_any (f : Fm) (v : Value) (w : World) (hv : InV (· < w.heap.size) w f v) (hc : f.count ≤ 1048577) :
    Calls Try.prog 86 #[v] w fun e w' => e = .returned (.bool (f.kind == 1 && formB f)) ∧ Below w.heap.size w w' := by
  have HV := Lib.hid hv
  obtain ⟨sa, scap, a, cap, rfl⟩ := hv.form
  clear hv
  cases hk : (f.kind == 1) with
  | false =>
    go_enter Try.func86, Try.ntmps86
    go_wp2_with fail
    go_ret
    exact ⟨rfl, below_alloc w _⟩
  | true =>
    go_enter Try.func86, Try.ntmps86
    go_wp2_with fail
    refine (specFormValid_any w.heap.size f _ _ (by simp) (InV.later (same_below (below_alloc _ _)) _ _ HV.out) (by omega)).mono ?_
    rintro e w1 ⟨rfl, hb1⟩
    have HB1 : Hid (Below w.heap.size w w1) := (below_alloc w _).trans (hb1.mono (by simp))
    clear hb1
    go_wp2_with fail
    go_ret
    exact ⟨by simp, HB1.out⟩
/-- what a copy of bindings leaves -/
def CopyBPost (T : TypeId) (l : List Bd) (w : World) (e : Ending) (w' : World) : Prop :=
  ∃ v xs, e = .returned v ∧ BdMid T w.heap.size w' l v xs ∧ Below w.heap.size w w'
set_option maxRecDepth 100000 in
set_option maxHeartbeats 2000000 in
theorem l3Copy_any (B : Nat) (l : List Bd) (v : Value) (w : World) (hB : B ≤ w.heap.size) (hv : BdRow (· < B) w v l) (hsc : ∀ x ∈ l, x.scopes.length ≤ 1048576) (hlen : l.length ≤ 1048576) :
    Calls Try.prog 87 #[v] w (CopyBPost 89 l w) := by
  obtain ⟨a, cap, rfl, hcap, hmax, hwf, hrow⟩ := hv
  have HROW := Lib.hid hrow
  have HSC := Lib.hid hsc
  unfold maxLen at hmax
  obtain ⟨i0, hi0, hz0, hz1, hz2⟩ := info_parts Try.infoBd3
  obtain ⟨l0, hl0, hlz0, hlz1, hlz2⟩ := info_parts Try.infoInt
  clear hrow hsc hwf
  go_enter Try.func87, Try.ntmps87
  go_wp2_with fail
  have HM0 : Hid (BdMid 89 w.heap.size (w.alloc (.cells #[] 89)) [] (.slice (some ⟨w.heap.size, 0, none⟩) 0 0) []) :=
    ⟨World.ownsRow_lit (base := w.heap.size) (e := 89) (size := 3) w #[] 0 (by simp) (by unfold maxLen; omega) (by simp), rfl⟩
  go_loopw [3, 4, 5] (fun v i _ wr => ∃ (j : Nat) (xs : List Value), i = .int .i64 j ∧ j ≤ l.length ∧ BdMid 89 w.heap.size wr (l.take j) v xs ∧ Below w.heap.size w wr) (fun _ i _ _ => l.length - (intOf i).toNat)
  case atStart => exact ⟨0, [], rfl, Nat.zero_le _, by simpa using HM0.out, below_alloc w _⟩
  case round =>
    obtain ⟨j, xs, rfl, hj, hm, hb⟩ := hrel
    have HM := Lib.hid hm
    have HBW := Lib.hid hb
    have hsz := hb.size
    clear hm
    by_cases hlt : j < l.length
    · rcases HROW.out with h0 | ⟨b, off, rfl, hbB, hcells⟩
      · exfalso; rw [h0] at hlt; simp at hlt
      · obtain ⟨sa, scap, c0, c1, c2, hr⟩ := (hcells j hlt).later hbB (same_below (hb.mono hB))
        obtain ⟨x, hx⟩ : ∃ x, l[j] = x := ⟨_, rfl⟩
        rw [hx] at c0 c1 c2 hr
        have HX := Lib.hid hx
        have HR := Lib.hid hr
        have hxl : x.scopes.length ≤ 1048576 := by rw [← hx]; exact HSC.out _ (List.getElem_mem hlt)
        have hjI : (j : Int) < (l.length : Int) := by omega
        have hj0 : (0 : Int) ≤ (j : Int) := by omega
        have hbl : b < wr.heap.size := by omega
        have hlj : (l.take j).length = j := by rw [List.length_take]; omega
        have HLJ := Lib.hid hlj
        have hown := HM.out.own
        rw [hlj] at hown
        obtain ⟨va, vc, rfl⟩ : ∃ va vc, u3 = .slice va j vc := by
          rcases hown.2 with ⟨h, h0⟩ | ⟨g, cp, _, h, _⟩
          · exact ⟨none, 0, by rw [h, h0]⟩
          · exact ⟨_, cp, h⟩
        have HOWN := Lib.hid hown
        have hL1 : j + 1 ≤ maxLen := by unfold maxLen; omega
        have hL2 : (j + 1) * 48 ≤ 140737488355328 := by omega
        have hbA : Below wr.heap.size wr ((wr.alloc (.cells #[.string x.name, .slice sa x.scopes.length scap, .int .i64 x.id] 89)).alloc (.cells #[] 3)) := (below_alloc wr _).alloc (by simp) _
        have HBA := Lib.hid hbA
        have HR2 := Lib.hid (IntRow.later (Same.of_below hbA (fun k (hk : k < B) => by omega)) HR.out)
        have hownE : ((wr.alloc (.cells #[.string x.name, .slice sa x.scopes.length scap, .int .i64 x.id] 89)).alloc (.cells #[] 3)).ownsRow (wr.heap.size + 1) 3 1 (.slice (some ⟨wr.heap.size + 1, 0, none⟩) 0 0) 0 [] := by
          have := World.ownsRow_lit (base := wr.heap.size + 1) (e := 3) (size := 1) (wr.alloc (.cells #[.string x.name, .slice sa x.scopes.length scap, .int .i64 x.id] 89)) #[] 0 (by simp) (by unfold maxLen; omega) (by simp)
          rw [size_alloc'] at this
          exact this
        have HOE := Lib.hid hownE
        have hbox0 : ∀ i, ((wr.alloc (.cells #[.string x.name, .slice sa x.scopes.length scap, .int .i64 x.id] 89)).alloc (.cells #[] 3)).cell? ⟨wr.heap.size, i, none⟩ = (#[.string x.name, .slice sa x.scopes.length scap, .int .i64 x.id] : Array Value)[i]? := fun i =>
          ((below_alloc _ _).cell (p := ⟨wr.heap.size, i, none⟩) (by simp)).trans (World.cell?_alloc_at _ _ _ _ rfl)
        have HBOX := Lib.hid hbox0
        clear hcells hr hx hb hown hbA hownE hbox0
        go_wp2_with (at_builtin; refine wpList_append_ints2 rfl _ _ 23 3 rfl l0 Try.underlying23 hl0 hlz0 hlz1 hlz2 (wr.heap.size + 1) (wr.heap.size + 1) x.scopes sa scap _ rfl rfl HR2.out hxl HOE.out (by simp) ?_; intro sa3 scap3 w3 hg3 hi3 hq3; refine halt_of ?_)
        have hg3s := hg3.size
        rw [size_alloc', size_alloc'] at hg3s
        have hb3 : w3.heap[wr.heap.size]? = ((wr.alloc (.cells #[.string x.name, .slice sa x.scopes.length scap, .int .i64 x.id] 89)).alloc (.cells #[] 3)).heap[wr.heap.size]? := hg3.block _ (by simp; omega) (by simp)
        have k0 : w3.cell? ⟨wr.heap.size, 0, none⟩ = some (.string x.name) := (World.cell?_of_block (a := ⟨wr.heap.size, 0, none⟩) hb3).trans (HBOX.out 0)
        have k1 : w3.cell? ⟨wr.heap.size, 1, none⟩ = some (.slice sa x.scopes.length scap) := (World.cell?_of_block (a := ⟨wr.heap.size, 1, none⟩) hb3).trans (HBOX.out 1)
        have k2 : w3.cell? ⟨wr.heap.size, 2, none⟩ = some (.int .i64 x.id) := (World.cell?_of_block (a := ⟨wr.heap.size, 2, none⟩) hb3).trans (HBOX.out 2)
        have kf : w3.frozen? ⟨wr.heap.size, 1, none⟩ = false := by
          rw [World.frozen?_of_block (a := ⟨wr.heap.size, 1, none⟩) hb3, (below_alloc _ _).frozen (p := ⟨wr.heap.size, 1, none⟩) (by simp)]
          exact World.frozen?_alloc_at _ _ _ _ rfl
        obtain ⟨w4, hw4⟩ : ∃ w4, w4 = w3.setCell ⟨wr.heap.size, 1, none⟩ (.slice sa3 x.scopes.length scap3) := ⟨_, rfl⟩
        have hz4 : w4.heap.size = w3.heap.size := by rw [hw4]; simp [World.setCell]
        have m0 : w4.cell? ⟨wr.heap.size, 0, none⟩ = some (.string x.name) := by rw [hw4]; exact (World.cell?_setCell_other _ _ _ _ (addr_ne (by omega))).trans k0
        have m1 : w4.cell? ⟨wr.heap.size, 1, none⟩ = some (.slice sa3 x.scopes.length scap3) := by rw [hw4]; exact World.cell?_setCell_same _ _ _ k1
        have m2 : w4.cell? ⟨wr.heap.size, 2, none⟩ = some (.int .i64 x.id) := by rw [hw4]; exact (World.cell?_setCell_other _ _ _ _ (addr_ne (by omega))).trans k2
        have hold4 : ∀ k, k < wr.heap.size → w4.heap[k]? = wr.heap[k]? := fun k hk => by
          rw [hw4, Below.heap_setCell _ _ _ _ (show k ≠ wr.heap.size by omega), hg3.block k (by simp; omega) (by simp; omega)]
          exact HBA.out.block k hk
        have hb4 : Below wr.heap.size wr w4 := ⟨by rw [hw4]; exact hg3.os.trans HBA.out.os, by rw [hw4]; exact hg3.tape.trans HBA.out.tape, by rw [hw4]; exact hg3.output.trans HBA.out.output, by omega, hold4⟩
        have hown4 : w4.ownsRow w.heap.size 89 3 (.slice va j vc) j xs := ownsRow_same HOWN.out fun k e => hold4 k (HOWN.out.lt k e).2
        have hi4 : IntRow (fun k => wr.heap.size ≤ k ∧ k < w4.heap.size) w4 (.slice sa3 x.scopes.length scap3) x.scopes := by
          refine (hi3.later (w' := w4) (fun k hk => ?_)).mono (fun k hk => ?_)
          · rw [hw4]
            exact Below.heap_setCell _ _ _ _ (by
              show k ≠ wr.heap.size
              rcases hk.1 with h | h
              · omega
              · rw [size_alloc', size_alloc'] at h; omega)
          · rw [hz4]
            rcases hk.1 with h | h
            · exact ⟨by omega, hk.2⟩
            · rw [size_alloc', size_alloc'] at h
              exact ⟨by omega, hk.2⟩
        have HB4 := Lib.hid hb4
        have HI4 := Lib.hid hi4
        have HW4 := Lib.hid hw4
        unfold Halt
        clear hg3 hi3 hq3 hb3 hold4 hb4 hi4
        rw [hw4] at m0 m1 m2
        clear hw4
        go_wp2_with (at_builtin; rw [← HW4.out]; (refine wpList_append_lies _ rfl _ _ 38 rfl w.heap.size 89 i0 _ 3 48 Try.underlying38 hi0 hz0 hz1 hz2 rfl (by decide) _ _ _ rfl (hown4.alloc _) ⟨w3.heap.size, 0, none⟩ 1 1 [.string x.name, .slice sa3 x.scopes.length scap3, .int .i64 x.id] rfl rfl (by rw [← hz4]; exact World.news_of_block (cs := #[.string x.name, .slice sa3 x.scopes.length scap3, .int .i64 x.id]) (t := 89) (fr := (0, 0)) (heap_alloc_new w4 _)) (by simp [Value.oneCell']) (by omega) hL1 hL2 (by simp; omega) (w4.heap.size + 1) (by simp) ?_); intro gg qcap w5 hown1 hgrow hat hlt4; have HOWN1 := Lib.hid hown1; have HGROW := Lib.hid hgrow; have HAT := Lib.hid hat; clear hown1 hgrow hat)
        have HNEXT : Hid (BdMid 89 w.heap.size w5 (l.take j ++ [x]) (.slice (some ⟨gg, 0, none⟩) (j + 1) qcap) (xs ++ [.string x.name, .slice sa3 x.scopes.length scap3, .int .i64 x.id]) ∧ Below w.heap.size w w5) := by
          have hA := below_alloc w4 (.cells #[.string x.name, .slice sa3 x.scopes.length scap3, .int .i64 x.id] 89)
          have hgs := HGROW.out.size
          rw [size_alloc'] at hgs
          have h1 := HM.out.step (x := x) (sa := sa3) (scap := scap3) (w2 := w4.alloc (.cells #[.string x.name, .slice sa3 x.scopes.length scap3, .int .i64 x.id] 89)) (w3 := w5) (gq := gg) (qd := qcap) hsz
            (fun k _ hk => (hA.block k (by have := HB4.out.size; omega)).trans (HB4.out.block k hk)) (by have := HB4.out.size; simp; omega) ((HI4.out.later (Same.of_below hA fun k hk => hk.2)).mono fun k hk => ⟨by omega, by simp; omega, fun e => by have := HM.out.own.lt k e; omega⟩)
            (by rw [HLJ.out]; exact HOWN1.out) HGROW.out (HAT.out.imp (fun h => h) (fun h => by simpa using h))
          rw [HLJ.out] at h1
          refine ⟨h1, HBW.out.trans ((HB4.out.trans (hA.mono (by have := HB4.out.size; omega))).mono hsz |>.grown HGROW.out (by simp; have := HB4.out.size; omega) (fun k hk => (HOWN.out.lt k hk).1))⟩
        clear HOWN1 HGROW HAT hown4
        go_wp2_with fail
        go_roundw
        case rel => exact ⟨j + 1, _, by go_num, by omega, by rw [List.take_succ_eq_append_getElem hlt, HX.out]; exact HNEXT.out.1, HNEXT.out.2⟩
        case measure => simp [intOf]; omega
    · obtain rfl : j = l.length := by omega
      have hm := HM.out
      rw [List.take_length] at hm
      have HE := Lib.hid hm
      clear hm hb
      obtain ⟨va, vc, rfl⟩ : ∃ va vc, u3 = .slice va l.length vc := by
        rcases HE.out.own.2 with ⟨h, h0⟩ | ⟨g, cp, _, h, _⟩
        · exact ⟨none, 0, by rw [h, h0]⟩
        · exact ⟨_, cp, h⟩
      go_wp2_with fail
      go_ret
      exact ⟨_, xs, rfl, HE.out, HBW.out⟩
end Go.Proofs.Ytcckhcedfmadeaa
