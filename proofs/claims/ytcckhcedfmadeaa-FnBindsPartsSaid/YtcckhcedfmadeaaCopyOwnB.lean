/- The copy of bindings in the model, with rows of their own. -/
import Derived.Test.YtcckhcedfmadeaaSpecL3
namespace Go.Proofs.Ytcckhcedfmadeaa
open Go.RowKit
set_option linter.unusedVariables false
set_option linter.unusedSimpArgs false
/-- bindings in a row, each one's scopes in a row of its own -/
def BdValsO (U : TypeId) (w : World) (ob : Option Nat) : Nat → Nat → List Bd → List Value → Prop
  | lo, hi, [], xs => xs = [] ∧ lo ≤ hi
  | lo, hi, x :: r, xs => ∃ sa scap t mid, xs = .string x.name :: .slice sa x.scopes.length scap :: .int .i64 x.id :: t ∧ w.ownsRow lo U 1 (.slice sa x.scopes.length scap) x.scopes.length (x.scopes.map (Value.int .i64)) ∧
      (∀ q, (Value.slice sa x.scopes.length scap).ownBlock = some q → q < mid ∧ ob ≠ some q) ∧ lo ≤ mid ∧ BdValsO U w ob mid hi r t
theorem BdValsO.le {U : TypeId} {w : World} {ob : Option Nat} : ∀ {l : List Bd} {lo hi : Nat} {xs : List Value}, BdValsO U w ob lo hi l xs → lo ≤ hi
  | [], _, _, _, h => h.2
  | x :: r, lo, hi, xs, h => by
    obtain ⟨_, _, _, mid, _, _, _, h1, h2⟩ := h
    have := BdValsO.le h2
    omega
theorem BdValsO.keep {U : TypeId} {w w' : World} {ob ob' : Option Nat} : ∀ {l : List Bd} {lo hi : Nat} {xs : List Value}, (∀ q, lo ≤ q → q < hi → ob ≠ some q → w'.heap[q]? = w.heap[q]? ∧ ob' ≠ some q) → BdValsO U w ob lo hi l xs → BdValsO U w' ob' lo hi l xs
  | [], _, _, _, _, h => h
  | x :: r, lo, hi, xs, hs, h => by
    obtain ⟨sa, scap, t, mid, e, h1, h2, h3, h4⟩ := h
    have hle := BdValsO.le h4
    refine ⟨sa, scap, t, mid, e, ownsRow_same h1 fun q hq => (hs q (h1.lt q hq).1 (by have := (h2 q hq).1; omega) (h2 q hq).2).1, fun q hq => ⟨(h2 q hq).1, (hs q (h1.lt q hq).1 (by have := (h2 q hq).1; omega) (h2 q hq).2).2⟩, h3, BdValsO.keep (fun q hq => hs q (by omega)) h4⟩
theorem BdValsO.snoc {U : TypeId} {w : World} {ob : Option Nat} {x : Bd} {sa : Option Addr} {scap hi hi' : Nat} (h1 : w.ownsRow hi U 1 (.slice sa x.scopes.length scap) x.scopes.length (x.scopes.map (Value.int .i64)))
    (h2 : ∀ q, (Value.slice sa x.scopes.length scap).ownBlock = some q → q < hi' ∧ ob ≠ some q) (h3 : hi ≤ hi') : ∀ {l : List Bd} {lo : Nat} {xs : List Value}, BdValsO U w ob lo hi l xs →
    BdValsO U w ob lo hi' (l ++ [x]) (xs ++ [.string x.name, .slice sa x.scopes.length scap, .int .i64 x.id])
  | [], lo, xs, h => by
    obtain ⟨rfl, hl⟩ := h
    exact ⟨sa, scap, [], hi', rfl, ownsRow_lo h1 hl, h2, by omega, rfl, Nat.le_refl _⟩
  | y :: r, lo, xs, h => by
    obtain ⟨sb, sbcap, t, mid, rfl, g1, g2, g3, g4⟩ := h
    exact ⟨sb, sbcap, _, mid, rfl, g1, g2, g3, BdValsO.snoc h1 h2 h3 g4⟩
structure BdMidO (T U : TypeId) (base : Nat) (wr : World) (l : List Bd) (v : Value) (xs : List Value) : Prop where
  own : wr.ownsRow base T 3 v l.length xs
  vals : ∃ hi, BdValsO U wr v.ownBlock base hi l xs ∧ hi ≤ wr.heap.size
theorem BdMidO.step {T U : TypeId} {base : Nat} {wr w2 w3 : World} {l : List Bd} {v : Value} {xs : List Value} {x : Bd} {sa : Option Addr} {scap gq qd : Nat} (h : BdMidO T U base wr l v xs) (hbase : base ≤ wr.heap.size)
    (hbA : ∀ k, base ≤ k → k < wr.heap.size → w2.heap[k]? = wr.heap[k]?) (hz : wr.heap.size ≤ w2.heap.size) (hx : w2.ownsRow wr.heap.size U 1 (.slice sa x.scopes.length scap) x.scopes.length (x.scopes.map (Value.int .i64)))
    (hown : w3.ownsRow base T 3 (.slice (some ⟨gq, 0, none⟩) (l.length + 1) qd) (l.length + 1) (xs ++ [.string x.name, .slice sa x.scopes.length scap, .int .i64 x.id])) (hgrow : w2.grownBy w3 v.ownBlock) (hat : v.ownBlock = some gq ∨ gq = w2.heap.size) :
    BdMidO T U base w3 (l ++ [x]) (.slice (some ⟨gq, 0, none⟩) (l.length + 1) qd) (xs ++ [.string x.name, .slice sa x.scopes.length scap, .int .i64 x.id]) := by
  obtain ⟨hi, hv, hhi⟩ := h.vals
  have hs23 := hgrow.size
  have hvb : ∀ k, v.ownBlock = some k → base ≤ k ∧ k < wr.heap.size := fun k e => h.own.lt k e
  have hne : ∀ q, q < w2.heap.size → v.ownBlock ≠ some q → (Value.slice (some ⟨gq, 0, none⟩) (l.length + 1) qd).ownBlock ≠ some q := fun q hq hv e => by
    simp only [Value.ownBlock, Option.some.injEq] at e
    subst e
    rcases hat with e | e
    · exact hv e
    · omega
  have hxn : ∀ q, (Value.slice sa x.scopes.length scap).ownBlock = some q → v.ownBlock ≠ some q := fun q hq e => by
    have h1 := hx.lt q hq
    have h2 := hvb q e
    omega
  refine ⟨by rw [List.length_append, List.length_singleton]; exact hown, w2.heap.size, BdValsO.snoc (hi := hi) ?_ ?_ (by omega) (hv.keep fun q h1 h2 h3 => ⟨?_, hne q (by omega) h3⟩), hs23⟩
  · exact ownsRow_lo (ownsRow_same hx fun q hq => hgrow.block q (hx.lt q hq).2 (Ne.symm (hxn q hq))) hhi
  · exact fun q hq => ⟨(hx.lt q hq).2, hne q (hx.lt q hq).2 (hxn q hq)⟩
  · exact (hgrow.block q (by omega) (Ne.symm h3)).trans (hbA q h1 (by omega))
/-- a row of its own reads as a row of numbers -/
theorem ownsRow_introw {φ : Nat → Prop} {T : TypeId} {w : World} {lo scap : Nat} {sa : Option Addr} {sc : List Int} (h : w.ownsRow lo T 1 (.slice sa sc.length scap) sc.length (sc.map (Value.int .i64)))
    (hb : ∀ n ∈ sc, -9223372036854775808 ≤ n ∧ n ≤ 9223372036854775807) (hφ : ∀ q, (Value.slice sa sc.length scap).ownBlock = some q → φ q) : IntRow φ w (.slice sa sc.length scap) sc := by
  rcases h.2 with ⟨e, h0⟩ | ⟨g, cp, _, e, _⟩
  · exact ⟨sa, scap, rfl, by omega, by injection e with _ _ e3; subst e3; unfold maxLen; omega, hb, .inl (List.length_eq_zero_iff.1 h0)⟩
  · injection e with e1 _ e3
    subst e1 e3
    exact (ownsRow_ints h hb).inRow (fun c hc => by
      rw [List.mem_singleton] at hc
      subst hc
      exact hφ _ rfl)
theorem BdValsO.vals {φ : Nat → Prop} {U : TypeId} {w : World} {ob : Option Nat} : ∀ {l : List Bd} {lo hi : Nat} {xs : List Value}, (∀ q, lo ≤ q → q < hi → ob ≠ some q → φ q) → (∀ x ∈ l, ∀ n ∈ x.scopes, -9223372036854775808 ≤ n ∧ n ≤ 9223372036854775807) →
    BdValsO U w ob lo hi l xs → BdVals φ w l xs
  | [], _, _, _, _, _, h => h.1
  | x :: r, lo, hi, xs, hφ, hb, h => by
    obtain ⟨sa, scap, t, mid, e, h1, h2, h3, h4⟩ := h
    have hle := BdValsO.le h4
    exact ⟨sa, scap, t, e, ownsRow_introw h1 (hb x (by simp)) (fun q hq => hφ q (h1.lt q hq).1 (by have := (h2 q hq).1; omega) (h2 q hq).2), BdValsO.vals (fun q hq => hφ q (by omega)) (fun y hy => hb y (List.mem_cons_of_mem _ hy)) h4⟩
theorem BdMidO.mid {T U : TypeId} {base : Nat} {wr : World} {l : List Bd} {v : Value} {xs : List Value} (h : BdMidO T U base wr l v xs) (hb : ∀ x ∈ l, ∀ n ∈ x.scopes, -9223372036854775808 ≤ n ∧ n ≤ 9223372036854775807) : BdMid T base wr l v xs := by
  obtain ⟨hi, hv, hhi⟩ := h.vals
  exact ⟨h.own, hv.vals (fun q h1 h2 h3 => ⟨h1, by omega, h3⟩) hb⟩
/-- the k-th of them: what stands before, its own row, what stands behind -/
theorem BdValsO.at' {U : TypeId} {w : World} {ob : Option Nat} : ∀ {l : List Bd} {lo hi : Nat} {xs : List Value}, BdValsO U w ob lo hi l xs → ∀ k, (hk : k < l.length) →
    ∃ sa scap a b, lo ≤ a ∧ a ≤ b ∧ b ≤ hi ∧ xs[k * 3]? = some (.string l[k].name) ∧ xs[k * 3 + 1]? = some (.slice sa l[k].scopes.length scap) ∧ xs[k * 3 + 2]? = some (.int .i64 l[k].id) ∧
      w.ownsRow a U 1 (.slice sa l[k].scopes.length scap) l[k].scopes.length (l[k].scopes.map (Value.int .i64)) ∧ (∀ q, (Value.slice sa l[k].scopes.length scap).ownBlock = some q → q < b ∧ ob ≠ some q) ∧
      BdValsO U w ob lo a (l.take k) (xs.take (k * 3)) ∧ BdValsO U w ob b hi (l.drop (k + 1)) (xs.drop (k * 3 + 3))
  | x :: r, lo, hi, xs, h, 0, _ => by
    obtain ⟨sa, scap, t, mid, rfl, h1, h2, h3, h4⟩ := h
    exact ⟨sa, scap, lo, mid, Nat.le_refl _, h3, BdValsO.le h4, rfl, rfl, rfl, h1, h2, ⟨rfl, Nat.le_refl _⟩, by simpa using h4⟩
  | x :: r, lo, hi, xs, h, k + 1, hk => by
    obtain ⟨sa, scap, t, mid, rfl, h1, h2, h3, h4⟩ := h
    obtain ⟨sb, sbcap, a, b, g1, g2, g3, g4, g5, g6, g7, g8, g9, g10⟩ := BdValsO.at' h4 k (by simpa using hk)
    have e : (k + 1) * 3 = k * 3 + 3 := by omega
    refine ⟨sb, sbcap, a, b, by omega, g2, g3, ?_, ?_, ?_, g7, g8, ?_, ?_⟩
    · rw [e]; exact g4
    · rw [show (k + 1) * 3 + 1 = (k * 3 + 1) + 3 by omega]; exact g5
    · rw [show (k + 1) * 3 + 2 = (k * 3 + 2) + 3 by omega]; exact g6
    · rw [e]; exact ⟨sa, scap, t.take (k * 3), mid, rfl, h1, h2, h3, g9⟩
    · rw [show (k + 1) * 3 + 3 = (k * 3 + 3) + 3 by omega]; exact g10
/-- what the copy leaves -/
def CopyOPost (T U : TypeId) (l : List Bd) (w : World) (e : Ending) (w' : World) : Prop :=
  ∃ v xs, e = .returned v ∧ BdMidO T U w.heap.size w' l v xs ∧ Below w.heap.size w w'
set_option maxRecDepth 100000 in
set_option maxHeartbeats 2000000 in
theorem l3CopyO_any (B : Nat) (l : List Bd) (v : Value) (w : World) (hB : B ≤ w.heap.size) (hv : BdRow (· < B) w v l) (hsc : ∀ x ∈ l, x.scopes.length ≤ 1048576) (hlen : l.length ≤ 1048576) :
    Calls Try.prog 87 #[v] w (CopyOPost 89 3 l w) := by
  obtain ⟨a, cap, rfl, hcap, hmax, hwf, hrow⟩ := hv
  have HROW := Lib.hid hrow
  have HSC := Lib.hid hsc
  unfold maxLen at hmax
  obtain ⟨i0, hi0, hz0, hz1, hz2⟩ := info_parts Try.infoBd3
  obtain ⟨l0, hl0, hlz0, hlz1, hlz2⟩ := info_parts Try.infoInt
  clear hrow hsc hwf
  go_enter Try.func87, Try.ntmps87
  go_wp2_with fail
  have HM0 : Hid (BdMidO 89 3 w.heap.size (w.alloc (.cells #[] 89)) [] (.slice (some ⟨w.heap.size, 0, none⟩) 0 0) []) :=
    ⟨World.ownsRow_lit (base := w.heap.size) (e := 89) (size := 3) w #[] 0 (by simp) (by unfold maxLen; omega) (by simp), w.heap.size, ⟨rfl, Nat.le_refl _⟩, by simp⟩
  go_loopw [3, 4, 5] (fun v i _ wr => ∃ (j : Nat) (xs : List Value), i = .int .i64 j ∧ j ≤ l.length ∧ BdMidO 89 3 w.heap.size wr (l.take j) v xs ∧ Below w.heap.size w wr) (fun _ i _ _ => l.length - (intOf i).toNat)
  case atStart => exact ⟨0, [], rfl, Nat.zero_le _, by simpa using HM0.out, below_alloc w _⟩
  case round =>
    obtain ⟨j, xs, rfl, hj, hm, hb⟩ := hrel
    have HM := Lib.hid hm
    have HBW := Lib.hid hb
    have hsz := hb.size
    clear hm
    by_cases hlt : j < l.length
    · rcases HROW.out with h0 | ⟨b, off, rfl, hbB, hcells⟩
      · exfalso; rw [h0] at hlt; simp at hlt
      · obtain ⟨sa, scap, c0, c1, c2, hr⟩ := (hcells j hlt).later hbB (same_below (hb.mono hB))
        obtain ⟨x, hx⟩ : ∃ x, l[j] = x := ⟨_, rfl⟩
        rw [hx] at c0 c1 c2 hr
        have HX := Lib.hid hx
        have HR := Lib.hid hr
        have hxl : x.scopes.length ≤ 1048576 := by rw [← hx]; exact HSC.out _ (List.getElem_mem hlt)
        have hjI : (j : Int) < (l.length : Int) := by omega
        have hj0 : (0 : Int) ≤ (j : Int) := by omega
        have hbl : b < wr.heap.size := by omega
        have hlj : (l.take j).length = j := by rw [List.length_take]; omega
        have HLJ := Lib.hid hlj
        have hown := HM.out.own
        rw [hlj] at hown
        obtain ⟨va, vc, rfl⟩ : ∃ va vc, u3 = .slice va j vc := by
          rcases hown.2 with ⟨h, h0⟩ | ⟨g, cp, _, h, _⟩
          · exact ⟨none, 0, by rw [h, h0]⟩
          · exact ⟨_, cp, h⟩
        have HOWN := Lib.hid hown
        have hL1 : j + 1 ≤ maxLen := by unfold maxLen; omega
        have hL2 : (j + 1) * 48 ≤ 140737488355328 := by omega
        have hbA : Below wr.heap.size wr ((wr.alloc (.cells #[.string x.name, .slice sa x.scopes.length scap, .int .i64 x.id] 89)).alloc (.cells #[] 3)) := (below_alloc wr _).alloc (by simp) _
        have HBA := Lib.hid hbA
        have HR2 := Lib.hid (IntRow.later (Same.of_below hbA (fun k (hk : k < B) => by omega)) HR.out)
        have hownE : ((wr.alloc (.cells #[.string x.name, .slice sa x.scopes.length scap, .int .i64 x.id] 89)).alloc (.cells #[] 3)).ownsRow (wr.heap.size + 1) 3 1 (.slice (some ⟨wr.heap.size + 1, 0, none⟩) 0 0) 0 [] := by
          have := World.ownsRow_lit (base := wr.heap.size + 1) (e := 3) (size := 1) (wr.alloc (.cells #[.string x.name, .slice sa x.scopes.length scap, .int .i64 x.id] 89)) #[] 0 (by simp) (by unfold maxLen; omega) (by simp)
          rw [size_alloc'] at this
          exact this
        have HOE := Lib.hid hownE
        have hbox0 : ∀ i, ((wr.alloc (.cells #[.string x.name, .slice sa x.scopes.length scap, .int .i64 x.id] 89)).alloc (.cells #[] 3)).cell? ⟨wr.heap.size, i, none⟩ = (#[.string x.name, .slice sa x.scopes.length scap, .int .i64 x.id] : Array Value)[i]? := fun i =>
          ((below_alloc _ _).cell (p := ⟨wr.heap.size, i, none⟩) (by simp)).trans (World.cell?_alloc_at _ _ _ _ rfl)
        have HBOX := Lib.hid hbox0
        clear hcells hr hx hb hown hbA hownE hbox0
        go_wp2_with (at_builtin; refine wpList_append_ints2 rfl _ _ 23 3 rfl l0 Try.underlying23 hl0 hlz0 hlz1 hlz2 (wr.heap.size + 1) (wr.heap.size + 1) x.scopes sa scap _ rfl rfl HR2.out hxl HOE.out (by simp) ?_; intro sa3 scap3 w3 hg3 hi3 hq3; refine halt_of ?_)
        have hg3s := hg3.size
        rw [size_alloc', size_alloc'] at hg3s
        have hb3 : w3.heap[wr.heap.size]? = ((wr.alloc (.cells #[.string x.name, .slice sa x.scopes.length scap, .int .i64 x.id] 89)).alloc (.cells #[] 3)).heap[wr.heap.size]? := hg3.block _ (by simp; omega) (by simp)
        have k0 : w3.cell? ⟨wr.heap.size, 0, none⟩ = some (.string x.name) := (World.cell?_of_block (a := ⟨wr.heap.size, 0, none⟩) hb3).trans (HBOX.out 0)
        have k1 : w3.cell? ⟨wr.heap.size, 1, none⟩ = some (.slice sa x.scopes.length scap) := (World.cell?_of_block (a := ⟨wr.heap.size, 1, none⟩) hb3).trans (HBOX.out 1)
        have k2 : w3.cell? ⟨wr.heap.size, 2, none⟩ = some (.int .i64 x.id) := (World.cell?_of_block (a := ⟨wr.heap.size, 2, none⟩) hb3).trans (HBOX.out 2)
        have kf : w3.frozen? ⟨wr.heap.size, 1, none⟩ = false := by
          rw [World.frozen?_of_block (a := ⟨wr.heap.size, 1, none⟩) hb3, (below_alloc _ _).frozen (p := ⟨wr.heap.size, 1, none⟩) (by simp)]
          exact World.frozen?_alloc_at _ _ _ _ rfl
        obtain ⟨w4, hw4⟩ : ∃ w4, w4 = w3.setCell ⟨wr.heap.size, 1, none⟩ (.slice sa3 x.scopes.length scap3) := ⟨_, rfl⟩
        have hz4 : w4.heap.size = w3.heap.size := by rw [hw4]; simp [World.setCell]
        have m0 : w4.cell? ⟨wr.heap.size, 0, none⟩ = some (.string x.name) := by rw [hw4]; exact (World.cell?_setCell_other _ _ _ _ (addr_ne (by omega))).trans k0
        have m1 : w4.cell? ⟨wr.heap.size, 1, none⟩ = some (.slice sa3 x.scopes.length scap3) := by rw [hw4]; exact World.cell?_setCell_same _ _ _ k1
        have m2 : w4.cell? ⟨wr.heap.size, 2, none⟩ = some (.int .i64 x.id) := by rw [hw4]; exact (World.cell?_setCell_other _ _ _ _ (addr_ne (by omega))).trans k2
        have hold4 : ∀ k, k < wr.heap.size → w4.heap[k]? = wr.heap[k]? := fun k hk => by
          rw [hw4, Below.heap_setCell _ _ _ _ (show k ≠ wr.heap.size by omega), hg3.block k (by simp; omega) (by simp; omega)]
          exact HBA.out.block k hk
        have hb4 : Below wr.heap.size wr w4 := ⟨by rw [hw4]; exact hg3.os.trans HBA.out.os, by rw [hw4]; exact hg3.tape.trans HBA.out.tape, by rw [hw4]; exact hg3.output.trans HBA.out.output, by omega, hold4⟩
        have hown4 : w4.ownsRow w.heap.size 89 3 (.slice va j vc) j xs := ownsRow_same HOWN.out fun k e => hold4 k (HOWN.out.lt k e).2
        have hq4 : w4.ownsRow (wr.heap.size + 1) 3 1 (.slice sa3 x.scopes.length scap3) x.scopes.length (x.scopes.map (Value.int .i64)) := ownsRow_same hq3.1 fun k e => by
          rw [hw4]
          exact Below.heap_setCell _ _ _ _ (by
            show k ≠ wr.heap.size
            have := hq3.1.lt k e
            omega)
        have HB4 := Lib.hid hb4
        have HQ4 := Lib.hid hq4
        have HW4 := Lib.hid hw4
        unfold Halt
        clear hg3 hi3 hq3 hb3 hold4 hb4 hq4
        rw [hw4] at m0 m1 m2
        clear hw4
        go_wp2_with (at_builtin; rw [← HW4.out]; (refine wpList_append_lies _ rfl _ _ 38 rfl w.heap.size 89 i0 _ 3 48 Try.underlying38 hi0 hz0 hz1 hz2 rfl (by decide) _ _ _ rfl (hown4.alloc _) ⟨w3.heap.size, 0, none⟩ 1 1 [.string x.name, .slice sa3 x.scopes.length scap3, .int .i64 x.id] rfl rfl (by rw [← hz4]; exact World.news_of_block (cs := #[.string x.name, .slice sa3 x.scopes.length scap3, .int .i64 x.id]) (t := 89) (fr := (0, 0)) (heap_alloc_new w4 _)) (by simp [Value.oneCell']) (by omega) hL1 hL2 (by simp; omega) (w4.heap.size + 1) (by simp) ?_); intro gg qcap w5 hown1 hgrow hat hlt4; have HOWN1 := Lib.hid hown1; have HGROW := Lib.hid hgrow; have HAT := Lib.hid hat; clear hown1 hgrow hat)
        have HNEXT : Hid (BdMidO 89 3 w.heap.size w5 (l.take j ++ [x]) (.slice (some ⟨gg, 0, none⟩) (j + 1) qcap) (xs ++ [.string x.name, .slice sa3 x.scopes.length scap3, .int .i64 x.id]) ∧ Below w.heap.size w w5) := by
          have hA := below_alloc w4 (.cells #[.string x.name, .slice sa3 x.scopes.length scap3, .int .i64 x.id] 89)
          have hgs := HGROW.out.size
          rw [size_alloc'] at hgs
          have h1 := HM.out.step (x := x) (sa := sa3) (scap := scap3) (w2 := w4.alloc (.cells #[.string x.name, .slice sa3 x.scopes.length scap3, .int .i64 x.id] 89)) (w3 := w5) (gq := gg) (qd := qcap) hsz
            (fun k _ hk => (hA.block k (by have := HB4.out.size; omega)).trans (HB4.out.block k hk)) (by have := HB4.out.size; simp; omega) (ownsRow_lo (HQ4.out.alloc _) (by omega))
            (by rw [HLJ.out]; exact HOWN1.out) HGROW.out (HAT.out.imp (fun h => h) (fun h => by simpa using h))
          rw [HLJ.out] at h1
          refine ⟨h1, HBW.out.trans ((HB4.out.trans (hA.mono (by have := HB4.out.size; omega))).mono hsz |>.grown HGROW.out (by simp; have := HB4.out.size; omega) (fun k hk => (HOWN.out.lt k hk).1))⟩
        clear HOWN1 HGROW HAT hown4
        go_wp2_with fail
        go_roundw
        case rel => exact ⟨j + 1, _, by go_num, by omega, by rw [List.take_succ_eq_append_getElem hlt, HX.out]; exact HNEXT.out.1, HNEXT.out.2⟩
        case measure => simp [intOf]; omega
    · obtain rfl : j = l.length := by omega
      have hm := HM.out
      rw [List.take_length] at hm
      have HE := Lib.hid hm
      clear hm hb
      obtain ⟨va, vc, rfl⟩ : ∃ va vc, u3 = .slice va l.length vc := by
        rcases HE.out.own.2 with ⟨h, h0⟩ | ⟨g, cp, _, h, _⟩
        · exact ⟨none, 0, by rw [h, h0]⟩
        · exact ⟨_, cp, h⟩
      go_wp2_with fail
      go_ret
      exact ⟨_, xs, rfl, HE.out, HBW.out⟩
end Go.Proofs.Ytcckhcedfmadeaa
