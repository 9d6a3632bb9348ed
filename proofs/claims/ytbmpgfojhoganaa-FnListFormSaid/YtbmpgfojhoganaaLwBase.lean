/- What laws share: boxes, rows and bytes carried on, comparisons of forms. -/
import Derived.Test.YtbmpgfojhoganaaImplSame
import Derived.Test.YtbmpgfojhoganaaNameIs
import Derived.Test.YtbmpgfojhoganaaEnds
import Derived.Test.YtbmpgfojhoganaaOpenBy
import Derived.Test.YtbmpgfojhoganaaDrawSets
namespace Go.Proofs.Ytbmpgfojhoganaa
open Go.RowKit
set_option linter.unusedVariables false
set_option linter.unusedSimpArgs false
theorem gen_upto {P : Program} {md : Region.Mode} {ops : Array Oper} {Q : Exit → Act → World → Prop} {S : World → Prop} {L fuel : Nat} {listed : Array Bool} {a : Act} {W : World}
    (h : ∀ W', W' = W → anyUpto P md ops Q S L fuel listed a W') : anyUpto P md ops Q S L fuel listed a W := h W rfl
theorem box_lit (w : World) (f : Fm) (i : Nat) (sa a : Option Addr) (scap cap : Nat) (t : TypeId) (hi : i = w.heap.size) :
    FormBox (w.alloc (.cells #[.int .i64 f.kind, .string f.name, .int .i64 f.n, .slice sa f.scopes.length scap, .slice a f.kids.length cap] t)) i f sa scap a cap := by
  subst hi
  exact FormBox.fresh w f sa a scap cap t
theorem row_lit (w : World) (T : TypeId) (l : List Int) (i : Nat) (hl : l.length ≤ 1000) (hb : ∀ n ∈ l, 0 ≤ n ∧ n ≤ 100) (hi : i = w.heap.size) :
    IntRow (· < (w.alloc (.cells (l.map (Value.int .i64)).toArray T)).heap.size) (w.alloc (.cells (l.map (Value.int .i64)).toArray T)) (.slice (some ⟨i, 0, none⟩) l.length l.length) l := by
  subst hi
  exact (row_new w T l hl fun n hn => by have := hb n hn; omega).mono fun k hk => by rw [size_alloc']; omega
theorem valid_end {f : Fm} {v : Value} {w : World} (hf : formB f = true) (hv : InV (· < w.heap.size) w f v) : EndlessAt v w := endlessAt_valid f hf w.heap.size v w (Nat.le_refl _) hv
theorem inv_up {f : Fm} {v : Value} {w w' : World} (h : InV (· < w.heap.size) w f v) (hb : Below w.heap.size w w') : InV (· < w'.heap.size) w' f v :=
  InV.mono (fun k hk => Nat.lt_of_lt_of_le hk hb.size) _ _ (InV.later (same_below hb) _ _ h)
theorem irow_up {l : List Int} {v : Value} {w w' : World} (h : IntRow (· < w.heap.size) w v l) (hb : Below w.heap.size w w') : IntRow (· < w'.heap.size) w' v l :=
  (h.later (same_below hb)).mono fun k hk => Nat.lt_of_lt_of_le hk hb.size
theorem bytes_up {n : Nat} {v : Value} {w w' : World} (h : Bytes w v n) (hb : Below w.heap.size w w') : Bytes w' v n := by
  obtain ⟨a, cap, e, h1, h2, h3⟩ := h
  exact ⟨a, cap, e, h1, h2, h3.later (same_below hb) fun k hk => Nat.lt_of_lt_of_le hk hb.size⟩
theorem implSame_law (f g : Fm) (v u : Value) (w : World) (hv : InV (· < w.heap.size) w f v) (hu : InV (· < w.heap.size) w g u) (hc : f.count ≤ 4294967296) (hend : EndlessAt v w) (ok : Bool) (hok : sameB f g = ok) :
    Calls Try.prog 13 #[v, u] w fun e w' => e = .returned (.bool ok) ∧ Below w.heap.size w w' := by
  rw [← hok]
  exact implSame_any w.heap.size f g v u w (Nat.le_refl _) hv hu hc hend
theorem implFormValid_law (f : Fm) (v : Value) (w : World) (hv : InV (· < w.heap.size) w f v) (ok : Bool) (hok : formB f = ok) :
    Calls Try.prog 18 #[v] w fun e w' => e = .returned (.bool ok) ∧ Below w.heap.size w w' := by
  rw [← hok]
  exact implFormValid_any w.heap.size f v w (Nat.le_refl _) hv
end Go.Proofs.Ytbmpgfojhoganaa
