/- The contract of the program's ScopesOf. -/
import Derived.Test.YtbclgmabidjegaaNodeOk
import Derived.Test.YtbclgmabidjegaaVisits
import Derived.Test.YtbclgmabidjegaaAllData
import Derived.Test.YtbclgmabidjegaaSetFns
namespace Go.Proofs.Ytbclgmabidjegaa
open Go.RowKit
set_option linter.unusedVariables false
set_option linter.unusedSimpArgs false
/-- what the visit of forms minds: the set of the scopes seen, in its box -/
def SetI (base ab : Nat) (pre : List Fm) (E : Nat → Prop) (W : World) : Prop :=
  ∃ (L : List Int) (pa : Option Addr) (ca : Nat), L = foldS [] pre ∧ GoodS L ∧ W.cell? ⟨ab, 0, none⟩ = some (.slice pa L.length ca) ∧ W.frozen? ⟨ab, 0, none⟩ = false ∧
    ((L = [] ∧ pa = none ∧ ca = 0 ∧ ∀ k, E k ↔ k = ab) ∨ ∃ g, pa = some ⟨g, 0, none⟩ ∧ g ≠ ab ∧ W.ownsRow base 3 1 (.slice (some ⟨g, 0, none⟩) L.length ca) L.length (L.map (Value.int .i64)) ∧ ∀ k, E k ↔ (k = ab ∨ k = g))
theorem SetI.row {base ab : Nat} {pre : List Fm} {E : Nat → Prop} {W : World} (h : SetI base ab pre E W) : ∃ (pa : Option Addr) (ca : Nat), W.cell? ⟨ab, 0, none⟩ = some (.slice pa (foldS [] pre).length ca) ∧ W.frozen? ⟨ab, 0, none⟩ = false ∧
    IntRow (· < W.heap.size) W (.slice pa (foldS [] pre).length ca) (foldS [] pre) ∧ GoodS (foldS [] pre) ∧ E ab := by
  obtain ⟨L, pa, ca, rfl, hg, h1, h2, h3⟩ := h
  refine ⟨pa, ca, h1, h2, ?_, hg, ?_⟩
  · rcases h3 with ⟨e, rfl, rfl, _⟩ | ⟨g, rfl, _, ho, _⟩
    · rw [e]
      exact ⟨_, 0, rfl, Nat.le_refl _, Nat.zero_le _, by simp, .inl rfl⟩
    · exact (ownsRow_ints ho hg.bounds).inRow (fun b hb => by rw [List.mem_singleton] at hb; subst hb; exact (ho.lt _ rfl).2)
  · rcases h3 with ⟨_, _, _, he⟩ | ⟨g, _, _, _, he⟩
    · exact (he ab).2 rfl
    · exact (he ab).2 (.inl rfl)
set_option maxRecDepth 100000 in
set_option maxHeartbeats 1000000 in
theorem scopesVisitor (B base ab : Nat) (hB : B ≤ ab) (hBb : base ≤ ab) : Visitor NodeOk B 241 #[.pointer (some ⟨ab, 0, none⟩)] (SetI base ab) := by
  refine ⟨enters_of Try.func241 (by kernel_rfl) rfl, ?_, ?_⟩
  · rintro pre E W W' ⟨L, pa, ca, hL, hg, h1, h2, h3⟩ _ _ _ _ hs _
    have hab : W'.heap[ab]? = W.heap[ab]? := by
      refine hs ab ?_
      rcases h3 with ⟨_, _, _, he⟩ | ⟨g, _, _, _, he⟩
      · exact (he ab).2 rfl
      · exact (he ab).2 (.inl rfl)
    refine ⟨L, pa, ca, hL, hg, (World.cell?_of_block (a := ⟨ab, 0, none⟩) hab).trans h1, (World.frozen?_of_block (a := ⟨ab, 0, none⟩) hab).trans h2, ?_⟩
    rcases h3 with h3 | ⟨g, e, hne, ho, he⟩
    · exact .inl h3
    · exact .inr ⟨g, e, hne, ownsRow_same' ho (fun g' hg' => by injection hg' with hg'; subst hg'; exact hs g ((he g).2 (.inr rfl))), he⟩
  · rintro pre E x W hI hl hok hE hin
    obtain ⟨pa, ca, h1, h2, hrow, hg, hEab⟩ := hI.row
    have hsc := hok.scopes
    have hbd := (hE ab hEab)
    have hin' := hin
    have hrx : IntRow (· < B) W (.slice x.sa x.f.scopes.length x.scap) x.f.scopes := by
      cases x with
      | mk f sa scap a cap =>
        cases f with
        | mk k nm n sc ks =>
          unfold InV Item.val at hin'
          obtain ⟨vs, a', cap', e, _, _, _, hsc', _⟩ := hin'
          simp only [Fm.kind, Fm.name, Fm.n, Fm.scopes, Fm.kids] at e ⊢
          injection e with e
          injection e with e
          simp only [List.cons.injEq, and_true, true_and] at e
          obtain ⟨rfl, _⟩ := e
          exact hsc'
    have HI := Lib.hid hI
    have HE := Lib.hid hE
    have HROW := Lib.hid hrow
    have HRX := Lib.hid hrx
    have HG := Lib.hid hg
    have HSC := Lib.hid hsc
    have hlL := hg.length
    have hlx := scopes_length hsc
    obtain ⟨L, hL⟩ : ∃ L, L = foldS [] pre := ⟨_, rfl⟩
    rw [← hL] at h1 HROW HG hlL
    have HL := Lib.hid hL
    clear hI hE hin hin' hrow hrx hg hsc hok hL
    unfold Item.val
    show Calls Try.prog 241 #[.agg #[.int .i64 x.f.kind, .string x.f.name, .int .i64 x.f.n, .slice x.sa x.f.scopes.length x.scap, .slice x.a x.f.kids.length x.cap], .pointer (some ⟨ab, 0, none⟩)] W _
    go_enter Try.func241, Try.ntmps241
    go_wp2_with fail
    have hb1 := below_alloc W (.cells #[.int .i64 x.f.kind, .string x.f.name, .int .i64 x.f.n, .slice x.sa x.f.scopes.length x.scap, .slice x.a x.f.kids.length x.cap] 33)
    have hs1 : (W.alloc (.cells #[.int .i64 x.f.kind, .string x.f.name, .int .i64 x.f.n, .slice x.sa x.f.scopes.length x.scap, .slice x.a x.f.kids.length x.cap] 33)).heap.size = W.heap.size + 1 := by simp
    refine (union_any (· < W.heap.size) L x.f.scopes pa x.sa ca x.scap _ (fun k hk => by rw [hs1]; omega) (HROW.out.later (Same.of_below hb1 (fun k hk => hk))) ((HRX.out.mono (fun k (hk : k < B) => (by omega : k < W.heap.size))).later (Same.of_below hb1 (fun k hk => hk))) (by omega)).mono ?_
    rintro e w2 ⟨g2, cap2, rfl, hown, hb2⟩
    rw [hs1] at hown
    have hU : uniqL (L ++ x.f.scopes) = foldS [] (pre ++ [x.f]) := by
      rw [uniqL_puts HG.out.1, HL.out, foldS_append]
      rfl
    have hg2 := hown.lt g2 rfl
    have hbW : Below W.heap.size W w2 := hb1.trans (hb2.mono (by rw [hs1]; omega))
    have hcab : w2.cell? ⟨ab, 0, none⟩ = some (.slice pa L.length ca) := cell_later' hbW h1
    have hfab : w2.frozen? ⟨ab, 0, none⟩ = false := (hbW.frozen (p := ⟨ab, 0, none⟩) hbd.2).trans h2
    have hgood : GoodS (foldS [] (pre ++ [x.f])) := by
      rw [← hU, uniqL_puts HG.out.1]
      exact HG.out.puts (goodS_of HSC.out).2
    rw [hU] at hown ⊢
    have HOWN := Lib.hid hown
    have HBW := Lib.hid hbW
    have HGD := Lib.hid hgood
    clear hU hown hb2 hb1 hbW hgood h1 h2
    have hsl2 : W.heap.size ≤ w2.heap.size := HBW.out.size
    go_wp2_with fail
    go_end0
    have hz : (w2.setCell ⟨ab, 0, none⟩ (.slice (some ⟨g2, 0, none⟩) (foldS [] (pre ++ [x.f])).length cap2)).heap.size = w2.heap.size := by simp [World.setCell]
    refine ⟨rfl, fun k => k = ab ∨ k = g2, ⟨_, _, cap2, rfl, HGD.out, World.cell?_setCell_same _ _ _ hcab, by rw [World.frozen?_setCell]; exact hfab, .inr ⟨g2, rfl, by omega, ?_, fun k => Iff.rfl⟩⟩, ⟨HBW.out.os, HBW.out.tape, HBW.out.output, by rw [hz]; exact hsl2, fun k hk hn => ?_⟩, fun k hk => ?_⟩
    · exact ownsRow_base (ownsRow_setFar HOWN.out (by omega)) (by omega)
    · rw [Below.heap_setCell _ _ _ _ (fun e => hn (by rw [e]; exact hEab))]
      exact HBW.out.block k hk
    · rw [hz]
      rcases hk with e | e
      · rw [e]; exact ⟨.inl hEab, by omega⟩
      · rw [e]; exact ⟨.inr (by omega), hg2.2⟩
set_option maxRecDepth 100000 in
set_option maxHeartbeats 1000000 in
theorem implScopesOf_any (x : Item) (w : World) (hv : InV (· < w.heap.size) w x.f x.val) (hsz : x.f.sz ≤ 1048576) (hend : EndlessAt x.val w) :
    Calls Try.prog 240 #[x.val] w fun e w' => ∃ pa ca bs, e = .returned (.slice pa (scopesOf x.f).length ca) ∧ IntOwn w' (.slice pa (scopesOf x.f).length ca) (scopesOf x.f) bs ∧ NewBs bs w.heap.size w'.heap.size ∧ AllPlain w' bs ∧ Below w.heap.size w w' := by
  have HV := Lib.hid hv
  have HEND := Lib.hid hend
  have hcf := x.f.count_le
  clear hv hend
  have HBX : Hid (Below w.heap.size w (w.alloc (.cells #[.int .i64 x.f.kind, .string x.f.name, .int .i64 x.f.n, .slice x.sa x.f.scopes.length x.scap, .slice x.a x.f.kids.length x.cap] 33))) := below_alloc w _
  unfold Item.val
  go_enter Try.func240, Try.ntmps240
  go_wp2_with fail
  refine (implFormValid_any w.heap.size x.f _ _ (by simp) (InV.later (same_below HBX.out) _ _ HV.out)).mono ?_
  rintro e w1 ⟨rfl, hb1⟩
  obtain ⟨x0, x1, x2, x3, x4⟩ := (FormBox.fresh w x.f x.sa x.a x.scap x.cap 33).later hb1
  have hs1 : w.heap.size + 1 ≤ w1.heap.size := by have := hb1.size; simpa using this
  have HB1 : Hid (Below w.heap.size w w1) := HBX.out.trans (hb1.mono (by simp))
  clear hb1 HBX
  cases hf : formB x.f with
  | false =>
    have HE : Hid (scopesOf x.f = []) := by unfold Hid scopesOf; rw [hf]; rfl
    clear hf
    go_wp2_with fail
    go_ret
    rw [HE.out]
    exact ⟨none, 0, [], rfl, ⟨_, 0, rfl, Nat.le_refl _, Nat.zero_le _, by simp, .inl ⟨rfl, rfl⟩⟩, NewBs.nil _ _, AllPlain.nil _, HB1.out⟩
  | true =>
    have HE : Hid (scopesOf x.f = foldS [] x.f.pre) := by unfold Hid scopesOf; rw [if_pos hf]
    have HF := Lib.hid hf
    have hlt1 : w.heap.size < w1.heap.size := by omega
    clear hf
    go_wp2_with fail
    have hb2 := below_alloc w1 (.cells #[.slice none 0 0] 22)
    have hbw2 : Below w.heap.size w (w1.alloc (.cells #[.slice none 0 0] 22)) := HB1.out.trans (hb2.mono (by omega))
    have hs2 : (w1.alloc (.cells #[.slice none 0 0] 22)).heap.size = w1.heap.size + 1 := by simp
    have hno : NodeOk x.f := ⟨hsz, 40, formB_isB HF.out⟩
    refine (visit_any NodeOk (fun z hz => hz.kid) w.heap.size _ _ _ (scopesVisitor w.heap.size w1.heap.size w1.heap.size (by omega) (Nat.le_refl _)) x (fun k => k = w1.heap.size) _ (by rw [hs2]; omega) (fun k hk => by rw [hs2]; omega)
      ⟨[], none, 0, rfl, goodS_nil, World.cell?_alloc_at _ _ _ _ rfl, World.frozen?_alloc_at _ _ _ _ rfl, .inl ⟨rfl, rfl, rfl, fun k => Iff.rfl⟩⟩ (InV.later (same_below hbw2) _ _ HV.out) (by omega) (HEND.out.later hbw2) hno).mono ?_
    rintro e w3 ⟨rfl, E', ⟨L, pa, ca, hL, hg, h1, h2, h3⟩, ho, hE'⟩
    have hbw3 : Below w.heap.size w w3 := ⟨ho.os.trans hbw2.os, ho.tape.trans hbw2.tape, ho.output.trans hbw2.output, by have := ho.size; rw [hs2] at this; omega, fun k hk => (ho.block k (by rw [hs2]; omega) (by omega)).trans (hbw2.block k hk)⟩
    have HOWN : Hid (∃ bs, IntOwn w3 (.slice pa L.length ca) L bs ∧ NewBs bs w.heap.size w3.heap.size ∧ AllPlain w3 bs) := by
      rcases h3 with ⟨e, rfl, rfl, _⟩ | ⟨g, rfl, _, ho3, _⟩
      · rw [e]
        exact ⟨[], ⟨_, 0, rfl, Nat.le_refl _, Nat.zero_le _, by simp, .inl ⟨rfl, rfl⟩⟩, NewBs.nil _ _, AllPlain.nil _⟩
      · have := ho3.lt g rfl
        exact ⟨[g], ownsRow_ints ho3 hg.bounds, ⟨by simp, fun c hc => by rw [List.mem_singleton] at hc; subst hc; omega⟩, fun c hc => by rw [List.mem_singleton] at hc; subst hc; exact ownsRow_plain ho3⟩
    have HE2 : Hid (scopesOf x.f = L) := HE.out.trans hL.symm
    have HB3 := Lib.hid hbw3
    clear hb2 hbw2 hno hL hg h2 h3 ho hE' hbw3 x0 x1 x2 x3 x4
    go_wp2_with fail
    go_ret
    rw [HE2.out]
    obtain ⟨bs, q1, q2, q3⟩ := HOWN.out
    exact ⟨pa, ca, bs, rfl, q1, q2, q3, HB3.out⟩
end Go.Proofs.Ytbclgmabidjegaa
