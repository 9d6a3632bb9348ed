/- Drawn regions with a list of late operations. -/
import Derived.Test.YtbclgmabidjegaaData
import Derived.OrdersIn
namespace Go.Proofs.Ytbclgmabidjegaa
section
section
variable {P : Program} {ops : Array Oper} {Q : Exit → Act → World → Prop} {md : Region.Mode} {S : World → Prop} {L : List Nat}
/-- whatever order is picked, 'S' holds behind every operation but those of 'L' -/
def anyUptos (P : Program) (md : Region.Mode) (ops : Array Oper) (Q : Exit → Act → World → Prop) (S : World → Prop) (L : List Nat) : Nat → Array Bool → Act → World → Prop
  | 0, listed, a, w => Region.ready md ops listed = [] ∧ Q .normal a w
  | fuel + 1, listed, a, w =>
    (Region.ready md ops listed = [] → Q .normal a w) ∧
    ∀ i ∈ Region.ready md ops listed, wpOp P ops Q i (fun a' w' => (i ∈ L ∨ S w') ∧ anyUptos P md ops Q S L fuel (listed.setIfInBounds i true) a' w') a w
theorem any_of_uptos : ∀ (fuel : Nat) (listed : Array Bool) (a : Act) (w : World), anyUptos P md ops Q S L fuel listed a w → wpAny P md ops Q fuel listed a w
  | 0, _, _, _, h => h
  | fuel + 1, _, _, _, h => ⟨h.1, fun i hi => wpOp_mono (fun a' w' h' => any_of_uptos fuel _ a' w' h'.2) (h.2 i hi)⟩
theorem uptos_first {i : Nat} {oi : Oper} {v : Value} (hi : ops[i]? = some oi) (hsel : ∀ (j : Nat) (o : Oper) cs b, ops[j]? = some o → o.op ≠ .select cs b) (hL : (L.all fun q => waitsB md ops q i || decide (ops.size ≤ q)) = true)
    (hQ : ∀ c a w, Q (.panic c) (a.put oi.dst v) w → Q (.panic c) a w) :
    ∀ (fuel : Nat) (listed : Array Bool) (a : Act) (w : World),
      (∀ j oj, ops[j]? = some oj → j ≠ i → listed.getD j true = false → (∀ e ∈ oj.after, Region.binds md e = true → e.on ≠ i) → oi.apart ops oj = true) →
      i ∈ Region.ready md ops listed → YieldsIf P ops S oi v a → S w →
      anyUptos P md ops Q S L fuel (listed.setIfInBounds i true) (a.put oi.dst v) w → anyUptos P md ops Q S L (fuel + 1) listed a w := by
  intro fuel
  induction fuel with
  | zero =>
    intro listed a w _ hr hy hS H
    refine ⟨fun h => (by rw [h] at hr; cases hr), fun j hj => ?_⟩
    by_cases hji : j = i
    · subst hji; exact hy.wpOp hi hS ⟨.inr hS, H⟩
    · have := ready_mono hj hji
      rw [H.1] at this
      cases this
  | succ fuel ih =>
    intro listed a w hfree hr hy hS H
    refine ⟨fun h => (by rw [h] at hr; cases hr), fun j hj => ?_⟩
    by_cases hji : j = i
    · subst hji; exact hy.wpOp hi hS ⟨.inr hS, H⟩
    · have h1 := H.2 j (ready_mono hj hji)
      obtain ⟨hjun, oj, hoj, hall⟩ := mem_ready.1 hj
      have hnot : ∀ e ∈ oj.after, Region.binds md e = true → e.on ≠ i := fun e he hb heq => by
        have h1 := hall e he hb
        have h0 := (mem_ready.1 hr).1
        rw [heq] at h1
        rcases Nat.lt_or_ge i listed.size with h' | h'
        · simp [h'] at h0 h1; rw [h0] at h1; cases h1
        · simp [Array.getElem?_eq_none h'] at h1
      have hjL : j ∉ L := fun e => by
        have hL := List.all_eq_true.1 hL j e
        rw [Bool.or_eq_true] at hL
        rcases hL with hL | hL
        · obtain ⟨e, he, hb, hon⟩ := waits_spec hoj hL
          exact hnot e he hb hon
        · have h1 := (Array.getElem?_eq_some_iff.1 hoj).1
          have h2 := of_decide_eq_true hL
          omega
      have h2 := wpOp_putIf hoj (hfree j oj hoj hji hjun hnot) (fun cs b => hsel i oi cs b hi) (fun cs b => hsel j oj cs b hoj) hQ hy h1
      have hfree' : ∀ k ok, ops[k]? = some ok → k ≠ i → (listed.setIfInBounds j true).getD k true = false →
          (∀ e ∈ ok.after, Region.binds md e = true → e.on ≠ i) → oi.apart ops ok = true := fun k ok hk hki hun hno => by
        refine hfree k ok hk hki ?_ hno
        by_cases hjk : j = k
        · subst hjk; exact hjun
        · rw [getD_set_ne true hjk] at hun; exact hun
      refine wpOp_mono (fun a' w' h3 => ⟨h3.2.1, ih (listed.setIfInBounds j true) a' w' hfree' (ready_mono hr (Ne.symm hji)) h3.1 (h3.2.1.resolve_left hjL) ?_⟩) h2
      rw [Array.setIfInBounds_comm _ _ hji]
      exact h3.2.2
/-- number i is taken first -/
theorem uptos_take {i : Nat} {oi : Oper} {d : Option Tmp} {v : Value} {fuel : Nat} {listed : Array Bool} {a : Act} {w : World} (hi : ops[i]? = some oi) (hd : oi.dst = d)
    (hs : Region.noSelect ops = true) (hf : Region.free md ops listed i = true) (hr : (Region.ready md ops listed).contains i = true) (hL : (L.all fun q => waitsB md ops q i || decide (ops.size ≤ q)) = true)
    (hQ : ∀ c a w, Q (.panic c) (a.put d v) w → Q (.panic c) a w) (hy : YieldsIf P ops S oi v a) (hS : S w)
    (h : anyUptos P md ops Q S L fuel (listed.setIfInBounds i true) (a.put d v) w) : anyUptos P md ops Q S L (fuel + 1) listed a w := by
  subst hd
  exact uptos_first hi (Region.noSelect_spec hs) hL hQ fuel listed a w (Region.free_spec hi hf) (by simpa using hr) hy hS h
/-- number i is the one that may come up -/
theorem uptos_one {i : Nat} {o : Oper} {fuel : Nat} {listed : Array Bool} {a : Act} {w : World} (hr : Region.ready md ops listed = [i]) (ho : ops[i]? = some o)
    (h : ∀ K' : Act → World → Prop, Shut (∀ a w, (i ∈ L ∨ S w) → anyUptos P md ops Q S L fuel (listed.setIfInBounds i true) a w → K' a w) → if Region.wanted o (yielded ops a.tmps) = true then Oper.wp P o a w K' Q else K' (a.put o.dst undef) w) :
    anyUptos P md ops Q S L (fuel + 1) listed a w :=
  ⟨fun h0 => (by rw [hr] at h0; cases h0), fun j hj => by
    rw [hr] at hj
    obtain rfl : j = i := by simpa using hj
    exact wpOp_step ho (fun K' hK => h K' (fun a w h1 h2 => hK a w ⟨h1, h2⟩))⟩
/-- the same, where it is not guarded: the operation written out, and where it writes -/
theorem uptos_oper {i : Nat} (o : Oper) {fuel : Nat} {listed : Array Bool} {a : Act} {w : World} (hr : Region.ready md ops listed = [i]) (ho : ops[i]? = some o) (hg : o.guard = none)
    (h : ∀ K' : Act → World → Prop, Shut (∀ a w, (i ∈ L ∨ S w) → anyUptos P md ops Q S L fuel (listed.setIfInBounds i true) a w → K' a w) → Oper.wp P o a w K' Q) :
    anyUptos P md ops Q S L (fuel + 1) listed a w :=
  uptos_one hr ho fun K' hK => by
    have hw : Region.wanted o (yielded ops a.tmps) = true := by simp [Region.wanted, hg]
    rw [if_pos hw]
    exact h K' hK
theorem uptos_done {listed : Array Bool} {a : Act} {w : World} (hr : Region.ready md ops listed = []) (h : Q .normal a w) : ∀ fuel, anyUptos P md ops Q S L fuel listed a w
  | 0 => ⟨hr, h⟩
  | _ + 1 => ⟨fun _ => h, by rw [hr]; simp⟩
/-- whether all that is left may come late -/
def leftLate (ops : Array Oper) (L : List Nat) (listed : Array Bool) : Bool := (List.range ops.size).all fun j => listed.getD j true || L.contains j
theorem late_of {L : List Nat} {listed : Array Bool} (h : leftLate ops L listed = true) {j : Nat} (hj : j < ops.size) (hu : listed.getD j true = false) : j ∈ L := by
  unfold leftLate at h
  have := List.all_eq_true.1 h j (List.mem_range.2 hj)
  rw [hu, Bool.false_or] at this
  simpa using this
/-- behind the last operation that minds: as elsewhere -/
theorem uptos_late : ∀ (fuel : Nat) (listed : Array Bool) (a : Act) (w : World), (∀ j, j < ops.size → listed.getD j true = false → j ∈ L) → wpAny P md ops Q fuel listed a w → anyUptos P md ops Q S L fuel listed a w
  | 0, _, _, _, _, h => h
  | fuel + 1, listed, a, w, hl, h => ⟨h.1, fun i hi => by
      obtain ⟨hun, oi, hoi, _⟩ := mem_ready.1 hi
      have hiL : i ∈ L := hl i (Array.getElem?_eq_some_iff.1 hoi).1 hun
      refine wpOp_mono (fun a' w' h' => ⟨.inl hiL, uptos_late fuel _ a' w' (fun j hj hu => ?_) h'⟩) (h.2 i hi)
      by_cases hij : i = j
      · rw [← hij]; exact hiL
      · rw [getD_set_ne true hij] at hu; exact hl j hj hu⟩
theorem uptos_rest {fuel : Nat} {listed : Array Bool} {a : Act} {w : World} (hl : leftLate ops L listed = true) (h : wpAny P md ops Q fuel listed a w) : anyUptos P md ops Q S L fuel listed a w :=
  uptos_late fuel listed a w (fun _ hj hu => late_of hl hj hu) h
/-- two may come up -/
theorem any_two {i j : Nat} {oi oj : Oper} {fuel : Nat} {listed : Array Bool} {a : Act} {w : World} (hr : Region.ready md ops listed = [i, j]) (hoi : ops[i]? = some oi) (hoj : ops[j]? = some oj)
    (h1 : ∀ K' : Act → World → Prop, Shut (∀ a w, wpAny P md ops Q fuel (listed.setIfInBounds i true) a w → K' a w) → if Region.wanted oi (yielded ops a.tmps) = true then Oper.wp P oi a w K' Q else K' (a.put oi.dst undef) w)
    (h2 : ∀ K' : Act → World → Prop, Shut (∀ a w, wpAny P md ops Q fuel (listed.setIfInBounds j true) a w → K' a w) → if Region.wanted oj (yielded ops a.tmps) = true then Oper.wp P oj a w K' Q else K' (a.put oj.dst undef) w) :
    wpAny P md ops Q (fuel + 1) listed a w :=
  ⟨fun h0 => (by rw [hr] at h0; cases h0), fun k hk => by
    rw [hr] at hk
    rcases List.mem_cons.1 hk with rfl | hk
    · exact wpOp_step hoi (fun K' hK => h1 K' (fun a w h1 => hK a w h1))
    · obtain rfl : k = j := by simpa using hk
      exact wpOp_step hoj (fun K' hK => h2 K' (fun a w h1 => hK a w h1))⟩
theorem any_one {i : Nat} {oi : Oper} {fuel : Nat} {listed : Array Bool} {a : Act} {w : World} (hr : Region.ready md ops listed = [i]) (hoi : ops[i]? = some oi)
    (h1 : ∀ K' : Act → World → Prop, Shut (∀ a w, wpAny P md ops Q fuel (listed.setIfInBounds i true) a w → K' a w) → if Region.wanted oi (yielded ops a.tmps) = true then Oper.wp P oi a w K' Q else K' (a.put oi.dst undef) w) :
    wpAny P md ops Q (fuel + 1) listed a w :=
  ⟨fun h0 => (by rw [hr] at h0; cases h0), fun k hk => by
    rw [hr] at hk
    obtain rfl : k = i := by simpa using hk
    exact wpOp_step hoi (fun K' hK => h1 K' (fun a w h1 => hK a w h1))⟩
theorem any_done {listed : Array Bool} {a : Act} {w : World} (hr : Region.ready md ops listed = []) (h : Q .normal a w) : ∀ fuel, wpAny P md ops Q fuel listed a w
  | 0 => ⟨hr, h⟩
  | _ + 1 => ⟨fun _ => h, by rw [hr]; simp⟩
theorem uptos_begin {id : Nat} {a : Act} {w : World} (S : World → Prop) (L : List Nat) (hm : P.follows .mixedOrders = true)
    (h : anyUptos P .any ops Q S L ops.size (Array.replicate ops.size false) a w.drew) : (Code.region id ops true).wp P Q a w :=
  wp_region_any hm (any_of_uptos _ _ _ _ h)
end
end
end Go.Proofs.Ytbclgmabidjegaa
