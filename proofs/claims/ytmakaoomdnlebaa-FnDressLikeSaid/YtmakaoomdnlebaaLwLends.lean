/- Scopes that are lent one by one. -/
import Derived.Test.YtmakaoomdnlebaaLwDrops
import Derived.Test.YtmakaoomdnlebaaLwDress
namespace Go.Proofs.Ytmakaoomdnlebaa
open Go.RowKit
set_option linter.unusedVariables false
set_option linter.unusedSimpArgs false
/-- a number in a row, and a form in a variable -/
def CellBox (w : World) (lb o : Nat) (n : Int) (gi : Nat) (g : Fm) (g0 : Option Addr) (g1 : Nat) (g2 : Option Addr) (g3 : Nat) : Prop :=
  w.cell? ⟨lb, o, none⟩ = some (.int .i64 n) ∧ FormBox w gi g g0 g1 g2 g3
theorem CellBox.later {w w' : World} {lb o : Nat} {n : Int} {gi : Nat} {g : Fm} {g0 : Option Addr} {g1 : Nat} {g2 : Option Addr} {g3 : Nat} (h : CellBox w lb o n gi g g0 g1 g2 g3) (hb : Below w.heap.size w w') : CellBox w' lb o n gi g g0 g1 g2 g3 :=
  ⟨cell_later' hb h.1, FormBox.later h.2 hb⟩
theorem CellBox.same {w w' : World} {lb o : Nat} {n : Int} {gi : Nat} {g : Fm} {g0 : Option Addr} {g1 : Nat} {g2 : Option Addr} {g3 : Nat} (h : CellBox w lb o n gi g g0 g1 g2 g3) (h1 : w'.heap[lb]? = w.heap[lb]?) (h2 : w'.heap[gi]? = w.heap[gi]?) : CellBox w' lb o n gi g g0 g1 g2 g3 := by
  obtain ⟨c, s0, s1, s2, s3, s4⟩ := h
  exact ⟨(World.cell?_of_block (a := ⟨lb, o, none⟩) h1).trans c, (World.cell?_of_block (a := ⟨gi, 0, none⟩) h2).trans s0, (World.cell?_of_block (a := ⟨gi, 1, none⟩) h2).trans s1, (World.cell?_of_block (a := ⟨gi, 2, none⟩) h2).trans s2, (World.cell?_of_block (a := ⟨gi, 3, none⟩) h2).trans s3, (World.cell?_of_block (a := ⟨gi, 4, none⟩) h2).trans s4⟩
theorem putL_more (l : List Int) (n : Int) : l.length ≤ (putL l n).length := by
  rw [putL_eq]
  split
  · exact Nat.le_refl _
  · rw [insL_length]; omega
theorem putsL_more : ∀ (ns l : List Int), l.length ≤ (putsL l ns).length
  | [], l => Nat.le_refl _
  | n :: ns, l => Nat.le_trans (putL_more l n) (putsL_more ns (putL l n))
/-- while scopes are lent, the form stays valid -/
theorem dress_prefix {f : Fm} {ns : List Int} (hf : formB f = true) (h : formB (f.chg (dressW ns)) = true) (j : Nat) : formB (f.chg (dressW (ns.take j))) = true := by
  refine valid_to (steady_dress ns) (steady_dress (ns.take j)) hf h fun sc a b => ?_
  rw [dressW_one] at b ⊢
  have e : putsL sc ns = putsL (putsL sc (ns.take j)) (ns.drop j) := by rw [← putsL_append, List.take_append_drop]
  have h1 := putsL_more (ns.drop j) (putsL sc (ns.take j))
  have h2 := scopes_length b
  refine scopesB_of (putsL_asc _ (ascL_of_scopesB a)) (fun x hx => ?_) (by rw [e] at h2; omega)
  refine scopesB_mem b x ((mem_putsL ns sc x).2 ?_)
  rcases (mem_putsL (ns.take j) sc x).1 hx with h | h
  · exact .inl h
  · exact .inr (List.mem_of_mem_take h)
theorem lend_steps {f g : Fm} (h : dressB f g = true) (j : Nat) (hj : j < g.scopes.length) :
    formB (f.chg (dressW (g.scopes.take j))) = true ∧ okF2 0 g.scopes[j] (f.chg (dressW (g.scopes.take j))) = true ∧ afterF 0 g.scopes[j] (f.chg (dressW (g.scopes.take j))) = f.chg (dressW (g.scopes.take (j + 1))) := by
  obtain ⟨h1, h2, h3, h4⟩ := dressB_parts h
  have v1 := dress_prefix h1 h4 j
  have v2 := dress_prefix h1 h4 (j + 1)
  have e := dress_succ g.scopes j hj f
  have ok : okF2 0 g.scopes[j] (f.chg (dressW (g.scopes.take j))) = true := doneB_of v1 (scopesB_mem (name_scopes h2) _ (List.getElem_mem hj)) (by rw [e]; exact v2)
  exact ⟨v1, ok, by rw [afterF_ok ok, e]⟩
theorem lend_there {f g R : Fm} (h : dressB f g = true) (hR : dressedF f g = R) (hn : ∃ y ∈ f.pre, y.kind = 1) : withinB g.scopes (scopesOf R) = true := by
  obtain ⟨h1, h2, h3, h4⟩ := dressB_parts h
  have e : R = f.chg (dressW g.scopes) := by rw [← hR]; unfold dressedF; rw [if_pos h]
  rw [withinB_iff]
  intro x hx
  rw [e, mem_scopesOf h4, pre_chg]
  obtain ⟨y, hy, hk⟩ := hn
  exact ⟨_, List.mem_map.2 ⟨y, hy, rfl⟩, by rw [scopes_chg, hk, dressW_one, mem_putsL]; exact .inr hx⟩
end Go.Proofs.Ytmakaoomdnlebaa
