/- append onto an empty list that is not nil: a copy of a list of numbers; and a region in which either of two operations may come up. -/
import Derived.Test.YtaihblfabaijoaaMaMade
import Derived.Test.YtaihblfabaijoaaUpto
import Derived.OwnWalk
namespace Go.Proofs.Ytaihblfabaijoaa
open Go.RowKit
set_option linter.unusedVariables false
set_option linter.unusedSimpArgs false
section
variable {P : Program} {ops : Array Oper} {Q : Exit → Act → World → Prop} {md : Region.Mode} {S : World → Prop} {L : Nat}
/-- one of two may come up -/
theorem upto_two {i j : Nat} {o p : Oper} {fuel : Nat} {listed : Array Bool} {a : Act} {w : World} (hr : Region.ready md ops listed = [i, j]) (ho : ops[i]? = some o) (hp : ops[j]? = some p)
    (h : ∀ K' : Act → World → Prop, Shut (∀ a w, (i = L ∨ S w) → anyUpto P md ops Q S L fuel (listed.setIfInBounds i true) a w → K' a w) → if Region.wanted o (yielded ops a.tmps) = true then Oper.wp P o a w K' Q else K' (a.put o.dst undef) w)
    (h' : ∀ K' : Act → World → Prop, Shut (∀ a w, (j = L ∨ S w) → anyUpto P md ops Q S L fuel (listed.setIfInBounds j true) a w → K' a w) → if Region.wanted p (yielded ops a.tmps) = true then Oper.wp P p a w K' Q else K' (a.put p.dst undef) w) :
    anyUpto P md ops Q S L (fuel + 1) listed a w :=
  ⟨fun h0 => (by rw [hr] at h0; cases h0), fun n hn => by
    rw [hr] at hn
    simp only [List.mem_cons, List.not_mem_nil, or_false] at hn
    rcases hn with rfl | rfl
    · exact wpOp_step ho (fun K' hK => h K' (fun a w h1 h2 => hK a w ⟨h1, h2⟩))
    · exact wpOp_step hp (fun K' hK => h' K' (fun a w h1 h2 => hK a w ⟨h1, h2⟩))⟩
end
theorem run_append_none {P : Program} (w : World) (t ty e : TypeId) (i : TypeInfo) (ht : P.underlying t = some (.slice e)) (hi : P.info? e = some i) (b : Addr) (a : Option Addr) (c : Nat) :
    (Builtin.append_ #[t, t] ty #[.slice (some b) 0 0, .slice a 0 c]).run P w = .ok (.slice (some b) 0 0) w := by
  cases a <;> simp [Builtin.append_, run_underlying ht, sizeOf, typeInfo, hi, Builtin.lenOf, Builtin.firstCells, loadCells, loadCellsFrom, storeCells, Result.andThen]
theorem wp_append_ints {P : Program} {w : World} {o : Oper} {a : Act} {K : Act → World → Prop} {Q : Exit → Act → World → Prop} (s x : Operand) (t e : TypeId)
    (ho : o.op = .call { callee := .builtin .append, args := #[s, x], argTypes := #[t, t] }) (i : TypeInfo) (ht : P.underlying t = some (.slice e)) (hi : P.info? e = some i) (hz : i.zero = some (.int .i64 0)) (hsize : i.size = 1) (hby : i.bytes = 8)
    (base eb : Nat) (sc : List Int) (sa : Option Addr) (scap : Nat) (φ : Nat → Prop) (hs : a.eval s = .slice (some ⟨eb, 0, none⟩) 0 0) (hx : a.eval x = .slice sa sc.length scap) (hv : IntRow φ w (.slice sa sc.length scap) sc)
    (hl : sc.length ≤ 1048576) (hown : w.ownsRow base e 1 (.slice (some ⟨eb, 0, none⟩) 0 0) 0 []) (hbase : base ≤ w.heap.size)
    (h : ∀ sa' scap' w', w.grownBy w' (some eb) → IntRow (fun k => (k = eb ∨ k = w.heap.size) ∧ k < w'.heap.size) w' (.slice sa' sc.length scap') sc → K (a.put o.dst (.slice sa' sc.length scap')) w') : o.wp P a w K Q := by
  obtain ⟨a0, cap0, e0, hcap, hmax, hwf, hrow⟩ := hv
  injection e0 with e1 _ e3
  subst e1 e3
  by_cases h0 : sc = []
  · subst h0
    have hrun := run_append_none (P := P) w t o.type e i ht hi ⟨eb, 0, none⟩ sa scap
    have hx' : a.eval x = .slice sa 0 scap := hx
    have hfin := h (some ⟨eb, 0, none⟩) 0 w ⟨rfl, rfl, rfl, Nat.le_refl _, fun _ _ _ => rfl⟩ ⟨_, 0, rfl, Nat.le_refl _, Nat.zero_le _, by simp, .inl rfl⟩
    unfold Oper.wp
    simp [execOp, ho, resolve, invoke, builtin, hs, hx', hrun, Result.andThen]
    exact hfin
  · rcases hrow with hr | ⟨sb, soff, rfl, _, hcells⟩
    · exact absurd hr h0
    have hpos : 0 < sc.length := by cases sc with | nil => exact absurd rfl h0 | cons _ _ => simp
    refine wp_append_lies _ s x t ho base e i _ 1 8 ht hi hz hsize hby rfl (by omega) _ 0 [] hs hown ⟨sb, soff, none⟩ sc.length scap (sc.map (Value.int .i64)) hx (by simp) ?_ ?_ hpos (by unfold maxLen; omega) (by omega) hbase w.heap.size rfl ?_
    · intro j u hj
      rw [List.getElem?_map] at hj
      obtain ⟨y, hy, rfl⟩ := Option.map_eq_some_iff.1 hj
      obtain ⟨hj', rfl⟩ := List.getElem?_eq_some_iff.1 hy
      have := hcells j hj'
      unfold Addr.add
      split
      · rename_i h; subst h; simpa using this
      · exact this
    · intro u hu
      obtain ⟨y, _, rfl⟩ := List.mem_map.1 hu
      rfl
    · intro g qcap w' hown' hgrow hat hlt
      rw [Nat.zero_add, List.nil_append] at hown'
      have hio := ownsRow_ints hown' hwf
      rw [Nat.zero_add]
      refine h _ qcap w' hgrow (IntOwn.inRow (bs := [g]) (fun b hb => ?_) hio)
      rw [List.mem_singleton] at hb
      subst hb
      refine ⟨?_, hlt⟩
      rcases hat with e | e
      · simp [Value.ownBlock] at e; exact .inl e.symm
      · exact .inr e
theorem MadeMid.begin {T : TypeId} {w V : World} {ob : Nat} {a : Option Addr} {cap m : Nat} {kd : Int} {nm : ByteArray} {n : Int} {c3 : Value} {sc : List Int} (hb : Below w.heap.size w V) (hs : w.heap.size + 2 ≤ V.heap.size)
    (hpar : V.cell? ⟨w.heap.size, 4, none⟩ = some (.slice a m cap)) (hzero : V.heap[w.heap.size + 1]? = some (.cells #[.int .i64 0, .string { data := #[] }, .int .i64 0, .slice none 0 0, .slice none 0 0] T (0, 0)))
    (hob : V.heap[ob]? = some (.cells #[.int .i64 0, .string { data := #[] }, .int .i64 0, .slice none 0 0, .slice none 0 0] T (0, 0))) (hobr : w.heap.size + 2 ≤ ob)
    (hints : IntRow (fun k => w.heap.size ≤ k ∧ k < V.heap.size ∧ k ≠ ob ∧ k ≠ w.heap.size + 1) V c3 sc) :
    MadeMid T w (set5 V ob 0 (.int .i64 kd) (.string nm) (.int .i64 n) c3 (.slice none 0 0)) w.heap.size (w.heap.size + 1) ob V.heap.size a cap m kd nm n c3 sc [] (.slice none 0 0) [] := by
  have hobl : ob < V.heap.size := (Array.getElem?_eq_some_iff.1 hob).1
  have hth : ∀ j, j < 5 → ∃ v, V.cell? ⟨ob, 0 + j, none⟩ = some v := fun j hj => by
    rw [Nat.zero_add, cell_of_row V ob j _ _ _ hob]
    match j, hj with
    | 0, _ => exact ⟨_, rfl⟩
    | 1, _ => exact ⟨_, rfl⟩
    | 2, _ => exact ⟨_, rfl⟩
    | 3, _ => exact ⟨_, rfl⟩
    | 4, _ => exact ⟨_, rfl⟩
  obtain ⟨z0, z1, z2, z3, z4⟩ := set5_in V ob 0 (.int .i64 kd) (.string nm) (.int .i64 n) c3 (.slice none 0 0) hth
  have hne : ∀ k, k ≠ ob → (set5 V ob 0 (.int .i64 kd) (.string nm) (.int .i64 n) c3 (.slice none 0 0)).heap[k]? = V.heap[k]? := fun k hk => set5_block _ _ _ _ _ _ _ _ hk
  have hpl : Plain V ob := ⟨_, _, hob⟩
  refine ⟨?_, ?_, z0, z1, z2, z3, z4, ?_, World.ownsRow_nil _ _ _ _, rfl, ?_, set5_below hb (by omega) _ _ _ _ _ _, ?_, by omega⟩
  · rw [World.cell?_of_block (a := ⟨w.heap.size, 4, none⟩) (hne w.heap.size (by omega))]; exact hpar
  · rw [hne _ (by omega)]; exact hzero
  · intro i; rw [set5_frozen]; exact hpl.frozen i
  · exact (hints.later (w' := set5 V ob 0 (.int .i64 kd) (.string nm) (.int .i64 n) c3 (.slice none 0 0)) (fun k hk => hne k hk.2.2.1)).mono fun k hk => ⟨hk.1, hk.2.1, hk.2.2.1, hk.2.2.2⟩
  · rw [set5_size]; exact Nat.le_refl _
theorem MadeMid.begin2 {T : TypeId} {w V : World} {a : Option Addr} {cap m : Nat} {kd : Int} {nm : ByteArray} {n : Int} {c3 : Value} {sc : List Int} (hb : Below w.heap.size w V) (hs : w.heap.size + 2 ≤ V.heap.size)
    (hpar : V.cell? ⟨w.heap.size, 4, none⟩ = some (.slice a m cap)) (hzero : V.heap[w.heap.size + 1]? = some (.cells #[.int .i64 0, .string { data := #[] }, .int .i64 0, .slice none 0 0, .slice none 0 0] T (0, 0)))
    (hints : IntRow (fun k => w.heap.size ≤ k ∧ k < V.heap.size ∧ k ≠ w.heap.size + 1) V c3 sc) :
    MadeMid T w (V.alloc (.cells #[.int .i64 kd, .string nm, .int .i64 n, c3, .slice none 0 0] T)) w.heap.size (w.heap.size + 1) V.heap.size (V.heap.size + 1) a cap m kd nm n c3 sc [] (.slice none 0 0) [] := by
  have hba := below_alloc V (.cells #[.int .i64 kd, .string nm, .int .i64 n, c3, .slice none 0 0] T)
  refine ⟨?_, ?_, World.cell?_alloc_at _ _ _ _ rfl, World.cell?_alloc_at _ _ _ _ rfl, World.cell?_alloc_at _ _ _ _ rfl, World.cell?_alloc_at _ _ _ _ rfl, World.cell?_alloc_at _ _ _ _ rfl, fun i => World.frozen?_alloc_at _ _ _ _ rfl, World.ownsRow_nil _ _ _ _, rfl, ?_, hb.alloc (by omega) _, by simp, by omega⟩
  · rw [World.cell?_of_block (a := ⟨w.heap.size, 4, none⟩) (hba.block w.heap.size (by omega))]; exact hpar
  · rw [hba.block _ (by omega)]; exact hzero
  · exact (hints.later (fun k hk => hba.block k hk.2.1)).mono fun k hk => ⟨hk.1, by omega, by omega, hk.2.2⟩
/-- what the loads of the opening region read -/
def ParHeld (pb : Nat) (k : Int) (nm : ByteArray) (n : Int) (c3 c4 : Value) (w' : World) : Prop :=
  w'.cell? ⟨pb, 0, none⟩ = some (.int .i64 k) ∧ w'.cell? ⟨pb, 1, none⟩ = some (.string nm) ∧ w'.cell? ⟨pb, 2, none⟩ = some (.int .i64 n) ∧ w'.cell? ⟨pb, 3, none⟩ = some c3 ∧ w'.cell? ⟨pb, 4, none⟩ = some c4
theorem ParHeld.keep {pb : Nat} {k : Int} {nm : ByteArray} {n : Int} {c3 c4 : Value} {w w' : World} (h : ParHeld pb k nm n c3 c4 w) (hs : w'.heap[pb]? = w.heap[pb]?) : ParHeld pb k nm n c3 c4 w' := by
  obtain ⟨h0, h1, h2, h3, h4⟩ := h
  exact ⟨(World.cell?_of_block (a := ⟨pb, 0, none⟩) hs).trans h0, (World.cell?_of_block (a := ⟨pb, 1, none⟩) hs).trans h1, (World.cell?_of_block (a := ⟨pb, 2, none⟩) hs).trans h2, (World.cell?_of_block (a := ⟨pb, 3, none⟩) hs).trans h3, (World.cell?_of_block (a := ⟨pb, 4, none⟩) hs).trans h4⟩
end Go.Proofs.Ytaihblfabaijoaa
