/- The contract of an append of a row of numbers to a fresh empty row. -/
import Derived.Test.YtbclgmabidjegaaMids
namespace Go.Proofs.Ytbclgmabidjegaa
section
open Go.RowKit
set_option linter.unusedVariables false
set_option linter.unusedSimpArgs false
theorem wp_append_ints2 {P : Program} {w : World} {o : Oper} {a : Act} {K : Act → World → Prop} {Q : Exit → Act → World → Prop} (s x : Operand) (t e : TypeId)
    (ho : o.op = .call { callee := .builtin .append, args := #[s, x], argTypes := #[t, t] }) (i : TypeInfo) (ht : P.underlying t = some (.slice e)) (hi : P.info? e = some i) (hz : i.zero = some (.int .i64 0)) (hsize : i.size = 1) (hby : i.bytes = 8)
    (base eb : Nat) (sc : List Int) (sa : Option Addr) (scap : Nat) (φ : Nat → Prop) (hs : a.eval s = .slice (some ⟨eb, 0, none⟩) 0 0) (hx : a.eval x = .slice sa sc.length scap) (hv : IntRow φ w (.slice sa sc.length scap) sc)
    (hl : sc.length ≤ 1048576) (hown : w.ownsRow base e 1 (.slice (some ⟨eb, 0, none⟩) 0 0) 0 []) (hbase : base ≤ w.heap.size)
    (h : ∀ sa' scap' w', w.grownBy w' (some eb) → IntRow (fun k => (k = eb ∨ k = w.heap.size) ∧ k < w'.heap.size) w' (.slice sa' sc.length scap') sc → (w'.ownsRow base e 1 (.slice sa' sc.length scap') sc.length (sc.map (Value.int .i64)) ∧ ∀ q, (Value.slice sa' sc.length scap').ownBlock = some q → q = eb ∨ q = w.heap.size) → K (a.put o.dst (.slice sa' sc.length scap')) w') : o.wp P a w K Q := by
  obtain ⟨a0, cap0, e0, hcap, hmax, hwf, hrow⟩ := hv
  injection e0 with e1 _ e3
  subst e1 e3
  by_cases h0 : sc = []
  · subst h0
    have hrun := run_append_none (P := P) w t o.type e i ht hi ⟨eb, 0, none⟩ sa scap
    have hx' : a.eval x = .slice sa 0 scap := hx
    have hfin := h (some ⟨eb, 0, none⟩) 0 w ⟨rfl, rfl, rfl, Nat.le_refl _, fun _ _ _ => rfl⟩ ⟨_, 0, rfl, Nat.le_refl _, Nat.zero_le _, by simp, .inl rfl⟩ ⟨hown, fun q hq => .inl (by simpa [Value.ownBlock] using hq.symm)⟩
    unfold Oper.wp
    simp [execOp, ho, resolve, invoke, builtin, hs, hx', hrun, Result.andThen]
    exact hfin
  · rcases hrow with hr | ⟨sb, soff, rfl, _, hcells⟩
    · exact absurd hr h0
    have hpos : 0 < sc.length := by cases sc with | nil => exact absurd rfl h0 | cons _ _ => simp
    refine wp_append_lies _ s x t ho base e i _ 1 8 ht hi hz hsize hby rfl (by omega) _ 0 [] hs hown ⟨sb, soff, none⟩ sc.length scap (sc.map (Value.int .i64)) hx (by simp) ?_ ?_ hpos (by unfold maxLen; omega) (by omega) hbase w.heap.size rfl ?_
    · intro j u hj
      rw [List.getElem?_map] at hj
      obtain ⟨y, hy, rfl⟩ := Option.map_eq_some_iff.1 hj
      obtain ⟨hj', rfl⟩ := List.getElem?_eq_some_iff.1 hy
      have := hcells j hj'
      unfold Addr.add
      split
      · rename_i h; subst h; simpa using this
      · exact this
    · intro u hu
      obtain ⟨y, _, rfl⟩ := List.mem_map.1 hu
      rfl
    · intro g qcap w' hown' hgrow hat hlt
      rw [Nat.zero_add, List.nil_append] at hown'
      have hio := ownsRow_ints hown' hwf
      rw [Nat.zero_add]
      have hgg : g = eb ∨ g = w.heap.size := by
        rcases hat with e | e
        · simp [Value.ownBlock] at e; exact .inl e.symm
        · exact .inr e
      refine h _ qcap w' hgrow (IntOwn.inRow (bs := [g]) (fun b hb => ?_) hio) ⟨hown', fun q hq => ?_⟩
      rotate_left
      · simp [Value.ownBlock] at hq
        subst hq
        exact hgg
      rw [List.mem_singleton] at hb
      subst hb
      refine ⟨?_, hlt⟩
      rcases hat with e | e
      · simp [Value.ownBlock] at e; exact .inl e.symm
      · exact .inr e
end
end Go.Proofs.Ytbclgmabidjegaa
