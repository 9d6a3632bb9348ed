/- What laws on sets of scopes call, told in one way; what the scopes of a changed form are. -/
import Derived.Test.YtmakaoomdnlebaaLwScopes
import Derived.Test.YtmakaoomdnlebaaScopesOf
namespace Go.Proofs.Ytmakaoomdnlebaa
open Go.RowKit
set_option linter.unusedVariables false
set_option linter.unusedSimpArgs false
theorem implScopesOf_law (R : Fm) (sa : Option Addr) (scap : Nat) (a : Option Addr) (cap : Nat) (w : World) (hv : InV (· < w.heap.size) w R (.agg #[.int .i64 R.kind, .string R.name, .int .i64 R.n, .slice sa R.scopes.length scap, .slice a R.kids.length cap])) (hsz : R.sz ≤ 1048576) (hend : EndlessAt (.agg #[.int .i64 R.kind, .string R.name, .int .i64 R.n, .slice sa R.scopes.length scap, .slice a R.kids.length cap]) w) (l : List Int) (hl : scopesOf R = l) :
    Calls Try.prog 26 #[.agg #[.int .i64 R.kind, .string R.name, .int .i64 R.n, .slice sa R.scopes.length scap, .slice a R.kids.length cap]] w fun e w' => ∃ pa ca, e = .returned (.slice pa l.length ca) ∧ IntRow (· < w'.heap.size) w' (.slice pa l.length ca) l ∧ Below w.heap.size w w' := by
  subst hl
  refine (implScopesOf_any ⟨R, sa, scap, a, cap⟩ w hv hsz hend).mono ?_
  rintro e w' ⟨pa, ca, bs, rfl, ho, hn, _, hb⟩
  exact ⟨pa, ca, rfl, IntOwn.inRow (fun c hc => (hn.2 c hc).2) ho, hb⟩
theorem scopesOf_len (f : Fm) : (scopesOf f).length ≤ 99 := by
  unfold scopesOf
  split
  · rename_i h
    exact (GoodS.fold f.pre goodS_nil fun g hg => (valid_pre h hg).1).length
  · simp
theorem mem_scopesOf {f : Fm} (h : formB f = true) (x : Int) : x ∈ scopesOf f ↔ ∃ g ∈ f.pre, x ∈ g.scopes := by
  unfold scopesOf
  rw [if_pos h, mem_foldS]
  simp
theorem mem_after {way n : Int} {f : Fm} (h : okF2 way n f = true) (x : Int) : x ∈ scopesOf (afterF way n f) ↔ ∃ g ∈ f.pre, x ∈ chgW way n g.kind g.scopes := by
  obtain ⟨_, _, h3⟩ := after_valid h rfl
  rw [mem_scopesOf h3, afterF_ok h, pre_chg]
  constructor
  · rintro ⟨g, hg, hx⟩
    obtain ⟨y, hy, rfl⟩ := List.mem_map.1 hg
    rw [scopes_chg] at hx
    exact ⟨y, hy, hx⟩
  · rintro ⟨y, hy, hx⟩
    exact ⟨_, List.mem_map.2 ⟨y, hy, rfl⟩, by rw [scopes_chg]; exact hx⟩
/-- a scope that is dropped is nowhere -/
theorem drop_gone {n : Int} {f : Fm} (h : okF2 2 n f = true) : n ∉ scopesOf (afterF 2 n f) := by
  rw [mem_after h]
  rintro ⟨g, hg, hx⟩
  by_cases hk : g.kind = 1
  · rw [hk, mem_drop] at hx
    exact hx.2 rfl
  · rw [chgW_other 2 n _ _ hk, (valid_pre (doneB_parts h).1 hg).2 hk] at hx
    cases hx
/-- a scope that is added is there, if there is a name -/
theorem add_there {n : Int} {f : Fm} (h : okF2 0 n f = true) (hn : ∃ g ∈ f.pre, g.kind = 1) : n ∈ scopesOf (afterF 0 n f) := by
  rw [mem_after h]
  obtain ⟨g, hg, hk⟩ := hn
  exact ⟨g, hg, by rw [hk, mem_add]; exact .inl rfl⟩
theorem add_keeps {n : Int} {f : Fm} (h : okF2 0 n f = true) {x : Int} (hx : x ∈ scopesOf f) : x ∈ scopesOf (afterF 0 n f) := by
  rw [mem_after h]
  rw [mem_scopesOf (doneB_parts h).1] at hx
  obtain ⟨g, hg, hx⟩ := hx
  refine ⟨g, hg, ?_⟩
  by_cases hk : g.kind = 1
  · rw [hk, mem_add]; exact .inr hx
  · rw [chgW_other 0 n _ _ hk]; exact hx
/-- containment -/
def withinB (a b : List Int) : Bool := a.all fun x => hasB b x
theorem withinB_iff (a b : List Int) : withinB a b = true ↔ ∀ x ∈ a, x ∈ b := by
  unfold withinB
  rw [List.all_eq_true]
  exact ⟨fun h x hx => (hasB_iff b x).1 (h x hx), fun h x hx => (hasB_iff b x).2 (h x hx)⟩
theorem withinB_one (n : Int) (b : List Int) : withinB [n] b = true ↔ n ∈ b := by rw [withinB_iff]; simp
end Go.Proofs.Ytmakaoomdnlebaa
