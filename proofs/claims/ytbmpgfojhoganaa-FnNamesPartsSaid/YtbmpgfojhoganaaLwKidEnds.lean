/- Parts of forms in whole blocks, as laws read them. -/
import Derived.Test.YtbmpgfojhoganaaLwParts
import Derived.Test.YtbmpgfojhoganaaPValid
namespace Go.Proofs.Ytbmpgfojhoganaa
open Go.RowKit
set_option linter.unusedVariables false
set_option linter.unusedSimpArgs false
theorem P.ValidPost.pl {w w' : World} {e : Ending} (h : P.ValidPost w e w') : ∃ f sa scap a cap, e = .returned (.agg #[.int .i64 f.kind, .string f.name, .int .i64 f.n, .slice sa f.scopes.length scap, .slice a f.kids.length cap]) ∧ InV (Pl w'.heap.size w') w' f (.agg #[.int .i64 f.kind, .string f.name, .int .i64 f.n, .slice sa f.scopes.length scap, .slice a f.kids.length cap]) ∧ Slim 121 13 5 f ∧ Below w.heap.size w w' := by
  obtain ⟨f, sa, scap, a, cap, rfl, hin, hsl, hb⟩ := h
  exact ⟨f, sa, scap, a, cap, rfl, InV.mono (fun k hk => ⟨hk.1.2, hk.2⟩) _ _ hin, hsl, hb⟩
theorem inv_pl {f : Fm} {v : Value} {w : World} (h : InV (Pl w.heap.size w) w f v) : InV (· < w.heap.size) w f v := InV.mono (fun k hk => hk.1) _ _ h
theorem end_pl {f : Fm} {v : Value} {w : World} (h : InV (Pl w.heap.size w) w f v) (hc : f.count ≤ 1048577) : EndlessAt v w := endlessAt_in h (by omega)
theorem kid_pl {R : Fm} {sa : Option Addr} {scap : Nat} {a : Option Addr} {cap : Nat} {w : World} (hv : InV (Pl w.heap.size w) w R (.agg #[.int .i64 R.kind, .string R.name, .int .i64 R.n, .slice sa R.scopes.length scap, .slice a R.kids.length cap])) (j : Nat) (hj : j < R.kids.length) :
    ∃ b o ka kb kc kd, a = some ⟨b, o, none⟩ ∧ R.kids.length ≤ cap ∧ KidBox w b (o + j * 5) R.kids[j] ka kb kc kd ∧ InV (Pl w.heap.size w) w R.kids[j] (.agg #[.int .i64 R.kids[j].kind, .string R.kids[j].name, .int .i64 R.kids[j].n, .slice ka R.kids[j].scopes.length kb, .slice kc R.kids[j].kids.length kd]) := by
  obtain ⟨_, h1, h2, h3⟩ := hv.kids
  rcases h3 with h3 | ⟨b, o, rfl, hb, h3⟩
  · rw [h3] at hj; simp at hj
  · obtain ⟨ka, kb, kc, kd, c0, c1, c2, c3, c4, hin⟩ := RowIn.at' h3 j hj
    exact ⟨b, o, ka, kb, kc, kd, rfl, h1, ⟨c0, c1, c2, c3, c4⟩, hin⟩
end Go.Proofs.Ytbmpgfojhoganaa
