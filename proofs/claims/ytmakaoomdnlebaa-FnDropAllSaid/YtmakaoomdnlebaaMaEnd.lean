/- What the check for forms that hold themselves keeps. Nothing of the program's code is used. -/
import Derived.Test.YtmakaoomdnlebaaData
import Derived.Test.YtmakaoomdnlebaaPtrMap
namespace Go.Proofs.Ytmakaoomdnlebaa
open Go.RowKit
set_option linter.unusedVariables false
/-- the form of its own that lies at an address -/
def NodeOwn (w : World) (p : Addr) (f : Fm) (bs : List Nat) : Prop :=
  ∃ b o, p = ⟨b, o, none⟩ ∧ ∃ sa scap a cap, w.cell? ⟨b, o, none⟩ = some (.int .i64 f.kind) ∧ w.cell? ⟨b, o + 1, none⟩ = some (.string f.name) ∧
      w.cell? ⟨b, o + 2, none⟩ = some (.int .i64 f.n) ∧ w.cell? ⟨b, o + 3, none⟩ = some (.slice sa f.scopes.length scap) ∧
      w.cell? ⟨b, o + 4, none⟩ = some (.slice a f.kids.length cap) ∧
      OwnV w f (.agg #[.int .i64 f.kind, .string f.name, .int .i64 f.n, .slice sa f.scopes.length scap, .slice a f.kids.length cap]) bs
/-- an entry of the list of work: an address, the form there, its blocks, whether it is open -/
structure Ent where
  p : Addr
  f : Fm
  bs : List Nat
  op : Bool
/-- nothing of the one lies where the other does -/
def Apart (x y : Ent) : Prop := x.p ≠ y.p ∧ x.p.block ∉ y.bs ∧ y.p.block ∉ x.bs ∧ ∀ c ∈ x.bs, c ∉ y.bs
def adrsOf (b : Nat) : Nat → Nat → List Addr
  | _, 0 => []
  | off, n + 1 => ⟨b, off, none⟩ :: adrsOf b (off + 5) n
theorem adrsOf_get (b : Nat) : ∀ (n off i : Nat) (h : i < n), (adrsOf b off n)[i]? = some ⟨b, off + i * 5, none⟩
  | n + 1, off, 0, _ => by simp [adrsOf]
  | n + 1, off, i + 1, h => by
    have := adrsOf_get b n (off + 5) i (by omega)
    simp only [adrsOf, List.getElem?_cons_succ, this]
    rw [show off + 5 + i * 5 = off + (i + 1) * 5 from by omega]
theorem adrsOf_block (b : Nat) : ∀ (n off : Nat) (p : Addr), p ∈ adrsOf b off n → p.block = b ∧ off ≤ p.off
  | 0, _, _, h => by simp [adrsOf] at h
  | n + 1, off, p, h => by
    rcases List.mem_cons.1 h with rfl | h
    · exact ⟨rfl, Nat.le_refl _⟩
    · have := adrsOf_block b n (off + 5) p h
      exact ⟨this.1, by omega⟩
/-- the entries of a row -/
theorem RowOwn.entries {w : World} {b : Nat} : ∀ {ks : List Fm} {off : Nat} {bs : List Nat}, RowOwn w b off ks bs → b ∉ bs → bs.Nodup →
    ∃ es : List Ent, es.map (·.f) = ks ∧ es.map (·.p) = adrsOf b off ks.length ∧ (∀ x ∈ es, x.op = false ∧ NodeOwn w x.p x.f x.bs ∧ x.bs.Nodup ∧ (∀ c ∈ x.bs, c ∈ bs)) ∧ es.Pairwise Apart
  | [], off, bs, h, _, _ => ⟨[], rfl, rfl, fun x hx => (by cases hx), List.Pairwise.nil⟩
  | f :: r, off, bs, h, hb, hn => by
    obtain ⟨sa, scap, a, cap, bs1, bs2, rfl, c0, c1, c2, c3, c4, _, hown, hrest⟩ := h.head
    obtain ⟨n1, n2, n3⟩ := List.nodup_append.1 hn
    have hb1 : b ∉ bs1 := fun h => hb (List.mem_append_left _ h)
    have hb2 : b ∉ bs2 := fun h => hb (List.mem_append_right _ h)
    obtain ⟨es, e1, e2, e3, e4⟩ := RowOwn.entries hrest hb2 n2
    refine ⟨⟨⟨b, off, none⟩, f, bs1, false⟩ :: es, by simp [e1], by simp [adrsOf, e2], ?_, ?_⟩
    · intro x hx
      rcases List.mem_cons.1 hx with rfl | hx
      · exact ⟨rfl, ⟨b, off, rfl, sa, scap, a, cap, c0, c1, c2, c3, c4, hown⟩, n1, fun c hc => List.mem_append_left _ hc⟩
      · obtain ⟨h1, h2, h3, h4⟩ := e3 x hx
        exact ⟨h1, h2, h3, fun c hc => List.mem_append_right _ (h4 c hc)⟩
    · refine List.Pairwise.cons ?_ e4
      intro y hy
      have hyp : y.p ∈ adrsOf b (off + 5) r.length := by rw [← e2]; exact List.mem_map_of_mem hy
      obtain ⟨hyb, hyo⟩ := adrsOf_block _ _ _ _ hyp
      refine ⟨fun e => ?_, fun hm => hb2 ((e3 y hy).2.2.2 _ hm), fun hm => ?_, fun c hc hm => n3 c hc c ((e3 y hy).2.2.2 c hm) rfl⟩
      · have : y.p.off = off := by rw [← e]
        omega
      · rw [hyb] at hm; exact hb1 hm
/-- what is so of the list of work and the map, whatever else turns -/
structure EndStat (w0 : World) (base : Nat) (m : List (Addr × Bool)) (l : List Ent) : Prop where
  opens : ∀ x ∈ l, x.op = true → ∃ y, (x.p, y) ∈ m
  plains : ∀ q ∈ m, q.1.block < base ∧ Plain w0 q.1.block
  node : ∀ x ∈ l, x.op = false → NodeOwn w0 x.p x.f x.bs ∧ (x.p.block < base ∧ Plain w0 x.p.block) ∧ (∀ c ∈ x.bs, c < base ∧ Plain w0 c) ∧ x.bs.Nodup ∧ x.p.block ∉ x.bs ∧ ∀ q ∈ m, q.1 ≠ x.p ∧ q.1.block ∉ x.bs
  apart : (l.filter fun x => !x.op).Pairwise Apart
theorem EndStat.sub {w0 : World} {base : Nat} {m : List (Addr × Bool)} {l l' : List Ent} (h : EndStat w0 base m l) (hs : l'.Sublist l) : EndStat w0 base m l' :=
  ⟨fun x hx => h.opens x (hs.subset hx), h.plains, fun x hx => h.node x (hs.subset hx), h.apart.sublist (hs.filter _)⟩
theorem EndStat.close {w0 : World} {base : Nat} {m : List (Addr × Bool)} {l : List Ent} {x : Ent} (h : EndStat w0 base m (l ++ [x])) (hx : x.op = true) (u : Bool) : EndStat w0 base (putM m x.p u) l := by
  obtain ⟨y, hy⟩ := h.opens x (by simp) hx
  have keys : ∀ q ∈ putM m x.p u, ∃ v, (q.1, v) ∈ m := fun q hq => by
    rcases putM_keys.1 ⟨q.2, hq⟩ with e | h
    · rw [e]; exact ⟨y, hy⟩
    · exact h
  have h' := h.sub (List.sublist_append_left l [x])
  refine ⟨fun z hz ho => ?_, fun q hq => ?_, fun z hz ho => ?_, h'.apart⟩
  · exact putM_keys.2 (.inr (h'.opens z hz ho))
  · obtain ⟨v, hv⟩ := keys q hq
    exact h.plains (q.1, v) hv
  · obtain ⟨a1, a2, a3, a4, a5, a6⟩ := h'.node z hz ho
    refine ⟨a1, a2, a3, a4, a5, fun q hq => ?_⟩
    obtain ⟨v, hv⟩ := keys q hq
    exact a6 (q.1, v) hv
/-- a form is opened: its kids join the work -/
theorem EndStat.open {w0 : World} {base : Nat} {m : List (Addr × Bool)} {l : List Ent} {x : Ent} (h : EndStat w0 base m (l ++ [x])) (hx : x.op = false) (u : Bool) :
    ∃ (b o : Nat) (sa : Option Addr) (scap : Nat) (a : Option Addr) (cap : Nat) (es : List Ent), x.p = ⟨b, o, none⟩ ∧ w0.cell? ⟨b, o + 4, none⟩ = some (.slice a x.f.kids.length cap) ∧ x.f.kids.length ≤ cap ∧ cap ≤ maxLen ∧
      es.map (·.f) = x.f.kids ∧ EndStat w0 base (putM m x.p u) (l ++ [{ x with op := true }] ++ es) ∧ (∀ y ∈ es, y.op = false) ∧
      (x.f.kids ≠ [] → ∃ kb ko, a = some ⟨kb, ko, none⟩ ∧ kb < base ∧ Plain w0 kb ∧ es.map (·.p) = adrsOf kb ko x.f.kids.length) := by
  obtain ⟨⟨b, o, hp, sa, scap, a, cap, c0, c1, c2, c3, c4, hown⟩, hpb, hbs, hnd, hpn, hkeys⟩ := h.node x (by simp) hx
  obtain ⟨sa', scap', a', cap', bs1, bs2, e, _, _, _, _, hk, hbe⟩ := hown.kids
  injection e with e
  injection e with e
  simp only [List.cons.injEq, and_true, Value.slice.injEq, true_and] at e
  obtain ⟨⟨rfl, rfl⟩, rfl, rfl⟩ := e
  have hmem : ∀ c ∈ bs2, c ∈ x.bs := fun c hc => by rw [hbe]; exact List.mem_append_right _ hc
  have hnd2 : bs2.Nodup := (List.nodup_append.1 (hbe ▸ hnd)).2.1
  have hap : ∀ z ∈ l, z.op = false → Apart z x := fun z hz ho => by
    have := h.apart
    rw [List.filter_append, show [x].filter (fun x => !x.op) = [x] from by simp [hx]] at this
    exact (List.pairwise_append.1 this).2.2 z (List.mem_filter.2 ⟨hz, by simp [ho]⟩) x (by simp)
  have keys : ∀ q ∈ putM m x.p u, q.1 = x.p ∨ ∃ v, (q.1, v) ∈ m := fun q hq => putM_keys.1 ⟨q.2, hq⟩
  have stat : ∀ es : List Ent, (∀ y ∈ es, y.op = false ∧ NodeOwn w0 y.p y.f y.bs ∧ y.bs.Nodup ∧ (∀ c ∈ y.bs, c ∈ bs2) ∧ y.p.block ∈ bs2 ∧ y.p.block ∉ y.bs) → es.Pairwise Apart →
      EndStat w0 base (putM m x.p u) (l ++ [{ x with op := true }] ++ es) := fun es he hpw => by
    refine ⟨fun z hz ho => ?_, fun q hq => ?_, fun z hz ho => ?_, ?_⟩
    · rcases List.mem_append.1 hz with hz | hz
      · rcases List.mem_append.1 hz with hz | hz
        · exact putM_keys.2 (.inr (h.opens z (List.mem_append_left _ hz) ho))
        · rw [List.mem_singleton] at hz
          subst hz
          exact putM_keys.2 (.inl rfl)
      · rw [(he z hz).1] at ho; cases ho
    · rcases keys q hq with e | ⟨v, hv⟩
      · rw [e]; exact hpb
      · exact h.plains (q.1, v) hv
    · rcases List.mem_append.1 hz with hz | hz
      · rcases List.mem_append.1 hz with hz | hz
        · obtain ⟨a1, a2, a3, a4, a5, a6⟩ := h.node z (List.mem_append_left _ hz) ho
          refine ⟨a1, a2, a3, a4, a5, fun q hq => ?_⟩
          rcases keys q hq with e | ⟨v, hv⟩
          · obtain ⟨g1, g2, g3, g4⟩ := hap z hz ho
            rw [e]; exact ⟨fun e => g1 e.symm, g3⟩
          · exact a6 (q.1, v) hv
        · rw [List.mem_singleton] at hz
          subst hz
          cases ho
      · obtain ⟨g1, g2, g3, g4, g5, g6⟩ := he z hz
        refine ⟨g2, hbs _ (hmem _ g5), fun c hc => hbs c (hmem c (g4 c hc)), g3, g6, fun q hq => ?_⟩
        rcases keys q hq with e | ⟨v, hv⟩
        · rw [e]
          exact ⟨fun e => hpn (by rw [e]; exact hmem _ g5), fun hm => hpn (hmem _ (g4 _ hm))⟩
        · obtain ⟨k1, k2⟩ := hkeys (q.1, v) hv
          exact ⟨fun e => k2 (by show q.1.block ∈ x.bs; rw [e]; exact hmem _ g5), fun hm => k2 (hmem _ (g4 _ hm))⟩
    · rw [List.filter_append, List.filter_append, show ([{ x with op := true }] : List Ent).filter (fun x => !x.op) = [] from by simp, List.append_nil]
      refine List.pairwise_append.2 ⟨?_, ?_, ?_⟩
      · have := h.apart
        rw [List.filter_append] at this
        exact (List.pairwise_append.1 this).1
      · exact hpw.sublist List.filter_sublist
      · intro z hz y hy
        obtain ⟨hz, ho⟩ := List.mem_filter.1 hz
        obtain ⟨hy, _⟩ := List.mem_filter.1 hy
        obtain ⟨g1, g2, g3, g4⟩ := hap z hz (by simpa using ho)
        obtain ⟨_, _, _, k4, k5, _⟩ := he y hy
        exact ⟨fun e => g2 (hmem _ (by rw [e]; exact k5)), fun hm => g2 (hmem _ (k4 _ hm)), fun hm => g4 _ hm (hmem _ k5), fun c hc hm => g4 c hc (hmem _ (k4 _ hm))⟩
  obtain ⟨hl, hm, hrow⟩ := hk
  rcases hrow with ⟨h0, h1⟩ | ⟨kb, ko, bs3, rfl, rfl, hrow⟩
  · exact ⟨b, o, sa, scap, a, cap, [], hp, c4, hl, hm, by rw [h0]; rfl, stat [] (fun y hy => (by cases hy)) List.Pairwise.nil, fun y hy => (by cases hy), fun h => absurd h0 h⟩
  · obtain ⟨nb, nd⟩ := List.nodup_cons.1 hnd2
    obtain ⟨es, e1, e2, e3, e4⟩ := hrow.entries nb nd
    have hblk : ∀ y ∈ es, y.p.block = kb := fun y hy => (adrsOf_block _ _ _ _ (by rw [← e2]; exact List.mem_map_of_mem hy)).1
    refine ⟨b, o, sa, scap, _, cap, es, hp, c4, hl, hm, e1, stat es (fun y hy => ?_) e4, fun y hy => (e3 y hy).1, fun _ => ⟨kb, ko, rfl, (hbs kb (hmem _ (by simp))).1, (hbs kb (hmem _ (by simp))).2, e2⟩⟩
    obtain ⟨g1, g2, g3, g4⟩ := e3 y hy
    exact ⟨g1, g2, g3, fun c hc => List.mem_cons_of_mem _ (g4 c hc), by rw [hblk y hy]; simp, by rw [hblk y hy]; exact fun hm => nb (g4 _ hm)⟩
/-- how many rounds are to come at most -/
def restE : List Ent → Nat
  | [] => 0
  | x :: r => (if x.op then 1 else 2 * x.f.count) + restE r
theorem restE_append (l m : List Ent) : restE (l ++ m) = restE l + restE m := by
  induction l with
  | nil => simp [restE]
  | cons x r ih => simp only [List.cons_append, restE, ih]; omega
theorem restE_kids : ∀ (es : List Ent), (∀ y ∈ es, y.op = false) → restE es = 2 * countAll (es.map (·.f))
  | [], _ => rfl
  | x :: r, h => by
    have := restE_kids r (fun y hy => h y (by simp [hy]))
    simp only [restE, List.map_cons, countAll, this, h x (by simp)]
    simp
    omega
theorem length_restE (l : List Ent) : l.length ≤ restE l := by
  induction l with
  | nil => simp
  | cons x r ih =>
    have : 1 ≤ x.f.count := by cases x.f; unfold Fm.count; omega
    simp only [List.length_cons, restE]
    split <;> omega
end Go.Proofs.Ytmakaoomdnlebaa
