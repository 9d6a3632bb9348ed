/- Plain facts: scopes put one after another into all names of a form. Nothing of the program is used. -/
import Derived.Test.YtilbjlngnpmhcaaMaFold
import Derived.Test.YtilbjlngnpmhcaaScopeData
namespace Go.Proofs.Ytilbjlngnpmhcaa
/-- the scopes of a name, with others; what is no name stays as it is -/
def dressW (ns : List Int) : Int → List Int → List Int := fun k sc => if k = 1 then putsL sc ns else sc
mutual
theorem chg_chg {c1 c2 : Int → List Int → List Int} : ∀ f : Fm, (f.chg c1).chg c2 = f.chg fun k sc => c2 k (c1 k sc)
  | .mk k nm n sc ks => by simp only [Fm.chg, chgAll_chg ks]
theorem chgAll_chg {c1 c2 : Int → List Int → List Int} : ∀ ks : List Fm, chgAll c2 (chgAll c1 ks) = chgAll (fun k sc => c2 k (c1 k sc)) ks
  | [] => rfl
  | f :: r => by simp only [chgAll, chg_chg f, chgAll_chg r]
end
mutual
theorem chg_same {c : Int → List Int → List Int} (h : ∀ k sc, c k sc = sc) : ∀ f : Fm, f.chg c = f
  | .mk k nm n sc ks => by simp only [Fm.chg, h, chgAll_same h ks]
theorem chgAll_same {c : Int → List Int → List Int} (h : ∀ k sc, c k sc = sc) : ∀ ks : List Fm, chgAll c ks = ks
  | [] => rfl
  | f :: r => by simp only [chgAll, chg_same h f, chgAll_same h r]
end
theorem putsL_append (ps bs : List Int) : ∀ (m : List Int), putsL m (ps ++ bs) = putsL (putsL m ps) bs := by
  induction ps with
  | nil => intro m; rfl
  | cons a r ih => intro m; exact ih (putL m a)
theorem dress_start (f : Fm) : f.chg (dressW []) = f := chg_same (fun k sc => by unfold dressW; split <;> rfl) f
theorem dress_succ (ns : List Int) (j : Nat) (h : j < ns.length) (f : Fm) : (f.chg (dressW (ns.take j))).chg (chgW 0 ns[j]) = f.chg (dressW (ns.take (j + 1))) := by
  rw [chg_chg]
  congr 1
  funext k sc
  unfold chgW dressW
  by_cases hk : k = 1
  · rw [if_pos hk, if_pos hk, if_pos hk, if_neg (by omega), List.take_succ_eq_append_getElem h, putsL_append]
    rfl
  · rw [if_neg hk, if_neg hk, if_neg hk]
theorem nameB_len {l : List UInt8} (h : nameB l = true) : l.length ≤ 12 := by
  unfold nameB at h
  simp only [Bool.or_eq_true, Bool.and_eq_true, beq_iff_eq, decide_eq_true_eq] at h
  rcases h with (h | h) | h
  · rw [h]; decide
  · rw [h]; decide
  · exact h.1.2
/-- sizes of valid forms, their scopes changed -/
theorem dressAll_sz {c : Int → List Int → List Int} : ∀ ks : List Fm, (∀ y ∈ ks, (y.chg c).sz + 1 ≤ 112 * y.count) → szAll (chgAll c ks) ≤ 112 * countAll ks
  | [], _ => by simp [chgAll, szAll]
  | f :: r, h => by
    have h1 := h f (by simp)
    have h2 := dressAll_sz r fun y hy => h y (by simp [hy])
    unfold chgAll szAll countAll
    omega
theorem dress_sz {c : Int → List Int → List Int} (hc : ∀ k sc, scopesB sc = true → (k ≠ 1 → sc = []) → (c k sc).length ≤ 99) (f : Fm) : ∀ d, isB d f = true → (f.chg c).sz + 1 ≤ 112 * f.count := by
  induction f using Fm.ind with
  | h k nm n sc ks ih =>
    intro d hd
    obtain ⟨h1, h2, h3⟩ := isB_node hd
    have hl := hc k sc h1 h2
    have hks := dressAll_sz ks fun y hy => by obtain ⟨d', hd'⟩ := h3 y hy; exact ih y hy d' hd'
    have hnm : nm.size ≤ 12 := by
      rw [size_len]
      cases d with
      | zero => simp [isB] at hd
      | succ d =>
        unfold isB at hd
        split at hd
        · simp only [Bool.and_eq_true] at hd
          exact nameB_len hd.1.1.1
        · split at hd
          · simp only [Bool.and_eq_true, List.isEmpty_iff] at hd
            rw [hd.1.1.1.1]; decide
          · simp only [Bool.and_eq_true, List.isEmpty_iff] at hd
            rw [hd.1.1.1.2]; decide
    unfold Fm.chg Fm.sz Fm.count
    omega
/-- what the scopes of a name make of a valid form -/
theorem dressW_len {ns : List Int} (hn : scopesB ns = true) (j : Nat) (k : Int) (sc : List Int) (hs : scopesB sc = true) : (dressW (ns.take j) k sc).length ≤ 99 := by
  have h1 : GoodS sc := goodS_of hs
  unfold dressW
  split
  · exact (h1.puts fun n hm => (goodS_of hn).2 n (List.mem_of_mem_take hm)).length
  · exact h1.length
theorem dress_szT {ns : List Int} (hn : scopesB ns = true) (f : Fm) (hf : formB f = true) (j : Nat) : (f.chg (dressW (ns.take j))).sz ≤ 1048576 := by
  have h := dress_sz (fun k sc h1 _ => dressW_len hn j k sc h1) f 40 (formB_isB hf)
  have hc : f.count ≤ 400 := by unfold formB at hf; simp only [Bool.and_eq_true, decide_eq_true_eq] at hf; exact hf.2
  omega
/-- the scopes of a form that reads -/
theorem InV.row3 {φ : Nat → Prop} {w : World} {g : Fm} {c0 c1 c2 c3 c4 : Value} (h : InV φ w g (.agg #[c0, c1, c2, c3, c4])) : IntRow φ w c3 g.scopes := by
  obtain ⟨k, nm, n, sc, ks⟩ := g
  unfold InV at h
  obtain ⟨vs, a, cap, he, _, _, _, hvs, _⟩ := h
  injection he with he
  injection he with he
  simp only [List.cons.injEq, and_true] at he
  obtain ⟨rfl, rfl, rfl, rfl, rfl⟩ := he
  exact hvs
/-- the model's dressing and the program's are the same at a valid form -/
theorem dress_same {ns : List Int} (f : Fm) (hf : formB f = true) : f.chg (dressW ns) = f.chg (dressF (fun own given => uniqL (own ++ given)) ns) := chg_congr (fun k sc h1 h2 => by
    unfold dressF dressW
    by_cases hk : k = 1
    · rw [if_pos hk, if_pos hk]; exact (uniqL_puts (ascL_of_scopesB h1) ns).symm
    · rw [if_neg hk, if_neg hk]; exact h2 hk) f 40 (formB_isB hf)
end Go.Proofs.Ytilbjlngnpmhcaa
