/- The first texts of this seat: letters and names, forms as data, sets of scopes, validity, small walks. -/
import Derived.Test.YtnogpaflibghhaaFindHM
import Derived.Test.YtnogpaflibghhaaMaPat
namespace Go.Proofs.Ytnogpaflibghhaa
section
open Go.RowKit
set_option linter.unusedVariables false
set_option linter.unusedSimpArgs false
/-- in how many rows a variable is -/
def depthF (l : List Ht) (f : Fm) : Int := if f.kind = 1 then (match l.find? (hasN f) with | some x => x.depth | none => -1) else -1
def lessOne (x : Ht) : Ht := .mk x.name (if x.depth > 0 then x.depth - 1 else x.depth) x.one []
/-- one row less for each variable -/
def lessH (l : List Ht) : List Ht := l.map lessOne
mutual
/-- is there a variable in rows? -/
def rowsF : Fm → List Ht → Bool
  | .mk k nm n sc ks, l => decide (depthF l (.mk k nm n sc ks) > 0) || rowsAll ks l
def rowsAll : List Fm → List Ht → Bool
  | [], _ => false
  | g :: r, l => rowsF g l || rowsAll r l
end
theorem rowsF_eq (f : Fm) (l : List Ht) : rowsF f l = (decide (depthF l f > 0) || rowsAll f.kids l) := by
  cases f with
  | mk k nm n sc ks => simp only [rowsF, Fm.kids]
theorem rowsAll_take_succ (l : List Ht) (ks : List Fm) (j : Nat) (h : j < ks.length) : rowsAll (ks.take (j + 1)) l = (rowsAll (ks.take j) l || rowsF ks[j] l) := by
  have ha : ∀ (a b : List Fm), rowsAll (a ++ b) l = (rowsAll a l || rowsAll b l) := by
    intro a
    induction a with
    | nil => intro b; simp [rowsAll]
    | cons x r ih => intro b; simp only [List.cons_append, rowsAll, ih, Bool.or_assoc]
  rw [List.take_succ_eq_append_getElem h, ha]
  simp [rowsAll]
def nextDotsT : List Fm → Bool
  | [] => false
  | g :: _ => dotsB g
mutual
/-- the model's test; 'pd': nothing, or dots, in front -/
def tmplB : Fm → List Ht → Bool
  | .mk k nm n sc ks, l => !(dotsB (.mk k nm n sc ks) || decide (depthF l (.mk k nm n sc ks) > 0)) && tmplAll ks true l
def tmplAll : List Fm → Bool → List Ht → Bool
  | [], _, _ => true
  | g :: r, pd, l => if dotsB g = true then (!pd && tmplAll r true l) else (if nextDotsT r = true then rowsF g l && tmplB g (lessH l) else tmplB g l) && tmplAll r false l
end
theorem tmplB_eq (f : Fm) (l : List Ht) : tmplB f l = (!(dotsB f || decide (depthF l f > 0)) && tmplAll f.kids true l) := by
  cases f with
  | mk k nm n sc ks => simp only [tmplB, Fm.kids]
/-- is a variable of a form in more rows? -/
def belowB (g : Fm) (l : List Ht) (r : Nat) : Bool := l.any fun x => (g.pre.any fun p => nodeSame x.name p) && decide (x.depth > (r : Int))
def overB (l : List Ht) (f : Fm) (r : Nat) : Bool := match l.find? (hasN f) with | some x => decide (x.depth > (r : Int)) | none => false
mutual
/-- the program's test; 'fst': nothing in front -/
def fitB : Fm → List Ht → Nat → Bool
  | .mk k nm n sc ks, l, r => !(dotsB (.mk k nm n sc ks) || overB l (.mk k nm n sc ks) r) && fitAll ks true l r
def fitAll : List Fm → Bool → List Ht → Nat → Bool
  | [], _, _, _ => true
  | g :: q, fst, l, r => if nextDotsT q = true then (belowB g l r && fitB g l (r + 1)) && fitAll q false l r
      else if (!fst && dotsB g) = true then fitAll q false l r else fitB g l r && fitAll q false l r
end
theorem fitB_eq (f : Fm) (l : List Ht) (r : Nat) : fitB f l r = (!(dotsB f || overB l f r) && fitAll f.kids true l r) := by
  cases f with
  | mk k nm n sc ks => simp only [fitB, Fm.kids]
def lessN : Nat → List Ht → List Ht
  | 0, l => l
  | n + 1, l => lessN n (lessH l)
theorem lessN_succ (l : List Ht) : ∀ n, lessN (n + 1) l = lessH (lessN n l)
  | 0 => rfl
  | n + 1 => by show lessN (n + 1) (lessH l) = _; rw [lessN_succ (lessH l) n]; rfl
theorem find_map {P : Ht → Bool} {g : Ht → Ht} (hp : ∀ x, P (g x) = P x) : ∀ l : List Ht, (l.map g).find? P = (l.find? P).map g
  | [] => rfl
  | x :: r => by
    rw [List.map_cons, List.find?_cons, List.find?_cons, hp]
    cases P x with
    | true => rfl
    | false => exact find_map hp r
/-- what is left of a depth -/
def lessD : Nat → Int → Int
  | 0, d => d
  | n + 1, d => lessD n (if d > 0 then d - 1 else d)
theorem lessD_pos : ∀ (n : Nat) (d : Int), decide (lessD n d > 0) = decide (d > (n : Int))
  | 0, d => rfl
  | n + 1, d => by
    unfold lessD
    rw [lessD_pos n]
    by_cases h : d > 0
    · rw [if_pos h]; congr 1; apply propext; constructor <;> intro _ <;> omega
    · rw [if_neg h]; congr 1; apply propext; constructor <;> intro _ <;> omega
theorem find_lessN (f : Fm) : ∀ (n : Nat) (l : List Ht), ((lessN n l).find? (hasN f)).map Ht.depth = (l.find? (hasN f)).map (fun x => lessD n x.depth)
  | 0, l => by simp [lessN, lessD]
  | n + 1, l => by
    show ((lessN n (lessH l)).find? (hasN f)).map Ht.depth = _
    rw [find_lessN f n, lessH, find_map (g := lessOne) (fun x => rfl), Option.map_map]
    rfl
/-- the names are valid, none is reserved, and each is there once -/
structure GoodNames (l : List Ht) : Prop where
  names : ∀ x ∈ l, isNameB x.name = true
  heads : ∀ x ∈ l, dotsB x.name = false
  once : ∀ p x, x ∈ l → sameB x.name p = true → l.find? (hasN p) = some x
theorem name_kind {f : Fm} (h : isNameB f = true) : f.kind = 1 := by
  unfold isNameB at h
  rw [Bool.and_eq_true, beq_iff_eq] at h
  exact h.1
theorem over_depth {l : List Ht} (h : GoodNames l) (f : Fm) (r : Nat) : decide (depthF (lessN r l) f > 0) = overB l f r := by
  unfold depthF overB
  have hm := find_lessN f r l
  cases hf : l.find? (hasN f) with
  | none =>
    rw [hf] at hm
    simp only [Option.map_none, Option.map_eq_none_iff] at hm
    rw [hm]
    split <;> rfl
  | some x =>
    rw [hf] at hm
    simp only [Option.map_some, Option.map_eq_some_iff] at hm
    obtain ⟨y, hy, hd⟩ := hm
    have hx := List.mem_of_find?_eq_some hf
    have hs : sameB x.name f = true := by have := List.find?_some hf; exact this
    have hk : f.kind = 1 := by rw [← sameB_eq hs]; exact name_kind (h.names x hx)
    rw [if_pos hk, hy]
    show decide (y.depth > 0) = _
    rw [hd]
    exact lessD_pos r x.depth
mutual
theorem rows_pre (l : List Ht) : ∀ f : Fm, rowsF f l = f.pre.any (fun p => decide (depthF l p > 0))
  | .mk k nm n sc ks => by
    rw [rowsF, rowsAll_pre l ks]
    simp only [Fm.pre, List.any_cons]
theorem rowsAll_pre (l : List Ht) : ∀ ks : List Fm, rowsAll ks l = (preAll ks).any (fun p => decide (depthF l p > 0))
  | [] => by simp [rowsAll, preAll]
  | g :: r => by rw [rowsAll, rows_pre l g, rowsAll_pre l r]; simp only [preAll, List.any_append]
end
theorem rows_below {l : List Ht} (h : GoodNames l) (g : Fm) (r : Nat) : rowsF g (lessN r l) = belowB g l r := by
  rw [rows_pre]
  unfold belowB
  rw [Bool.eq_iff_iff]
  simp only [List.any_eq_true, Bool.and_eq_true]
  constructor
  · rintro ⟨p, hp, hd⟩
    rw [over_depth h] at hd
    unfold overB at hd
    cases hf : l.find? (hasN p) with
    | none => rw [hf] at hd; cases hd
    | some x =>
      rw [hf] at hd
      have hx := List.mem_of_find?_eq_some hf
      refine ⟨x, hx, ⟨p, hp, ?_⟩, hd⟩
      rw [nodeSame_name (h.names x hx)]
      have := List.find?_some hf
      exact this
  · rintro ⟨x, hx, ⟨p, hp, hs⟩, hd⟩
    rw [nodeSame_name (h.names x hx)] at hs
    refine ⟨p, hp, ?_⟩
    rw [over_depth h]
    unfold overB
    rw [h.once p x hx hs]
    exact hd
theorem tmplAll_pd {ks : List Fm} (h : nextDotsT ks = false) (a b : Bool) (l : List Ht) : tmplAll ks a l = tmplAll ks b l := by
  cases ks with
  | nil => simp [tmplAll]
  | cons g r =>
    have hg : dotsB g = false := h
    simp only [tmplAll, hg, Bool.false_eq_true, if_false]
theorem isB_kidT {d : Nat} {k : Int} {nm : ByteArray} {n : Int} {sc : List Int} {ks : List Fm} (h : isB (d + 1) (.mk k nm n sc ks) = true) : ∀ g ∈ ks, isB d g = true := by
  intro g hg
  unfold isB at h
  have he : ks ≠ [] := List.ne_nil_of_mem hg
  split at h
  · simp [he] at h
  · split at h
    · simp [he] at h
    · simp only [Bool.and_eq_true, List.all_eq_true] at h
      exact h.2 g hg
theorem dots_below {l : List Ht} (h : GoodNames l) {g : Fm} (hg : dotsB g = true) (hk : g.kids = []) (r : Nat) : belowB g l r = false := by
  unfold belowB
  rw [List.any_eq_false]
  intro x hx hh
  rw [Bool.and_eq_true, List.any_eq_true] at hh
  obtain ⟨⟨p, hp, hs⟩, _⟩ := hh
  rw [nodeSame_name (h.names x hx)] at hs
  have hpg : p = g := by
    cases g with
    | mk k nm n sc ks =>
      simp only [Fm.kids] at hk
      subst hk
      simpa [Fm.pre, preAll] using hp
  rw [hpg] at hs
  have := h.heads x hx
  rw [sameB_eq hs] at this
  rw [hg] at this
  cases this
mutual
theorem fit_tmpl {l : List Ht} (h : GoodNames l) : ∀ (d : Nat) (f : Fm), isB d f = true → ∀ r, fitB f l r = tmplB f (lessN r l)
  | 0, f, hv, r => by cases f; simp [isB] at hv
  | d + 1, .mk k nm n sc ks, hv, r => by
    rw [fitB, tmplB, over_depth h, fitAll_tmpl h d ks (fun g hg => isB_kidT hv g hg) true r]
theorem fitAll_tmpl {l : List Ht} (h : GoodNames l) : ∀ (d : Nat) (ks : List Fm), (∀ g ∈ ks, isB d g = true) → ∀ (fst : Bool) (r : Nat), fitAll ks fst l r = tmplAll ks fst (lessN r l)
  | d, [], _, fst, r => by simp [fitAll, tmplAll]
  | d, g :: q, hv, fst, r => by
    have hg := hv g List.mem_cons_self
    have hq := fitAll_tmpl h d q (fun x hx => hv x (List.mem_cons_of_mem _ hx))
    have e1 := fit_tmpl h d g hg r
    have e2 := fit_tmpl h d g hg (r + 1)
    rw [lessN_succ] at e2
    have e3 := rows_below h g r
    rw [fitAll, tmplAll]
    cases hdg : dotsB g with
    | false =>
      simp only [Bool.and_false, Bool.false_eq_true, if_false]
      rw [e1, e2, e3, hq false r]
      split <;> rfl
    | true =>
      have hk : g.kids = [] := by
        have h1 : g.kind = 1 := by unfold dotsB at hdg; rw [Bool.and_eq_true, beq_iff_eq] at hdg; exact hdg.1
        exact name_kids hg h1
      simp only [if_true, Bool.and_true]
      cases hn : nextDotsT q with
      | true =>
        rw [dots_below h hdg hk r]
        have : tmplAll q true (lessN r l) = false := by
          cases q with
          | nil => cases hn
          | cons x y =>
            have hx : dotsB x = true := hn
            simp [tmplAll, hx]
        rw [this]
        simp
      | false =>
        simp only [Bool.false_eq_true, if_false]
        cases fst with
        | true =>
          have : fitB g l r = false := by rw [fitB_eq, hdg]; rfl
          simp [this]
        | false =>
          simp only [Bool.not_false, if_true, Bool.true_and]
          rw [hq false r]
          exact tmplAll_pd hn _ _ _
end
end
end Go.Proofs.Ytnogpaflibghhaa
namespace Go.Proofs.Ytnogpaflibghhaa
section
open Go.RowKit
set_option linter.unusedVariables false
set_option linter.unusedSimpArgs false
/-- hits with names, in so many rows -/
def shapeH (one : Fm → Int → Fm) : List Fm → List Int → List Ht
  | v :: vs, d :: ds => .mk v d (one v d) [] :: shapeH one vs ds
  | _, _ => []
/-- the model's form of a variable -/
def oneS (v : Fm) (d : Int) : Fm := if d = 0 then v else zeroForm
/-- the program's -/
def oneI (_ : Fm) (_ : Int) : Fm := zeroForm
def ndH (x : Ht) : Fm × Int := (x.name, x.depth)
theorem shapeH_nd (one : Fm → Int → Fm) : ∀ (vs : List Fm) (ds : List Int), (shapeH one vs ds).map ndH = vs.zip ds
  | [], ds => by simp [shapeH]
  | v :: vs, [] => by simp [shapeH]
  | v :: vs, d :: ds => by rw [shapeH, List.map_cons, shapeH_nd one vs ds]; rfl
theorem shapeH_length (one : Fm → Int → Fm) (vs : List Fm) (ds : List Int) (h : ds.length = vs.length) : (shapeH one vs ds).length = vs.length := by
  have := congrArg List.length (shapeH_nd one vs ds)
  rw [List.length_map, List.length_zip] at this
  omega
theorem shapeH_name (one : Fm → Int → Fm) (vs : List Fm) (ds : List Int) (h : ds.length = vs.length) (n : Nat) (hn : n < (shapeH one vs ds).length) (hv : n < vs.length) : (shapeH one vs ds)[n].name = vs[n] := by
  have h1 : ((shapeH one vs ds).map ndH)[n]'(by simpa using hn) = (vs.zip ds)[n]'(by rw [List.length_zip]; omega) := by congr 1; exact shapeH_nd one vs ds
  rw [List.getElem_map, List.getElem_zip] at h1
  exact congrArg Prod.fst h1
theorem shapeH_succ (one : Fm → Int → Fm) : ∀ (vs : List Fm) (ds : List Int) (n : Nat) (hv : n < vs.length) (hd : n < ds.length), shapeH one (vs.take (n + 1)) (ds.take (n + 1)) = shapeH one (vs.take n) (ds.take n) ++ [.mk vs[n] ds[n] (one vs[n] ds[n]) []]
  | [], _, _, hv, _ => by simp at hv
  | _ :: _, [], _, _, hd => by simp at hd
  | v :: vs, d :: ds, 0, _, _ => by simp [shapeH]
  | v :: vs, d :: ds, n + 1, hv, hd => by
    simp only [List.take_succ_cons, shapeH, List.cons_append, List.getElem_cons_succ]
    rw [shapeH_succ one vs ds n (by simpa using hv) (by simpa using hd)]
theorem below_nd (g : Fm) (l : List Ht) (r : Nat) : belowB g l r = (l.map ndH).any fun q => (g.pre.any fun p => nodeSame q.1 p) && decide (q.2 > (r : Int)) := by
  unfold belowB
  rw [List.any_map]
  rfl
theorem over_nd (l : List Ht) (f : Fm) (r : Nat) : overB l f r = match (l.map ndH).find? (fun q => sameB q.1 f) with | some q => decide (q.2 > (r : Int)) | none => false := by
  unfold overB
  rw [List.find?_map]
  have : (fun q : Fm × Int => sameB q.1 f) ∘ ndH = hasN f := rfl
  rw [this]
  cases l.find? (hasN f) <;> rfl
theorem below_alike {l l' : List Ht} (h : l.map ndH = l'.map ndH) (g : Fm) (r : Nat) : belowB g l r = belowB g l' r := by rw [below_nd, below_nd, h]
theorem over_alike {l l' : List Ht} (h : l.map ndH = l'.map ndH) (f : Fm) (r : Nat) : overB l f r = overB l' f r := by rw [over_nd, over_nd, h]
mutual
theorem fit_alike {l l' : List Ht} (h : l.map ndH = l'.map ndH) : ∀ (f : Fm) (r : Nat), fitB f l r = fitB f l' r
  | .mk k nm n sc ks, r => by rw [fitB, fitB, over_alike h, fitAll_alike h ks true r]
theorem fitAll_alike {l l' : List Ht} (h : l.map ndH = l'.map ndH) : ∀ (ks : List Fm) (fst : Bool) (r : Nat), fitAll ks fst l r = fitAll ks fst l' r
  | [], fst, r => by simp [fitAll]
  | g :: q, fst, r => by rw [fitAll, fitAll, below_alike h, fit_alike h g r, fit_alike h g (r + 1), fitAll_alike h q false r]
end
theorem once_at {ls : List Fm} (h : onceUp ls ls.length = true) (n : Nat) (hn : n < ls.length) : inF (ls.take n) ls[n] = false := by
  have h1 : onceUp ls (n + 1) = true := by
    cases hh : onceUp ls (n + 1) with
    | true => rfl
    | false => have := onceUp_no hh ls.length (by omega); rw [this] at h; cases h
  rw [onceUp_succ hn, Bool.and_eq_true, Bool.not_eq_true'] at h1
  exact h1.2
theorem shape_good (one : Fm → Int → Fm) {vs : List Fm} {ds : List Int} (hl : ds.length = vs.length) (hv : ∀ g ∈ vs, isNameB g = true ∧ resB g.name = false) (ho : onceUp vs vs.length = true) : GoodNames (shapeH one vs ds) := by
  have hlen := shapeH_length one vs ds hl
  have hmem : ∀ x ∈ shapeH one vs ds, x.name ∈ vs := fun x hx => by
    obtain ⟨n, hn, rfl⟩ := List.getElem_of_mem hx
    rw [shapeH_name one vs ds hl n hn (by omega)]
    exact List.getElem_mem _
  refine ⟨fun x hx => (hv _ (hmem x hx)).1, fun x hx => ?_, fun p x hx hs => ?_⟩
  · have h2 := (hv _ (hmem x hx)).2
    unfold resB at h2
    rw [Bool.or_eq_false_iff] at h2
    unfold dotsB
    rw [h2.1, Bool.and_false]
  · obtain ⟨n, hn, rfl⟩ := List.getElem_of_mem hx
    obtain rfl := sameB_eq hs
    refine find_first _ _ n hn ?_ hs
    have hvn : n < vs.length := by omega
    have h1 := once_at ho n hvn
    rw [List.any_eq_false]
    intro y hy hys
    obtain ⟨m, hm, rfl⟩ := List.getElem_of_mem hy
    have hm' : m < n := by rw [List.length_take] at hm; omega
    rw [List.getElem_take] at hys
    unfold hasN at hys
    rw [shapeH_name one vs ds hl m (by omega) (by omega), shapeH_name one vs ds hl n hn hvn] at hys
    have h3 : inF (vs.take n) vs[n] = true := by
      unfold inF
      rw [List.any_eq_true]
      exact ⟨vs[m], List.mem_take_iff_getElem.2 ⟨m, by omega, rfl⟩, hys⟩
    rw [h3] at h1
    cases h1
/-- a rule's test: the model's words -/
def ruleB (p t : Fm) (ls : List Fm) : Bool := patternB p ls && (decide (p.kind = 3) && (decide (0 < p.kids.length) && (formB t && tmplB t (shapeH oneS (varsF ls p) (depF ls p 0)))))
theorem rule_ok {p t : Fm} {ls : List Fm} (hp : patternB p ls = true) (ht : formB t = true) : fitB t (shapeH oneI (varsF ls p) (depF ls p 0)) 0 = tmplB t (shapeH oneS (varsF ls p) (depF ls p 0)) := by
  unfold patternB at hp
  simp only [Bool.and_eq_true] at hp
  have hl : (depF ls p 0).length = (varsF ls p).length := depF_length ls p 0
  have hg := shape_good oneS hl (vars_names hp.1) hp.2.2.2.1
  rw [fit_alike (l' := shapeH oneS (varsF ls p) (depF ls p 0)) (by rw [shapeH_nd, shapeH_nd]), fit_tmpl hg 40 t (formB_is ht) 0]
  rfl
end
end Go.Proofs.Ytnogpaflibghhaa
