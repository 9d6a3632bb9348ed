/-
  NARROWER THAN 'FOR EVERY INPUT', by the rows' own cells (each row's printed sentence says how): FnExactPatternValid: loops · FnExactPatternVars: loops · FnExactVarDepths: loops · FnExactHitsValid: loops · FnExactFindHit: loops · FnExactHitForms: loops · FnExactHitsSame: loops · FnExactFormSize: loops · FnExactFormValid: loops · FnExactNamesOf: loops · FnExactListForm: loops · FnExactStripForm: loops.
  DERIVED. THE GIVEN ROWS OF THIS SEAT. 12 by the template 'for every input the law returns true; each argument reads behind the call as it read before'; 0 by the template 'total and deterministic' (their statements: YtbbihbapmbjbgaaTotals.lean).
  GIVEN WITH THE SEED: the statements are not yours to turn. If you find one false, say at which input.
  Laid BY PROGRAM, IN A SANDBOX (cutbox-rows.mjs): the forced cells as the released guide's own fill.sh prints them over the translation 72519eceaba4793f… (all of the seat's roots in one cut). By AI agents, Wed Nov 11 2026. No macro, syntax, notation, axiom, sorry.
-/
import Derived.Test.YtbbihbapmbjbgaaChecked
import GoSem.Claim
import GoSem.ClaimJoined
import GoSem.ClaimMapViews
import Derived.JoinedTies
import Derived.KernelRfl
namespace Go.Proofs.Ytbbihbapmbjbgaa
/- THE CELL 'sum', in the pinned program and in every row, IS THE sha256 OF THE DUMP (.gsa) THAT YtbbihbapmbjbgaaProg.lean LOADS. Nothing in Lean hashes anything: it is a label: what it is worth is what the hold of that sum in a sandbox is worth. -/
noncomputable def Try.pinned : Pinned := { name := "ytbbihbapmbjbgaa", sum := "72519eceaba4793f15d5a6aefd9ae538b9363a2f30c92aefd9958114677ce3d9", checked := Try.checked }
namespace Rows
def none {H : Type} : Left H := { results := [], args := [] }

/-- 'laws.FnExactPatternValid': WHATEVER THE INPUT: true; the input reads as it did. -/
def fnExactPatternValidSpec : ChangeSpec := { name := "fnExactPatternValid", fn := fun _ => fun
  | [d1, d2] => { results := [.lit (.bool true)], args := [d1, d2] }
  | _ => none }
def fnExactPatternValidRow : OpenClaim := { program := "ytbbihbapmbjbgaa", sum := "72519eceaba4793f15d5a6aefd9ae538b9363a2f30c92aefd9958114677ce3d9", func := "loop.example/macroexpander/laws.FnExactPatternValid", spec := "fnExactPatternValid", unfollowed := true, recurses := true, loops := true, apart := false }
def FnExactPatternValidSaid : Prop := fnExactPatternValidRow.holds Try.pinned (OpenSpec.ofChange fnExactPatternValidSpec)

/-- ITS FALSE NEIGHBOUR: 'it returns false'. Refute it at one input. -/
def fnExactPatternValidWrong : ChangeSpec := { name := "fnExactPatternValid", fn := fun _ => fun
  | [d1, d2] => { results := [.lit (.bool false)], args := [d1, d2] }
  | _ => none }
def FnExactPatternValidWrongFalsely : Prop := fnExactPatternValidRow.holds Try.pinned (OpenSpec.ofChange fnExactPatternValidWrong)

/-- 'laws.FnExactPatternVars': WHATEVER THE INPUT: true; the input reads as it did. -/
def fnExactPatternVarsSpec : ChangeSpec := { name := "fnExactPatternVars", fn := fun _ => fun
  | [d1, d2] => { results := [.lit (.bool true)], args := [d1, d2] }
  | _ => none }
def fnExactPatternVarsRow : OpenClaim := { program := "ytbbihbapmbjbgaa", sum := "72519eceaba4793f15d5a6aefd9ae538b9363a2f30c92aefd9958114677ce3d9", func := "loop.example/macroexpander/laws.FnExactPatternVars", spec := "fnExactPatternVars", unfollowed := true, recurses := true, loops := true, apart := false }
def FnExactPatternVarsSaid : Prop := fnExactPatternVarsRow.holds Try.pinned (OpenSpec.ofChange fnExactPatternVarsSpec)

/-- ITS FALSE NEIGHBOUR: 'it returns false'. Refute it at one input. -/
def fnExactPatternVarsWrong : ChangeSpec := { name := "fnExactPatternVars", fn := fun _ => fun
  | [d1, d2] => { results := [.lit (.bool false)], args := [d1, d2] }
  | _ => none }
def FnExactPatternVarsWrongFalsely : Prop := fnExactPatternVarsRow.holds Try.pinned (OpenSpec.ofChange fnExactPatternVarsWrong)

/-- 'laws.FnExactVarDepths': WHATEVER THE INPUT: true; the input reads as it did. -/
def fnExactVarDepthsSpec : ChangeSpec := { name := "fnExactVarDepths", fn := fun _ => fun
  | [d1, d2] => { results := [.lit (.bool true)], args := [d1, d2] }
  | _ => none }
def fnExactVarDepthsRow : OpenClaim := { program := "ytbbihbapmbjbgaa", sum := "72519eceaba4793f15d5a6aefd9ae538b9363a2f30c92aefd9958114677ce3d9", func := "loop.example/macroexpander/laws.FnExactVarDepths", spec := "fnExactVarDepths", unfollowed := true, recurses := true, loops := true, apart := false }
def FnExactVarDepthsSaid : Prop := fnExactVarDepthsRow.holds Try.pinned (OpenSpec.ofChange fnExactVarDepthsSpec)

/-- ITS FALSE NEIGHBOUR: 'it returns false'. Refute it at one input. -/
def fnExactVarDepthsWrong : ChangeSpec := { name := "fnExactVarDepths", fn := fun _ => fun
  | [d1, d2] => { results := [.lit (.bool false)], args := [d1, d2] }
  | _ => none }
def FnExactVarDepthsWrongFalsely : Prop := fnExactVarDepthsRow.holds Try.pinned (OpenSpec.ofChange fnExactVarDepthsWrong)

/-- 'laws.FnExactHitsValid': WHATEVER THE INPUT: true; the input reads as it did. -/
def fnExactHitsValidSpec : ChangeSpec := { name := "fnExactHitsValid", fn := fun _ => fun
  | [d] => { results := [.lit (.bool true)], args := [d] }
  | _ => none }
def fnExactHitsValidRow : OpenClaim := { program := "ytbbihbapmbjbgaa", sum := "72519eceaba4793f15d5a6aefd9ae538b9363a2f30c92aefd9958114677ce3d9", func := "loop.example/macroexpander/laws.FnExactHitsValid", spec := "fnExactHitsValid", unfollowed := true, recurses := true, loops := true, apart := false }
def FnExactHitsValidSaid : Prop := fnExactHitsValidRow.holds Try.pinned (OpenSpec.ofChange fnExactHitsValidSpec)

/-- ITS FALSE NEIGHBOUR: 'it returns false'. Refute it at one input. -/
def fnExactHitsValidWrong : ChangeSpec := { name := "fnExactHitsValid", fn := fun _ => fun
  | [d] => { results := [.lit (.bool false)], args := [d] }
  | _ => none }
def FnExactHitsValidWrongFalsely : Prop := fnExactHitsValidRow.holds Try.pinned (OpenSpec.ofChange fnExactHitsValidWrong)

/-- 'laws.FnExactFindHit': WHATEVER THE INPUT: true; the input reads as it did. -/
def fnExactFindHitSpec : ChangeSpec := { name := "fnExactFindHit", fn := fun _ => fun
  | [d1, d2] => { results := [.lit (.bool true)], args := [d1, d2] }
  | _ => none }
def fnExactFindHitRow : OpenClaim := { program := "ytbbihbapmbjbgaa", sum := "72519eceaba4793f15d5a6aefd9ae538b9363a2f30c92aefd9958114677ce3d9", func := "loop.example/macroexpander/laws.FnExactFindHit", spec := "fnExactFindHit", unfollowed := true, recurses := true, loops := true, apart := false }
def FnExactFindHitSaid : Prop := fnExactFindHitRow.holds Try.pinned (OpenSpec.ofChange fnExactFindHitSpec)

/-- ITS FALSE NEIGHBOUR: 'it returns false'. Refute it at one input. -/
def fnExactFindHitWrong : ChangeSpec := { name := "fnExactFindHit", fn := fun _ => fun
  | [d1, d2] => { results := [.lit (.bool false)], args := [d1, d2] }
  | _ => none }
def FnExactFindHitWrongFalsely : Prop := fnExactFindHitRow.holds Try.pinned (OpenSpec.ofChange fnExactFindHitWrong)

/-- 'laws.FnExactHitForms': WHATEVER THE INPUT: true; the input reads as it did. -/
def fnExactHitFormsSpec : ChangeSpec := { name := "fnExactHitForms", fn := fun _ => fun
  | [d] => { results := [.lit (.bool true)], args := [d] }
  | _ => none }
def fnExactHitFormsRow : OpenClaim := { program := "ytbbihbapmbjbgaa", sum := "72519eceaba4793f15d5a6aefd9ae538b9363a2f30c92aefd9958114677ce3d9", func := "loop.example/macroexpander/laws.FnExactHitForms", spec := "fnExactHitForms", unfollowed := true, recurses := true, loops := true, apart := false }
def FnExactHitFormsSaid : Prop := fnExactHitFormsRow.holds Try.pinned (OpenSpec.ofChange fnExactHitFormsSpec)

/-- ITS FALSE NEIGHBOUR: 'it returns false'. Refute it at one input. -/
def fnExactHitFormsWrong : ChangeSpec := { name := "fnExactHitForms", fn := fun _ => fun
  | [d] => { results := [.lit (.bool false)], args := [d] }
  | _ => none }
def FnExactHitFormsWrongFalsely : Prop := fnExactHitFormsRow.holds Try.pinned (OpenSpec.ofChange fnExactHitFormsWrong)

/-- 'laws.FnExactHitsSame': WHATEVER THE INPUT: true; the input reads as it did. -/
def fnExactHitsSameSpec : ChangeSpec := { name := "fnExactHitsSame", fn := fun _ => fun
  | [d1, d2] => { results := [.lit (.bool true)], args := [d1, d2] }
  | _ => none }
def fnExactHitsSameRow : OpenClaim := { program := "ytbbihbapmbjbgaa", sum := "72519eceaba4793f15d5a6aefd9ae538b9363a2f30c92aefd9958114677ce3d9", func := "loop.example/macroexpander/laws.FnExactHitsSame", spec := "fnExactHitsSame", unfollowed := true, recurses := true, loops := true, apart := false }
def FnExactHitsSameSaid : Prop := fnExactHitsSameRow.holds Try.pinned (OpenSpec.ofChange fnExactHitsSameSpec)

/-- ITS FALSE NEIGHBOUR: 'it returns false'. Refute it at one input. -/
def fnExactHitsSameWrong : ChangeSpec := { name := "fnExactHitsSame", fn := fun _ => fun
  | [d1, d2] => { results := [.lit (.bool false)], args := [d1, d2] }
  | _ => none }
def FnExactHitsSameWrongFalsely : Prop := fnExactHitsSameRow.holds Try.pinned (OpenSpec.ofChange fnExactHitsSameWrong)

/-- 'laws.FnExactFormSize': WHATEVER THE INPUT: true; the input reads as it did. -/
def fnExactFormSizeSpec : ChangeSpec := { name := "fnExactFormSize", fn := fun _ => fun
  | [d] => { results := [.lit (.bool true)], args := [d] }
  | _ => none }
def fnExactFormSizeRow : OpenClaim := { program := "ytbbihbapmbjbgaa", sum := "72519eceaba4793f15d5a6aefd9ae538b9363a2f30c92aefd9958114677ce3d9", func := "loop.example/macroexpander/laws.FnExactFormSize", spec := "fnExactFormSize", unfollowed := true, recurses := true, loops := true, apart := false }
def FnExactFormSizeSaid : Prop := fnExactFormSizeRow.holds Try.pinned (OpenSpec.ofChange fnExactFormSizeSpec)

/-- ITS FALSE NEIGHBOUR: 'it returns false'. Refute it at one input. -/
def fnExactFormSizeWrong : ChangeSpec := { name := "fnExactFormSize", fn := fun _ => fun
  | [d] => { results := [.lit (.bool false)], args := [d] }
  | _ => none }
def FnExactFormSizeWrongFalsely : Prop := fnExactFormSizeRow.holds Try.pinned (OpenSpec.ofChange fnExactFormSizeWrong)

/-- 'laws.FnExactFormValid': WHATEVER THE INPUT: true; the input reads as it did. -/
def fnExactFormValidSpec : ChangeSpec := { name := "fnExactFormValid", fn := fun _ => fun
  | [d] => { results := [.lit (.bool true)], args := [d] }
  | _ => none }
def fnExactFormValidRow : OpenClaim := { program := "ytbbihbapmbjbgaa", sum := "72519eceaba4793f15d5a6aefd9ae538b9363a2f30c92aefd9958114677ce3d9", func := "loop.example/macroexpander/laws.FnExactFormValid", spec := "fnExactFormValid", recurses := true, loops := true, apart := false }
def FnExactFormValidSaid : Prop := fnExactFormValidRow.holds Try.pinned (OpenSpec.ofChange fnExactFormValidSpec)

/-- ITS FALSE NEIGHBOUR: 'it returns false'. Refute it at one input. -/
def fnExactFormValidWrong : ChangeSpec := { name := "fnExactFormValid", fn := fun _ => fun
  | [d] => { results := [.lit (.bool false)], args := [d] }
  | _ => none }
def FnExactFormValidWrongFalsely : Prop := fnExactFormValidRow.holds Try.pinned (OpenSpec.ofChange fnExactFormValidWrong)

/-- 'laws.FnExactNamesOf': WHATEVER THE INPUT: true; the input reads as it did. -/
def fnExactNamesOfSpec : ChangeSpec := { name := "fnExactNamesOf", fn := fun _ => fun
  | [d] => { results := [.lit (.bool true)], args := [d] }
  | _ => none }
def fnExactNamesOfRow : OpenClaim := { program := "ytbbihbapmbjbgaa", sum := "72519eceaba4793f15d5a6aefd9ae538b9363a2f30c92aefd9958114677ce3d9", func := "loop.example/macroexpander/laws.FnExactNamesOf", spec := "fnExactNamesOf", unfollowed := true, recurses := true, loops := true, apart := false }
def FnExactNamesOfSaid : Prop := fnExactNamesOfRow.holds Try.pinned (OpenSpec.ofChange fnExactNamesOfSpec)

/-- ITS FALSE NEIGHBOUR: 'it returns false'. Refute it at one input. -/
def fnExactNamesOfWrong : ChangeSpec := { name := "fnExactNamesOf", fn := fun _ => fun
  | [d] => { results := [.lit (.bool false)], args := [d] }
  | _ => none }
def FnExactNamesOfWrongFalsely : Prop := fnExactNamesOfRow.holds Try.pinned (OpenSpec.ofChange fnExactNamesOfWrong)

/-- 'laws.FnExactListForm': WHATEVER THE INPUT: true; the input reads as it did. -/
def fnExactListFormSpec : ChangeSpec := { name := "fnExactListForm", fn := fun _ => fun
  | [d] => { results := [.lit (.bool true)], args := [d] }
  | _ => none }
def fnExactListFormRow : OpenClaim := { program := "ytbbihbapmbjbgaa", sum := "72519eceaba4793f15d5a6aefd9ae538b9363a2f30c92aefd9958114677ce3d9", func := "loop.example/macroexpander/laws.FnExactListForm", spec := "fnExactListForm", unfollowed := true, recurses := true, loops := true, apart := false }
def FnExactListFormSaid : Prop := fnExactListFormRow.holds Try.pinned (OpenSpec.ofChange fnExactListFormSpec)

/-- ITS FALSE NEIGHBOUR: 'it returns false'. Refute it at one input. -/
def fnExactListFormWrong : ChangeSpec := { name := "fnExactListForm", fn := fun _ => fun
  | [d] => { results := [.lit (.bool false)], args := [d] }
  | _ => none }
def FnExactListFormWrongFalsely : Prop := fnExactListFormRow.holds Try.pinned (OpenSpec.ofChange fnExactListFormWrong)

/-- 'laws.FnExactStripForm': WHATEVER THE INPUT: true; the input reads as it did. -/
def fnExactStripFormSpec : ChangeSpec := { name := "fnExactStripForm", fn := fun _ => fun
  | [d] => { results := [.lit (.bool true)], args := [d] }
  | _ => none }
def fnExactStripFormRow : OpenClaim := { program := "ytbbihbapmbjbgaa", sum := "72519eceaba4793f15d5a6aefd9ae538b9363a2f30c92aefd9958114677ce3d9", func := "loop.example/macroexpander/laws.FnExactStripForm", spec := "fnExactStripForm", unfollowed := true, recurses := true, loops := true, apart := false }
def FnExactStripFormSaid : Prop := fnExactStripFormRow.holds Try.pinned (OpenSpec.ofChange fnExactStripFormSpec)

/-- ITS FALSE NEIGHBOUR: 'it returns false'. Refute it at one input. -/
def fnExactStripFormWrong : ChangeSpec := { name := "fnExactStripForm", fn := fun _ => fun
  | [d] => { results := [.lit (.bool false)], args := [d] }
  | _ => none }
def FnExactStripFormWrongFalsely : Prop := fnExactStripFormRow.holds Try.pinned (OpenSpec.ofChange fnExactStripFormWrong)

/- THE SECOND FORM. 'bulk': how many values and letters a reading holds, each counted each time it is reached (what is shared counts as often as it is met; a slice's spare places count too). A statement '..UptoSaid' is the law's where the arguments, and the package variables that the reading takes, are together of bulk at most 1048576: NARROWER than '..Said'. Prove '..Said' where nothing that the law and all that it calls make is longer than what came in: it says more and counts as full. Else prove '..UptoSaid'. A law counts once. -/
mutual
def uptoBulk {H : Type} : DataW H → Nat
  | .lit (.string bytes) => bytes.length + 1
  | .lit _ => 1
  | .nil => 1
  | .ptr d => uptoBulk d + 1
  | .slice elems spare => uptoBulkAll elems + uptoBulkAll spare + 1
  | .agg parts => uptoBulkAll parts + 1
  | .iface _ d => uptoBulk d + 1
  | .map entries => uptoBulkEntries entries + 1
  | .held _ => 1
def uptoBulkAll {H : Type} : List (DataW H) → Nat
  | [] => 0
  | d :: r => uptoBulk d + uptoBulkAll r
def uptoBulkEntries {H : Type} : List (Lit × DataW H) → Nat
  | [] => 0
  | x :: r => uptoBulkEntry x + uptoBulkEntries r
def uptoBulkEntry {H : Type} : Lit × DataW H → Nat
  | (.string bytes, d) => bytes.length + uptoBulk d + 1
  | (_, d) => uptoBulk d + 1
 end
def uptoSmall : (H : Type) → List (DataW H) → Bool := fun _ ds => decide (uptoBulkAll ds ≤ 1048576)
def OpenSpec.upto (s : _root_.Go.ChangeSpec) : _root_.Go.OpenSpec := { _root_.Go.OpenSpec.ofChange s with cond := some uptoSmall }

/-- 'laws.FnExactPatternValid', WHERE WHAT IT READS IS OF BULK AT MOST 1048576: true; the input reads as it did. -/
def fnExactPatternValidUptoRow : OpenClaim := { program := "ytbbihbapmbjbgaa", sum := "72519eceaba4793f15d5a6aefd9ae538b9363a2f30c92aefd9958114677ce3d9", func := "loop.example/macroexpander/laws.FnExactPatternValid", spec := "fnExactPatternValid", unfollowed := true, recurses := true, loops := true, apart := false, narrowed := true }
def FnExactPatternValidUptoSaid : Prop := fnExactPatternValidUptoRow.holds Try.pinned (OpenSpec.upto fnExactPatternValidSpec)

/-- 'laws.FnExactPatternVars', WHERE WHAT IT READS IS OF BULK AT MOST 1048576: true; the input reads as it did. -/
def fnExactPatternVarsUptoRow : OpenClaim := { program := "ytbbihbapmbjbgaa", sum := "72519eceaba4793f15d5a6aefd9ae538b9363a2f30c92aefd9958114677ce3d9", func := "loop.example/macroexpander/laws.FnExactPatternVars", spec := "fnExactPatternVars", unfollowed := true, recurses := true, loops := true, apart := false, narrowed := true }
def FnExactPatternVarsUptoSaid : Prop := fnExactPatternVarsUptoRow.holds Try.pinned (OpenSpec.upto fnExactPatternVarsSpec)

/-- 'laws.FnExactVarDepths', WHERE WHAT IT READS IS OF BULK AT MOST 1048576: true; the input reads as it did. -/
def fnExactVarDepthsUptoRow : OpenClaim := { program := "ytbbihbapmbjbgaa", sum := "72519eceaba4793f15d5a6aefd9ae538b9363a2f30c92aefd9958114677ce3d9", func := "loop.example/macroexpander/laws.FnExactVarDepths", spec := "fnExactVarDepths", unfollowed := true, recurses := true, loops := true, apart := false, narrowed := true }
def FnExactVarDepthsUptoSaid : Prop := fnExactVarDepthsUptoRow.holds Try.pinned (OpenSpec.upto fnExactVarDepthsSpec)

/-- 'laws.FnExactHitsValid', WHERE WHAT IT READS IS OF BULK AT MOST 1048576: true; the input reads as it did. -/
def fnExactHitsValidUptoRow : OpenClaim := { program := "ytbbihbapmbjbgaa", sum := "72519eceaba4793f15d5a6aefd9ae538b9363a2f30c92aefd9958114677ce3d9", func := "loop.example/macroexpander/laws.FnExactHitsValid", spec := "fnExactHitsValid", unfollowed := true, recurses := true, loops := true, apart := false, narrowed := true }
def FnExactHitsValidUptoSaid : Prop := fnExactHitsValidUptoRow.holds Try.pinned (OpenSpec.upto fnExactHitsValidSpec)

/-- 'laws.FnExactFindHit', WHERE WHAT IT READS IS OF BULK AT MOST 1048576: true; the input reads as it did. -/
def fnExactFindHitUptoRow : OpenClaim := { program := "ytbbihbapmbjbgaa", sum := "72519eceaba4793f15d5a6aefd9ae538b9363a2f30c92aefd9958114677ce3d9", func := "loop.example/macroexpander/laws.FnExactFindHit", spec := "fnExactFindHit", unfollowed := true, recurses := true, loops := true, apart := false, narrowed := true }
def FnExactFindHitUptoSaid : Prop := fnExactFindHitUptoRow.holds Try.pinned (OpenSpec.upto fnExactFindHitSpec)

/-- 'laws.FnExactHitForms', WHERE WHAT IT READS IS OF BULK AT MOST 1048576: true; the input reads as it did. -/
def fnExactHitFormsUptoRow : OpenClaim := { program := "ytbbihbapmbjbgaa", sum := "72519eceaba4793f15d5a6aefd9ae538b9363a2f30c92aefd9958114677ce3d9", func := "loop.example/macroexpander/laws.FnExactHitForms", spec := "fnExactHitForms", unfollowed := true, recurses := true, loops := true, apart := false, narrowed := true }
def FnExactHitFormsUptoSaid : Prop := fnExactHitFormsUptoRow.holds Try.pinned (OpenSpec.upto fnExactHitFormsSpec)

/-- 'laws.FnExactHitsSame', WHERE WHAT IT READS IS OF BULK AT MOST 1048576: true; the input reads as it did. -/
def fnExactHitsSameUptoRow : OpenClaim := { program := "ytbbihbapmbjbgaa", sum := "72519eceaba4793f15d5a6aefd9ae538b9363a2f30c92aefd9958114677ce3d9", func := "loop.example/macroexpander/laws.FnExactHitsSame", spec := "fnExactHitsSame", unfollowed := true, recurses := true, loops := true, apart := false, narrowed := true }
def FnExactHitsSameUptoSaid : Prop := fnExactHitsSameUptoRow.holds Try.pinned (OpenSpec.upto fnExactHitsSameSpec)

/-- 'laws.FnExactFormSize', WHERE WHAT IT READS IS OF BULK AT MOST 1048576: true; the input reads as it did. -/
def fnExactFormSizeUptoRow : OpenClaim := { program := "ytbbihbapmbjbgaa", sum := "72519eceaba4793f15d5a6aefd9ae538b9363a2f30c92aefd9958114677ce3d9", func := "loop.example/macroexpander/laws.FnExactFormSize", spec := "fnExactFormSize", unfollowed := true, recurses := true, loops := true, apart := false, narrowed := true }
def FnExactFormSizeUptoSaid : Prop := fnExactFormSizeUptoRow.holds Try.pinned (OpenSpec.upto fnExactFormSizeSpec)

/-- 'laws.FnExactFormValid', WHERE WHAT IT READS IS OF BULK AT MOST 1048576: true; the input reads as it did. -/
def fnExactFormValidUptoRow : OpenClaim := { program := "ytbbihbapmbjbgaa", sum := "72519eceaba4793f15d5a6aefd9ae538b9363a2f30c92aefd9958114677ce3d9", func := "loop.example/macroexpander/laws.FnExactFormValid", spec := "fnExactFormValid", recurses := true, loops := true, apart := false, narrowed := true }
def FnExactFormValidUptoSaid : Prop := fnExactFormValidUptoRow.holds Try.pinned (OpenSpec.upto fnExactFormValidSpec)

/-- 'laws.FnExactNamesOf', WHERE WHAT IT READS IS OF BULK AT MOST 1048576: true; the input reads as it did. -/
def fnExactNamesOfUptoRow : OpenClaim := { program := "ytbbihbapmbjbgaa", sum := "72519eceaba4793f15d5a6aefd9ae538b9363a2f30c92aefd9958114677ce3d9", func := "loop.example/macroexpander/laws.FnExactNamesOf", spec := "fnExactNamesOf", unfollowed := true, recurses := true, loops := true, apart := false, narrowed := true }
def FnExactNamesOfUptoSaid : Prop := fnExactNamesOfUptoRow.holds Try.pinned (OpenSpec.upto fnExactNamesOfSpec)

/-- 'laws.FnExactListForm', WHERE WHAT IT READS IS OF BULK AT MOST 1048576: true; the input reads as it did. -/
def fnExactListFormUptoRow : OpenClaim := { program := "ytbbihbapmbjbgaa", sum := "72519eceaba4793f15d5a6aefd9ae538b9363a2f30c92aefd9958114677ce3d9", func := "loop.example/macroexpander/laws.FnExactListForm", spec := "fnExactListForm", unfollowed := true, recurses := true, loops := true, apart := false, narrowed := true }
def FnExactListFormUptoSaid : Prop := fnExactListFormUptoRow.holds Try.pinned (OpenSpec.upto fnExactListFormSpec)

/-- 'laws.FnExactStripForm', WHERE WHAT IT READS IS OF BULK AT MOST 1048576: true; the input reads as it did. -/
def fnExactStripFormUptoRow : OpenClaim := { program := "ytbbihbapmbjbgaa", sum := "72519eceaba4793f15d5a6aefd9ae538b9363a2f30c92aefd9958114677ce3d9", func := "loop.example/macroexpander/laws.FnExactStripForm", spec := "fnExactStripForm", unfollowed := true, recurses := true, loops := true, apart := false, narrowed := true }
def FnExactStripFormUptoSaid : Prop := fnExactStripFormUptoRow.holds Try.pinned (OpenSpec.upto fnExactStripFormSpec)

end Rows
end Go.Proofs.Ytbbihbapmbjbgaa
