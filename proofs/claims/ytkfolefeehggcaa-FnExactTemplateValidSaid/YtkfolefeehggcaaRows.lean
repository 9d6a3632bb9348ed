/-
  NARROWER THAN 'FOR EVERY INPUT', by the rows' own cells (each row's printed sentence says how): FnExactHitsValid: loops · FnExactFindHit: loops · FnExactHitForms: loops · FnExactPatternVars: loops · FnExactTemplateValid: loops · FnExactRuleValid: loops · FnExactCoreValid: loops · FnExactCoreSame: loops · FnExactCoreSize: loops · FnExactDataValue: loops · FnExactValueSame: loops.
  DERIVED. THE GIVEN ROWS OF THIS SEAT. 12 by the template 'for every input the law returns true; each argument reads behind the call as it read before'; 0 by the template 'total and deterministic' (their statements: YtkfolefeehggcaaTotals.lean).
  GIVEN WITH THE SEED: the statements are not yours to turn. If you find one false, say at which input.
  Laid BY PROGRAM, IN A SANDBOX (cutbox-rows.mjs): the forced cells as the released guide's own fill.sh prints them over the translation d96ff8ad72a3dc63… (all of the seat's roots in one cut). By AI agents, Wed Nov 11 2026. No macro, syntax, notation, axiom, sorry.
-/
import Derived.Test.YtkfolefeehggcaaChecked
import GoSem.Claim
import GoSem.ClaimJoined
import GoSem.ClaimMapViews
import Derived.JoinedTies
import Derived.KernelRfl
namespace Go.Proofs.Ytkfolefeehggcaa
/- THE CELL 'sum', in the pinned program and in every row, IS THE sha256 OF THE DUMP (.gsa) THAT YtkfolefeehggcaaProg.lean LOADS. Nothing in Lean hashes anything: it is a label: what it is worth is what the hold of that sum in a sandbox is worth. -/
noncomputable def Try.pinned : Pinned := { name := "ytkfolefeehggcaa", sum := "d96ff8ad72a3dc63206716271e796ee42a0a17dcf870cd8144fe84e131936980", checked := Try.checked }
namespace Rows
def none {H : Type} : Left H := { results := [], args := [] }

/-- 'laws.FnExactHitsValid': WHATEVER THE INPUT: true; the input reads as it did. -/
def fnExactHitsValidSpec : ChangeSpec := { name := "fnExactHitsValid", fn := fun _ => fun
  | [d] => { results := [.lit (.bool true)], args := [d] }
  | _ => none }
def fnExactHitsValidRow : OpenClaim := { program := "ytkfolefeehggcaa", sum := "d96ff8ad72a3dc63206716271e796ee42a0a17dcf870cd8144fe84e131936980", func := "loop.example/macroexpander/laws.FnExactHitsValid", spec := "fnExactHitsValid", unfollowed := true, recurses := true, loops := true, apart := false }
def FnExactHitsValidSaid : Prop := fnExactHitsValidRow.holds Try.pinned (OpenSpec.ofChange fnExactHitsValidSpec)

/-- ITS FALSE NEIGHBOUR: 'it returns false'. Refute it at one input. -/
def fnExactHitsValidWrong : ChangeSpec := { name := "fnExactHitsValid", fn := fun _ => fun
  | [d] => { results := [.lit (.bool false)], args := [d] }
  | _ => none }
def FnExactHitsValidWrongFalsely : Prop := fnExactHitsValidRow.holds Try.pinned (OpenSpec.ofChange fnExactHitsValidWrong)

/-- 'laws.FnExactFindHit': WHATEVER THE INPUT: true; the input reads as it did. -/
def fnExactFindHitSpec : ChangeSpec := { name := "fnExactFindHit", fn := fun _ => fun
  | [d1, d2] => { results := [.lit (.bool true)], args := [d1, d2] }
  | _ => none }
def fnExactFindHitRow : OpenClaim := { program := "ytkfolefeehggcaa", sum := "d96ff8ad72a3dc63206716271e796ee42a0a17dcf870cd8144fe84e131936980", func := "loop.example/macroexpander/laws.FnExactFindHit", spec := "fnExactFindHit", unfollowed := true, recurses := true, loops := true, apart := false }
def FnExactFindHitSaid : Prop := fnExactFindHitRow.holds Try.pinned (OpenSpec.ofChange fnExactFindHitSpec)

/-- ITS FALSE NEIGHBOUR: 'it returns false'. Refute it at one input. -/
def fnExactFindHitWrong : ChangeSpec := { name := "fnExactFindHit", fn := fun _ => fun
  | [d1, d2] => { results := [.lit (.bool false)], args := [d1, d2] }
  | _ => none }
def FnExactFindHitWrongFalsely : Prop := fnExactFindHitRow.holds Try.pinned (OpenSpec.ofChange fnExactFindHitWrong)

/-- 'laws.FnExactHitForms': WHATEVER THE INPUT: true; the input reads as it did. -/
def fnExactHitFormsSpec : ChangeSpec := { name := "fnExactHitForms", fn := fun _ => fun
  | [d] => { results := [.lit (.bool true)], args := [d] }
  | _ => none }
def fnExactHitFormsRow : OpenClaim := { program := "ytkfolefeehggcaa", sum := "d96ff8ad72a3dc63206716271e796ee42a0a17dcf870cd8144fe84e131936980", func := "loop.example/macroexpander/laws.FnExactHitForms", spec := "fnExactHitForms", unfollowed := true, recurses := true, loops := true, apart := false }
def FnExactHitFormsSaid : Prop := fnExactHitFormsRow.holds Try.pinned (OpenSpec.ofChange fnExactHitFormsSpec)

/-- ITS FALSE NEIGHBOUR: 'it returns false'. Refute it at one input. -/
def fnExactHitFormsWrong : ChangeSpec := { name := "fnExactHitForms", fn := fun _ => fun
  | [d] => { results := [.lit (.bool false)], args := [d] }
  | _ => none }
def FnExactHitFormsWrongFalsely : Prop := fnExactHitFormsRow.holds Try.pinned (OpenSpec.ofChange fnExactHitFormsWrong)

/-- 'laws.FnExactPatternVars': WHATEVER THE INPUT: true; the input reads as it did. -/
def fnExactPatternVarsSpec : ChangeSpec := { name := "fnExactPatternVars", fn := fun _ => fun
  | [d1, d2] => { results := [.lit (.bool true)], args := [d1, d2] }
  | _ => none }
def fnExactPatternVarsRow : OpenClaim := { program := "ytkfolefeehggcaa", sum := "d96ff8ad72a3dc63206716271e796ee42a0a17dcf870cd8144fe84e131936980", func := "loop.example/macroexpander/laws.FnExactPatternVars", spec := "fnExactPatternVars", unfollowed := true, recurses := true, loops := true, apart := false }
def FnExactPatternVarsSaid : Prop := fnExactPatternVarsRow.holds Try.pinned (OpenSpec.ofChange fnExactPatternVarsSpec)

/-- ITS FALSE NEIGHBOUR: 'it returns false'. Refute it at one input. -/
def fnExactPatternVarsWrong : ChangeSpec := { name := "fnExactPatternVars", fn := fun _ => fun
  | [d1, d2] => { results := [.lit (.bool false)], args := [d1, d2] }
  | _ => none }
def FnExactPatternVarsWrongFalsely : Prop := fnExactPatternVarsRow.holds Try.pinned (OpenSpec.ofChange fnExactPatternVarsWrong)

/-- 'laws.FnExactTemplateValid': WHATEVER THE INPUT: true; the input reads as it did. -/
def fnExactTemplateValidSpec : ChangeSpec := { name := "fnExactTemplateValid", fn := fun _ => fun
  | [d1, d2] => { results := [.lit (.bool true)], args := [d1, d2] }
  | _ => none }
def fnExactTemplateValidRow : OpenClaim := { program := "ytkfolefeehggcaa", sum := "d96ff8ad72a3dc63206716271e796ee42a0a17dcf870cd8144fe84e131936980", func := "loop.example/macroexpander/laws.FnExactTemplateValid", spec := "fnExactTemplateValid", unfollowed := true, recurses := true, loops := true, apart := false }
def FnExactTemplateValidSaid : Prop := fnExactTemplateValidRow.holds Try.pinned (OpenSpec.ofChange fnExactTemplateValidSpec)

/-- ITS FALSE NEIGHBOUR: 'it returns false'. Refute it at one input. -/
def fnExactTemplateValidWrong : ChangeSpec := { name := "fnExactTemplateValid", fn := fun _ => fun
  | [d1, d2] => { results := [.lit (.bool false)], args := [d1, d2] }
  | _ => none }
def FnExactTemplateValidWrongFalsely : Prop := fnExactTemplateValidRow.holds Try.pinned (OpenSpec.ofChange fnExactTemplateValidWrong)

/-- 'laws.FnExactRuleValid': WHATEVER THE INPUT: true; the input reads as it did. -/
def fnExactRuleValidSpec : ChangeSpec := { name := "fnExactRuleValid", fn := fun _ => fun
  | [d1, d2] => { results := [.lit (.bool true)], args := [d1, d2] }
  | _ => none }
def fnExactRuleValidRow : OpenClaim := { program := "ytkfolefeehggcaa", sum := "d96ff8ad72a3dc63206716271e796ee42a0a17dcf870cd8144fe84e131936980", func := "loop.example/macroexpander/laws.FnExactRuleValid", spec := "fnExactRuleValid", unfollowed := true, recurses := true, loops := true, apart := false }
def FnExactRuleValidSaid : Prop := fnExactRuleValidRow.holds Try.pinned (OpenSpec.ofChange fnExactRuleValidSpec)

/-- ITS FALSE NEIGHBOUR: 'it returns false'. Refute it at one input. -/
def fnExactRuleValidWrong : ChangeSpec := { name := "fnExactRuleValid", fn := fun _ => fun
  | [d1, d2] => { results := [.lit (.bool false)], args := [d1, d2] }
  | _ => none }
def FnExactRuleValidWrongFalsely : Prop := fnExactRuleValidRow.holds Try.pinned (OpenSpec.ofChange fnExactRuleValidWrong)

/-- 'laws.FnExactCoreValid': WHATEVER THE INPUT: true; the input reads as it did. -/
def fnExactCoreValidSpec : ChangeSpec := { name := "fnExactCoreValid", fn := fun _ => fun
  | [d] => { results := [.lit (.bool true)], args := [d] }
  | _ => none }
def fnExactCoreValidRow : OpenClaim := { program := "ytkfolefeehggcaa", sum := "d96ff8ad72a3dc63206716271e796ee42a0a17dcf870cd8144fe84e131936980", func := "loop.example/macroexpander/laws.FnExactCoreValid", spec := "fnExactCoreValid", unfollowed := true, recurses := true, loops := true, apart := false }
def FnExactCoreValidSaid : Prop := fnExactCoreValidRow.holds Try.pinned (OpenSpec.ofChange fnExactCoreValidSpec)

/-- ITS FALSE NEIGHBOUR: 'it returns false'. Refute it at one input. -/
def fnExactCoreValidWrong : ChangeSpec := { name := "fnExactCoreValid", fn := fun _ => fun
  | [d] => { results := [.lit (.bool false)], args := [d] }
  | _ => none }
def FnExactCoreValidWrongFalsely : Prop := fnExactCoreValidRow.holds Try.pinned (OpenSpec.ofChange fnExactCoreValidWrong)

/-- 'laws.FnExactCoreSame': WHATEVER THE INPUT: true; the input reads as it did. -/
def fnExactCoreSameSpec : ChangeSpec := { name := "fnExactCoreSame", fn := fun _ => fun
  | [d1, d2] => { results := [.lit (.bool true)], args := [d1, d2] }
  | _ => none }
def fnExactCoreSameRow : OpenClaim := { program := "ytkfolefeehggcaa", sum := "d96ff8ad72a3dc63206716271e796ee42a0a17dcf870cd8144fe84e131936980", func := "loop.example/macroexpander/laws.FnExactCoreSame", spec := "fnExactCoreSame", unfollowed := true, recurses := true, loops := true, apart := false }
def FnExactCoreSameSaid : Prop := fnExactCoreSameRow.holds Try.pinned (OpenSpec.ofChange fnExactCoreSameSpec)

/-- ITS FALSE NEIGHBOUR: 'it returns false'. Refute it at one input. -/
def fnExactCoreSameWrong : ChangeSpec := { name := "fnExactCoreSame", fn := fun _ => fun
  | [d1, d2] => { results := [.lit (.bool false)], args := [d1, d2] }
  | _ => none }
def FnExactCoreSameWrongFalsely : Prop := fnExactCoreSameRow.holds Try.pinned (OpenSpec.ofChange fnExactCoreSameWrong)

/-- 'laws.FnExactCoreSize': WHATEVER THE INPUT: true; the input reads as it did. -/
def fnExactCoreSizeSpec : ChangeSpec := { name := "fnExactCoreSize", fn := fun _ => fun
  | [d] => { results := [.lit (.bool true)], args := [d] }
  | _ => none }
def fnExactCoreSizeRow : OpenClaim := { program := "ytkfolefeehggcaa", sum := "d96ff8ad72a3dc63206716271e796ee42a0a17dcf870cd8144fe84e131936980", func := "loop.example/macroexpander/laws.FnExactCoreSize", spec := "fnExactCoreSize", unfollowed := true, recurses := true, loops := true, apart := false }
def FnExactCoreSizeSaid : Prop := fnExactCoreSizeRow.holds Try.pinned (OpenSpec.ofChange fnExactCoreSizeSpec)

/-- ITS FALSE NEIGHBOUR: 'it returns false'. Refute it at one input. -/
def fnExactCoreSizeWrong : ChangeSpec := { name := "fnExactCoreSize", fn := fun _ => fun
  | [d] => { results := [.lit (.bool false)], args := [d] }
  | _ => none }
def FnExactCoreSizeWrongFalsely : Prop := fnExactCoreSizeRow.holds Try.pinned (OpenSpec.ofChange fnExactCoreSizeWrong)

/-- 'laws.FnExactStartExpansion': WHATEVER THE INPUT: true; the input reads as it did. -/
def fnExactStartExpansionSpec : ChangeSpec := { name := "fnExactStartExpansion", fn := fun _ => fun
  | [] => { results := [.lit (.bool true)], args := [] }
  | _ => none }
def fnExactStartExpansionRow : OpenClaim := { program := "ytkfolefeehggcaa", sum := "d96ff8ad72a3dc63206716271e796ee42a0a17dcf870cd8144fe84e131936980", func := "loop.example/macroexpander/laws.FnExactStartExpansion", spec := "fnExactStartExpansion", recurses := true, apart := false }
def FnExactStartExpansionSaid : Prop := fnExactStartExpansionRow.holds Try.pinned (OpenSpec.ofChange fnExactStartExpansionSpec)

/-- ITS FALSE NEIGHBOUR: 'it returns false'. Refute it at one input. -/
def fnExactStartExpansionWrong : ChangeSpec := { name := "fnExactStartExpansion", fn := fun _ => fun
  | [] => { results := [.lit (.bool false)], args := [] }
  | _ => none }
def FnExactStartExpansionWrongFalsely : Prop := fnExactStartExpansionRow.holds Try.pinned (OpenSpec.ofChange fnExactStartExpansionWrong)

/-- 'laws.FnExactDataValue': WHATEVER THE INPUT: true; the input reads as it did. -/
def fnExactDataValueSpec : ChangeSpec := { name := "fnExactDataValue", fn := fun _ => fun
  | [d] => { results := [.lit (.bool true)], args := [d] }
  | _ => none }
def fnExactDataValueRow : OpenClaim := { program := "ytkfolefeehggcaa", sum := "d96ff8ad72a3dc63206716271e796ee42a0a17dcf870cd8144fe84e131936980", func := "loop.example/macroexpander/laws.FnExactDataValue", spec := "fnExactDataValue", recurses := true, loops := true, apart := false }
def FnExactDataValueSaid : Prop := fnExactDataValueRow.holds Try.pinned (OpenSpec.ofChange fnExactDataValueSpec)

/-- ITS FALSE NEIGHBOUR: 'it returns false'. Refute it at one input. -/
def fnExactDataValueWrong : ChangeSpec := { name := "fnExactDataValue", fn := fun _ => fun
  | [d] => { results := [.lit (.bool false)], args := [d] }
  | _ => none }
def FnExactDataValueWrongFalsely : Prop := fnExactDataValueRow.holds Try.pinned (OpenSpec.ofChange fnExactDataValueWrong)

/-- 'laws.FnExactValueSame': WHATEVER THE INPUT: true; the input reads as it did. -/
def fnExactValueSameSpec : ChangeSpec := { name := "fnExactValueSame", fn := fun _ => fun
  | [d1, d2] => { results := [.lit (.bool true)], args := [d1, d2] }
  | _ => none }
def fnExactValueSameRow : OpenClaim := { program := "ytkfolefeehggcaa", sum := "d96ff8ad72a3dc63206716271e796ee42a0a17dcf870cd8144fe84e131936980", func := "loop.example/macroexpander/laws.FnExactValueSame", spec := "fnExactValueSame", unfollowed := true, recurses := true, loops := true, apart := false }
def FnExactValueSameSaid : Prop := fnExactValueSameRow.holds Try.pinned (OpenSpec.ofChange fnExactValueSameSpec)

/-- ITS FALSE NEIGHBOUR: 'it returns false'. Refute it at one input. -/
def fnExactValueSameWrong : ChangeSpec := { name := "fnExactValueSame", fn := fun _ => fun
  | [d1, d2] => { results := [.lit (.bool false)], args := [d1, d2] }
  | _ => none }
def FnExactValueSameWrongFalsely : Prop := fnExactValueSameRow.holds Try.pinned (OpenSpec.ofChange fnExactValueSameWrong)

/- THE SECOND FORM. 'bulk': how many values and letters a reading holds, each counted each time it is reached (what is shared counts as often as it is met; a slice's spare places count too). A statement '..UptoSaid' is the law's where the arguments, and the package variables that the reading takes, are together of bulk at most 1048576: NARROWER than '..Said'. Prove '..Said' where nothing that the law and all that it calls make is longer than what came in: it says more and counts as full. Else prove '..UptoSaid'. A law counts once. -/
mutual
def uptoBulk {H : Type} : DataW H → Nat
  | .lit (.string bytes) => bytes.length + 1
  | .lit _ => 1
  | .nil => 1
  | .ptr d => uptoBulk d + 1
  | .slice elems spare => uptoBulkAll elems + uptoBulkAll spare + 1
  | .agg parts => uptoBulkAll parts + 1
  | .iface _ d => uptoBulk d + 1
  | .map entries => uptoBulkEntries entries + 1
  | .held _ => 1
def uptoBulkAll {H : Type} : List (DataW H) → Nat
  | [] => 0
  | d :: r => uptoBulk d + uptoBulkAll r
def uptoBulkEntries {H : Type} : List (Lit × DataW H) → Nat
  | [] => 0
  | x :: r => uptoBulkEntry x + uptoBulkEntries r
def uptoBulkEntry {H : Type} : Lit × DataW H → Nat
  | (.string bytes, d) => bytes.length + uptoBulk d + 1
  | (_, d) => uptoBulk d + 1
 end
def uptoSmall : (H : Type) → List (DataW H) → Bool := fun _ ds => decide (uptoBulkAll ds ≤ 1048576)
def OpenSpec.upto (s : _root_.Go.ChangeSpec) : _root_.Go.OpenSpec := { _root_.Go.OpenSpec.ofChange s with cond := some uptoSmall }

/-- 'laws.FnExactHitsValid', WHERE WHAT IT READS IS OF BULK AT MOST 1048576: true; the input reads as it did. -/
def fnExactHitsValidUptoRow : OpenClaim := { program := "ytkfolefeehggcaa", sum := "d96ff8ad72a3dc63206716271e796ee42a0a17dcf870cd8144fe84e131936980", func := "loop.example/macroexpander/laws.FnExactHitsValid", spec := "fnExactHitsValid", unfollowed := true, recurses := true, loops := true, apart := false, narrowed := true }
def FnExactHitsValidUptoSaid : Prop := fnExactHitsValidUptoRow.holds Try.pinned (OpenSpec.upto fnExactHitsValidSpec)

/-- 'laws.FnExactFindHit', WHERE WHAT IT READS IS OF BULK AT MOST 1048576: true; the input reads as it did. -/
def fnExactFindHitUptoRow : OpenClaim := { program := "ytkfolefeehggcaa", sum := "d96ff8ad72a3dc63206716271e796ee42a0a17dcf870cd8144fe84e131936980", func := "loop.example/macroexpander/laws.FnExactFindHit", spec := "fnExactFindHit", unfollowed := true, recurses := true, loops := true, apart := false, narrowed := true }
def FnExactFindHitUptoSaid : Prop := fnExactFindHitUptoRow.holds Try.pinned (OpenSpec.upto fnExactFindHitSpec)

/-- 'laws.FnExactHitForms', WHERE WHAT IT READS IS OF BULK AT MOST 1048576: true; the input reads as it did. -/
def fnExactHitFormsUptoRow : OpenClaim := { program := "ytkfolefeehggcaa", sum := "d96ff8ad72a3dc63206716271e796ee42a0a17dcf870cd8144fe84e131936980", func := "loop.example/macroexpander/laws.FnExactHitForms", spec := "fnExactHitForms", unfollowed := true, recurses := true, loops := true, apart := false, narrowed := true }
def FnExactHitFormsUptoSaid : Prop := fnExactHitFormsUptoRow.holds Try.pinned (OpenSpec.upto fnExactHitFormsSpec)

/-- 'laws.FnExactPatternVars', WHERE WHAT IT READS IS OF BULK AT MOST 1048576: true; the input reads as it did. -/
def fnExactPatternVarsUptoRow : OpenClaim := { program := "ytkfolefeehggcaa", sum := "d96ff8ad72a3dc63206716271e796ee42a0a17dcf870cd8144fe84e131936980", func := "loop.example/macroexpander/laws.FnExactPatternVars", spec := "fnExactPatternVars", unfollowed := true, recurses := true, loops := true, apart := false, narrowed := true }
def FnExactPatternVarsUptoSaid : Prop := fnExactPatternVarsUptoRow.holds Try.pinned (OpenSpec.upto fnExactPatternVarsSpec)

/-- 'laws.FnExactTemplateValid', WHERE WHAT IT READS IS OF BULK AT MOST 1048576: true; the input reads as it did. -/
def fnExactTemplateValidUptoRow : OpenClaim := { program := "ytkfolefeehggcaa", sum := "d96ff8ad72a3dc63206716271e796ee42a0a17dcf870cd8144fe84e131936980", func := "loop.example/macroexpander/laws.FnExactTemplateValid", spec := "fnExactTemplateValid", unfollowed := true, recurses := true, loops := true, apart := false, narrowed := true }
def FnExactTemplateValidUptoSaid : Prop := fnExactTemplateValidUptoRow.holds Try.pinned (OpenSpec.upto fnExactTemplateValidSpec)

/-- 'laws.FnExactRuleValid', WHERE WHAT IT READS IS OF BULK AT MOST 1048576: true; the input reads as it did. -/
def fnExactRuleValidUptoRow : OpenClaim := { program := "ytkfolefeehggcaa", sum := "d96ff8ad72a3dc63206716271e796ee42a0a17dcf870cd8144fe84e131936980", func := "loop.example/macroexpander/laws.FnExactRuleValid", spec := "fnExactRuleValid", unfollowed := true, recurses := true, loops := true, apart := false, narrowed := true }
def FnExactRuleValidUptoSaid : Prop := fnExactRuleValidUptoRow.holds Try.pinned (OpenSpec.upto fnExactRuleValidSpec)

/-- 'laws.FnExactCoreValid', WHERE WHAT IT READS IS OF BULK AT MOST 1048576: true; the input reads as it did. -/
def fnExactCoreValidUptoRow : OpenClaim := { program := "ytkfolefeehggcaa", sum := "d96ff8ad72a3dc63206716271e796ee42a0a17dcf870cd8144fe84e131936980", func := "loop.example/macroexpander/laws.FnExactCoreValid", spec := "fnExactCoreValid", unfollowed := true, recurses := true, loops := true, apart := false, narrowed := true }
def FnExactCoreValidUptoSaid : Prop := fnExactCoreValidUptoRow.holds Try.pinned (OpenSpec.upto fnExactCoreValidSpec)

/-- 'laws.FnExactCoreSame', WHERE WHAT IT READS IS OF BULK AT MOST 1048576: true; the input reads as it did. -/
def fnExactCoreSameUptoRow : OpenClaim := { program := "ytkfolefeehggcaa", sum := "d96ff8ad72a3dc63206716271e796ee42a0a17dcf870cd8144fe84e131936980", func := "loop.example/macroexpander/laws.FnExactCoreSame", spec := "fnExactCoreSame", unfollowed := true, recurses := true, loops := true, apart := false, narrowed := true }
def FnExactCoreSameUptoSaid : Prop := fnExactCoreSameUptoRow.holds Try.pinned (OpenSpec.upto fnExactCoreSameSpec)

/-- 'laws.FnExactCoreSize', WHERE WHAT IT READS IS OF BULK AT MOST 1048576: true; the input reads as it did. -/
def fnExactCoreSizeUptoRow : OpenClaim := { program := "ytkfolefeehggcaa", sum := "d96ff8ad72a3dc63206716271e796ee42a0a17dcf870cd8144fe84e131936980", func := "loop.example/macroexpander/laws.FnExactCoreSize", spec := "fnExactCoreSize", unfollowed := true, recurses := true, loops := true, apart := false, narrowed := true }
def FnExactCoreSizeUptoSaid : Prop := fnExactCoreSizeUptoRow.holds Try.pinned (OpenSpec.upto fnExactCoreSizeSpec)

/-- 'laws.FnExactStartExpansion', WHERE WHAT IT READS IS OF BULK AT MOST 1048576: true; the input reads as it did. -/
def fnExactStartExpansionUptoRow : OpenClaim := { program := "ytkfolefeehggcaa", sum := "d96ff8ad72a3dc63206716271e796ee42a0a17dcf870cd8144fe84e131936980", func := "loop.example/macroexpander/laws.FnExactStartExpansion", spec := "fnExactStartExpansion", recurses := true, apart := false, narrowed := true }
def FnExactStartExpansionUptoSaid : Prop := fnExactStartExpansionUptoRow.holds Try.pinned (OpenSpec.upto fnExactStartExpansionSpec)

/-- 'laws.FnExactDataValue', WHERE WHAT IT READS IS OF BULK AT MOST 1048576: true; the input reads as it did. -/
def fnExactDataValueUptoRow : OpenClaim := { program := "ytkfolefeehggcaa", sum := "d96ff8ad72a3dc63206716271e796ee42a0a17dcf870cd8144fe84e131936980", func := "loop.example/macroexpander/laws.FnExactDataValue", spec := "fnExactDataValue", recurses := true, loops := true, apart := false, narrowed := true }
def FnExactDataValueUptoSaid : Prop := fnExactDataValueUptoRow.holds Try.pinned (OpenSpec.upto fnExactDataValueSpec)

/-- 'laws.FnExactValueSame', WHERE WHAT IT READS IS OF BULK AT MOST 1048576: true; the input reads as it did. -/
def fnExactValueSameUptoRow : OpenClaim := { program := "ytkfolefeehggcaa", sum := "d96ff8ad72a3dc63206716271e796ee42a0a17dcf870cd8144fe84e131936980", func := "loop.example/macroexpander/laws.FnExactValueSame", spec := "fnExactValueSame", unfollowed := true, recurses := true, loops := true, apart := false, narrowed := true }
def FnExactValueSameUptoSaid : Prop := fnExactValueSameUptoRow.holds Try.pinned (OpenSpec.upto fnExactValueSameSpec)

end Rows
end Go.Proofs.Ytkfolefeehggcaa
