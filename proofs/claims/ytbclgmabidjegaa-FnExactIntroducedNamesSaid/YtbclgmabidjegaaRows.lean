/-
  NARROWER THAN 'FOR EVERY INPUT', by the rows' own cells (each row's printed sentence says how): FnExactCoreValid: loops · FnExactCoreSame: loops · FnExactCoreSize: loops · FnExactFreeOf: loops · FnExactPatternVars: loops · FnExactRuleValid: loops · FnExactTemplateValid: loops · FnExactDataValue: loops · FnExactValueSame: loops · FnExactIntroducedNames: loops.
  DERIVED. THE GIVEN ROWS OF THIS SEAT. 10 by the template 'for every input the law returns true; each argument reads behind the call as it read before'; 0 by the template 'total and deterministic' (their statements: YtbclgmabidjegaaTotals.lean).
  GIVEN WITH THE SEED: the statements are not yours to turn. If you find one false, say at which input.
  Laid BY PROGRAM, IN A SANDBOX (cutbox-rows.mjs): the forced cells as the released guide's own fill.sh prints them over the translation 122ab651003f2c0c… (all of the seat's roots in one cut). By AI agents, Wed Nov 11 2026. No macro, syntax, notation, axiom, sorry.
-/
import Derived.Test.YtbclgmabidjegaaChecked
import GoSem.Claim
import GoSem.ClaimJoined
import GoSem.ClaimMapViews
import Derived.JoinedTies
import Derived.KernelRfl
namespace Go.Proofs.Ytbclgmabidjegaa
/- THE CELL 'sum', in the pinned program and in every row, IS THE sha256 OF THE DUMP (.gsa) THAT YtbclgmabidjegaaProg.lean LOADS. Nothing in Lean hashes anything: it is a label: what it is worth is what the hold of that sum in a sandbox is worth. -/
noncomputable def Try.pinned : Pinned := { name := "ytbclgmabidjegaa", sum := "122ab651003f2c0ccf103bc78846a59945affd4221bb3ca83b860f707100e3ec", checked := Try.checked }
namespace Rows
def none {H : Type} : Left H := { results := [], args := [] }

/-- 'laws.FnExactCoreValid': WHATEVER THE INPUT: true; the input reads as it did. -/
def fnExactCoreValidSpec : ChangeSpec := { name := "fnExactCoreValid", fn := fun _ => fun
  | [d] => { results := [.lit (.bool true)], args := [d] }
  | _ => none }
def fnExactCoreValidRow : OpenClaim := { program := "ytbclgmabidjegaa", sum := "122ab651003f2c0ccf103bc78846a59945affd4221bb3ca83b860f707100e3ec", func := "loop.example/macroexpander/laws.FnExactCoreValid", spec := "fnExactCoreValid", unfollowed := true, recurses := true, loops := true, apart := false }
def FnExactCoreValidSaid : Prop := fnExactCoreValidRow.holds Try.pinned (OpenSpec.ofChange fnExactCoreValidSpec)

/-- ITS FALSE NEIGHBOUR: 'it returns false'. Refute it at one input. -/
def fnExactCoreValidWrong : ChangeSpec := { name := "fnExactCoreValid", fn := fun _ => fun
  | [d] => { results := [.lit (.bool false)], args := [d] }
  | _ => none }
def FnExactCoreValidWrongFalsely : Prop := fnExactCoreValidRow.holds Try.pinned (OpenSpec.ofChange fnExactCoreValidWrong)

/-- 'laws.FnExactCoreSame': WHATEVER THE INPUT: true; the input reads as it did. -/
def fnExactCoreSameSpec : ChangeSpec := { name := "fnExactCoreSame", fn := fun _ => fun
  | [d1, d2] => { results := [.lit (.bool true)], args := [d1, d2] }
  | _ => none }
def fnExactCoreSameRow : OpenClaim := { program := "ytbclgmabidjegaa", sum := "122ab651003f2c0ccf103bc78846a59945affd4221bb3ca83b860f707100e3ec", func := "loop.example/macroexpander/laws.FnExactCoreSame", spec := "fnExactCoreSame", unfollowed := true, recurses := true, loops := true, apart := false }
def FnExactCoreSameSaid : Prop := fnExactCoreSameRow.holds Try.pinned (OpenSpec.ofChange fnExactCoreSameSpec)

/-- ITS FALSE NEIGHBOUR: 'it returns false'. Refute it at one input. -/
def fnExactCoreSameWrong : ChangeSpec := { name := "fnExactCoreSame", fn := fun _ => fun
  | [d1, d2] => { results := [.lit (.bool false)], args := [d1, d2] }
  | _ => none }
def FnExactCoreSameWrongFalsely : Prop := fnExactCoreSameRow.holds Try.pinned (OpenSpec.ofChange fnExactCoreSameWrong)

/-- 'laws.FnExactCoreSize': WHATEVER THE INPUT: true; the input reads as it did. -/
def fnExactCoreSizeSpec : ChangeSpec := { name := "fnExactCoreSize", fn := fun _ => fun
  | [d] => { results := [.lit (.bool true)], args := [d] }
  | _ => none }
def fnExactCoreSizeRow : OpenClaim := { program := "ytbclgmabidjegaa", sum := "122ab651003f2c0ccf103bc78846a59945affd4221bb3ca83b860f707100e3ec", func := "loop.example/macroexpander/laws.FnExactCoreSize", spec := "fnExactCoreSize", unfollowed := true, recurses := true, loops := true, apart := false }
def FnExactCoreSizeSaid : Prop := fnExactCoreSizeRow.holds Try.pinned (OpenSpec.ofChange fnExactCoreSizeSpec)

/-- ITS FALSE NEIGHBOUR: 'it returns false'. Refute it at one input. -/
def fnExactCoreSizeWrong : ChangeSpec := { name := "fnExactCoreSize", fn := fun _ => fun
  | [d] => { results := [.lit (.bool false)], args := [d] }
  | _ => none }
def FnExactCoreSizeWrongFalsely : Prop := fnExactCoreSizeRow.holds Try.pinned (OpenSpec.ofChange fnExactCoreSizeWrong)

/-- 'laws.FnExactFreeOf': WHATEVER THE INPUT: true; the input reads as it did. -/
def fnExactFreeOfSpec : ChangeSpec := { name := "fnExactFreeOf", fn := fun _ => fun
  | [d] => { results := [.lit (.bool true)], args := [d] }
  | _ => none }
def fnExactFreeOfRow : OpenClaim := { program := "ytbclgmabidjegaa", sum := "122ab651003f2c0ccf103bc78846a59945affd4221bb3ca83b860f707100e3ec", func := "loop.example/macroexpander/laws.FnExactFreeOf", spec := "fnExactFreeOf", unfollowed := true, recurses := true, loops := true, apart := false }
def FnExactFreeOfSaid : Prop := fnExactFreeOfRow.holds Try.pinned (OpenSpec.ofChange fnExactFreeOfSpec)

/-- ITS FALSE NEIGHBOUR: 'it returns false'. Refute it at one input. -/
def fnExactFreeOfWrong : ChangeSpec := { name := "fnExactFreeOf", fn := fun _ => fun
  | [d] => { results := [.lit (.bool false)], args := [d] }
  | _ => none }
def FnExactFreeOfWrongFalsely : Prop := fnExactFreeOfRow.holds Try.pinned (OpenSpec.ofChange fnExactFreeOfWrong)

/-- 'laws.FnExactPatternVars': WHATEVER THE INPUT: true; the input reads as it did. -/
def fnExactPatternVarsSpec : ChangeSpec := { name := "fnExactPatternVars", fn := fun _ => fun
  | [d1, d2] => { results := [.lit (.bool true)], args := [d1, d2] }
  | _ => none }
def fnExactPatternVarsRow : OpenClaim := { program := "ytbclgmabidjegaa", sum := "122ab651003f2c0ccf103bc78846a59945affd4221bb3ca83b860f707100e3ec", func := "loop.example/macroexpander/laws.FnExactPatternVars", spec := "fnExactPatternVars", unfollowed := true, recurses := true, loops := true, apart := false }
def FnExactPatternVarsSaid : Prop := fnExactPatternVarsRow.holds Try.pinned (OpenSpec.ofChange fnExactPatternVarsSpec)

/-- ITS FALSE NEIGHBOUR: 'it returns false'. Refute it at one input. -/
def fnExactPatternVarsWrong : ChangeSpec := { name := "fnExactPatternVars", fn := fun _ => fun
  | [d1, d2] => { results := [.lit (.bool false)], args := [d1, d2] }
  | _ => none }
def FnExactPatternVarsWrongFalsely : Prop := fnExactPatternVarsRow.holds Try.pinned (OpenSpec.ofChange fnExactPatternVarsWrong)

/-- 'laws.FnExactRuleValid': WHATEVER THE INPUT: true; the input reads as it did. -/
def fnExactRuleValidSpec : ChangeSpec := { name := "fnExactRuleValid", fn := fun _ => fun
  | [d1, d2] => { results := [.lit (.bool true)], args := [d1, d2] }
  | _ => none }
def fnExactRuleValidRow : OpenClaim := { program := "ytbclgmabidjegaa", sum := "122ab651003f2c0ccf103bc78846a59945affd4221bb3ca83b860f707100e3ec", func := "loop.example/macroexpander/laws.FnExactRuleValid", spec := "fnExactRuleValid", unfollowed := true, recurses := true, loops := true, apart := false }
def FnExactRuleValidSaid : Prop := fnExactRuleValidRow.holds Try.pinned (OpenSpec.ofChange fnExactRuleValidSpec)

/-- ITS FALSE NEIGHBOUR: 'it returns false'. Refute it at one input. -/
def fnExactRuleValidWrong : ChangeSpec := { name := "fnExactRuleValid", fn := fun _ => fun
  | [d1, d2] => { results := [.lit (.bool false)], args := [d1, d2] }
  | _ => none }
def FnExactRuleValidWrongFalsely : Prop := fnExactRuleValidRow.holds Try.pinned (OpenSpec.ofChange fnExactRuleValidWrong)

/-- 'laws.FnExactTemplateValid': WHATEVER THE INPUT: true; the input reads as it did. -/
def fnExactTemplateValidSpec : ChangeSpec := { name := "fnExactTemplateValid", fn := fun _ => fun
  | [d1, d2] => { results := [.lit (.bool true)], args := [d1, d2] }
  | _ => none }
def fnExactTemplateValidRow : OpenClaim := { program := "ytbclgmabidjegaa", sum := "122ab651003f2c0ccf103bc78846a59945affd4221bb3ca83b860f707100e3ec", func := "loop.example/macroexpander/laws.FnExactTemplateValid", spec := "fnExactTemplateValid", unfollowed := true, recurses := true, loops := true, apart := false }
def FnExactTemplateValidSaid : Prop := fnExactTemplateValidRow.holds Try.pinned (OpenSpec.ofChange fnExactTemplateValidSpec)

/-- ITS FALSE NEIGHBOUR: 'it returns false'. Refute it at one input. -/
def fnExactTemplateValidWrong : ChangeSpec := { name := "fnExactTemplateValid", fn := fun _ => fun
  | [d1, d2] => { results := [.lit (.bool false)], args := [d1, d2] }
  | _ => none }
def FnExactTemplateValidWrongFalsely : Prop := fnExactTemplateValidRow.holds Try.pinned (OpenSpec.ofChange fnExactTemplateValidWrong)

/-- 'laws.FnExactDataValue': WHATEVER THE INPUT: true; the input reads as it did. -/
def fnExactDataValueSpec : ChangeSpec := { name := "fnExactDataValue", fn := fun _ => fun
  | [d] => { results := [.lit (.bool true)], args := [d] }
  | _ => none }
def fnExactDataValueRow : OpenClaim := { program := "ytbclgmabidjegaa", sum := "122ab651003f2c0ccf103bc78846a59945affd4221bb3ca83b860f707100e3ec", func := "loop.example/macroexpander/laws.FnExactDataValue", spec := "fnExactDataValue", recurses := true, loops := true, apart := false }
def FnExactDataValueSaid : Prop := fnExactDataValueRow.holds Try.pinned (OpenSpec.ofChange fnExactDataValueSpec)

/-- ITS FALSE NEIGHBOUR: 'it returns false'. Refute it at one input. -/
def fnExactDataValueWrong : ChangeSpec := { name := "fnExactDataValue", fn := fun _ => fun
  | [d] => { results := [.lit (.bool false)], args := [d] }
  | _ => none }
def FnExactDataValueWrongFalsely : Prop := fnExactDataValueRow.holds Try.pinned (OpenSpec.ofChange fnExactDataValueWrong)

/-- 'laws.FnExactValueSame': WHATEVER THE INPUT: true; the input reads as it did. -/
def fnExactValueSameSpec : ChangeSpec := { name := "fnExactValueSame", fn := fun _ => fun
  | [d1, d2] => { results := [.lit (.bool true)], args := [d1, d2] }
  | _ => none }
def fnExactValueSameRow : OpenClaim := { program := "ytbclgmabidjegaa", sum := "122ab651003f2c0ccf103bc78846a59945affd4221bb3ca83b860f707100e3ec", func := "loop.example/macroexpander/laws.FnExactValueSame", spec := "fnExactValueSame", unfollowed := true, recurses := true, loops := true, apart := false }
def FnExactValueSameSaid : Prop := fnExactValueSameRow.holds Try.pinned (OpenSpec.ofChange fnExactValueSameSpec)

/-- ITS FALSE NEIGHBOUR: 'it returns false'. Refute it at one input. -/
def fnExactValueSameWrong : ChangeSpec := { name := "fnExactValueSame", fn := fun _ => fun
  | [d1, d2] => { results := [.lit (.bool false)], args := [d1, d2] }
  | _ => none }
def FnExactValueSameWrongFalsely : Prop := fnExactValueSameRow.holds Try.pinned (OpenSpec.ofChange fnExactValueSameWrong)

/-- 'laws.FnExactIntroducedNames': WHATEVER THE INPUT: true; the input reads as it did. -/
def fnExactIntroducedNamesSpec : ChangeSpec := { name := "fnExactIntroducedNames", fn := fun _ => fun
  | [d] => { results := [.lit (.bool true)], args := [d] }
  | _ => none }
def fnExactIntroducedNamesRow : OpenClaim := { program := "ytbclgmabidjegaa", sum := "122ab651003f2c0ccf103bc78846a59945affd4221bb3ca83b860f707100e3ec", func := "loop.example/macroexpander/laws.FnExactIntroducedNames", spec := "fnExactIntroducedNames", unfollowed := true, recurses := true, loops := true, apart := false }
def FnExactIntroducedNamesSaid : Prop := fnExactIntroducedNamesRow.holds Try.pinned (OpenSpec.ofChange fnExactIntroducedNamesSpec)

/-- ITS FALSE NEIGHBOUR: 'it returns false'. Refute it at one input. -/
def fnExactIntroducedNamesWrong : ChangeSpec := { name := "fnExactIntroducedNames", fn := fun _ => fun
  | [d] => { results := [.lit (.bool false)], args := [d] }
  | _ => none }
def FnExactIntroducedNamesWrongFalsely : Prop := fnExactIntroducedNamesRow.holds Try.pinned (OpenSpec.ofChange fnExactIntroducedNamesWrong)

/- THE SECOND FORM. 'bulk': how many values and letters a reading holds, each counted each time it is reached (what is shared counts as often as it is met; a slice's spare places count too). A statement '..UptoSaid' is the law's where the arguments, and the package variables that the reading takes, are together of bulk at most 1048576: NARROWER than '..Said'. Prove '..Said' where nothing that the law and all that it calls make is longer than what came in: it says more and counts as full. Else prove '..UptoSaid'. A law counts once. -/
mutual
def uptoBulk {H : Type} : DataW H → Nat
  | .lit (.string bytes) => bytes.length + 1
  | .lit _ => 1
  | .nil => 1
  | .ptr d => uptoBulk d + 1
  | .slice elems spare => uptoBulkAll elems + uptoBulkAll spare + 1
  | .agg parts => uptoBulkAll parts + 1
  | .iface _ d => uptoBulk d + 1
  | .map entries => uptoBulkEntries entries + 1
  | .held _ => 1
def uptoBulkAll {H : Type} : List (DataW H) → Nat
  | [] => 0
  | d :: r => uptoBulk d + uptoBulkAll r
def uptoBulkEntries {H : Type} : List (Lit × DataW H) → Nat
  | [] => 0
  | x :: r => uptoBulkEntry x + uptoBulkEntries r
def uptoBulkEntry {H : Type} : Lit × DataW H → Nat
  | (.string bytes, d) => bytes.length + uptoBulk d + 1
  | (_, d) => uptoBulk d + 1
 end
def uptoSmall : (H : Type) → List (DataW H) → Bool := fun _ ds => decide (uptoBulkAll ds ≤ 1048576)
def OpenSpec.upto (s : _root_.Go.ChangeSpec) : _root_.Go.OpenSpec := { _root_.Go.OpenSpec.ofChange s with cond := some uptoSmall }

/-- 'laws.FnExactCoreValid', WHERE WHAT IT READS IS OF BULK AT MOST 1048576: true; the input reads as it did. -/
def fnExactCoreValidUptoRow : OpenClaim := { program := "ytbclgmabidjegaa", sum := "122ab651003f2c0ccf103bc78846a59945affd4221bb3ca83b860f707100e3ec", func := "loop.example/macroexpander/laws.FnExactCoreValid", spec := "fnExactCoreValid", unfollowed := true, recurses := true, loops := true, apart := false, narrowed := true }
def FnExactCoreValidUptoSaid : Prop := fnExactCoreValidUptoRow.holds Try.pinned (OpenSpec.upto fnExactCoreValidSpec)

/-- 'laws.FnExactCoreSame', WHERE WHAT IT READS IS OF BULK AT MOST 1048576: true; the input reads as it did. -/
def fnExactCoreSameUptoRow : OpenClaim := { program := "ytbclgmabidjegaa", sum := "122ab651003f2c0ccf103bc78846a59945affd4221bb3ca83b860f707100e3ec", func := "loop.example/macroexpander/laws.FnExactCoreSame", spec := "fnExactCoreSame", unfollowed := true, recurses := true, loops := true, apart := false, narrowed := true }
def FnExactCoreSameUptoSaid : Prop := fnExactCoreSameUptoRow.holds Try.pinned (OpenSpec.upto fnExactCoreSameSpec)

/-- 'laws.FnExactCoreSize', WHERE WHAT IT READS IS OF BULK AT MOST 1048576: true; the input reads as it did. -/
def fnExactCoreSizeUptoRow : OpenClaim := { program := "ytbclgmabidjegaa", sum := "122ab651003f2c0ccf103bc78846a59945affd4221bb3ca83b860f707100e3ec", func := "loop.example/macroexpander/laws.FnExactCoreSize", spec := "fnExactCoreSize", unfollowed := true, recurses := true, loops := true, apart := false, narrowed := true }
def FnExactCoreSizeUptoSaid : Prop := fnExactCoreSizeUptoRow.holds Try.pinned (OpenSpec.upto fnExactCoreSizeSpec)

/-- 'laws.FnExactFreeOf', WHERE WHAT IT READS IS OF BULK AT MOST 1048576: true; the input reads as it did. -/
def fnExactFreeOfUptoRow : OpenClaim := { program := "ytbclgmabidjegaa", sum := "122ab651003f2c0ccf103bc78846a59945affd4221bb3ca83b860f707100e3ec", func := "loop.example/macroexpander/laws.FnExactFreeOf", spec := "fnExactFreeOf", unfollowed := true, recurses := true, loops := true, apart := false, narrowed := true }
def FnExactFreeOfUptoSaid : Prop := fnExactFreeOfUptoRow.holds Try.pinned (OpenSpec.upto fnExactFreeOfSpec)

/-- 'laws.FnExactPatternVars', WHERE WHAT IT READS IS OF BULK AT MOST 1048576: true; the input reads as it did. -/
def fnExactPatternVarsUptoRow : OpenClaim := { program := "ytbclgmabidjegaa", sum := "122ab651003f2c0ccf103bc78846a59945affd4221bb3ca83b860f707100e3ec", func := "loop.example/macroexpander/laws.FnExactPatternVars", spec := "fnExactPatternVars", unfollowed := true, recurses := true, loops := true, apart := false, narrowed := true }
def FnExactPatternVarsUptoSaid : Prop := fnExactPatternVarsUptoRow.holds Try.pinned (OpenSpec.upto fnExactPatternVarsSpec)

/-- 'laws.FnExactRuleValid', WHERE WHAT IT READS IS OF BULK AT MOST 1048576: true; the input reads as it did. -/
def fnExactRuleValidUptoRow : OpenClaim := { program := "ytbclgmabidjegaa", sum := "122ab651003f2c0ccf103bc78846a59945affd4221bb3ca83b860f707100e3ec", func := "loop.example/macroexpander/laws.FnExactRuleValid", spec := "fnExactRuleValid", unfollowed := true, recurses := true, loops := true, apart := false, narrowed := true }
def FnExactRuleValidUptoSaid : Prop := fnExactRuleValidUptoRow.holds Try.pinned (OpenSpec.upto fnExactRuleValidSpec)

/-- 'laws.FnExactTemplateValid', WHERE WHAT IT READS IS OF BULK AT MOST 1048576: true; the input reads as it did. -/
def fnExactTemplateValidUptoRow : OpenClaim := { program := "ytbclgmabidjegaa", sum := "122ab651003f2c0ccf103bc78846a59945affd4221bb3ca83b860f707100e3ec", func := "loop.example/macroexpander/laws.FnExactTemplateValid", spec := "fnExactTemplateValid", unfollowed := true, recurses := true, loops := true, apart := false, narrowed := true }
def FnExactTemplateValidUptoSaid : Prop := fnExactTemplateValidUptoRow.holds Try.pinned (OpenSpec.upto fnExactTemplateValidSpec)

/-- 'laws.FnExactDataValue', WHERE WHAT IT READS IS OF BULK AT MOST 1048576: true; the input reads as it did. -/
def fnExactDataValueUptoRow : OpenClaim := { program := "ytbclgmabidjegaa", sum := "122ab651003f2c0ccf103bc78846a59945affd4221bb3ca83b860f707100e3ec", func := "loop.example/macroexpander/laws.FnExactDataValue", spec := "fnExactDataValue", recurses := true, loops := true, apart := false, narrowed := true }
def FnExactDataValueUptoSaid : Prop := fnExactDataValueUptoRow.holds Try.pinned (OpenSpec.upto fnExactDataValueSpec)

/-- 'laws.FnExactValueSame', WHERE WHAT IT READS IS OF BULK AT MOST 1048576: true; the input reads as it did. -/
def fnExactValueSameUptoRow : OpenClaim := { program := "ytbclgmabidjegaa", sum := "122ab651003f2c0ccf103bc78846a59945affd4221bb3ca83b860f707100e3ec", func := "loop.example/macroexpander/laws.FnExactValueSame", spec := "fnExactValueSame", unfollowed := true, recurses := true, loops := true, apart := false, narrowed := true }
def FnExactValueSameUptoSaid : Prop := fnExactValueSameUptoRow.holds Try.pinned (OpenSpec.upto fnExactValueSameSpec)

/-- 'laws.FnExactIntroducedNames', WHERE WHAT IT READS IS OF BULK AT MOST 1048576: true; the input reads as it did. -/
def fnExactIntroducedNamesUptoRow : OpenClaim := { program := "ytbclgmabidjegaa", sum := "122ab651003f2c0ccf103bc78846a59945affd4221bb3ca83b860f707100e3ec", func := "loop.example/macroexpander/laws.FnExactIntroducedNames", spec := "fnExactIntroducedNames", unfollowed := true, recurses := true, loops := true, apart := false, narrowed := true }
def FnExactIntroducedNamesUptoSaid : Prop := fnExactIntroducedNamesUptoRow.holds Try.pinned (OpenSpec.upto fnExactIntroducedNamesSpec)

end Rows
end Go.Proofs.Ytbclgmabidjegaa
