/-
  NARROWER THAN 'FOR EVERY INPUT', by the rows' own cells (each row's printed sentence says how): FnExactFormSame: loops · FnExactFormSize: loops · FnExactNamesOf: loops · FnExactStripForm: loops · FnExactListForm: loops · FnExactScopesOf: loops · FnExactSameName: loops · FnExactAddBind: loops · FnExactPatternValid: loops · FnExactPatternVars: loops · FnExactVarDepths: loops.
  DERIVED. THE GIVEN ROWS OF THIS SEAT. 12 by the template 'for every input the law returns true; each argument reads behind the call as it read before'; 0 by the template 'total and deterministic' (their statements: YtlgalpdjeojaaaaTotals.lean).
  GIVEN WITH THE SEED: the statements are not yours to turn. If you find one false, say at which input.
  Laid BY PROGRAM, IN A SANDBOX (cutbox-rows.mjs): the forced cells as the released guide's own fill.sh prints them over the translation 4b9fa2aa8bfde32a… (all of the seat's roots in one cut). By AI agents, Wed Nov 11 2026. No macro, syntax, notation, axiom, sorry.
-/
import Derived.Test.YtlgalpdjeojaaaaChecked
import GoSem.Claim
import GoSem.ClaimJoined
import GoSem.ClaimMapViews
import Derived.JoinedTies
import Derived.KernelRfl
namespace Go.Proofs.Ytlgalpdjeojaaaa
/- THE CELL 'sum', in the pinned program and in every row, IS THE sha256 OF THE DUMP (.gsa) THAT YtlgalpdjeojaaaaProg.lean LOADS. Nothing in Lean hashes anything: it is a label: what it is worth is what the hold of that sum in a sandbox is worth. -/
noncomputable def Try.pinned : Pinned := { name := "ytlgalpdjeojaaaa", sum := "4b9fa2aa8bfde32a717ea1b18519aa50b10731b1bda974d33e9e50e096140929", checked := Try.checked }
namespace Rows
def none {H : Type} : Left H := { results := [], args := [] }

/-- 'laws.FnExactFormSame': WHATEVER THE INPUT: true; the input reads as it did. -/
def fnExactFormSameSpec : ChangeSpec := { name := "fnExactFormSame", fn := fun _ => fun
  | [d1, d2] => { results := [.lit (.bool true)], args := [d1, d2] }
  | _ => none }
def fnExactFormSameRow : OpenClaim := { program := "ytlgalpdjeojaaaa", sum := "4b9fa2aa8bfde32a717ea1b18519aa50b10731b1bda974d33e9e50e096140929", func := "loop.example/macroexpander/laws.FnExactFormSame", spec := "fnExactFormSame", unfollowed := true, recurses := true, loops := true, apart := false }
def FnExactFormSameSaid : Prop := fnExactFormSameRow.holds Try.pinned (OpenSpec.ofChange fnExactFormSameSpec)

/-- ITS FALSE NEIGHBOUR: 'it returns false'. Refute it at one input. -/
def fnExactFormSameWrong : ChangeSpec := { name := "fnExactFormSame", fn := fun _ => fun
  | [d1, d2] => { results := [.lit (.bool false)], args := [d1, d2] }
  | _ => none }
def FnExactFormSameWrongFalsely : Prop := fnExactFormSameRow.holds Try.pinned (OpenSpec.ofChange fnExactFormSameWrong)

/-- 'laws.FnExactFormSize': WHATEVER THE INPUT: true; the input reads as it did. -/
def fnExactFormSizeSpec : ChangeSpec := { name := "fnExactFormSize", fn := fun _ => fun
  | [d] => { results := [.lit (.bool true)], args := [d] }
  | _ => none }
def fnExactFormSizeRow : OpenClaim := { program := "ytlgalpdjeojaaaa", sum := "4b9fa2aa8bfde32a717ea1b18519aa50b10731b1bda974d33e9e50e096140929", func := "loop.example/macroexpander/laws.FnExactFormSize", spec := "fnExactFormSize", unfollowed := true, recurses := true, loops := true, apart := false }
def FnExactFormSizeSaid : Prop := fnExactFormSizeRow.holds Try.pinned (OpenSpec.ofChange fnExactFormSizeSpec)

/-- ITS FALSE NEIGHBOUR: 'it returns false'. Refute it at one input. -/
def fnExactFormSizeWrong : ChangeSpec := { name := "fnExactFormSize", fn := fun _ => fun
  | [d] => { results := [.lit (.bool false)], args := [d] }
  | _ => none }
def FnExactFormSizeWrongFalsely : Prop := fnExactFormSizeRow.holds Try.pinned (OpenSpec.ofChange fnExactFormSizeWrong)

/-- 'laws.FnExactNamesOf': WHATEVER THE INPUT: true; the input reads as it did. -/
def fnExactNamesOfSpec : ChangeSpec := { name := "fnExactNamesOf", fn := fun _ => fun
  | [d] => { results := [.lit (.bool true)], args := [d] }
  | _ => none }
def fnExactNamesOfRow : OpenClaim := { program := "ytlgalpdjeojaaaa", sum := "4b9fa2aa8bfde32a717ea1b18519aa50b10731b1bda974d33e9e50e096140929", func := "loop.example/macroexpander/laws.FnExactNamesOf", spec := "fnExactNamesOf", unfollowed := true, recurses := true, loops := true, apart := false }
def FnExactNamesOfSaid : Prop := fnExactNamesOfRow.holds Try.pinned (OpenSpec.ofChange fnExactNamesOfSpec)

/-- ITS FALSE NEIGHBOUR: 'it returns false'. Refute it at one input. -/
def fnExactNamesOfWrong : ChangeSpec := { name := "fnExactNamesOf", fn := fun _ => fun
  | [d] => { results := [.lit (.bool false)], args := [d] }
  | _ => none }
def FnExactNamesOfWrongFalsely : Prop := fnExactNamesOfRow.holds Try.pinned (OpenSpec.ofChange fnExactNamesOfWrong)

/-- 'laws.FnExactStripForm': WHATEVER THE INPUT: true; the input reads as it did. -/
def fnExactStripFormSpec : ChangeSpec := { name := "fnExactStripForm", fn := fun _ => fun
  | [d] => { results := [.lit (.bool true)], args := [d] }
  | _ => none }
def fnExactStripFormRow : OpenClaim := { program := "ytlgalpdjeojaaaa", sum := "4b9fa2aa8bfde32a717ea1b18519aa50b10731b1bda974d33e9e50e096140929", func := "loop.example/macroexpander/laws.FnExactStripForm", spec := "fnExactStripForm", unfollowed := true, recurses := true, loops := true, apart := false }
def FnExactStripFormSaid : Prop := fnExactStripFormRow.holds Try.pinned (OpenSpec.ofChange fnExactStripFormSpec)

/-- ITS FALSE NEIGHBOUR: 'it returns false'. Refute it at one input. -/
def fnExactStripFormWrong : ChangeSpec := { name := "fnExactStripForm", fn := fun _ => fun
  | [d] => { results := [.lit (.bool false)], args := [d] }
  | _ => none }
def FnExactStripFormWrongFalsely : Prop := fnExactStripFormRow.holds Try.pinned (OpenSpec.ofChange fnExactStripFormWrong)

/-- 'laws.FnExactListForm': WHATEVER THE INPUT: true; the input reads as it did. -/
def fnExactListFormSpec : ChangeSpec := { name := "fnExactListForm", fn := fun _ => fun
  | [d] => { results := [.lit (.bool true)], args := [d] }
  | _ => none }
def fnExactListFormRow : OpenClaim := { program := "ytlgalpdjeojaaaa", sum := "4b9fa2aa8bfde32a717ea1b18519aa50b10731b1bda974d33e9e50e096140929", func := "loop.example/macroexpander/laws.FnExactListForm", spec := "fnExactListForm", unfollowed := true, recurses := true, loops := true, apart := false }
def FnExactListFormSaid : Prop := fnExactListFormRow.holds Try.pinned (OpenSpec.ofChange fnExactListFormSpec)

/-- ITS FALSE NEIGHBOUR: 'it returns false'. Refute it at one input. -/
def fnExactListFormWrong : ChangeSpec := { name := "fnExactListForm", fn := fun _ => fun
  | [d] => { results := [.lit (.bool false)], args := [d] }
  | _ => none }
def FnExactListFormWrongFalsely : Prop := fnExactListFormRow.holds Try.pinned (OpenSpec.ofChange fnExactListFormWrong)

/-- 'laws.FnExactScopesOf': WHATEVER THE INPUT: true; the input reads as it did. -/
def fnExactScopesOfSpec : ChangeSpec := { name := "fnExactScopesOf", fn := fun _ => fun
  | [d] => { results := [.lit (.bool true)], args := [d] }
  | _ => none }
def fnExactScopesOfRow : OpenClaim := { program := "ytlgalpdjeojaaaa", sum := "4b9fa2aa8bfde32a717ea1b18519aa50b10731b1bda974d33e9e50e096140929", func := "loop.example/macroexpander/laws.FnExactScopesOf", spec := "fnExactScopesOf", unfollowed := true, recurses := true, loops := true, apart := false }
def FnExactScopesOfSaid : Prop := fnExactScopesOfRow.holds Try.pinned (OpenSpec.ofChange fnExactScopesOfSpec)

/-- ITS FALSE NEIGHBOUR: 'it returns false'. Refute it at one input. -/
def fnExactScopesOfWrong : ChangeSpec := { name := "fnExactScopesOf", fn := fun _ => fun
  | [d] => { results := [.lit (.bool false)], args := [d] }
  | _ => none }
def FnExactScopesOfWrongFalsely : Prop := fnExactScopesOfRow.holds Try.pinned (OpenSpec.ofChange fnExactScopesOfWrong)

/-- 'laws.FnExactSameName': WHATEVER THE INPUT: true; the input reads as it did. -/
def fnExactSameNameSpec : ChangeSpec := { name := "fnExactSameName", fn := fun _ => fun
  | [d1, d2] => { results := [.lit (.bool true)], args := [d1, d2] }
  | _ => none }
def fnExactSameNameRow : OpenClaim := { program := "ytlgalpdjeojaaaa", sum := "4b9fa2aa8bfde32a717ea1b18519aa50b10731b1bda974d33e9e50e096140929", func := "loop.example/macroexpander/laws.FnExactSameName", spec := "fnExactSameName", unfollowed := true, recurses := true, loops := true, apart := false }
def FnExactSameNameSaid : Prop := fnExactSameNameRow.holds Try.pinned (OpenSpec.ofChange fnExactSameNameSpec)

/-- ITS FALSE NEIGHBOUR: 'it returns false'. Refute it at one input. -/
def fnExactSameNameWrong : ChangeSpec := { name := "fnExactSameName", fn := fun _ => fun
  | [d1, d2] => { results := [.lit (.bool false)], args := [d1, d2] }
  | _ => none }
def FnExactSameNameWrongFalsely : Prop := fnExactSameNameRow.holds Try.pinned (OpenSpec.ofChange fnExactSameNameWrong)

/-- 'laws.FnExactBindsValid': WHATEVER THE INPUT: true; the input reads as it did. -/
def fnExactBindsValidSpec : ChangeSpec := { name := "fnExactBindsValid", fn := fun _ => fun
  | [d] => { results := [.lit (.bool true)], args := [d] }
  | _ => none }
def fnExactBindsValidRow : OpenClaim := { program := "ytlgalpdjeojaaaa", sum := "4b9fa2aa8bfde32a717ea1b18519aa50b10731b1bda974d33e9e50e096140929", func := "loop.example/macroexpander/laws.FnExactBindsValid", spec := "fnExactBindsValid", apart := false }
def FnExactBindsValidSaid : Prop := fnExactBindsValidRow.holds Try.pinned (OpenSpec.ofChange fnExactBindsValidSpec)

/-- ITS FALSE NEIGHBOUR: 'it returns false'. Refute it at one input. -/
def fnExactBindsValidWrong : ChangeSpec := { name := "fnExactBindsValid", fn := fun _ => fun
  | [d] => { results := [.lit (.bool false)], args := [d] }
  | _ => none }
def FnExactBindsValidWrongFalsely : Prop := fnExactBindsValidRow.holds Try.pinned (OpenSpec.ofChange fnExactBindsValidWrong)

/-- 'laws.FnExactAddBind': WHATEVER THE INPUT: true; the input reads as it did. -/
def fnExactAddBindSpec : ChangeSpec := { name := "fnExactAddBind", fn := fun _ => fun
  | [d1, d2, d3] => { results := [.lit (.bool true)], args := [d1, d2, d3] }
  | _ => none }
def fnExactAddBindRow : OpenClaim := { program := "ytlgalpdjeojaaaa", sum := "4b9fa2aa8bfde32a717ea1b18519aa50b10731b1bda974d33e9e50e096140929", func := "loop.example/macroexpander/laws.FnExactAddBind", spec := "fnExactAddBind", recurses := true, loops := true, apart := false }
def FnExactAddBindSaid : Prop := fnExactAddBindRow.holds Try.pinned (OpenSpec.ofChange fnExactAddBindSpec)

/-- ITS FALSE NEIGHBOUR: 'it returns false'. Refute it at one input. -/
def fnExactAddBindWrong : ChangeSpec := { name := "fnExactAddBind", fn := fun _ => fun
  | [d1, d2, d3] => { results := [.lit (.bool false)], args := [d1, d2, d3] }
  | _ => none }
def FnExactAddBindWrongFalsely : Prop := fnExactAddBindRow.holds Try.pinned (OpenSpec.ofChange fnExactAddBindWrong)

/-- 'laws.FnExactPatternValid': WHATEVER THE INPUT: true; the input reads as it did. -/
def fnExactPatternValidSpec : ChangeSpec := { name := "fnExactPatternValid", fn := fun _ => fun
  | [d1, d2] => { results := [.lit (.bool true)], args := [d1, d2] }
  | _ => none }
def fnExactPatternValidRow : OpenClaim := { program := "ytlgalpdjeojaaaa", sum := "4b9fa2aa8bfde32a717ea1b18519aa50b10731b1bda974d33e9e50e096140929", func := "loop.example/macroexpander/laws.FnExactPatternValid", spec := "fnExactPatternValid", unfollowed := true, recurses := true, loops := true, apart := false }
def FnExactPatternValidSaid : Prop := fnExactPatternValidRow.holds Try.pinned (OpenSpec.ofChange fnExactPatternValidSpec)

/-- ITS FALSE NEIGHBOUR: 'it returns false'. Refute it at one input. -/
def fnExactPatternValidWrong : ChangeSpec := { name := "fnExactPatternValid", fn := fun _ => fun
  | [d1, d2] => { results := [.lit (.bool false)], args := [d1, d2] }
  | _ => none }
def FnExactPatternValidWrongFalsely : Prop := fnExactPatternValidRow.holds Try.pinned (OpenSpec.ofChange fnExactPatternValidWrong)

/-- 'laws.FnExactPatternVars': WHATEVER THE INPUT: true; the input reads as it did. -/
def fnExactPatternVarsSpec : ChangeSpec := { name := "fnExactPatternVars", fn := fun _ => fun
  | [d1, d2] => { results := [.lit (.bool true)], args := [d1, d2] }
  | _ => none }
def fnExactPatternVarsRow : OpenClaim := { program := "ytlgalpdjeojaaaa", sum := "4b9fa2aa8bfde32a717ea1b18519aa50b10731b1bda974d33e9e50e096140929", func := "loop.example/macroexpander/laws.FnExactPatternVars", spec := "fnExactPatternVars", unfollowed := true, recurses := true, loops := true, apart := false }
def FnExactPatternVarsSaid : Prop := fnExactPatternVarsRow.holds Try.pinned (OpenSpec.ofChange fnExactPatternVarsSpec)

/-- ITS FALSE NEIGHBOUR: 'it returns false'. Refute it at one input. -/
def fnExactPatternVarsWrong : ChangeSpec := { name := "fnExactPatternVars", fn := fun _ => fun
  | [d1, d2] => { results := [.lit (.bool false)], args := [d1, d2] }
  | _ => none }
def FnExactPatternVarsWrongFalsely : Prop := fnExactPatternVarsRow.holds Try.pinned (OpenSpec.ofChange fnExactPatternVarsWrong)

/-- 'laws.FnExactVarDepths': WHATEVER THE INPUT: true; the input reads as it did. -/
def fnExactVarDepthsSpec : ChangeSpec := { name := "fnExactVarDepths", fn := fun _ => fun
  | [d1, d2] => { results := [.lit (.bool true)], args := [d1, d2] }
  | _ => none }
def fnExactVarDepthsRow : OpenClaim := { program := "ytlgalpdjeojaaaa", sum := "4b9fa2aa8bfde32a717ea1b18519aa50b10731b1bda974d33e9e50e096140929", func := "loop.example/macroexpander/laws.FnExactVarDepths", spec := "fnExactVarDepths", unfollowed := true, recurses := true, loops := true, apart := false }
def FnExactVarDepthsSaid : Prop := fnExactVarDepthsRow.holds Try.pinned (OpenSpec.ofChange fnExactVarDepthsSpec)

/-- ITS FALSE NEIGHBOUR: 'it returns false'. Refute it at one input. -/
def fnExactVarDepthsWrong : ChangeSpec := { name := "fnExactVarDepths", fn := fun _ => fun
  | [d1, d2] => { results := [.lit (.bool false)], args := [d1, d2] }
  | _ => none }
def FnExactVarDepthsWrongFalsely : Prop := fnExactVarDepthsRow.holds Try.pinned (OpenSpec.ofChange fnExactVarDepthsWrong)

/- THE SECOND FORM. 'bulk': how many values and letters a reading holds, each counted each time it is reached (what is shared counts as often as it is met; a slice's spare places count too). A statement '..UptoSaid' is the law's where the arguments, and the package variables that the reading takes, are together of bulk at most 1048576: NARROWER than '..Said'. Prove '..Said' where nothing that the law and all that it calls make is longer than what came in: it says more and counts as full. Else prove '..UptoSaid'. A law counts once. -/
mutual
def uptoBulk {H : Type} : DataW H → Nat
  | .lit (.string bytes) => bytes.length + 1
  | .lit _ => 1
  | .nil => 1
  | .ptr d => uptoBulk d + 1
  | .slice elems spare => uptoBulkAll elems + uptoBulkAll spare + 1
  | .agg parts => uptoBulkAll parts + 1
  | .iface _ d => uptoBulk d + 1
  | .map entries => uptoBulkEntries entries + 1
  | .held _ => 1
def uptoBulkAll {H : Type} : List (DataW H) → Nat
  | [] => 0
  | d :: r => uptoBulk d + uptoBulkAll r
def uptoBulkEntries {H : Type} : List (Lit × DataW H) → Nat
  | [] => 0
  | x :: r => uptoBulkEntry x + uptoBulkEntries r
def uptoBulkEntry {H : Type} : Lit × DataW H → Nat
  | (.string bytes, d) => bytes.length + uptoBulk d + 1
  | (_, d) => uptoBulk d + 1
 end
def uptoSmall : (H : Type) → List (DataW H) → Bool := fun _ ds => decide (uptoBulkAll ds ≤ 1048576)
def OpenSpec.upto (s : _root_.Go.ChangeSpec) : _root_.Go.OpenSpec := { _root_.Go.OpenSpec.ofChange s with cond := some uptoSmall }

/-- 'laws.FnExactFormSame', WHERE WHAT IT READS IS OF BULK AT MOST 1048576: true; the input reads as it did. -/
def fnExactFormSameUptoRow : OpenClaim := { program := "ytlgalpdjeojaaaa", sum := "4b9fa2aa8bfde32a717ea1b18519aa50b10731b1bda974d33e9e50e096140929", func := "loop.example/macroexpander/laws.FnExactFormSame", spec := "fnExactFormSame", unfollowed := true, recurses := true, loops := true, apart := false, narrowed := true }
def FnExactFormSameUptoSaid : Prop := fnExactFormSameUptoRow.holds Try.pinned (OpenSpec.upto fnExactFormSameSpec)

/-- 'laws.FnExactFormSize', WHERE WHAT IT READS IS OF BULK AT MOST 1048576: true; the input reads as it did. -/
def fnExactFormSizeUptoRow : OpenClaim := { program := "ytlgalpdjeojaaaa", sum := "4b9fa2aa8bfde32a717ea1b18519aa50b10731b1bda974d33e9e50e096140929", func := "loop.example/macroexpander/laws.FnExactFormSize", spec := "fnExactFormSize", unfollowed := true, recurses := true, loops := true, apart := false, narrowed := true }
def FnExactFormSizeUptoSaid : Prop := fnExactFormSizeUptoRow.holds Try.pinned (OpenSpec.upto fnExactFormSizeSpec)

/-- 'laws.FnExactNamesOf', WHERE WHAT IT READS IS OF BULK AT MOST 1048576: true; the input reads as it did. -/
def fnExactNamesOfUptoRow : OpenClaim := { program := "ytlgalpdjeojaaaa", sum := "4b9fa2aa8bfde32a717ea1b18519aa50b10731b1bda974d33e9e50e096140929", func := "loop.example/macroexpander/laws.FnExactNamesOf", spec := "fnExactNamesOf", unfollowed := true, recurses := true, loops := true, apart := false, narrowed := true }
def FnExactNamesOfUptoSaid : Prop := fnExactNamesOfUptoRow.holds Try.pinned (OpenSpec.upto fnExactNamesOfSpec)

/-- 'laws.FnExactStripForm', WHERE WHAT IT READS IS OF BULK AT MOST 1048576: true; the input reads as it did. -/
def fnExactStripFormUptoRow : OpenClaim := { program := "ytlgalpdjeojaaaa", sum := "4b9fa2aa8bfde32a717ea1b18519aa50b10731b1bda974d33e9e50e096140929", func := "loop.example/macroexpander/laws.FnExactStripForm", spec := "fnExactStripForm", unfollowed := true, recurses := true, loops := true, apart := false, narrowed := true }
def FnExactStripFormUptoSaid : Prop := fnExactStripFormUptoRow.holds Try.pinned (OpenSpec.upto fnExactStripFormSpec)

/-- 'laws.FnExactListForm', WHERE WHAT IT READS IS OF BULK AT MOST 1048576: true; the input reads as it did. -/
def fnExactListFormUptoRow : OpenClaim := { program := "ytlgalpdjeojaaaa", sum := "4b9fa2aa8bfde32a717ea1b18519aa50b10731b1bda974d33e9e50e096140929", func := "loop.example/macroexpander/laws.FnExactListForm", spec := "fnExactListForm", unfollowed := true, recurses := true, loops := true, apart := false, narrowed := true }
def FnExactListFormUptoSaid : Prop := fnExactListFormUptoRow.holds Try.pinned (OpenSpec.upto fnExactListFormSpec)

/-- 'laws.FnExactScopesOf', WHERE WHAT IT READS IS OF BULK AT MOST 1048576: true; the input reads as it did. -/
def fnExactScopesOfUptoRow : OpenClaim := { program := "ytlgalpdjeojaaaa", sum := "4b9fa2aa8bfde32a717ea1b18519aa50b10731b1bda974d33e9e50e096140929", func := "loop.example/macroexpander/laws.FnExactScopesOf", spec := "fnExactScopesOf", unfollowed := true, recurses := true, loops := true, apart := false, narrowed := true }
def FnExactScopesOfUptoSaid : Prop := fnExactScopesOfUptoRow.holds Try.pinned (OpenSpec.upto fnExactScopesOfSpec)

/-- 'laws.FnExactSameName', WHERE WHAT IT READS IS OF BULK AT MOST 1048576: true; the input reads as it did. -/
def fnExactSameNameUptoRow : OpenClaim := { program := "ytlgalpdjeojaaaa", sum := "4b9fa2aa8bfde32a717ea1b18519aa50b10731b1bda974d33e9e50e096140929", func := "loop.example/macroexpander/laws.FnExactSameName", spec := "fnExactSameName", unfollowed := true, recurses := true, loops := true, apart := false, narrowed := true }
def FnExactSameNameUptoSaid : Prop := fnExactSameNameUptoRow.holds Try.pinned (OpenSpec.upto fnExactSameNameSpec)

/-- 'laws.FnExactBindsValid', WHERE WHAT IT READS IS OF BULK AT MOST 1048576: true; the input reads as it did. -/
def fnExactBindsValidUptoRow : OpenClaim := { program := "ytlgalpdjeojaaaa", sum := "4b9fa2aa8bfde32a717ea1b18519aa50b10731b1bda974d33e9e50e096140929", func := "loop.example/macroexpander/laws.FnExactBindsValid", spec := "fnExactBindsValid", apart := false, narrowed := true }
def FnExactBindsValidUptoSaid : Prop := fnExactBindsValidUptoRow.holds Try.pinned (OpenSpec.upto fnExactBindsValidSpec)

/-- 'laws.FnExactAddBind', WHERE WHAT IT READS IS OF BULK AT MOST 1048576: true; the input reads as it did. -/
def fnExactAddBindUptoRow : OpenClaim := { program := "ytlgalpdjeojaaaa", sum := "4b9fa2aa8bfde32a717ea1b18519aa50b10731b1bda974d33e9e50e096140929", func := "loop.example/macroexpander/laws.FnExactAddBind", spec := "fnExactAddBind", recurses := true, loops := true, apart := false, narrowed := true }
def FnExactAddBindUptoSaid : Prop := fnExactAddBindUptoRow.holds Try.pinned (OpenSpec.upto fnExactAddBindSpec)

/-- 'laws.FnExactPatternValid', WHERE WHAT IT READS IS OF BULK AT MOST 1048576: true; the input reads as it did. -/
def fnExactPatternValidUptoRow : OpenClaim := { program := "ytlgalpdjeojaaaa", sum := "4b9fa2aa8bfde32a717ea1b18519aa50b10731b1bda974d33e9e50e096140929", func := "loop.example/macroexpander/laws.FnExactPatternValid", spec := "fnExactPatternValid", unfollowed := true, recurses := true, loops := true, apart := false, narrowed := true }
def FnExactPatternValidUptoSaid : Prop := fnExactPatternValidUptoRow.holds Try.pinned (OpenSpec.upto fnExactPatternValidSpec)

/-- 'laws.FnExactPatternVars', WHERE WHAT IT READS IS OF BULK AT MOST 1048576: true; the input reads as it did. -/
def fnExactPatternVarsUptoRow : OpenClaim := { program := "ytlgalpdjeojaaaa", sum := "4b9fa2aa8bfde32a717ea1b18519aa50b10731b1bda974d33e9e50e096140929", func := "loop.example/macroexpander/laws.FnExactPatternVars", spec := "fnExactPatternVars", unfollowed := true, recurses := true, loops := true, apart := false, narrowed := true }
def FnExactPatternVarsUptoSaid : Prop := fnExactPatternVarsUptoRow.holds Try.pinned (OpenSpec.upto fnExactPatternVarsSpec)

/-- 'laws.FnExactVarDepths', WHERE WHAT IT READS IS OF BULK AT MOST 1048576: true; the input reads as it did. -/
def fnExactVarDepthsUptoRow : OpenClaim := { program := "ytlgalpdjeojaaaa", sum := "4b9fa2aa8bfde32a717ea1b18519aa50b10731b1bda974d33e9e50e096140929", func := "loop.example/macroexpander/laws.FnExactVarDepths", spec := "fnExactVarDepths", unfollowed := true, recurses := true, loops := true, apart := false, narrowed := true }
def FnExactVarDepthsUptoSaid : Prop := fnExactVarDepthsUptoRow.holds Try.pinned (OpenSpec.upto fnExactVarDepthsSpec)

end Rows
end Go.Proofs.Ytlgalpdjeojaaaa
