/-
  NARROWER THAN 'FOR EVERY INPUT', by the rows' own cells (each row's printed sentence says how): FnExactFormValid: loops · FnExactFormSame: loops · FnExactFormSize: loops · FnExactFormatForm: loops.
  DERIVED. THE GIVEN ROWS OF THIS SEAT. 5 by the template 'for every input the law returns true; each argument reads behind the call as it read before'; 0 by the template 'total and deterministic' (their statements: YtpmhiambnpjekacTotals.lean).
  GIVEN WITH THE SEED: the statements are not yours to turn. If you find one false, say at which input.
  Laid BY PROGRAM, IN A SANDBOX (cutbox-rows.mjs): the forced cells as the released guide's own fill.sh prints them over the translation e20234ecba58f400… (all of the seat's roots in one cut). By AI agents, Wed Nov 11 2026. No macro, syntax, notation, axiom, sorry.
-/
import Derived.Test.YtpmhiambnpjekacChecked
import GoSem.Claim
import GoSem.ClaimJoined
import GoSem.ClaimMapViews
import Derived.JoinedTies
import Derived.KernelRfl
namespace Go.Proofs.Ytpmhiambnpjekac
/- THE CELL 'sum', in the pinned program and in every row, IS THE sha256 OF THE DUMP (.gsa) THAT YtpmhiambnpjekacProg.lean LOADS. Nothing in Lean hashes anything: it is a label: what it is worth is what the hold of that sum in a sandbox is worth. -/
noncomputable def Try.pinned : Pinned := { name := "ytpmhiambnpjekac", sum := "e20234ecba58f400583bcea4c50d368ca3383e5311a7e7b7987545e7e0ac945a", checked := Try.checked }
namespace Rows
def none {H : Type} : Left H := { results := [], args := [] }

/-- 'laws.FnExactNameValid': WHATEVER THE INPUT: true; the input reads as it did. -/
def fnExactNameValidSpec : ChangeSpec := { name := "fnExactNameValid", fn := fun _ => fun
  | [d] => { results := [.lit (.bool true)], args := [d] }
  | _ => none }
def fnExactNameValidRow : OpenClaim := { program := "ytpmhiambnpjekac", sum := "e20234ecba58f400583bcea4c50d368ca3383e5311a7e7b7987545e7e0ac945a", func := "loop.example/macroexpander/laws.FnExactNameValid", spec := "fnExactNameValid", apart := false }
def FnExactNameValidSaid : Prop := fnExactNameValidRow.holds Try.pinned (OpenSpec.ofChange fnExactNameValidSpec)

/-- ITS FALSE NEIGHBOUR: 'it returns false'. Refute it at one input. -/
def fnExactNameValidWrong : ChangeSpec := { name := "fnExactNameValid", fn := fun _ => fun
  | [d] => { results := [.lit (.bool false)], args := [d] }
  | _ => none }
def FnExactNameValidWrongFalsely : Prop := fnExactNameValidRow.holds Try.pinned (OpenSpec.ofChange fnExactNameValidWrong)

/-- 'laws.FnExactFormValid': WHATEVER THE INPUT: true; the input reads as it did. -/
def fnExactFormValidSpec : ChangeSpec := { name := "fnExactFormValid", fn := fun _ => fun
  | [d] => { results := [.lit (.bool true)], args := [d] }
  | _ => none }
def fnExactFormValidRow : OpenClaim := { program := "ytpmhiambnpjekac", sum := "e20234ecba58f400583bcea4c50d368ca3383e5311a7e7b7987545e7e0ac945a", func := "loop.example/macroexpander/laws.FnExactFormValid", spec := "fnExactFormValid", recurses := true, loops := true, apart := false }
def FnExactFormValidSaid : Prop := fnExactFormValidRow.holds Try.pinned (OpenSpec.ofChange fnExactFormValidSpec)

/-- ITS FALSE NEIGHBOUR: 'it returns false'. Refute it at one input. -/
def fnExactFormValidWrong : ChangeSpec := { name := "fnExactFormValid", fn := fun _ => fun
  | [d] => { results := [.lit (.bool false)], args := [d] }
  | _ => none }
def FnExactFormValidWrongFalsely : Prop := fnExactFormValidRow.holds Try.pinned (OpenSpec.ofChange fnExactFormValidWrong)

/-- 'laws.FnExactFormSame': WHATEVER THE INPUT: true; the input reads as it did. -/
def fnExactFormSameSpec : ChangeSpec := { name := "fnExactFormSame", fn := fun _ => fun
  | [d1, d2] => { results := [.lit (.bool true)], args := [d1, d2] }
  | _ => none }
def fnExactFormSameRow : OpenClaim := { program := "ytpmhiambnpjekac", sum := "e20234ecba58f400583bcea4c50d368ca3383e5311a7e7b7987545e7e0ac945a", func := "loop.example/macroexpander/laws.FnExactFormSame", spec := "fnExactFormSame", recurses := true, loops := true, apart := false }
def FnExactFormSameSaid : Prop := fnExactFormSameRow.holds Try.pinned (OpenSpec.ofChange fnExactFormSameSpec)

/-- ITS FALSE NEIGHBOUR: 'it returns false'. Refute it at one input. -/
def fnExactFormSameWrong : ChangeSpec := { name := "fnExactFormSame", fn := fun _ => fun
  | [d1, d2] => { results := [.lit (.bool false)], args := [d1, d2] }
  | _ => none }
def FnExactFormSameWrongFalsely : Prop := fnExactFormSameRow.holds Try.pinned (OpenSpec.ofChange fnExactFormSameWrong)

/-- 'laws.FnExactFormSize': WHATEVER THE INPUT: true; the input reads as it did. -/
def fnExactFormSizeSpec : ChangeSpec := { name := "fnExactFormSize", fn := fun _ => fun
  | [d] => { results := [.lit (.bool true)], args := [d] }
  | _ => none }
def fnExactFormSizeRow : OpenClaim := { program := "ytpmhiambnpjekac", sum := "e20234ecba58f400583bcea4c50d368ca3383e5311a7e7b7987545e7e0ac945a", func := "loop.example/macroexpander/laws.FnExactFormSize", spec := "fnExactFormSize", unfollowed := true, recurses := true, loops := true, apart := false }
def FnExactFormSizeSaid : Prop := fnExactFormSizeRow.holds Try.pinned (OpenSpec.ofChange fnExactFormSizeSpec)

/-- ITS FALSE NEIGHBOUR: 'it returns false'. Refute it at one input. -/
def fnExactFormSizeWrong : ChangeSpec := { name := "fnExactFormSize", fn := fun _ => fun
  | [d] => { results := [.lit (.bool false)], args := [d] }
  | _ => none }
def FnExactFormSizeWrongFalsely : Prop := fnExactFormSizeRow.holds Try.pinned (OpenSpec.ofChange fnExactFormSizeWrong)

/-- 'laws.FnExactFormatForm': WHATEVER THE INPUT: true; the input reads as it did. -/
def fnExactFormatFormSpec : ChangeSpec := { name := "fnExactFormatForm", fn := fun _ => fun
  | [d] => { results := [.lit (.bool true)], args := [d] }
  | _ => none }
def fnExactFormatFormRow : OpenClaim := { program := "ytpmhiambnpjekac", sum := "e20234ecba58f400583bcea4c50d368ca3383e5311a7e7b7987545e7e0ac945a", func := "loop.example/macroexpander/laws.FnExactFormatForm", spec := "fnExactFormatForm", unfollowed := true, recurses := true, loops := true, apart := false }
def FnExactFormatFormSaid : Prop := fnExactFormatFormRow.holds Try.pinned (OpenSpec.ofChange fnExactFormatFormSpec)

/-- ITS FALSE NEIGHBOUR: 'it returns false'. Refute it at one input. -/
def fnExactFormatFormWrong : ChangeSpec := { name := "fnExactFormatForm", fn := fun _ => fun
  | [d] => { results := [.lit (.bool false)], args := [d] }
  | _ => none }
def FnExactFormatFormWrongFalsely : Prop := fnExactFormatFormRow.holds Try.pinned (OpenSpec.ofChange fnExactFormatFormWrong)

/- THE SECOND FORM. 'bulk': how many values and letters a reading holds, each counted each time it is reached (what is shared counts as often as it is met; a slice's spare places count too). A statement '..UptoSaid' is the law's where the arguments, and the package variables that the reading takes, are together of bulk at most 1048576: NARROWER than '..Said'. Prove '..Said' where nothing that the law and all that it calls make is longer than what came in: it says more and counts as full. Else prove '..UptoSaid'. A law counts once. -/
mutual
def uptoBulk {H : Type} : DataW H → Nat
  | .lit (.string bytes) => bytes.length + 1
  | .lit _ => 1
  | .nil => 1
  | .ptr d => uptoBulk d + 1
  | .slice elems spare => uptoBulkAll elems + uptoBulkAll spare + 1
  | .agg parts => uptoBulkAll parts + 1
  | .iface _ d => uptoBulk d + 1
  | .map entries => uptoBulkEntries entries + 1
  | .held _ => 1
def uptoBulkAll {H : Type} : List (DataW H) → Nat
  | [] => 0
  | d :: r => uptoBulk d + uptoBulkAll r
def uptoBulkEntries {H : Type} : List (Lit × DataW H) → Nat
  | [] => 0
  | x :: r => uptoBulkEntry x + uptoBulkEntries r
def uptoBulkEntry {H : Type} : Lit × DataW H → Nat
  | (.string bytes, d) => bytes.length + uptoBulk d + 1
  | (_, d) => uptoBulk d + 1
 end
def uptoSmall : (H : Type) → List (DataW H) → Bool := fun _ ds => decide (uptoBulkAll ds ≤ 1048576)
def OpenSpec.upto (s : _root_.Go.ChangeSpec) : _root_.Go.OpenSpec := { _root_.Go.OpenSpec.ofChange s with cond := some uptoSmall }

/-- 'laws.FnExactNameValid', WHERE WHAT IT READS IS OF BULK AT MOST 1048576: true; the input reads as it did. -/
def fnExactNameValidUptoRow : OpenClaim := { program := "ytpmhiambnpjekac", sum := "e20234ecba58f400583bcea4c50d368ca3383e5311a7e7b7987545e7e0ac945a", func := "loop.example/macroexpander/laws.FnExactNameValid", spec := "fnExactNameValid", apart := false, narrowed := true }
def FnExactNameValidUptoSaid : Prop := fnExactNameValidUptoRow.holds Try.pinned (OpenSpec.upto fnExactNameValidSpec)

/-- 'laws.FnExactFormValid', WHERE WHAT IT READS IS OF BULK AT MOST 1048576: true; the input reads as it did. -/
def fnExactFormValidUptoRow : OpenClaim := { program := "ytpmhiambnpjekac", sum := "e20234ecba58f400583bcea4c50d368ca3383e5311a7e7b7987545e7e0ac945a", func := "loop.example/macroexpander/laws.FnExactFormValid", spec := "fnExactFormValid", recurses := true, loops := true, apart := false, narrowed := true }
def FnExactFormValidUptoSaid : Prop := fnExactFormValidUptoRow.holds Try.pinned (OpenSpec.upto fnExactFormValidSpec)

/-- 'laws.FnExactFormSame', WHERE WHAT IT READS IS OF BULK AT MOST 1048576: true; the input reads as it did. -/
def fnExactFormSameUptoRow : OpenClaim := { program := "ytpmhiambnpjekac", sum := "e20234ecba58f400583bcea4c50d368ca3383e5311a7e7b7987545e7e0ac945a", func := "loop.example/macroexpander/laws.FnExactFormSame", spec := "fnExactFormSame", recurses := true, loops := true, apart := false, narrowed := true }
def FnExactFormSameUptoSaid : Prop := fnExactFormSameUptoRow.holds Try.pinned (OpenSpec.upto fnExactFormSameSpec)

/-- 'laws.FnExactFormSize', WHERE WHAT IT READS IS OF BULK AT MOST 1048576: true; the input reads as it did. -/
def fnExactFormSizeUptoRow : OpenClaim := { program := "ytpmhiambnpjekac", sum := "e20234ecba58f400583bcea4c50d368ca3383e5311a7e7b7987545e7e0ac945a", func := "loop.example/macroexpander/laws.FnExactFormSize", spec := "fnExactFormSize", unfollowed := true, recurses := true, loops := true, apart := false, narrowed := true }
def FnExactFormSizeUptoSaid : Prop := fnExactFormSizeUptoRow.holds Try.pinned (OpenSpec.upto fnExactFormSizeSpec)

/-- 'laws.FnExactFormatForm', WHERE WHAT IT READS IS OF BULK AT MOST 1048576: true; the input reads as it did. -/
def fnExactFormatFormUptoRow : OpenClaim := { program := "ytpmhiambnpjekac", sum := "e20234ecba58f400583bcea4c50d368ca3383e5311a7e7b7987545e7e0ac945a", func := "loop.example/macroexpander/laws.FnExactFormatForm", spec := "fnExactFormatForm", unfollowed := true, recurses := true, loops := true, apart := false, narrowed := true }
def FnExactFormatFormUptoSaid : Prop := fnExactFormatFormUptoRow.holds Try.pinned (OpenSpec.upto fnExactFormatFormSpec)

end Rows
end Go.Proofs.Ytpmhiambnpjekac
