/- What is asked of the program once, whatever the statement. -/
import Derived.Test.YtbclgmabidjegaaRows
import Derived.Test.YtbclgmabidjegaaChecked
import Derived.JoinedOf
import Derived.KernelRfl
namespace Go.Proofs.Ytbclgmabidjegaa.Facts
theorem band {a b : Bool} (h : a = true) (g : b = true) : (a && b) = true := by rw [h, g]; rfl
theorem laid : laidOutB Try.pinned.checked.prog = true := by kernel_rfl
theorem rowed : mapsRowed Try.pinned.checked.prog = true := by kernel_rfl
theorem stops : (Try.pinned.checked.prog.stops == []) = true := by kernel_rfl
theorem knobs : (Try.pinned.checked.prog.stopKnobs == []) = true := by kernel_rfl
theorem plain : Try.pinned.checked.prog.plainKeys = true := by kernel_rfl
theorem heard : Try.pinned.checked.prog.stopsHeard = true := by kernel_rfl
theorem enter : Try.pinned.checked.prog.mayEnter = true := by kernel_rfl
theorem lifts : Try.pinned.checked.prog.liftsFinal = false := by kernel_rfl
theorem made : Try.pinned.checked.prog.make = some .cut := by kernel_rfl
end Go.Proofs.Ytbclgmabidjegaa.Facts
