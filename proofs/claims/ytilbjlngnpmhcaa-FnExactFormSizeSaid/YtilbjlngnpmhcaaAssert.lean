/- Type assertions on nodes: closed facts. -/
import Derived.Test.YtilbjlngnpmhcaaChecked
import Derived.Test.YtilbjlngnpmhcaaBase
import Derived.KernelRfl
namespace Go.Proofs.Ytilbjlngnpmhcaa
theorem as_nn (x : Value) (w : World) : (Instr.typeAssert (.iface 118 x) 91 118 true).run Try.prog w = .ok (.tuple #[x, .bool true]) w := by kernel_rfl
theorem as_uu (x : Value) (w : World) : (Instr.typeAssert (.iface 120 x) 91 120 true).run Try.prog w = .ok (.tuple #[x, .bool true]) w := by kernel_rfl
theorem as_ll (x : Value) (w : World) : (Instr.typeAssert (.iface 122 x) 91 122 true).run Try.prog w = .ok (.tuple #[x, .bool true]) w := by kernel_rfl
theorem as_un (x : Value) (w : World) : (Instr.typeAssert (.iface 120 x) 91 118 true).run Try.prog w = .ok (.tuple #[.agg #[.string ByteArray.empty, .slice none 0 0], .bool false]) w := by kernel_rfl
theorem as_ln (x : Value) (w : World) : (Instr.typeAssert (.iface 122 x) 91 118 true).run Try.prog w = .ok (.tuple #[.agg #[.string ByteArray.empty, .slice none 0 0], .bool false]) w := by kernel_rfl
theorem as_lu (x : Value) (w : World) : (Instr.typeAssert (.iface 122 x) 91 120 true).run Try.prog w = .ok (.tuple #[.agg #[.int .i64 0], .bool false]) w := by kernel_rfl
theorem as_zn (w : World) : (Instr.typeAssert .nilIface 91 118 true).run Try.prog w = .ok (.tuple #[.agg #[.string ByteArray.empty, .slice none 0 0], .bool false]) w := by kernel_rfl
theorem as_zu (w : World) : (Instr.typeAssert .nilIface 91 120 true).run Try.prog w = .ok (.tuple #[.agg #[.int .i64 0], .bool false]) w := by kernel_rfl
theorem as_zl (w : World) : (Instr.typeAssert .nilIface 91 122 true).run Try.prog w = .ok (.tuple #[.agg #[.slice none 0 0], .bool false]) w := by kernel_rfl
end Go.Proofs.Ytilbjlngnpmhcaa
