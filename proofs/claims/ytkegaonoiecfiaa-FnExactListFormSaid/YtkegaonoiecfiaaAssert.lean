/- Type assertions on nodes: closed facts. -/
import Derived.Test.YtkegaonoiecfiaaChecked
import Derived.Test.YtkegaonoiecfiaaBase
import Derived.KernelRfl
namespace Go.Proofs.Ytkegaonoiecfiaa
theorem as_nn (x : Value) (w : World) : (Instr.typeAssert (.iface 95 x) 71 95 true).run Try.prog w = .ok (.tuple #[x, .bool true]) w := by kernel_rfl
theorem as_uu (x : Value) (w : World) : (Instr.typeAssert (.iface 97 x) 71 97 true).run Try.prog w = .ok (.tuple #[x, .bool true]) w := by kernel_rfl
theorem as_ll (x : Value) (w : World) : (Instr.typeAssert (.iface 99 x) 71 99 true).run Try.prog w = .ok (.tuple #[x, .bool true]) w := by kernel_rfl
theorem as_un (x : Value) (w : World) : (Instr.typeAssert (.iface 97 x) 71 95 true).run Try.prog w = .ok (.tuple #[.agg #[.string ByteArray.empty, .slice none 0 0], .bool false]) w := by kernel_rfl
theorem as_ln (x : Value) (w : World) : (Instr.typeAssert (.iface 99 x) 71 95 true).run Try.prog w = .ok (.tuple #[.agg #[.string ByteArray.empty, .slice none 0 0], .bool false]) w := by kernel_rfl
theorem as_lu (x : Value) (w : World) : (Instr.typeAssert (.iface 99 x) 71 97 true).run Try.prog w = .ok (.tuple #[.agg #[.int .i64 0], .bool false]) w := by kernel_rfl
theorem as_zn (w : World) : (Instr.typeAssert .nilIface 71 95 true).run Try.prog w = .ok (.tuple #[.agg #[.string ByteArray.empty, .slice none 0 0], .bool false]) w := by kernel_rfl
theorem as_zu (w : World) : (Instr.typeAssert .nilIface 71 97 true).run Try.prog w = .ok (.tuple #[.agg #[.int .i64 0], .bool false]) w := by kernel_rfl
theorem as_zl (w : World) : (Instr.typeAssert .nilIface 71 99 true).run Try.prog w = .ok (.tuple #[.agg #[.slice none 0 0], .bool false]) w := by kernel_rfl
end Go.Proofs.Ytkegaonoiecfiaa
