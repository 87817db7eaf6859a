import Derived.Test.YtlnagmdoepldmaaDoorSA
import Derived.Lib.AppendStr
import Derived.Stop.Asserts
namespace Go.Proofs.YtlnagmdoepldmaaDoor.ex
open Go.ChangeShapes Go.WideShapes Go.ChangeAt Go.RowKit Go.Deep
set_option linter.unusedVariables false
set_option linter.unusedSimpArgs false

theorem as1_1 (x : Value) (w : World) : (Instr.typeAssert (.iface 51 x) 38 51 true).run Tryd.prog w = .ok (.tuple #[x, .bool true]) w := by kernel_rfl
theorem as1_2 (x : Value) (w : World) : (Instr.typeAssert (.iface 51 x) 38 54 true).run Tryd.prog w = .ok (.tuple #[.agg #[.string ⟨#[]⟩], .bool false]) w := by kernel_rfl
theorem as1_3 (x : Value) (w : World) : (Instr.typeAssert (.iface 51 x) 38 56 true).run Tryd.prog w = .ok (.tuple #[.agg #[.string ⟨#[]⟩], .bool false]) w := by kernel_rfl
theorem as1_4 (x : Value) (w : World) : (Instr.typeAssert (.iface 51 x) 38 59 true).run Tryd.prog w = .ok (.tuple #[.agg #[.slice none 0 0], .bool false]) w := by kernel_rfl
theorem as1_5 (x : Value) (w : World) : (Instr.typeAssert (.iface 51 x) 38 62 true).run Tryd.prog w = .ok (.tuple #[.agg #[.bool false, .slice none 0 0], .bool false]) w := by kernel_rfl
theorem as2_1 (x : Value) (w : World) : (Instr.typeAssert (.iface 54 x) 38 51 true).run Tryd.prog w = .ok (.tuple #[.agg #[.int .i64 0], .bool false]) w := by kernel_rfl
theorem as2_2 (x : Value) (w : World) : (Instr.typeAssert (.iface 54 x) 38 54 true).run Tryd.prog w = .ok (.tuple #[x, .bool true]) w := by kernel_rfl
theorem as2_3 (x : Value) (w : World) : (Instr.typeAssert (.iface 54 x) 38 56 true).run Tryd.prog w = .ok (.tuple #[.agg #[.string ⟨#[]⟩], .bool false]) w := by kernel_rfl
theorem as2_4 (x : Value) (w : World) : (Instr.typeAssert (.iface 54 x) 38 59 true).run Tryd.prog w = .ok (.tuple #[.agg #[.slice none 0 0], .bool false]) w := by kernel_rfl
theorem as2_5 (x : Value) (w : World) : (Instr.typeAssert (.iface 54 x) 38 62 true).run Tryd.prog w = .ok (.tuple #[.agg #[.bool false, .slice none 0 0], .bool false]) w := by kernel_rfl
theorem as3_1 (x : Value) (w : World) : (Instr.typeAssert (.iface 56 x) 38 51 true).run Tryd.prog w = .ok (.tuple #[.agg #[.int .i64 0], .bool false]) w := by kernel_rfl
theorem as3_2 (x : Value) (w : World) : (Instr.typeAssert (.iface 56 x) 38 54 true).run Tryd.prog w = .ok (.tuple #[.agg #[.string ⟨#[]⟩], .bool false]) w := by kernel_rfl
theorem as3_3 (x : Value) (w : World) : (Instr.typeAssert (.iface 56 x) 38 56 true).run Tryd.prog w = .ok (.tuple #[x, .bool true]) w := by kernel_rfl
theorem as3_4 (x : Value) (w : World) : (Instr.typeAssert (.iface 56 x) 38 59 true).run Tryd.prog w = .ok (.tuple #[.agg #[.slice none 0 0], .bool false]) w := by kernel_rfl
theorem as3_5 (x : Value) (w : World) : (Instr.typeAssert (.iface 56 x) 38 62 true).run Tryd.prog w = .ok (.tuple #[.agg #[.bool false, .slice none 0 0], .bool false]) w := by kernel_rfl
theorem as4_1 (x : Value) (w : World) : (Instr.typeAssert (.iface 59 x) 38 51 true).run Tryd.prog w = .ok (.tuple #[.agg #[.int .i64 0], .bool false]) w := by kernel_rfl
theorem as4_2 (x : Value) (w : World) : (Instr.typeAssert (.iface 59 x) 38 54 true).run Tryd.prog w = .ok (.tuple #[.agg #[.string ⟨#[]⟩], .bool false]) w := by kernel_rfl
theorem as4_3 (x : Value) (w : World) : (Instr.typeAssert (.iface 59 x) 38 56 true).run Tryd.prog w = .ok (.tuple #[.agg #[.string ⟨#[]⟩], .bool false]) w := by kernel_rfl
theorem as4_4 (x : Value) (w : World) : (Instr.typeAssert (.iface 59 x) 38 59 true).run Tryd.prog w = .ok (.tuple #[x, .bool true]) w := by kernel_rfl
theorem as4_5 (x : Value) (w : World) : (Instr.typeAssert (.iface 59 x) 38 62 true).run Tryd.prog w = .ok (.tuple #[.agg #[.bool false, .slice none 0 0], .bool false]) w := by kernel_rfl
theorem as5_1 (x : Value) (w : World) : (Instr.typeAssert (.iface 62 x) 38 51 true).run Tryd.prog w = .ok (.tuple #[.agg #[.int .i64 0], .bool false]) w := by kernel_rfl
theorem as5_2 (x : Value) (w : World) : (Instr.typeAssert (.iface 62 x) 38 54 true).run Tryd.prog w = .ok (.tuple #[.agg #[.string ⟨#[]⟩], .bool false]) w := by kernel_rfl
theorem as5_3 (x : Value) (w : World) : (Instr.typeAssert (.iface 62 x) 38 56 true).run Tryd.prog w = .ok (.tuple #[.agg #[.string ⟨#[]⟩], .bool false]) w := by kernel_rfl
theorem as5_4 (x : Value) (w : World) : (Instr.typeAssert (.iface 62 x) 38 59 true).run Tryd.prog w = .ok (.tuple #[.agg #[.slice none 0 0], .bool false]) w := by kernel_rfl
theorem as5_5 (x : Value) (w : World) : (Instr.typeAssert (.iface 62 x) 38 62 true).run Tryd.prog w = .ok (.tuple #[x, .bool true]) w := by kernel_rfl
theorem as8_1 (x : Value) (w : World) : (Instr.typeAssert (.iface 65 x) 38 51 true).run Tryd.prog w = .ok (.tuple #[.agg #[.int .i64 0], .bool false]) w := by kernel_rfl
theorem as8_2 (x : Value) (w : World) : (Instr.typeAssert (.iface 65 x) 38 54 true).run Tryd.prog w = .ok (.tuple #[.agg #[.string ⟨#[]⟩], .bool false]) w := by kernel_rfl
theorem as8_3 (x : Value) (w : World) : (Instr.typeAssert (.iface 65 x) 38 56 true).run Tryd.prog w = .ok (.tuple #[.agg #[.string ⟨#[]⟩], .bool false]) w := by kernel_rfl
theorem as8_4 (x : Value) (w : World) : (Instr.typeAssert (.iface 65 x) 38 59 true).run Tryd.prog w = .ok (.tuple #[.agg #[.slice none 0 0], .bool false]) w := by kernel_rfl
theorem as8_5 (x : Value) (w : World) : (Instr.typeAssert (.iface 65 x) 38 62 true).run Tryd.prog w = .ok (.tuple #[.agg #[.bool false, .slice none 0 0], .bool false]) w := by kernel_rfl
theorem as8_8 (x : Value) (w : World) : (Instr.typeAssert (.iface 65 x) 38 65 true).run Tryd.prog w = .ok (.tuple #[x, .bool true]) w := by kernel_rfl
theorem as9_1 (x : Value) (w : World) : (Instr.typeAssert (.iface 69 x) 38 51 true).run Tryd.prog w = .ok (.tuple #[.agg #[.int .i64 0], .bool false]) w := by kernel_rfl
theorem as9_2 (x : Value) (w : World) : (Instr.typeAssert (.iface 69 x) 38 54 true).run Tryd.prog w = .ok (.tuple #[.agg #[.string ⟨#[]⟩], .bool false]) w := by kernel_rfl
theorem as9_3 (x : Value) (w : World) : (Instr.typeAssert (.iface 69 x) 38 56 true).run Tryd.prog w = .ok (.tuple #[.agg #[.string ⟨#[]⟩], .bool false]) w := by kernel_rfl
theorem as9_4 (x : Value) (w : World) : (Instr.typeAssert (.iface 69 x) 38 59 true).run Tryd.prog w = .ok (.tuple #[.agg #[.slice none 0 0], .bool false]) w := by kernel_rfl
theorem as9_5 (x : Value) (w : World) : (Instr.typeAssert (.iface 69 x) 38 62 true).run Tryd.prog w = .ok (.tuple #[.agg #[.bool false, .slice none 0 0], .bool false]) w := by kernel_rfl
theorem as9_8 (x : Value) (w : World) : (Instr.typeAssert (.iface 69 x) 38 65 true).run Tryd.prog w = .ok (.tuple #[.agg #[.slice none 0 0, .nilIface], .bool false]) w := by kernel_rfl
theorem as9_9 (x : Value) (w : World) : (Instr.typeAssert (.iface 69 x) 38 69 true).run Tryd.prog w = .ok (.tuple #[x, .bool true]) w := by kernel_rfl
theorem as10_1 (x : Value) (w : World) : (Instr.typeAssert (.iface 71 x) 38 51 true).run Tryd.prog w = .ok (.tuple #[.agg #[.int .i64 0], .bool false]) w := by kernel_rfl
theorem as10_2 (x : Value) (w : World) : (Instr.typeAssert (.iface 71 x) 38 54 true).run Tryd.prog w = .ok (.tuple #[.agg #[.string ⟨#[]⟩], .bool false]) w := by kernel_rfl
theorem as10_3 (x : Value) (w : World) : (Instr.typeAssert (.iface 71 x) 38 56 true).run Tryd.prog w = .ok (.tuple #[.agg #[.string ⟨#[]⟩], .bool false]) w := by kernel_rfl
theorem as10_4 (x : Value) (w : World) : (Instr.typeAssert (.iface 71 x) 38 59 true).run Tryd.prog w = .ok (.tuple #[.agg #[.slice none 0 0], .bool false]) w := by kernel_rfl
theorem as10_5 (x : Value) (w : World) : (Instr.typeAssert (.iface 71 x) 38 62 true).run Tryd.prog w = .ok (.tuple #[.agg #[.bool false, .slice none 0 0], .bool false]) w := by kernel_rfl
theorem as10_8 (x : Value) (w : World) : (Instr.typeAssert (.iface 71 x) 38 65 true).run Tryd.prog w = .ok (.tuple #[.agg #[.slice none 0 0, .nilIface], .bool false]) w := by kernel_rfl
theorem as10_9 (x : Value) (w : World) : (Instr.typeAssert (.iface 71 x) 38 69 true).run Tryd.prog w = .ok (.tuple #[.agg #[.nilIface, .nilIface], .bool false]) w := by kernel_rfl
theorem as10_10 (x : Value) (w : World) : (Instr.typeAssert (.iface 71 x) 38 71 true).run Tryd.prog w = .ok (.tuple #[x, .bool true]) w := by kernel_rfl
theorem as11_1 (x : Value) (w : World) : (Instr.typeAssert (.iface 73 x) 38 51 true).run Tryd.prog w = .ok (.tuple #[.agg #[.int .i64 0], .bool false]) w := by kernel_rfl
theorem as11_2 (x : Value) (w : World) : (Instr.typeAssert (.iface 73 x) 38 54 true).run Tryd.prog w = .ok (.tuple #[.agg #[.string ⟨#[]⟩], .bool false]) w := by kernel_rfl
theorem as11_3 (x : Value) (w : World) : (Instr.typeAssert (.iface 73 x) 38 56 true).run Tryd.prog w = .ok (.tuple #[.agg #[.string ⟨#[]⟩], .bool false]) w := by kernel_rfl
theorem as11_4 (x : Value) (w : World) : (Instr.typeAssert (.iface 73 x) 38 59 true).run Tryd.prog w = .ok (.tuple #[.agg #[.slice none 0 0], .bool false]) w := by kernel_rfl
theorem as11_5 (x : Value) (w : World) : (Instr.typeAssert (.iface 73 x) 38 62 true).run Tryd.prog w = .ok (.tuple #[.agg #[.bool false, .slice none 0 0], .bool false]) w := by kernel_rfl
theorem as11_8 (x : Value) (w : World) : (Instr.typeAssert (.iface 73 x) 38 65 true).run Tryd.prog w = .ok (.tuple #[.agg #[.slice none 0 0, .nilIface], .bool false]) w := by kernel_rfl
theorem as11_9 (x : Value) (w : World) : (Instr.typeAssert (.iface 73 x) 38 69 true).run Tryd.prog w = .ok (.tuple #[.agg #[.nilIface, .nilIface], .bool false]) w := by kernel_rfl
theorem as11_10 (x : Value) (w : World) : (Instr.typeAssert (.iface 73 x) 38 71 true).run Tryd.prog w = .ok (.tuple #[.agg #[.nilIface, .nilIface], .bool false]) w := by kernel_rfl
theorem as11_11 (x : Value) (w : World) : (Instr.typeAssert (.iface 73 x) 38 73 true).run Tryd.prog w = .ok (.tuple #[x, .bool true]) w := by kernel_rfl
theorem as12_1 (x : Value) (w : World) : (Instr.typeAssert (.iface 75 x) 38 51 true).run Tryd.prog w = .ok (.tuple #[.agg #[.int .i64 0], .bool false]) w := by kernel_rfl
theorem as12_2 (x : Value) (w : World) : (Instr.typeAssert (.iface 75 x) 38 54 true).run Tryd.prog w = .ok (.tuple #[.agg #[.string ⟨#[]⟩], .bool false]) w := by kernel_rfl
theorem as12_3 (x : Value) (w : World) : (Instr.typeAssert (.iface 75 x) 38 56 true).run Tryd.prog w = .ok (.tuple #[.agg #[.string ⟨#[]⟩], .bool false]) w := by kernel_rfl
theorem as12_4 (x : Value) (w : World) : (Instr.typeAssert (.iface 75 x) 38 59 true).run Tryd.prog w = .ok (.tuple #[.agg #[.slice none 0 0], .bool false]) w := by kernel_rfl
theorem as12_5 (x : Value) (w : World) : (Instr.typeAssert (.iface 75 x) 38 62 true).run Tryd.prog w = .ok (.tuple #[.agg #[.bool false, .slice none 0 0], .bool false]) w := by kernel_rfl
theorem as12_8 (x : Value) (w : World) : (Instr.typeAssert (.iface 75 x) 38 65 true).run Tryd.prog w = .ok (.tuple #[.agg #[.slice none 0 0, .nilIface], .bool false]) w := by kernel_rfl
theorem as12_9 (x : Value) (w : World) : (Instr.typeAssert (.iface 75 x) 38 69 true).run Tryd.prog w = .ok (.tuple #[.agg #[.nilIface, .nilIface], .bool false]) w := by kernel_rfl
theorem as12_10 (x : Value) (w : World) : (Instr.typeAssert (.iface 75 x) 38 71 true).run Tryd.prog w = .ok (.tuple #[.agg #[.nilIface, .nilIface], .bool false]) w := by kernel_rfl
theorem as12_11 (x : Value) (w : World) : (Instr.typeAssert (.iface 75 x) 38 73 true).run Tryd.prog w = .ok (.tuple #[.agg #[.nilIface, .nilIface], .bool false]) w := by kernel_rfl
theorem as12_12 (x : Value) (w : World) : (Instr.typeAssert (.iface 75 x) 38 75 true).run Tryd.prog w = .ok (.tuple #[x, .bool true]) w := by kernel_rfl
theorem as13_1 (x : Value) (w : World) : (Instr.typeAssert (.iface 77 x) 38 51 true).run Tryd.prog w = .ok (.tuple #[.agg #[.int .i64 0], .bool false]) w := by kernel_rfl
theorem as13_2 (x : Value) (w : World) : (Instr.typeAssert (.iface 77 x) 38 54 true).run Tryd.prog w = .ok (.tuple #[.agg #[.string ⟨#[]⟩], .bool false]) w := by kernel_rfl
theorem as13_3 (x : Value) (w : World) : (Instr.typeAssert (.iface 77 x) 38 56 true).run Tryd.prog w = .ok (.tuple #[.agg #[.string ⟨#[]⟩], .bool false]) w := by kernel_rfl
theorem as13_4 (x : Value) (w : World) : (Instr.typeAssert (.iface 77 x) 38 59 true).run Tryd.prog w = .ok (.tuple #[.agg #[.slice none 0 0], .bool false]) w := by kernel_rfl
theorem as13_5 (x : Value) (w : World) : (Instr.typeAssert (.iface 77 x) 38 62 true).run Tryd.prog w = .ok (.tuple #[.agg #[.bool false, .slice none 0 0], .bool false]) w := by kernel_rfl
theorem as13_8 (x : Value) (w : World) : (Instr.typeAssert (.iface 77 x) 38 65 true).run Tryd.prog w = .ok (.tuple #[.agg #[.slice none 0 0, .nilIface], .bool false]) w := by kernel_rfl
theorem as13_9 (x : Value) (w : World) : (Instr.typeAssert (.iface 77 x) 38 69 true).run Tryd.prog w = .ok (.tuple #[.agg #[.nilIface, .nilIface], .bool false]) w := by kernel_rfl
theorem as13_10 (x : Value) (w : World) : (Instr.typeAssert (.iface 77 x) 38 71 true).run Tryd.prog w = .ok (.tuple #[.agg #[.nilIface, .nilIface], .bool false]) w := by kernel_rfl
theorem as13_11 (x : Value) (w : World) : (Instr.typeAssert (.iface 77 x) 38 73 true).run Tryd.prog w = .ok (.tuple #[.agg #[.nilIface, .nilIface], .bool false]) w := by kernel_rfl
theorem as13_12 (x : Value) (w : World) : (Instr.typeAssert (.iface 77 x) 38 75 true).run Tryd.prog w = .ok (.tuple #[.agg #[.nilIface, .nilIface, .nilIface], .bool false]) w := by kernel_rfl
theorem as13_13 (x : Value) (w : World) : (Instr.typeAssert (.iface 77 x) 38 77 true).run Tryd.prog w = .ok (.tuple #[x, .bool true]) w := by kernel_rfl
theorem as14_1 (x : Value) (w : World) : (Instr.typeAssert (.iface 79 x) 38 51 true).run Tryd.prog w = .ok (.tuple #[.agg #[.int .i64 0], .bool false]) w := by kernel_rfl
theorem as14_2 (x : Value) (w : World) : (Instr.typeAssert (.iface 79 x) 38 54 true).run Tryd.prog w = .ok (.tuple #[.agg #[.string ⟨#[]⟩], .bool false]) w := by kernel_rfl
theorem as14_3 (x : Value) (w : World) : (Instr.typeAssert (.iface 79 x) 38 56 true).run Tryd.prog w = .ok (.tuple #[.agg #[.string ⟨#[]⟩], .bool false]) w := by kernel_rfl
theorem as14_4 (x : Value) (w : World) : (Instr.typeAssert (.iface 79 x) 38 59 true).run Tryd.prog w = .ok (.tuple #[.agg #[.slice none 0 0], .bool false]) w := by kernel_rfl
theorem as14_5 (x : Value) (w : World) : (Instr.typeAssert (.iface 79 x) 38 62 true).run Tryd.prog w = .ok (.tuple #[.agg #[.bool false, .slice none 0 0], .bool false]) w := by kernel_rfl
theorem as14_8 (x : Value) (w : World) : (Instr.typeAssert (.iface 79 x) 38 65 true).run Tryd.prog w = .ok (.tuple #[.agg #[.slice none 0 0, .nilIface], .bool false]) w := by kernel_rfl
theorem as14_9 (x : Value) (w : World) : (Instr.typeAssert (.iface 79 x) 38 69 true).run Tryd.prog w = .ok (.tuple #[.agg #[.nilIface, .nilIface], .bool false]) w := by kernel_rfl
theorem as14_10 (x : Value) (w : World) : (Instr.typeAssert (.iface 79 x) 38 71 true).run Tryd.prog w = .ok (.tuple #[.agg #[.nilIface, .nilIface], .bool false]) w := by kernel_rfl
theorem as14_11 (x : Value) (w : World) : (Instr.typeAssert (.iface 79 x) 38 73 true).run Tryd.prog w = .ok (.tuple #[.agg #[.nilIface, .nilIface], .bool false]) w := by kernel_rfl
theorem as14_12 (x : Value) (w : World) : (Instr.typeAssert (.iface 79 x) 38 75 true).run Tryd.prog w = .ok (.tuple #[.agg #[.nilIface, .nilIface, .nilIface], .bool false]) w := by kernel_rfl
theorem as14_13 (x : Value) (w : World) : (Instr.typeAssert (.iface 79 x) 38 77 true).run Tryd.prog w = .ok (.tuple #[.agg #[.string ⟨#[]⟩, .nilIface], .bool false]) w := by kernel_rfl
theorem as14_14 (x : Value) (w : World) : (Instr.typeAssert (.iface 79 x) 38 79 true).run Tryd.prog w = .ok (.tuple #[x, .bool true]) w := by kernel_rfl
theorem as16_1 (x : Value) (w : World) : (Instr.typeAssert (.iface 82 x) 38 51 true).run Tryd.prog w = .ok (.tuple #[.agg #[.int .i64 0], .bool false]) w := by kernel_rfl
theorem as16_2 (x : Value) (w : World) : (Instr.typeAssert (.iface 82 x) 38 54 true).run Tryd.prog w = .ok (.tuple #[.agg #[.string ⟨#[]⟩], .bool false]) w := by kernel_rfl
theorem as16_3 (x : Value) (w : World) : (Instr.typeAssert (.iface 82 x) 38 56 true).run Tryd.prog w = .ok (.tuple #[.agg #[.string ⟨#[]⟩], .bool false]) w := by kernel_rfl
theorem as16_4 (x : Value) (w : World) : (Instr.typeAssert (.iface 82 x) 38 59 true).run Tryd.prog w = .ok (.tuple #[.agg #[.slice none 0 0], .bool false]) w := by kernel_rfl
theorem as16_5 (x : Value) (w : World) : (Instr.typeAssert (.iface 82 x) 38 62 true).run Tryd.prog w = .ok (.tuple #[.agg #[.bool false, .slice none 0 0], .bool false]) w := by kernel_rfl
theorem as16_8 (x : Value) (w : World) : (Instr.typeAssert (.iface 82 x) 38 65 true).run Tryd.prog w = .ok (.tuple #[.agg #[.slice none 0 0, .nilIface], .bool false]) w := by kernel_rfl
theorem as16_9 (x : Value) (w : World) : (Instr.typeAssert (.iface 82 x) 38 69 true).run Tryd.prog w = .ok (.tuple #[.agg #[.nilIface, .nilIface], .bool false]) w := by kernel_rfl
theorem as16_10 (x : Value) (w : World) : (Instr.typeAssert (.iface 82 x) 38 71 true).run Tryd.prog w = .ok (.tuple #[.agg #[.nilIface, .nilIface], .bool false]) w := by kernel_rfl
theorem as16_11 (x : Value) (w : World) : (Instr.typeAssert (.iface 82 x) 38 73 true).run Tryd.prog w = .ok (.tuple #[.agg #[.nilIface, .nilIface], .bool false]) w := by kernel_rfl
theorem as16_12 (x : Value) (w : World) : (Instr.typeAssert (.iface 82 x) 38 75 true).run Tryd.prog w = .ok (.tuple #[.agg #[.nilIface, .nilIface, .nilIface], .bool false]) w := by kernel_rfl
theorem as16_13 (x : Value) (w : World) : (Instr.typeAssert (.iface 82 x) 38 77 true).run Tryd.prog w = .ok (.tuple #[.agg #[.string ⟨#[]⟩, .nilIface], .bool false]) w := by kernel_rfl
theorem as16_14 (x : Value) (w : World) : (Instr.typeAssert (.iface 82 x) 38 79 true).run Tryd.prog w = .ok (.tuple #[.agg #[.slice none 0 0, .bool false, .nilIface], .bool false]) w := by kernel_rfl
theorem as16_16 (x : Value) (w : World) : (Instr.typeAssert (.iface 82 x) 38 82 true).run Tryd.prog w = .ok (.tuple #[x, .bool true]) w := by kernel_rfl
theorem as17_1 (x : Value) (w : World) : (Instr.typeAssert (.iface 85 x) 38 51 true).run Tryd.prog w = .ok (.tuple #[.agg #[.int .i64 0], .bool false]) w := by kernel_rfl
theorem as17_2 (x : Value) (w : World) : (Instr.typeAssert (.iface 85 x) 38 54 true).run Tryd.prog w = .ok (.tuple #[.agg #[.string ⟨#[]⟩], .bool false]) w := by kernel_rfl
theorem as17_3 (x : Value) (w : World) : (Instr.typeAssert (.iface 85 x) 38 56 true).run Tryd.prog w = .ok (.tuple #[.agg #[.string ⟨#[]⟩], .bool false]) w := by kernel_rfl
theorem as17_4 (x : Value) (w : World) : (Instr.typeAssert (.iface 85 x) 38 59 true).run Tryd.prog w = .ok (.tuple #[.agg #[.slice none 0 0], .bool false]) w := by kernel_rfl
theorem as17_5 (x : Value) (w : World) : (Instr.typeAssert (.iface 85 x) 38 62 true).run Tryd.prog w = .ok (.tuple #[.agg #[.bool false, .slice none 0 0], .bool false]) w := by kernel_rfl
theorem as17_8 (x : Value) (w : World) : (Instr.typeAssert (.iface 85 x) 38 65 true).run Tryd.prog w = .ok (.tuple #[.agg #[.slice none 0 0, .nilIface], .bool false]) w := by kernel_rfl
theorem as17_9 (x : Value) (w : World) : (Instr.typeAssert (.iface 85 x) 38 69 true).run Tryd.prog w = .ok (.tuple #[.agg #[.nilIface, .nilIface], .bool false]) w := by kernel_rfl
theorem as17_10 (x : Value) (w : World) : (Instr.typeAssert (.iface 85 x) 38 71 true).run Tryd.prog w = .ok (.tuple #[.agg #[.nilIface, .nilIface], .bool false]) w := by kernel_rfl
theorem as17_11 (x : Value) (w : World) : (Instr.typeAssert (.iface 85 x) 38 73 true).run Tryd.prog w = .ok (.tuple #[.agg #[.nilIface, .nilIface], .bool false]) w := by kernel_rfl
theorem as17_12 (x : Value) (w : World) : (Instr.typeAssert (.iface 85 x) 38 75 true).run Tryd.prog w = .ok (.tuple #[.agg #[.nilIface, .nilIface, .nilIface], .bool false]) w := by kernel_rfl
theorem as17_13 (x : Value) (w : World) : (Instr.typeAssert (.iface 85 x) 38 77 true).run Tryd.prog w = .ok (.tuple #[.agg #[.string ⟨#[]⟩, .nilIface], .bool false]) w := by kernel_rfl
theorem as17_14 (x : Value) (w : World) : (Instr.typeAssert (.iface 85 x) 38 79 true).run Tryd.prog w = .ok (.tuple #[.agg #[.slice none 0 0, .bool false, .nilIface], .bool false]) w := by kernel_rfl
theorem as17_16 (x : Value) (w : World) : (Instr.typeAssert (.iface 85 x) 38 82 true).run Tryd.prog w = .ok (.tuple #[.agg #[.nilIface, .string ⟨#[]⟩, .nilIface], .bool false]) w := by kernel_rfl
theorem as17_17 (x : Value) (w : World) : (Instr.typeAssert (.iface 85 x) 38 85 true).run Tryd.prog w = .ok (.tuple #[x, .bool true]) w := by kernel_rfl
theorem as18_1 (x : Value) (w : World) : (Instr.typeAssert (.iface 87 x) 38 51 true).run Tryd.prog w = .ok (.tuple #[.agg #[.int .i64 0], .bool false]) w := by kernel_rfl
theorem as18_2 (x : Value) (w : World) : (Instr.typeAssert (.iface 87 x) 38 54 true).run Tryd.prog w = .ok (.tuple #[.agg #[.string ⟨#[]⟩], .bool false]) w := by kernel_rfl
theorem as18_3 (x : Value) (w : World) : (Instr.typeAssert (.iface 87 x) 38 56 true).run Tryd.prog w = .ok (.tuple #[.agg #[.string ⟨#[]⟩], .bool false]) w := by kernel_rfl
theorem as18_4 (x : Value) (w : World) : (Instr.typeAssert (.iface 87 x) 38 59 true).run Tryd.prog w = .ok (.tuple #[.agg #[.slice none 0 0], .bool false]) w := by kernel_rfl
theorem as18_5 (x : Value) (w : World) : (Instr.typeAssert (.iface 87 x) 38 62 true).run Tryd.prog w = .ok (.tuple #[.agg #[.bool false, .slice none 0 0], .bool false]) w := by kernel_rfl
theorem as18_8 (x : Value) (w : World) : (Instr.typeAssert (.iface 87 x) 38 65 true).run Tryd.prog w = .ok (.tuple #[.agg #[.slice none 0 0, .nilIface], .bool false]) w := by kernel_rfl
theorem as18_9 (x : Value) (w : World) : (Instr.typeAssert (.iface 87 x) 38 69 true).run Tryd.prog w = .ok (.tuple #[.agg #[.nilIface, .nilIface], .bool false]) w := by kernel_rfl
theorem as18_10 (x : Value) (w : World) : (Instr.typeAssert (.iface 87 x) 38 71 true).run Tryd.prog w = .ok (.tuple #[.agg #[.nilIface, .nilIface], .bool false]) w := by kernel_rfl
theorem as18_11 (x : Value) (w : World) : (Instr.typeAssert (.iface 87 x) 38 73 true).run Tryd.prog w = .ok (.tuple #[.agg #[.nilIface, .nilIface], .bool false]) w := by kernel_rfl
theorem as18_12 (x : Value) (w : World) : (Instr.typeAssert (.iface 87 x) 38 75 true).run Tryd.prog w = .ok (.tuple #[.agg #[.nilIface, .nilIface, .nilIface], .bool false]) w := by kernel_rfl
theorem as18_13 (x : Value) (w : World) : (Instr.typeAssert (.iface 87 x) 38 77 true).run Tryd.prog w = .ok (.tuple #[.agg #[.string ⟨#[]⟩, .nilIface], .bool false]) w := by kernel_rfl
theorem as18_14 (x : Value) (w : World) : (Instr.typeAssert (.iface 87 x) 38 79 true).run Tryd.prog w = .ok (.tuple #[.agg #[.slice none 0 0, .bool false, .nilIface], .bool false]) w := by kernel_rfl
theorem as18_16 (x : Value) (w : World) : (Instr.typeAssert (.iface 87 x) 38 82 true).run Tryd.prog w = .ok (.tuple #[.agg #[.nilIface, .string ⟨#[]⟩, .nilIface], .bool false]) w := by kernel_rfl
theorem as18_17 (x : Value) (w : World) : (Instr.typeAssert (.iface 87 x) 38 85 true).run Tryd.prog w = .ok (.tuple #[.agg #[.nilIface, .string ⟨#[]⟩], .bool false]) w := by kernel_rfl
theorem as18_18 (x : Value) (w : World) : (Instr.typeAssert (.iface 87 x) 38 87 true).run Tryd.prog w = .ok (.tuple #[x, .bool true]) w := by kernel_rfl
theorem as19_1 (x : Value) (w : World) : (Instr.typeAssert (.iface 89 x) 38 51 true).run Tryd.prog w = .ok (.tuple #[.agg #[.int .i64 0], .bool false]) w := by kernel_rfl
theorem as19_2 (x : Value) (w : World) : (Instr.typeAssert (.iface 89 x) 38 54 true).run Tryd.prog w = .ok (.tuple #[.agg #[.string ⟨#[]⟩], .bool false]) w := by kernel_rfl
theorem as19_3 (x : Value) (w : World) : (Instr.typeAssert (.iface 89 x) 38 56 true).run Tryd.prog w = .ok (.tuple #[.agg #[.string ⟨#[]⟩], .bool false]) w := by kernel_rfl
theorem as19_4 (x : Value) (w : World) : (Instr.typeAssert (.iface 89 x) 38 59 true).run Tryd.prog w = .ok (.tuple #[.agg #[.slice none 0 0], .bool false]) w := by kernel_rfl
theorem as19_5 (x : Value) (w : World) : (Instr.typeAssert (.iface 89 x) 38 62 true).run Tryd.prog w = .ok (.tuple #[.agg #[.bool false, .slice none 0 0], .bool false]) w := by kernel_rfl
theorem as19_8 (x : Value) (w : World) : (Instr.typeAssert (.iface 89 x) 38 65 true).run Tryd.prog w = .ok (.tuple #[.agg #[.slice none 0 0, .nilIface], .bool false]) w := by kernel_rfl
theorem as19_9 (x : Value) (w : World) : (Instr.typeAssert (.iface 89 x) 38 69 true).run Tryd.prog w = .ok (.tuple #[.agg #[.nilIface, .nilIface], .bool false]) w := by kernel_rfl
theorem as19_10 (x : Value) (w : World) : (Instr.typeAssert (.iface 89 x) 38 71 true).run Tryd.prog w = .ok (.tuple #[.agg #[.nilIface, .nilIface], .bool false]) w := by kernel_rfl
theorem as19_11 (x : Value) (w : World) : (Instr.typeAssert (.iface 89 x) 38 73 true).run Tryd.prog w = .ok (.tuple #[.agg #[.nilIface, .nilIface], .bool false]) w := by kernel_rfl
theorem as19_12 (x : Value) (w : World) : (Instr.typeAssert (.iface 89 x) 38 75 true).run Tryd.prog w = .ok (.tuple #[.agg #[.nilIface, .nilIface, .nilIface], .bool false]) w := by kernel_rfl
theorem as19_13 (x : Value) (w : World) : (Instr.typeAssert (.iface 89 x) 38 77 true).run Tryd.prog w = .ok (.tuple #[.agg #[.string ⟨#[]⟩, .nilIface], .bool false]) w := by kernel_rfl
theorem as19_14 (x : Value) (w : World) : (Instr.typeAssert (.iface 89 x) 38 79 true).run Tryd.prog w = .ok (.tuple #[.agg #[.slice none 0 0, .bool false, .nilIface], .bool false]) w := by kernel_rfl
theorem as19_16 (x : Value) (w : World) : (Instr.typeAssert (.iface 89 x) 38 82 true).run Tryd.prog w = .ok (.tuple #[.agg #[.nilIface, .string ⟨#[]⟩, .nilIface], .bool false]) w := by kernel_rfl
theorem as19_17 (x : Value) (w : World) : (Instr.typeAssert (.iface 89 x) 38 85 true).run Tryd.prog w = .ok (.tuple #[.agg #[.nilIface, .string ⟨#[]⟩], .bool false]) w := by kernel_rfl
theorem as19_18 (x : Value) (w : World) : (Instr.typeAssert (.iface 89 x) 38 87 true).run Tryd.prog w = .ok (.tuple #[.agg #[.string ⟨#[]⟩, .nilIface, .nilIface], .bool false]) w := by kernel_rfl
theorem as19_19 (x : Value) (w : World) : (Instr.typeAssert (.iface 89 x) 38 89 true).run Tryd.prog w = .ok (.tuple #[x, .bool true]) w := by kernel_rfl
theorem as20_1 (x : Value) (w : World) : (Instr.typeAssert (.iface 90 x) 38 51 true).run Tryd.prog w = .ok (.tuple #[.agg #[.int .i64 0], .bool false]) w := by kernel_rfl
theorem as20_2 (x : Value) (w : World) : (Instr.typeAssert (.iface 90 x) 38 54 true).run Tryd.prog w = .ok (.tuple #[.agg #[.string ⟨#[]⟩], .bool false]) w := by kernel_rfl
theorem as20_3 (x : Value) (w : World) : (Instr.typeAssert (.iface 90 x) 38 56 true).run Tryd.prog w = .ok (.tuple #[.agg #[.string ⟨#[]⟩], .bool false]) w := by kernel_rfl
theorem as20_4 (x : Value) (w : World) : (Instr.typeAssert (.iface 90 x) 38 59 true).run Tryd.prog w = .ok (.tuple #[.agg #[.slice none 0 0], .bool false]) w := by kernel_rfl
theorem as20_5 (x : Value) (w : World) : (Instr.typeAssert (.iface 90 x) 38 62 true).run Tryd.prog w = .ok (.tuple #[.agg #[.bool false, .slice none 0 0], .bool false]) w := by kernel_rfl
theorem as20_8 (x : Value) (w : World) : (Instr.typeAssert (.iface 90 x) 38 65 true).run Tryd.prog w = .ok (.tuple #[.agg #[.slice none 0 0, .nilIface], .bool false]) w := by kernel_rfl
theorem as20_9 (x : Value) (w : World) : (Instr.typeAssert (.iface 90 x) 38 69 true).run Tryd.prog w = .ok (.tuple #[.agg #[.nilIface, .nilIface], .bool false]) w := by kernel_rfl
theorem as20_10 (x : Value) (w : World) : (Instr.typeAssert (.iface 90 x) 38 71 true).run Tryd.prog w = .ok (.tuple #[.agg #[.nilIface, .nilIface], .bool false]) w := by kernel_rfl
theorem as20_11 (x : Value) (w : World) : (Instr.typeAssert (.iface 90 x) 38 73 true).run Tryd.prog w = .ok (.tuple #[.agg #[.nilIface, .nilIface], .bool false]) w := by kernel_rfl
theorem as20_12 (x : Value) (w : World) : (Instr.typeAssert (.iface 90 x) 38 75 true).run Tryd.prog w = .ok (.tuple #[.agg #[.nilIface, .nilIface, .nilIface], .bool false]) w := by kernel_rfl
theorem as20_13 (x : Value) (w : World) : (Instr.typeAssert (.iface 90 x) 38 77 true).run Tryd.prog w = .ok (.tuple #[.agg #[.string ⟨#[]⟩, .nilIface], .bool false]) w := by kernel_rfl
theorem as20_14 (x : Value) (w : World) : (Instr.typeAssert (.iface 90 x) 38 79 true).run Tryd.prog w = .ok (.tuple #[.agg #[.slice none 0 0, .bool false, .nilIface], .bool false]) w := by kernel_rfl
theorem as20_16 (x : Value) (w : World) : (Instr.typeAssert (.iface 90 x) 38 82 true).run Tryd.prog w = .ok (.tuple #[.agg #[.nilIface, .string ⟨#[]⟩, .nilIface], .bool false]) w := by kernel_rfl
theorem as20_17 (x : Value) (w : World) : (Instr.typeAssert (.iface 90 x) 38 85 true).run Tryd.prog w = .ok (.tuple #[.agg #[.nilIface, .string ⟨#[]⟩], .bool false]) w := by kernel_rfl
theorem as20_18 (x : Value) (w : World) : (Instr.typeAssert (.iface 90 x) 38 87 true).run Tryd.prog w = .ok (.tuple #[.agg #[.string ⟨#[]⟩, .nilIface, .nilIface], .bool false]) w := by kernel_rfl
theorem as20_19 (x : Value) (w : World) : (Instr.typeAssert (.iface 90 x) 38 89 true).run Tryd.prog w = .ok (.tuple #[.agg #[.nilIface], .bool false]) w := by kernel_rfl
theorem as20_20 (x : Value) (w : World) : (Instr.typeAssert (.iface 90 x) 38 90 true).run Tryd.prog w = .ok (.tuple #[x, .bool true]) w := by kernel_rfl
theorem as6_6 (x : Value) (w : World) : (Instr.typeAssert (.iface 106 x) 38 106 true).run Tryd.prog w = .ok (.tuple #[x, .bool true]) w := by kernel_rfl
theorem as7_6 (x : Value) (w : World) : (Instr.typeAssert (.iface 107 x) 38 106 true).run Tryd.prog w = .ok (.tuple #[.agg #[.string ⟨#[]⟩, .nilIface], .bool false]) w := by kernel_rfl
theorem as7_7 (x : Value) (w : World) : (Instr.typeAssert (.iface 107 x) 38 107 true).run Tryd.prog w = .ok (.tuple #[x, .bool true]) w := by kernel_rfl
theorem as15_15 (x : Value) (w : World) : (Instr.typeAssert (.iface 110 x) 38 110 true).run Tryd.prog w = .ok (.tuple #[x, .bool true]) w := by kernel_rfl

/-- The types of the nodes that are expressions. -/
def exprT : List TypeId := [51, 54, 56, 59, 62, 65, 69, 71, 73, 75, 77, 79, 82, 85, 87, 89, 90]
theorem kindT {w : World} {O : Nat → Prop} {t : ByteArray} {n k : Int} {vs : List Value} {v : Value} (h : NodeV w O t n k vs v) (hk : exprK k = true) : ∃ T x, v = .iface T x ∧ T ∈ exprT := by
  cases h <;> first | (exact ⟨_, _, rfl, by decide⟩) | (exfalso; revert hk; decide)

theorem anyN1 (x : Value) (w : World) : (Instr.typeAssert (.iface 51 x) 20 38 true).run Tryd.prog w = .ok (.tuple #[.iface 51 x, .bool true]) w := run_typeAssert_hasB Tryd.underlying38 (by kernel_rfl) x _ w
theorem anyS1 (x : Value) (w : World) : (Instr.typeAssert (.iface 51 x) 20 9 true).run Tryd.prog w = .ok (.tuple #[.string ⟨#[]⟩, .bool false]) w := by kernel_rfl
theorem anyN2 (x : Value) (w : World) : (Instr.typeAssert (.iface 54 x) 20 38 true).run Tryd.prog w = .ok (.tuple #[.iface 54 x, .bool true]) w := run_typeAssert_hasB Tryd.underlying38 (by kernel_rfl) x _ w
theorem anyS2 (x : Value) (w : World) : (Instr.typeAssert (.iface 54 x) 20 9 true).run Tryd.prog w = .ok (.tuple #[.string ⟨#[]⟩, .bool false]) w := by kernel_rfl
theorem anyN3 (x : Value) (w : World) : (Instr.typeAssert (.iface 56 x) 20 38 true).run Tryd.prog w = .ok (.tuple #[.iface 56 x, .bool true]) w := run_typeAssert_hasB Tryd.underlying38 (by kernel_rfl) x _ w
theorem anyS3 (x : Value) (w : World) : (Instr.typeAssert (.iface 56 x) 20 9 true).run Tryd.prog w = .ok (.tuple #[.string ⟨#[]⟩, .bool false]) w := by kernel_rfl
theorem anyN4 (x : Value) (w : World) : (Instr.typeAssert (.iface 59 x) 20 38 true).run Tryd.prog w = .ok (.tuple #[.iface 59 x, .bool true]) w := run_typeAssert_hasB Tryd.underlying38 (by kernel_rfl) x _ w
theorem anyS4 (x : Value) (w : World) : (Instr.typeAssert (.iface 59 x) 20 9 true).run Tryd.prog w = .ok (.tuple #[.string ⟨#[]⟩, .bool false]) w := by kernel_rfl
theorem anyN5 (x : Value) (w : World) : (Instr.typeAssert (.iface 62 x) 20 38 true).run Tryd.prog w = .ok (.tuple #[.iface 62 x, .bool true]) w := run_typeAssert_hasB Tryd.underlying38 (by kernel_rfl) x _ w
theorem anyS5 (x : Value) (w : World) : (Instr.typeAssert (.iface 62 x) 20 9 true).run Tryd.prog w = .ok (.tuple #[.string ⟨#[]⟩, .bool false]) w := by kernel_rfl
theorem anyN8 (x : Value) (w : World) : (Instr.typeAssert (.iface 65 x) 20 38 true).run Tryd.prog w = .ok (.tuple #[.iface 65 x, .bool true]) w := run_typeAssert_hasB Tryd.underlying38 (by kernel_rfl) x _ w
theorem anyS8 (x : Value) (w : World) : (Instr.typeAssert (.iface 65 x) 20 9 true).run Tryd.prog w = .ok (.tuple #[.string ⟨#[]⟩, .bool false]) w := by kernel_rfl
theorem anyN9 (x : Value) (w : World) : (Instr.typeAssert (.iface 69 x) 20 38 true).run Tryd.prog w = .ok (.tuple #[.iface 69 x, .bool true]) w := run_typeAssert_hasB Tryd.underlying38 (by kernel_rfl) x _ w
theorem anyS9 (x : Value) (w : World) : (Instr.typeAssert (.iface 69 x) 20 9 true).run Tryd.prog w = .ok (.tuple #[.string ⟨#[]⟩, .bool false]) w := by kernel_rfl
theorem anyN10 (x : Value) (w : World) : (Instr.typeAssert (.iface 71 x) 20 38 true).run Tryd.prog w = .ok (.tuple #[.iface 71 x, .bool true]) w := run_typeAssert_hasB Tryd.underlying38 (by kernel_rfl) x _ w
theorem anyS10 (x : Value) (w : World) : (Instr.typeAssert (.iface 71 x) 20 9 true).run Tryd.prog w = .ok (.tuple #[.string ⟨#[]⟩, .bool false]) w := by kernel_rfl
theorem anyN11 (x : Value) (w : World) : (Instr.typeAssert (.iface 73 x) 20 38 true).run Tryd.prog w = .ok (.tuple #[.iface 73 x, .bool true]) w := run_typeAssert_hasB Tryd.underlying38 (by kernel_rfl) x _ w
theorem anyS11 (x : Value) (w : World) : (Instr.typeAssert (.iface 73 x) 20 9 true).run Tryd.prog w = .ok (.tuple #[.string ⟨#[]⟩, .bool false]) w := by kernel_rfl
theorem anyN12 (x : Value) (w : World) : (Instr.typeAssert (.iface 75 x) 20 38 true).run Tryd.prog w = .ok (.tuple #[.iface 75 x, .bool true]) w := run_typeAssert_hasB Tryd.underlying38 (by kernel_rfl) x _ w
theorem anyS12 (x : Value) (w : World) : (Instr.typeAssert (.iface 75 x) 20 9 true).run Tryd.prog w = .ok (.tuple #[.string ⟨#[]⟩, .bool false]) w := by kernel_rfl
theorem anyN13 (x : Value) (w : World) : (Instr.typeAssert (.iface 77 x) 20 38 true).run Tryd.prog w = .ok (.tuple #[.iface 77 x, .bool true]) w := run_typeAssert_hasB Tryd.underlying38 (by kernel_rfl) x _ w
theorem anyS13 (x : Value) (w : World) : (Instr.typeAssert (.iface 77 x) 20 9 true).run Tryd.prog w = .ok (.tuple #[.string ⟨#[]⟩, .bool false]) w := by kernel_rfl
theorem anyN14 (x : Value) (w : World) : (Instr.typeAssert (.iface 79 x) 20 38 true).run Tryd.prog w = .ok (.tuple #[.iface 79 x, .bool true]) w := run_typeAssert_hasB Tryd.underlying38 (by kernel_rfl) x _ w
theorem anyS14 (x : Value) (w : World) : (Instr.typeAssert (.iface 79 x) 20 9 true).run Tryd.prog w = .ok (.tuple #[.string ⟨#[]⟩, .bool false]) w := by kernel_rfl
theorem anyN16 (x : Value) (w : World) : (Instr.typeAssert (.iface 82 x) 20 38 true).run Tryd.prog w = .ok (.tuple #[.iface 82 x, .bool true]) w := run_typeAssert_hasB Tryd.underlying38 (by kernel_rfl) x _ w
theorem anyS16 (x : Value) (w : World) : (Instr.typeAssert (.iface 82 x) 20 9 true).run Tryd.prog w = .ok (.tuple #[.string ⟨#[]⟩, .bool false]) w := by kernel_rfl
theorem anyN17 (x : Value) (w : World) : (Instr.typeAssert (.iface 85 x) 20 38 true).run Tryd.prog w = .ok (.tuple #[.iface 85 x, .bool true]) w := run_typeAssert_hasB Tryd.underlying38 (by kernel_rfl) x _ w
theorem anyS17 (x : Value) (w : World) : (Instr.typeAssert (.iface 85 x) 20 9 true).run Tryd.prog w = .ok (.tuple #[.string ⟨#[]⟩, .bool false]) w := by kernel_rfl
theorem anyN18 (x : Value) (w : World) : (Instr.typeAssert (.iface 87 x) 20 38 true).run Tryd.prog w = .ok (.tuple #[.iface 87 x, .bool true]) w := run_typeAssert_hasB Tryd.underlying38 (by kernel_rfl) x _ w
theorem anyS18 (x : Value) (w : World) : (Instr.typeAssert (.iface 87 x) 20 9 true).run Tryd.prog w = .ok (.tuple #[.string ⟨#[]⟩, .bool false]) w := by kernel_rfl
theorem anyN19 (x : Value) (w : World) : (Instr.typeAssert (.iface 89 x) 20 38 true).run Tryd.prog w = .ok (.tuple #[.iface 89 x, .bool true]) w := run_typeAssert_hasB Tryd.underlying38 (by kernel_rfl) x _ w
theorem anyS19 (x : Value) (w : World) : (Instr.typeAssert (.iface 89 x) 20 9 true).run Tryd.prog w = .ok (.tuple #[.string ⟨#[]⟩, .bool false]) w := by kernel_rfl
theorem anyN20 (x : Value) (w : World) : (Instr.typeAssert (.iface 90 x) 20 38 true).run Tryd.prog w = .ok (.tuple #[.iface 90 x, .bool true]) w := run_typeAssert_hasB Tryd.underlying38 (by kernel_rfl) x _ w
theorem anyS20 (x : Value) (w : World) : (Instr.typeAssert (.iface 90 x) 20 9 true).run Tryd.prog w = .ok (.tuple #[.string ⟨#[]⟩, .bool false]) w := by kernel_rfl
theorem anyS (s : ByteArray) (w : World) : (Instr.typeAssert (.iface 9 (.string s)) 20 9 true).run Tryd.prog w = .ok (.tuple #[.string s, .bool true]) w := by kernel_rfl
theorem anyN (u : TypeId) (h : u ∈ exprT) (x : Value) (w : World) : (Instr.typeAssert (.iface u x) 20 38 true).run Tryd.prog w = .ok (.tuple #[.iface u x, .bool true]) w ∧ (Instr.typeAssert (.iface u x) 20 9 true).run Tryd.prog w = .ok (.tuple #[.string ⟨#[]⟩, .bool false]) w := by
  simp only [exprT, List.mem_cons, List.not_mem_nil, or_false] at h
  rcases h with rfl | rfl | rfl | rfl | rfl | rfl | rfl | rfl | rfl | rfl | rfl | rfl | rfl | rfl | rfl | rfl | rfl
  · exact ⟨anyN1 x w, anyS1 x w⟩
  · exact ⟨anyN2 x w, anyS2 x w⟩
  · exact ⟨anyN3 x w, anyS3 x w⟩
  · exact ⟨anyN4 x w, anyS4 x w⟩
  · exact ⟨anyN5 x w, anyS5 x w⟩
  · exact ⟨anyN8 x w, anyS8 x w⟩
  · exact ⟨anyN9 x w, anyS9 x w⟩
  · exact ⟨anyN10 x w, anyS10 x w⟩
  · exact ⟨anyN11 x w, anyS11 x w⟩
  · exact ⟨anyN12 x w, anyS12 x w⟩
  · exact ⟨anyN13 x w, anyS13 x w⟩
  · exact ⟨anyN14 x w, anyS14 x w⟩
  · exact ⟨anyN16 x w, anyS16 x w⟩
  · exact ⟨anyN17 x w, anyS17 x w⟩
  · exact ⟨anyN18 x w, anyS18 x w⟩
  · exact ⟨anyN19 x w, anyS19 x w⟩
  · exact ⟨anyN20 x w, anyS20 x w⟩

theorem app_b {base : Nat} (w0 : World) {ops : Array Oper} {rest : List Oper} {o : Oper} {a : Act} {Q : Exit → Act → World → Prop} (hgd : o.guard = none) (s x : Operand)
    (ho : o.op = .call { callee := .builtin .append, args := #[s, x], argTypes := #[35, 35] }) (v : Value) (l : List UInt8) (hs : a.eval s = v) (hown : w0.ownsRow base 5 1 v l.length (byteCells l)) (hb : base ≤ w0.heap.size) (b : UInt8)
    (hx : a.eval x = .slice (some ⟨w0.heap.size, 0, none⟩) 1 1) (hlen : l.length + 1 ≤ 140737488355328) (h : ∀ v' w', App base w0 w' v' (l ++ [b]) → wpList Tryd.prog ops Q rest (a.put o.dst v') w') : wpList Tryd.prog ops Q (o :: rest) a (w0.alloc (.cells #[.int .u8 (b.toNat : Int)] 5)) := by
  refine app_own _ hgd s x 35 ho base 5 (.int .u8 0) 1 Tryd.underlying35 es.info5 rfl v l.length (byteCells l) hs (hown.alloc _) ⟨w0.heap.size, 0, none⟩ 1 1 (byteCells [b]) hx rfl (one_new _ _ _) (byteCells_oneCell _) (by unfold maxLen; omega) (by omega) (by simp; omega) (fun v' w' h1 h2 => h v' w' ?_)
  rw [← byteCells_append] at h1
  exact (App.one (l' := l ++ [b]) (hown.alloc _) (by simp; omega) h2 (by simpa using h1)).alloc hb

theorem app_s {base : Nat} (w0 : World) {ops : Array Oper} {rest : List Oper} {o : Oper} {a : Act} {Q : Exit → Act → World → Prop} (hgd : o.guard = none) (sl x : Operand)
    (ho : o.op = .call { callee := .builtin .append, args := #[sl, x], argTypes := #[35, 9] }) (v : Value) (l : List UInt8) (hs : a.eval sl = v) (hown : w0.ownsRow base 5 1 v l.length (byteCells l)) (hb : base ≤ w0.heap.size) (s : ByteArray)
    (hx : a.eval x = .string s) (hlen : l.length + s.data.toList.length ≤ 140737488355328) (h : ∀ v' w', App base w0 w' v' (l ++ s.data.toList) → wpList Tryd.prog ops Q rest (a.put o.dst v') w') : wpList Tryd.prog ops Q (o :: rest) a w0 := by
  obtain ⟨i0, hi, hz0, hz1, hz2⟩ := info_parts es.info5
  have hsz : s.data.toList.length = s.size := by simp
  refine Lib.wpList_append_own_string _ hgd sl x 35 9 ho base 5 i0 Tryd.underlying35 Tryd.underlying9 hi hz0 hz1 hz2 v l.length (byteCells l) hs hown s hx (by unfold maxLen; omega) (by omega) hb (fun v' w' h1 h2 _ => h v' w' ?_)
  have e : byteCells l ++ Lib.strCells s = byteCells (l ++ s.data.toList) := by rw [byteCells_append]; rfl
  rw [e] at h1
  exact App.one (l' := l ++ s.data.toList) hown hb h2 (by rw [List.length_append, hsz]; exact h1)

/-- The world is ready: the bytes lie from a block on, the table of escapes ahead of it. -/
structure Rd (base : Nat) (w : World) : Prop where
  le : base ≤ w.heap.size
  esc : es.EscB w
  lo : 1 < base
  tab : Lib.TabBelow Tryd.prog base w "internal/strconv.uint64pow10" .u64 Lib.pow10Tab
theorem Rd.app {base : Nat} {w w' : World} {v' : Value} {l' : List UInt8} (h : Rd base w) (ha : App base w w' v' l') : Rd base w' := by
  refine ⟨Nat.le_trans h.le ha.below.size, ?_, h.lo, h.tab.on ha.below⟩
  obtain ⟨t, fr, he⟩ := h.esc
  exact ⟨t, fr, by rw [ha.kept _ (Array.getElem?_eq_some_iff.1 he).1 (.inl h.lo)]; exact he⟩

/-- What appendShown does at a node. -/
def Sh (O : Nat → Prop) (base r : Nat) (x : Value) (t : Tr) : Prop := ∀ (w : World) (v : Value) (l : List UInt8), w.ownsRow base 5 1 v l.length (byteCells l) → Rd base w → Nd w O r x t → l.length + (txt r t).length ≤ 70368744177664 →
    Calls Tryd.prog 14 #[v, x] w fun e w' => ∃ v', e = .returned v' ∧ App base w w' v' (l ++ txt r t)

theorem Nd.app {w w' : World} {O : Nat → Prop} {base r : Nat} {x v' : Value} {t : Tr} {l' : List UInt8} (hO : ∀ bb, O bb → bb < base) (hb : base ≤ w.heap.size) (h : Nd w O r x t) (ha : App base w w' v' l') : Nd w' O r x t :=
  Nd.kept (fun bb hbb => ha.kept bb (by have := hO bb hbb; omega) (.inl (hO bb hbb))) (fun _ h => h) r h


set_option maxRecDepth 100000 in
set_option maxHeartbeats 1000000 in
theorem part_plain {O : Nat → Prop} {base r : Nat} {T : TypeId} {p : Value} {t : Tr} (hk : 1 ≤ t.kind ∧ t.kind ≤ 5) (hT : T = 51 ∨ T = 54 ∨ T = 56 ∨ T = 59 ∨ T = 62) (H : Sh O base r (.iface T p) t)
    (w : World) (v : Value) (l : List UInt8) (hown : w.ownsRow base 5 1 v l.length (byteCells l)) (hb : Rd base w) (hnd : Nd w O r (.iface T p) t) (hlen : l.length + (brak t.kind (txt r t)).length ≤ 70368744177664) :
    Calls Tryd.prog 46 #[v, .iface T p] w fun e w' => ∃ v', e = .returned v' ∧ App base w w' v' (l ++ brak t.kind (txt r t)) := by
  have hbk : brak t.kind (txt r t) = txt r t := if_pos hk
  rw [hbk] at hlen ⊢
  have HC := H w v l hown hb hnd hlen
  have HC' : Hid (Calls Tryd.prog 14 #[v, .iface T p] w fun e w' => ∃ v', e = .returned v' ∧ App base w w' v' (l ++ txt r t)) := HC
  clear HC hown hnd hlen hbk H
  rcases hT with rfl | rfl | rfl | rfl | rfl
  · have a1 := as1_1 p
    have a2 := as1_2 p
    have a3 := as1_3 p
    have a4 := as1_4 p
    have a5 := as1_5 p
    go_enter Tryd.func46, Tryd.ntmps46
    go_wp2_with (go_at_call 14; refine HC'.out.mono ?_; rintro e w1 ⟨v1, rfl, ha1⟩)
    go_ret
    exact ⟨_, rfl, ha1⟩
  · have a1 := as2_1 p
    have a2 := as2_2 p
    have a3 := as2_3 p
    have a4 := as2_4 p
    have a5 := as2_5 p
    go_enter Tryd.func46, Tryd.ntmps46
    go_wp2_with (go_at_call 14; refine HC'.out.mono ?_; rintro e w1 ⟨v1, rfl, ha1⟩)
    go_ret
    exact ⟨_, rfl, ha1⟩
  · have a1 := as3_1 p
    have a2 := as3_2 p
    have a3 := as3_3 p
    have a4 := as3_4 p
    have a5 := as3_5 p
    go_enter Tryd.func46, Tryd.ntmps46
    go_wp2_with (go_at_call 14; refine HC'.out.mono ?_; rintro e w1 ⟨v1, rfl, ha1⟩)
    go_ret
    exact ⟨_, rfl, ha1⟩
  · have a1 := as4_1 p
    have a2 := as4_2 p
    have a3 := as4_3 p
    have a4 := as4_4 p
    have a5 := as4_5 p
    go_enter Tryd.func46, Tryd.ntmps46
    go_wp2_with (go_at_call 14; refine HC'.out.mono ?_; rintro e w1 ⟨v1, rfl, ha1⟩)
    go_ret
    exact ⟨_, rfl, ha1⟩
  · have a1 := as5_1 p
    have a2 := as5_2 p
    have a3 := as5_3 p
    have a4 := as5_4 p
    have a5 := as5_5 p
    go_enter Tryd.func46, Tryd.ntmps46
    go_wp2_with (go_at_call 14; refine HC'.out.mono ?_; rintro e w1 ⟨v1, rfl, ha1⟩)
    go_ret
    exact ⟨_, rfl, ha1⟩

set_option maxRecDepth 100000 in
set_option maxHeartbeats 2000000 in
theorem part_brak {O : Nat → Prop} {base r : Nat} {T : TypeId} {p : Value} {t : Tr} (hO : ∀ bb, O bb → bb < base) (hk : ¬ (1 ≤ t.kind ∧ t.kind ≤ 5)) (hT : T = 65 ∨ T = 69 ∨ T = 71 ∨ T = 73 ∨ T = 75 ∨ T = 77 ∨ T = 79 ∨ T = 82 ∨ T = 85 ∨ T = 87 ∨ T = 89 ∨ T = 90) (H : Sh O base r (.iface T p) t)
    (w : World) (v : Value) (l : List UInt8) (hown : w.ownsRow base 5 1 v l.length (byteCells l)) (hb : Rd base w) (hnd : Nd w O r (.iface T p) t) (hlen : l.length + (brak t.kind (txt r t)).length ≤ 70368744177664) :
    Calls Tryd.prog 46 #[v, .iface T p] w fun e w' => ∃ v', e = .returned v' ∧ App base w w' v' (l ++ brak t.kind (txt r t)) := by
  have hbk : brak t.kind (txt r t) = [40] ++ txt r t ++ [41] := if_neg hk
  rw [hbk] at hlen ⊢
  simp only [List.length_append, List.length_cons, List.length_nil] at hlen
  have HC : Hid (∀ w1 v1, App base w w1 v1 (l ++ [40]) → Calls Tryd.prog 14 #[v1, .iface T p] w1 fun e w' => ∃ v', e = .returned v' ∧ App base w1 w' v' (l ++ [40] ++ txt r t)) := fun w1 v1 ha => H w1 v1 (l ++ [40]) ha.own (hb.app ha) (hnd.app hO hb.le ha) (by simp; omega)
  clear hnd hbk H
  have hfin : l ++ ([40] ++ txt r t ++ [41]) = l ++ [40] ++ txt r t ++ [41] := by simp
  rw [hfin]
  obtain ⟨X, hX⟩ : ∃ X, txt r t = X := ⟨_, rfl⟩
  rw [hX] at HC hlen ⊢
  clear hX hfin
  rcases hT with rfl | rfl | rfl | rfl | rfl | rfl | rfl | rfl | rfl | rfl | rfl | rfl
  · have a1 := as8_1 p
    have a2 := as8_2 p
    have a3 := as8_3 p
    have a4 := as8_4 p
    have a5 := as8_5 p
    go_enter Tryd.func46, Tryd.ntmps46
    go_wp2_with (first
      | (at_builtin; refine app_b w rfl _ _ rfl _ l rfl hown hb.le 40 rfl (by omega) ?_; intro v1 w1 ha1)
      | (go_at_call 14; refine (HC.out _ _ ha1).mono ?_; rintro e w2 ⟨v2, rfl, ha2⟩; have hb2 : base ≤ w2.heap.size := Nat.le_trans hb.le (Nat.le_trans ha1.below.size ha2.below.size))
      | (at_builtin; refine app_b w2 rfl _ _ rfl _ (l ++ [40] ++ X) rfl ha2.own hb2 41 rfl (by simp; omega) ?_; intro v3 w3 ha3)
      | go_in)
    go_ret
    exact ⟨_, rfl, (ha1.trans ha2).trans ha3⟩
  · have a1 := as9_1 p
    have a2 := as9_2 p
    have a3 := as9_3 p
    have a4 := as9_4 p
    have a5 := as9_5 p
    go_enter Tryd.func46, Tryd.ntmps46
    go_wp2_with (first
      | (at_builtin; refine app_b w rfl _ _ rfl _ l rfl hown hb.le 40 rfl (by omega) ?_; intro v1 w1 ha1)
      | (go_at_call 14; refine (HC.out _ _ ha1).mono ?_; rintro e w2 ⟨v2, rfl, ha2⟩; have hb2 : base ≤ w2.heap.size := Nat.le_trans hb.le (Nat.le_trans ha1.below.size ha2.below.size))
      | (at_builtin; refine app_b w2 rfl _ _ rfl _ (l ++ [40] ++ X) rfl ha2.own hb2 41 rfl (by simp; omega) ?_; intro v3 w3 ha3)
      | go_in)
    go_ret
    exact ⟨_, rfl, (ha1.trans ha2).trans ha3⟩
  · have a1 := as10_1 p
    have a2 := as10_2 p
    have a3 := as10_3 p
    have a4 := as10_4 p
    have a5 := as10_5 p
    go_enter Tryd.func46, Tryd.ntmps46
    go_wp2_with (first
      | (at_builtin; refine app_b w rfl _ _ rfl _ l rfl hown hb.le 40 rfl (by omega) ?_; intro v1 w1 ha1)
      | (go_at_call 14; refine (HC.out _ _ ha1).mono ?_; rintro e w2 ⟨v2, rfl, ha2⟩; have hb2 : base ≤ w2.heap.size := Nat.le_trans hb.le (Nat.le_trans ha1.below.size ha2.below.size))
      | (at_builtin; refine app_b w2 rfl _ _ rfl _ (l ++ [40] ++ X) rfl ha2.own hb2 41 rfl (by simp; omega) ?_; intro v3 w3 ha3)
      | go_in)
    go_ret
    exact ⟨_, rfl, (ha1.trans ha2).trans ha3⟩
  · have a1 := as11_1 p
    have a2 := as11_2 p
    have a3 := as11_3 p
    have a4 := as11_4 p
    have a5 := as11_5 p
    go_enter Tryd.func46, Tryd.ntmps46
    go_wp2_with (first
      | (at_builtin; refine app_b w rfl _ _ rfl _ l rfl hown hb.le 40 rfl (by omega) ?_; intro v1 w1 ha1)
      | (go_at_call 14; refine (HC.out _ _ ha1).mono ?_; rintro e w2 ⟨v2, rfl, ha2⟩; have hb2 : base ≤ w2.heap.size := Nat.le_trans hb.le (Nat.le_trans ha1.below.size ha2.below.size))
      | (at_builtin; refine app_b w2 rfl _ _ rfl _ (l ++ [40] ++ X) rfl ha2.own hb2 41 rfl (by simp; omega) ?_; intro v3 w3 ha3)
      | go_in)
    go_ret
    exact ⟨_, rfl, (ha1.trans ha2).trans ha3⟩
  · have a1 := as12_1 p
    have a2 := as12_2 p
    have a3 := as12_3 p
    have a4 := as12_4 p
    have a5 := as12_5 p
    go_enter Tryd.func46, Tryd.ntmps46
    go_wp2_with (first
      | (at_builtin; refine app_b w rfl _ _ rfl _ l rfl hown hb.le 40 rfl (by omega) ?_; intro v1 w1 ha1)
      | (go_at_call 14; refine (HC.out _ _ ha1).mono ?_; rintro e w2 ⟨v2, rfl, ha2⟩; have hb2 : base ≤ w2.heap.size := Nat.le_trans hb.le (Nat.le_trans ha1.below.size ha2.below.size))
      | (at_builtin; refine app_b w2 rfl _ _ rfl _ (l ++ [40] ++ X) rfl ha2.own hb2 41 rfl (by simp; omega) ?_; intro v3 w3 ha3)
      | go_in)
    go_ret
    exact ⟨_, rfl, (ha1.trans ha2).trans ha3⟩
  · have a1 := as13_1 p
    have a2 := as13_2 p
    have a3 := as13_3 p
    have a4 := as13_4 p
    have a5 := as13_5 p
    go_enter Tryd.func46, Tryd.ntmps46
    go_wp2_with (first
      | (at_builtin; refine app_b w rfl _ _ rfl _ l rfl hown hb.le 40 rfl (by omega) ?_; intro v1 w1 ha1)
      | (go_at_call 14; refine (HC.out _ _ ha1).mono ?_; rintro e w2 ⟨v2, rfl, ha2⟩; have hb2 : base ≤ w2.heap.size := Nat.le_trans hb.le (Nat.le_trans ha1.below.size ha2.below.size))
      | (at_builtin; refine app_b w2 rfl _ _ rfl _ (l ++ [40] ++ X) rfl ha2.own hb2 41 rfl (by simp; omega) ?_; intro v3 w3 ha3)
      | go_in)
    go_ret
    exact ⟨_, rfl, (ha1.trans ha2).trans ha3⟩
  · have a1 := as14_1 p
    have a2 := as14_2 p
    have a3 := as14_3 p
    have a4 := as14_4 p
    have a5 := as14_5 p
    go_enter Tryd.func46, Tryd.ntmps46
    go_wp2_with (first
      | (at_builtin; refine app_b w rfl _ _ rfl _ l rfl hown hb.le 40 rfl (by omega) ?_; intro v1 w1 ha1)
      | (go_at_call 14; refine (HC.out _ _ ha1).mono ?_; rintro e w2 ⟨v2, rfl, ha2⟩; have hb2 : base ≤ w2.heap.size := Nat.le_trans hb.le (Nat.le_trans ha1.below.size ha2.below.size))
      | (at_builtin; refine app_b w2 rfl _ _ rfl _ (l ++ [40] ++ X) rfl ha2.own hb2 41 rfl (by simp; omega) ?_; intro v3 w3 ha3)
      | go_in)
    go_ret
    exact ⟨_, rfl, (ha1.trans ha2).trans ha3⟩
  · have a1 := as16_1 p
    have a2 := as16_2 p
    have a3 := as16_3 p
    have a4 := as16_4 p
    have a5 := as16_5 p
    go_enter Tryd.func46, Tryd.ntmps46
    go_wp2_with (first
      | (at_builtin; refine app_b w rfl _ _ rfl _ l rfl hown hb.le 40 rfl (by omega) ?_; intro v1 w1 ha1)
      | (go_at_call 14; refine (HC.out _ _ ha1).mono ?_; rintro e w2 ⟨v2, rfl, ha2⟩; have hb2 : base ≤ w2.heap.size := Nat.le_trans hb.le (Nat.le_trans ha1.below.size ha2.below.size))
      | (at_builtin; refine app_b w2 rfl _ _ rfl _ (l ++ [40] ++ X) rfl ha2.own hb2 41 rfl (by simp; omega) ?_; intro v3 w3 ha3)
      | go_in)
    go_ret
    exact ⟨_, rfl, (ha1.trans ha2).trans ha3⟩
  · have a1 := as17_1 p
    have a2 := as17_2 p
    have a3 := as17_3 p
    have a4 := as17_4 p
    have a5 := as17_5 p
    go_enter Tryd.func46, Tryd.ntmps46
    go_wp2_with (first
      | (at_builtin; refine app_b w rfl _ _ rfl _ l rfl hown hb.le 40 rfl (by omega) ?_; intro v1 w1 ha1)
      | (go_at_call 14; refine (HC.out _ _ ha1).mono ?_; rintro e w2 ⟨v2, rfl, ha2⟩; have hb2 : base ≤ w2.heap.size := Nat.le_trans hb.le (Nat.le_trans ha1.below.size ha2.below.size))
      | (at_builtin; refine app_b w2 rfl _ _ rfl _ (l ++ [40] ++ X) rfl ha2.own hb2 41 rfl (by simp; omega) ?_; intro v3 w3 ha3)
      | go_in)
    go_ret
    exact ⟨_, rfl, (ha1.trans ha2).trans ha3⟩
  · have a1 := as18_1 p
    have a2 := as18_2 p
    have a3 := as18_3 p
    have a4 := as18_4 p
    have a5 := as18_5 p
    go_enter Tryd.func46, Tryd.ntmps46
    go_wp2_with (first
      | (at_builtin; refine app_b w rfl _ _ rfl _ l rfl hown hb.le 40 rfl (by omega) ?_; intro v1 w1 ha1)
      | (go_at_call 14; refine (HC.out _ _ ha1).mono ?_; rintro e w2 ⟨v2, rfl, ha2⟩; have hb2 : base ≤ w2.heap.size := Nat.le_trans hb.le (Nat.le_trans ha1.below.size ha2.below.size))
      | (at_builtin; refine app_b w2 rfl _ _ rfl _ (l ++ [40] ++ X) rfl ha2.own hb2 41 rfl (by simp; omega) ?_; intro v3 w3 ha3)
      | go_in)
    go_ret
    exact ⟨_, rfl, (ha1.trans ha2).trans ha3⟩
  · have a1 := as19_1 p
    have a2 := as19_2 p
    have a3 := as19_3 p
    have a4 := as19_4 p
    have a5 := as19_5 p
    go_enter Tryd.func46, Tryd.ntmps46
    go_wp2_with (first
      | (at_builtin; refine app_b w rfl _ _ rfl _ l rfl hown hb.le 40 rfl (by omega) ?_; intro v1 w1 ha1)
      | (go_at_call 14; refine (HC.out _ _ ha1).mono ?_; rintro e w2 ⟨v2, rfl, ha2⟩; have hb2 : base ≤ w2.heap.size := Nat.le_trans hb.le (Nat.le_trans ha1.below.size ha2.below.size))
      | (at_builtin; refine app_b w2 rfl _ _ rfl _ (l ++ [40] ++ X) rfl ha2.own hb2 41 rfl (by simp; omega) ?_; intro v3 w3 ha3)
      | go_in)
    go_ret
    exact ⟨_, rfl, (ha1.trans ha2).trans ha3⟩
  · have a1 := as20_1 p
    have a2 := as20_2 p
    have a3 := as20_3 p
    have a4 := as20_4 p
    have a5 := as20_5 p
    go_enter Tryd.func46, Tryd.ntmps46
    go_wp2_with (first
      | (at_builtin; refine app_b w rfl _ _ rfl _ l rfl hown hb.le 40 rfl (by omega) ?_; intro v1 w1 ha1)
      | (go_at_call 14; refine (HC.out _ _ ha1).mono ?_; rintro e w2 ⟨v2, rfl, ha2⟩; have hb2 : base ≤ w2.heap.size := Nat.le_trans hb.le (Nat.le_trans ha1.below.size ha2.below.size))
      | (at_builtin; refine app_b w2 rfl _ _ rfl _ (l ++ [40] ++ X) rfl ha2.own hb2 41 rfl (by simp; omega) ?_; intro v3 w3 ha3)
      | go_in)
    go_ret
    exact ⟨_, rfl, (ha1.trans ha2).trans ha3⟩

end Go.Proofs.YtlnagmdoepldmaaDoor.ex
