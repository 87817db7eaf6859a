import Derived.Test.YtifgaaemdojmpaaGreatDoorG09
namespace Go.Proofs.YtifgaaemdojmpaaGreatDoor.ex
open Go.ChangeShapes Go.WideShapes Go.ChangeAt Go.RowKit Go.Deep Go.Maps
set_option linter.unusedVariables false
set_option linter.unusedSimpArgs false

theorem as1_4 (x : Value) (w : World) : (Instr.typeAssert (.iface 124 x) 37 99 true).run Tryz.prog w = .ok (.tuple #[.agg #[.slice none 0 0], .bool false]) w := by kernel_rfl
theorem as1_5 (x : Value) (w : World) : (Instr.typeAssert (.iface 124 x) 37 56 true).run Tryz.prog w = .ok (.tuple #[.agg #[.bool false, .slice none 0 0], .bool false]) w := by kernel_rfl
theorem as1_6 (x : Value) (w : World) : (Instr.typeAssert (.iface 124 x) 37 101 true).run Tryz.prog w = .ok (.tuple #[.agg #[.string ⟨#[]⟩, .nilIface], .bool false]) w := by kernel_rfl
theorem as1_8 (x : Value) (w : World) : (Instr.typeAssert (.iface 124 x) 37 60 true).run Tryz.prog w = .ok (.tuple #[.agg #[.slice none 0 0, .nilIface], .bool false]) w := by kernel_rfl
theorem as1_9 (x : Value) (w : World) : (Instr.typeAssert (.iface 124 x) 37 104 true).run Tryz.prog w = .ok (.tuple #[.agg #[.nilIface, .nilIface], .bool false]) w := by kernel_rfl
theorem as1_10 (x : Value) (w : World) : (Instr.typeAssert (.iface 124 x) 37 106 true).run Tryz.prog w = .ok (.tuple #[.agg #[.nilIface, .nilIface], .bool false]) w := by kernel_rfl
theorem as1_11 (x : Value) (w : World) : (Instr.typeAssert (.iface 124 x) 37 108 true).run Tryz.prog w = .ok (.tuple #[.agg #[.nilIface, .nilIface], .bool false]) w := by kernel_rfl
theorem as1_12 (x : Value) (w : World) : (Instr.typeAssert (.iface 124 x) 37 110 true).run Tryz.prog w = .ok (.tuple #[.agg #[.nilIface, .nilIface, .nilIface], .bool false]) w := by kernel_rfl
theorem as1_13 (x : Value) (w : World) : (Instr.typeAssert (.iface 124 x) 37 62 true).run Tryz.prog w = .ok (.tuple #[.agg #[.string ⟨#[]⟩, .nilIface], .bool false]) w := by kernel_rfl
theorem as1_14 (x : Value) (w : World) : (Instr.typeAssert (.iface 124 x) 37 65 true).run Tryz.prog w = .ok (.tuple #[.agg #[.slice none 0 0, .bool false, .nilIface], .bool false]) w := by kernel_rfl
theorem as1_15 (x : Value) (w : World) : (Instr.typeAssert (.iface 124 x) 37 112 true).run Tryz.prog w = .ok (.tuple #[.agg #[.string ⟨#[]⟩, .nilIface], .bool false]) w := by kernel_rfl
theorem as1_16 (x : Value) (w : World) : (Instr.typeAssert (.iface 124 x) 37 115 true).run Tryz.prog w = .ok (.tuple #[.agg #[.nilIface, .string ⟨#[]⟩, .nilIface], .bool false]) w := by kernel_rfl
theorem as1_17 (x : Value) (w : World) : (Instr.typeAssert (.iface 124 x) 37 117 true).run Tryz.prog w = .ok (.tuple #[.agg #[.nilIface, .string ⟨#[]⟩], .bool false]) w := by kernel_rfl
theorem as1_18 (x : Value) (w : World) : (Instr.typeAssert (.iface 124 x) 37 119 true).run Tryz.prog w = .ok (.tuple #[.agg #[.string ⟨#[]⟩, .nilIface, .nilIface], .bool false]) w := by kernel_rfl
theorem as1_19 (x : Value) (w : World) : (Instr.typeAssert (.iface 124 x) 37 121 true).run Tryz.prog w = .ok (.tuple #[.agg #[.nilIface], .bool false]) w := by kernel_rfl
theorem as1_20 (x : Value) (w : World) : (Instr.typeAssert (.iface 124 x) 37 122 true).run Tryz.prog w = .ok (.tuple #[.agg #[.nilIface], .bool false]) w := by kernel_rfl
theorem as1_3 (x : Value) (w : World) : (Instr.typeAssert (.iface 124 x) 37 51 true).run Tryz.prog w = .ok (.tuple #[.agg #[.string ⟨#[]⟩], .bool false]) w := by kernel_rfl
theorem as1_7 (x : Value) (w : World) : (Instr.typeAssert (.iface 124 x) 37 53 true).run Tryz.prog w = .ok (.tuple #[.agg #[.string ⟨#[]⟩], .bool false]) w := by kernel_rfl
theorem as2_4 (x : Value) (w : World) : (Instr.typeAssert (.iface 126 x) 37 99 true).run Tryz.prog w = .ok (.tuple #[.agg #[.slice none 0 0], .bool false]) w := by kernel_rfl
theorem as2_5 (x : Value) (w : World) : (Instr.typeAssert (.iface 126 x) 37 56 true).run Tryz.prog w = .ok (.tuple #[.agg #[.bool false, .slice none 0 0], .bool false]) w := by kernel_rfl
theorem as2_6 (x : Value) (w : World) : (Instr.typeAssert (.iface 126 x) 37 101 true).run Tryz.prog w = .ok (.tuple #[.agg #[.string ⟨#[]⟩, .nilIface], .bool false]) w := by kernel_rfl
theorem as2_8 (x : Value) (w : World) : (Instr.typeAssert (.iface 126 x) 37 60 true).run Tryz.prog w = .ok (.tuple #[.agg #[.slice none 0 0, .nilIface], .bool false]) w := by kernel_rfl
theorem as2_9 (x : Value) (w : World) : (Instr.typeAssert (.iface 126 x) 37 104 true).run Tryz.prog w = .ok (.tuple #[.agg #[.nilIface, .nilIface], .bool false]) w := by kernel_rfl
theorem as2_10 (x : Value) (w : World) : (Instr.typeAssert (.iface 126 x) 37 106 true).run Tryz.prog w = .ok (.tuple #[.agg #[.nilIface, .nilIface], .bool false]) w := by kernel_rfl
theorem as2_11 (x : Value) (w : World) : (Instr.typeAssert (.iface 126 x) 37 108 true).run Tryz.prog w = .ok (.tuple #[.agg #[.nilIface, .nilIface], .bool false]) w := by kernel_rfl
theorem as2_12 (x : Value) (w : World) : (Instr.typeAssert (.iface 126 x) 37 110 true).run Tryz.prog w = .ok (.tuple #[.agg #[.nilIface, .nilIface, .nilIface], .bool false]) w := by kernel_rfl
theorem as2_13 (x : Value) (w : World) : (Instr.typeAssert (.iface 126 x) 37 62 true).run Tryz.prog w = .ok (.tuple #[.agg #[.string ⟨#[]⟩, .nilIface], .bool false]) w := by kernel_rfl
theorem as2_14 (x : Value) (w : World) : (Instr.typeAssert (.iface 126 x) 37 65 true).run Tryz.prog w = .ok (.tuple #[.agg #[.slice none 0 0, .bool false, .nilIface], .bool false]) w := by kernel_rfl
theorem as2_15 (x : Value) (w : World) : (Instr.typeAssert (.iface 126 x) 37 112 true).run Tryz.prog w = .ok (.tuple #[.agg #[.string ⟨#[]⟩, .nilIface], .bool false]) w := by kernel_rfl
theorem as2_16 (x : Value) (w : World) : (Instr.typeAssert (.iface 126 x) 37 115 true).run Tryz.prog w = .ok (.tuple #[.agg #[.nilIface, .string ⟨#[]⟩, .nilIface], .bool false]) w := by kernel_rfl
theorem as2_17 (x : Value) (w : World) : (Instr.typeAssert (.iface 126 x) 37 117 true).run Tryz.prog w = .ok (.tuple #[.agg #[.nilIface, .string ⟨#[]⟩], .bool false]) w := by kernel_rfl
theorem as2_18 (x : Value) (w : World) : (Instr.typeAssert (.iface 126 x) 37 119 true).run Tryz.prog w = .ok (.tuple #[.agg #[.string ⟨#[]⟩, .nilIface, .nilIface], .bool false]) w := by kernel_rfl
theorem as2_19 (x : Value) (w : World) : (Instr.typeAssert (.iface 126 x) 37 121 true).run Tryz.prog w = .ok (.tuple #[.agg #[.nilIface], .bool false]) w := by kernel_rfl
theorem as2_20 (x : Value) (w : World) : (Instr.typeAssert (.iface 126 x) 37 122 true).run Tryz.prog w = .ok (.tuple #[.agg #[.nilIface], .bool false]) w := by kernel_rfl
theorem as2_3 (x : Value) (w : World) : (Instr.typeAssert (.iface 126 x) 37 51 true).run Tryz.prog w = .ok (.tuple #[.agg #[.string ⟨#[]⟩], .bool false]) w := by kernel_rfl
theorem as2_7 (x : Value) (w : World) : (Instr.typeAssert (.iface 126 x) 37 53 true).run Tryz.prog w = .ok (.tuple #[.agg #[.string ⟨#[]⟩], .bool false]) w := by kernel_rfl
theorem as3_3 (x : Value) (w : World) : (Instr.typeAssert (.iface 51 x) 37 51 true).run Tryz.prog w = .ok (.tuple #[x, .bool true]) w := by kernel_rfl
theorem as4_4 (x : Value) (w : World) : (Instr.typeAssert (.iface 99 x) 37 99 true).run Tryz.prog w = .ok (.tuple #[x, .bool true]) w := by kernel_rfl
theorem as4_3 (x : Value) (w : World) : (Instr.typeAssert (.iface 99 x) 37 51 true).run Tryz.prog w = .ok (.tuple #[.agg #[.string ⟨#[]⟩], .bool false]) w := by kernel_rfl
theorem as4_7 (x : Value) (w : World) : (Instr.typeAssert (.iface 99 x) 37 53 true).run Tryz.prog w = .ok (.tuple #[.agg #[.string ⟨#[]⟩], .bool false]) w := by kernel_rfl
theorem as4_5 (x : Value) (w : World) : (Instr.typeAssert (.iface 99 x) 37 56 true).run Tryz.prog w = .ok (.tuple #[.agg #[.bool false, .slice none 0 0], .bool false]) w := by kernel_rfl
theorem as4_8 (x : Value) (w : World) : (Instr.typeAssert (.iface 99 x) 37 60 true).run Tryz.prog w = .ok (.tuple #[.agg #[.slice none 0 0, .nilIface], .bool false]) w := by kernel_rfl
theorem as4_13 (x : Value) (w : World) : (Instr.typeAssert (.iface 99 x) 37 62 true).run Tryz.prog w = .ok (.tuple #[.agg #[.string ⟨#[]⟩, .nilIface], .bool false]) w := by kernel_rfl
theorem as4_14 (x : Value) (w : World) : (Instr.typeAssert (.iface 99 x) 37 65 true).run Tryz.prog w = .ok (.tuple #[.agg #[.slice none 0 0, .bool false, .nilIface], .bool false]) w := by kernel_rfl
theorem as5_4 (x : Value) (w : World) : (Instr.typeAssert (.iface 56 x) 37 99 true).run Tryz.prog w = .ok (.tuple #[.agg #[.slice none 0 0], .bool false]) w := by kernel_rfl
theorem as5_5 (x : Value) (w : World) : (Instr.typeAssert (.iface 56 x) 37 56 true).run Tryz.prog w = .ok (.tuple #[x, .bool true]) w := by kernel_rfl
theorem as5_3 (x : Value) (w : World) : (Instr.typeAssert (.iface 56 x) 37 51 true).run Tryz.prog w = .ok (.tuple #[.agg #[.string ⟨#[]⟩], .bool false]) w := by kernel_rfl
theorem as5_7 (x : Value) (w : World) : (Instr.typeAssert (.iface 56 x) 37 53 true).run Tryz.prog w = .ok (.tuple #[.agg #[.string ⟨#[]⟩], .bool false]) w := by kernel_rfl
theorem as6_4 (x : Value) (w : World) : (Instr.typeAssert (.iface 101 x) 37 99 true).run Tryz.prog w = .ok (.tuple #[.agg #[.slice none 0 0], .bool false]) w := by kernel_rfl
theorem as6_5 (x : Value) (w : World) : (Instr.typeAssert (.iface 101 x) 37 56 true).run Tryz.prog w = .ok (.tuple #[.agg #[.bool false, .slice none 0 0], .bool false]) w := by kernel_rfl
theorem as6_6 (x : Value) (w : World) : (Instr.typeAssert (.iface 101 x) 37 101 true).run Tryz.prog w = .ok (.tuple #[x, .bool true]) w := by kernel_rfl
theorem as6_3 (x : Value) (w : World) : (Instr.typeAssert (.iface 101 x) 37 51 true).run Tryz.prog w = .ok (.tuple #[.agg #[.string ⟨#[]⟩], .bool false]) w := by kernel_rfl
theorem as6_8 (x : Value) (w : World) : (Instr.typeAssert (.iface 101 x) 37 60 true).run Tryz.prog w = .ok (.tuple #[.agg #[.slice none 0 0, .nilIface], .bool false]) w := by kernel_rfl
theorem as6_13 (x : Value) (w : World) : (Instr.typeAssert (.iface 101 x) 37 62 true).run Tryz.prog w = .ok (.tuple #[.agg #[.string ⟨#[]⟩, .nilIface], .bool false]) w := by kernel_rfl
theorem as6_14 (x : Value) (w : World) : (Instr.typeAssert (.iface 101 x) 37 65 true).run Tryz.prog w = .ok (.tuple #[.agg #[.slice none 0 0, .bool false, .nilIface], .bool false]) w := by kernel_rfl
theorem as7_3 (x : Value) (w : World) : (Instr.typeAssert (.iface 53 x) 37 51 true).run Tryz.prog w = .ok (.tuple #[.agg #[.string ⟨#[]⟩], .bool false]) w := by kernel_rfl
theorem as8_4 (x : Value) (w : World) : (Instr.typeAssert (.iface 60 x) 37 99 true).run Tryz.prog w = .ok (.tuple #[.agg #[.slice none 0 0], .bool false]) w := by kernel_rfl
theorem as8_5 (x : Value) (w : World) : (Instr.typeAssert (.iface 60 x) 37 56 true).run Tryz.prog w = .ok (.tuple #[.agg #[.bool false, .slice none 0 0], .bool false]) w := by kernel_rfl
theorem as8_6 (x : Value) (w : World) : (Instr.typeAssert (.iface 60 x) 37 101 true).run Tryz.prog w = .ok (.tuple #[.agg #[.string ⟨#[]⟩, .nilIface], .bool false]) w := by kernel_rfl
theorem as8_8 (x : Value) (w : World) : (Instr.typeAssert (.iface 60 x) 37 60 true).run Tryz.prog w = .ok (.tuple #[x, .bool true]) w := by kernel_rfl
theorem as8_3 (x : Value) (w : World) : (Instr.typeAssert (.iface 60 x) 37 51 true).run Tryz.prog w = .ok (.tuple #[.agg #[.string ⟨#[]⟩], .bool false]) w := by kernel_rfl
theorem as8_7 (x : Value) (w : World) : (Instr.typeAssert (.iface 60 x) 37 53 true).run Tryz.prog w = .ok (.tuple #[.agg #[.string ⟨#[]⟩], .bool false]) w := by kernel_rfl
theorem as9_4 (x : Value) (w : World) : (Instr.typeAssert (.iface 104 x) 37 99 true).run Tryz.prog w = .ok (.tuple #[.agg #[.slice none 0 0], .bool false]) w := by kernel_rfl
theorem as9_5 (x : Value) (w : World) : (Instr.typeAssert (.iface 104 x) 37 56 true).run Tryz.prog w = .ok (.tuple #[.agg #[.bool false, .slice none 0 0], .bool false]) w := by kernel_rfl
theorem as9_6 (x : Value) (w : World) : (Instr.typeAssert (.iface 104 x) 37 101 true).run Tryz.prog w = .ok (.tuple #[.agg #[.string ⟨#[]⟩, .nilIface], .bool false]) w := by kernel_rfl
theorem as9_8 (x : Value) (w : World) : (Instr.typeAssert (.iface 104 x) 37 60 true).run Tryz.prog w = .ok (.tuple #[.agg #[.slice none 0 0, .nilIface], .bool false]) w := by kernel_rfl
theorem as9_9 (x : Value) (w : World) : (Instr.typeAssert (.iface 104 x) 37 104 true).run Tryz.prog w = .ok (.tuple #[x, .bool true]) w := by kernel_rfl
theorem as9_3 (x : Value) (w : World) : (Instr.typeAssert (.iface 104 x) 37 51 true).run Tryz.prog w = .ok (.tuple #[.agg #[.string ⟨#[]⟩], .bool false]) w := by kernel_rfl
theorem as9_7 (x : Value) (w : World) : (Instr.typeAssert (.iface 104 x) 37 53 true).run Tryz.prog w = .ok (.tuple #[.agg #[.string ⟨#[]⟩], .bool false]) w := by kernel_rfl
theorem as9_13 (x : Value) (w : World) : (Instr.typeAssert (.iface 104 x) 37 62 true).run Tryz.prog w = .ok (.tuple #[.agg #[.string ⟨#[]⟩, .nilIface], .bool false]) w := by kernel_rfl
theorem as9_14 (x : Value) (w : World) : (Instr.typeAssert (.iface 104 x) 37 65 true).run Tryz.prog w = .ok (.tuple #[.agg #[.slice none 0 0, .bool false, .nilIface], .bool false]) w := by kernel_rfl
theorem as10_4 (x : Value) (w : World) : (Instr.typeAssert (.iface 106 x) 37 99 true).run Tryz.prog w = .ok (.tuple #[.agg #[.slice none 0 0], .bool false]) w := by kernel_rfl
theorem as10_5 (x : Value) (w : World) : (Instr.typeAssert (.iface 106 x) 37 56 true).run Tryz.prog w = .ok (.tuple #[.agg #[.bool false, .slice none 0 0], .bool false]) w := by kernel_rfl
theorem as10_6 (x : Value) (w : World) : (Instr.typeAssert (.iface 106 x) 37 101 true).run Tryz.prog w = .ok (.tuple #[.agg #[.string ⟨#[]⟩, .nilIface], .bool false]) w := by kernel_rfl
theorem as10_8 (x : Value) (w : World) : (Instr.typeAssert (.iface 106 x) 37 60 true).run Tryz.prog w = .ok (.tuple #[.agg #[.slice none 0 0, .nilIface], .bool false]) w := by kernel_rfl
theorem as10_9 (x : Value) (w : World) : (Instr.typeAssert (.iface 106 x) 37 104 true).run Tryz.prog w = .ok (.tuple #[.agg #[.nilIface, .nilIface], .bool false]) w := by kernel_rfl
theorem as10_10 (x : Value) (w : World) : (Instr.typeAssert (.iface 106 x) 37 106 true).run Tryz.prog w = .ok (.tuple #[x, .bool true]) w := by kernel_rfl
theorem as10_3 (x : Value) (w : World) : (Instr.typeAssert (.iface 106 x) 37 51 true).run Tryz.prog w = .ok (.tuple #[.agg #[.string ⟨#[]⟩], .bool false]) w := by kernel_rfl
theorem as10_7 (x : Value) (w : World) : (Instr.typeAssert (.iface 106 x) 37 53 true).run Tryz.prog w = .ok (.tuple #[.agg #[.string ⟨#[]⟩], .bool false]) w := by kernel_rfl
theorem as10_13 (x : Value) (w : World) : (Instr.typeAssert (.iface 106 x) 37 62 true).run Tryz.prog w = .ok (.tuple #[.agg #[.string ⟨#[]⟩, .nilIface], .bool false]) w := by kernel_rfl
theorem as10_14 (x : Value) (w : World) : (Instr.typeAssert (.iface 106 x) 37 65 true).run Tryz.prog w = .ok (.tuple #[.agg #[.slice none 0 0, .bool false, .nilIface], .bool false]) w := by kernel_rfl
theorem as11_4 (x : Value) (w : World) : (Instr.typeAssert (.iface 108 x) 37 99 true).run Tryz.prog w = .ok (.tuple #[.agg #[.slice none 0 0], .bool false]) w := by kernel_rfl
theorem as11_5 (x : Value) (w : World) : (Instr.typeAssert (.iface 108 x) 37 56 true).run Tryz.prog w = .ok (.tuple #[.agg #[.bool false, .slice none 0 0], .bool false]) w := by kernel_rfl
theorem as11_6 (x : Value) (w : World) : (Instr.typeAssert (.iface 108 x) 37 101 true).run Tryz.prog w = .ok (.tuple #[.agg #[.string ⟨#[]⟩, .nilIface], .bool false]) w := by kernel_rfl
theorem as11_8 (x : Value) (w : World) : (Instr.typeAssert (.iface 108 x) 37 60 true).run Tryz.prog w = .ok (.tuple #[.agg #[.slice none 0 0, .nilIface], .bool false]) w := by kernel_rfl
theorem as11_9 (x : Value) (w : World) : (Instr.typeAssert (.iface 108 x) 37 104 true).run Tryz.prog w = .ok (.tuple #[.agg #[.nilIface, .nilIface], .bool false]) w := by kernel_rfl
theorem as11_10 (x : Value) (w : World) : (Instr.typeAssert (.iface 108 x) 37 106 true).run Tryz.prog w = .ok (.tuple #[.agg #[.nilIface, .nilIface], .bool false]) w := by kernel_rfl
theorem as11_11 (x : Value) (w : World) : (Instr.typeAssert (.iface 108 x) 37 108 true).run Tryz.prog w = .ok (.tuple #[x, .bool true]) w := by kernel_rfl
theorem as11_3 (x : Value) (w : World) : (Instr.typeAssert (.iface 108 x) 37 51 true).run Tryz.prog w = .ok (.tuple #[.agg #[.string ⟨#[]⟩], .bool false]) w := by kernel_rfl
theorem as11_7 (x : Value) (w : World) : (Instr.typeAssert (.iface 108 x) 37 53 true).run Tryz.prog w = .ok (.tuple #[.agg #[.string ⟨#[]⟩], .bool false]) w := by kernel_rfl
theorem as11_13 (x : Value) (w : World) : (Instr.typeAssert (.iface 108 x) 37 62 true).run Tryz.prog w = .ok (.tuple #[.agg #[.string ⟨#[]⟩, .nilIface], .bool false]) w := by kernel_rfl
theorem as11_14 (x : Value) (w : World) : (Instr.typeAssert (.iface 108 x) 37 65 true).run Tryz.prog w = .ok (.tuple #[.agg #[.slice none 0 0, .bool false, .nilIface], .bool false]) w := by kernel_rfl
theorem as12_4 (x : Value) (w : World) : (Instr.typeAssert (.iface 110 x) 37 99 true).run Tryz.prog w = .ok (.tuple #[.agg #[.slice none 0 0], .bool false]) w := by kernel_rfl
theorem as12_5 (x : Value) (w : World) : (Instr.typeAssert (.iface 110 x) 37 56 true).run Tryz.prog w = .ok (.tuple #[.agg #[.bool false, .slice none 0 0], .bool false]) w := by kernel_rfl
theorem as12_6 (x : Value) (w : World) : (Instr.typeAssert (.iface 110 x) 37 101 true).run Tryz.prog w = .ok (.tuple #[.agg #[.string ⟨#[]⟩, .nilIface], .bool false]) w := by kernel_rfl
theorem as12_8 (x : Value) (w : World) : (Instr.typeAssert (.iface 110 x) 37 60 true).run Tryz.prog w = .ok (.tuple #[.agg #[.slice none 0 0, .nilIface], .bool false]) w := by kernel_rfl
theorem as12_9 (x : Value) (w : World) : (Instr.typeAssert (.iface 110 x) 37 104 true).run Tryz.prog w = .ok (.tuple #[.agg #[.nilIface, .nilIface], .bool false]) w := by kernel_rfl
theorem as12_10 (x : Value) (w : World) : (Instr.typeAssert (.iface 110 x) 37 106 true).run Tryz.prog w = .ok (.tuple #[.agg #[.nilIface, .nilIface], .bool false]) w := by kernel_rfl
theorem as12_11 (x : Value) (w : World) : (Instr.typeAssert (.iface 110 x) 37 108 true).run Tryz.prog w = .ok (.tuple #[.agg #[.nilIface, .nilIface], .bool false]) w := by kernel_rfl
theorem as12_12 (x : Value) (w : World) : (Instr.typeAssert (.iface 110 x) 37 110 true).run Tryz.prog w = .ok (.tuple #[x, .bool true]) w := by kernel_rfl
theorem as12_3 (x : Value) (w : World) : (Instr.typeAssert (.iface 110 x) 37 51 true).run Tryz.prog w = .ok (.tuple #[.agg #[.string ⟨#[]⟩], .bool false]) w := by kernel_rfl
theorem as12_7 (x : Value) (w : World) : (Instr.typeAssert (.iface 110 x) 37 53 true).run Tryz.prog w = .ok (.tuple #[.agg #[.string ⟨#[]⟩], .bool false]) w := by kernel_rfl
theorem as12_13 (x : Value) (w : World) : (Instr.typeAssert (.iface 110 x) 37 62 true).run Tryz.prog w = .ok (.tuple #[.agg #[.string ⟨#[]⟩, .nilIface], .bool false]) w := by kernel_rfl
theorem as12_14 (x : Value) (w : World) : (Instr.typeAssert (.iface 110 x) 37 65 true).run Tryz.prog w = .ok (.tuple #[.agg #[.slice none 0 0, .bool false, .nilIface], .bool false]) w := by kernel_rfl
theorem as13_4 (x : Value) (w : World) : (Instr.typeAssert (.iface 62 x) 37 99 true).run Tryz.prog w = .ok (.tuple #[.agg #[.slice none 0 0], .bool false]) w := by kernel_rfl
theorem as13_5 (x : Value) (w : World) : (Instr.typeAssert (.iface 62 x) 37 56 true).run Tryz.prog w = .ok (.tuple #[.agg #[.bool false, .slice none 0 0], .bool false]) w := by kernel_rfl
theorem as13_6 (x : Value) (w : World) : (Instr.typeAssert (.iface 62 x) 37 101 true).run Tryz.prog w = .ok (.tuple #[.agg #[.string ⟨#[]⟩, .nilIface], .bool false]) w := by kernel_rfl
theorem as13_8 (x : Value) (w : World) : (Instr.typeAssert (.iface 62 x) 37 60 true).run Tryz.prog w = .ok (.tuple #[.agg #[.slice none 0 0, .nilIface], .bool false]) w := by kernel_rfl
theorem as13_9 (x : Value) (w : World) : (Instr.typeAssert (.iface 62 x) 37 104 true).run Tryz.prog w = .ok (.tuple #[.agg #[.nilIface, .nilIface], .bool false]) w := by kernel_rfl
theorem as13_10 (x : Value) (w : World) : (Instr.typeAssert (.iface 62 x) 37 106 true).run Tryz.prog w = .ok (.tuple #[.agg #[.nilIface, .nilIface], .bool false]) w := by kernel_rfl
theorem as13_11 (x : Value) (w : World) : (Instr.typeAssert (.iface 62 x) 37 108 true).run Tryz.prog w = .ok (.tuple #[.agg #[.nilIface, .nilIface], .bool false]) w := by kernel_rfl
theorem as13_12 (x : Value) (w : World) : (Instr.typeAssert (.iface 62 x) 37 110 true).run Tryz.prog w = .ok (.tuple #[.agg #[.nilIface, .nilIface, .nilIface], .bool false]) w := by kernel_rfl
theorem as13_13 (x : Value) (w : World) : (Instr.typeAssert (.iface 62 x) 37 62 true).run Tryz.prog w = .ok (.tuple #[x, .bool true]) w := by kernel_rfl
theorem as13_3 (x : Value) (w : World) : (Instr.typeAssert (.iface 62 x) 37 51 true).run Tryz.prog w = .ok (.tuple #[.agg #[.string ⟨#[]⟩], .bool false]) w := by kernel_rfl
theorem as13_7 (x : Value) (w : World) : (Instr.typeAssert (.iface 62 x) 37 53 true).run Tryz.prog w = .ok (.tuple #[.agg #[.string ⟨#[]⟩], .bool false]) w := by kernel_rfl
theorem as14_4 (x : Value) (w : World) : (Instr.typeAssert (.iface 65 x) 37 99 true).run Tryz.prog w = .ok (.tuple #[.agg #[.slice none 0 0], .bool false]) w := by kernel_rfl
theorem as14_5 (x : Value) (w : World) : (Instr.typeAssert (.iface 65 x) 37 56 true).run Tryz.prog w = .ok (.tuple #[.agg #[.bool false, .slice none 0 0], .bool false]) w := by kernel_rfl
theorem as14_6 (x : Value) (w : World) : (Instr.typeAssert (.iface 65 x) 37 101 true).run Tryz.prog w = .ok (.tuple #[.agg #[.string ⟨#[]⟩, .nilIface], .bool false]) w := by kernel_rfl
theorem as14_8 (x : Value) (w : World) : (Instr.typeAssert (.iface 65 x) 37 60 true).run Tryz.prog w = .ok (.tuple #[.agg #[.slice none 0 0, .nilIface], .bool false]) w := by kernel_rfl
theorem as14_9 (x : Value) (w : World) : (Instr.typeAssert (.iface 65 x) 37 104 true).run Tryz.prog w = .ok (.tuple #[.agg #[.nilIface, .nilIface], .bool false]) w := by kernel_rfl
theorem as14_10 (x : Value) (w : World) : (Instr.typeAssert (.iface 65 x) 37 106 true).run Tryz.prog w = .ok (.tuple #[.agg #[.nilIface, .nilIface], .bool false]) w := by kernel_rfl
theorem as14_11 (x : Value) (w : World) : (Instr.typeAssert (.iface 65 x) 37 108 true).run Tryz.prog w = .ok (.tuple #[.agg #[.nilIface, .nilIface], .bool false]) w := by kernel_rfl
theorem as14_12 (x : Value) (w : World) : (Instr.typeAssert (.iface 65 x) 37 110 true).run Tryz.prog w = .ok (.tuple #[.agg #[.nilIface, .nilIface, .nilIface], .bool false]) w := by kernel_rfl
theorem as14_13 (x : Value) (w : World) : (Instr.typeAssert (.iface 65 x) 37 62 true).run Tryz.prog w = .ok (.tuple #[.agg #[.string ⟨#[]⟩, .nilIface], .bool false]) w := by kernel_rfl
theorem as14_14 (x : Value) (w : World) : (Instr.typeAssert (.iface 65 x) 37 65 true).run Tryz.prog w = .ok (.tuple #[x, .bool true]) w := by kernel_rfl
theorem as14_3 (x : Value) (w : World) : (Instr.typeAssert (.iface 65 x) 37 51 true).run Tryz.prog w = .ok (.tuple #[.agg #[.string ⟨#[]⟩], .bool false]) w := by kernel_rfl
theorem as14_7 (x : Value) (w : World) : (Instr.typeAssert (.iface 65 x) 37 53 true).run Tryz.prog w = .ok (.tuple #[.agg #[.string ⟨#[]⟩], .bool false]) w := by kernel_rfl
theorem as15_4 (x : Value) (w : World) : (Instr.typeAssert (.iface 112 x) 37 99 true).run Tryz.prog w = .ok (.tuple #[.agg #[.slice none 0 0], .bool false]) w := by kernel_rfl
theorem as15_5 (x : Value) (w : World) : (Instr.typeAssert (.iface 112 x) 37 56 true).run Tryz.prog w = .ok (.tuple #[.agg #[.bool false, .slice none 0 0], .bool false]) w := by kernel_rfl
theorem as15_6 (x : Value) (w : World) : (Instr.typeAssert (.iface 112 x) 37 101 true).run Tryz.prog w = .ok (.tuple #[.agg #[.string ⟨#[]⟩, .nilIface], .bool false]) w := by kernel_rfl
theorem as15_8 (x : Value) (w : World) : (Instr.typeAssert (.iface 112 x) 37 60 true).run Tryz.prog w = .ok (.tuple #[.agg #[.slice none 0 0, .nilIface], .bool false]) w := by kernel_rfl
theorem as15_9 (x : Value) (w : World) : (Instr.typeAssert (.iface 112 x) 37 104 true).run Tryz.prog w = .ok (.tuple #[.agg #[.nilIface, .nilIface], .bool false]) w := by kernel_rfl
theorem as15_10 (x : Value) (w : World) : (Instr.typeAssert (.iface 112 x) 37 106 true).run Tryz.prog w = .ok (.tuple #[.agg #[.nilIface, .nilIface], .bool false]) w := by kernel_rfl
theorem as15_11 (x : Value) (w : World) : (Instr.typeAssert (.iface 112 x) 37 108 true).run Tryz.prog w = .ok (.tuple #[.agg #[.nilIface, .nilIface], .bool false]) w := by kernel_rfl
theorem as15_12 (x : Value) (w : World) : (Instr.typeAssert (.iface 112 x) 37 110 true).run Tryz.prog w = .ok (.tuple #[.agg #[.nilIface, .nilIface, .nilIface], .bool false]) w := by kernel_rfl
theorem as15_13 (x : Value) (w : World) : (Instr.typeAssert (.iface 112 x) 37 62 true).run Tryz.prog w = .ok (.tuple #[.agg #[.string ⟨#[]⟩, .nilIface], .bool false]) w := by kernel_rfl
theorem as15_14 (x : Value) (w : World) : (Instr.typeAssert (.iface 112 x) 37 65 true).run Tryz.prog w = .ok (.tuple #[.agg #[.slice none 0 0, .bool false, .nilIface], .bool false]) w := by kernel_rfl
theorem as15_15 (x : Value) (w : World) : (Instr.typeAssert (.iface 112 x) 37 112 true).run Tryz.prog w = .ok (.tuple #[x, .bool true]) w := by kernel_rfl
theorem as15_3 (x : Value) (w : World) : (Instr.typeAssert (.iface 112 x) 37 51 true).run Tryz.prog w = .ok (.tuple #[.agg #[.string ⟨#[]⟩], .bool false]) w := by kernel_rfl
theorem as15_7 (x : Value) (w : World) : (Instr.typeAssert (.iface 112 x) 37 53 true).run Tryz.prog w = .ok (.tuple #[.agg #[.string ⟨#[]⟩], .bool false]) w := by kernel_rfl
theorem as16_4 (x : Value) (w : World) : (Instr.typeAssert (.iface 115 x) 37 99 true).run Tryz.prog w = .ok (.tuple #[.agg #[.slice none 0 0], .bool false]) w := by kernel_rfl
theorem as16_5 (x : Value) (w : World) : (Instr.typeAssert (.iface 115 x) 37 56 true).run Tryz.prog w = .ok (.tuple #[.agg #[.bool false, .slice none 0 0], .bool false]) w := by kernel_rfl
theorem as16_6 (x : Value) (w : World) : (Instr.typeAssert (.iface 115 x) 37 101 true).run Tryz.prog w = .ok (.tuple #[.agg #[.string ⟨#[]⟩, .nilIface], .bool false]) w := by kernel_rfl
theorem as16_8 (x : Value) (w : World) : (Instr.typeAssert (.iface 115 x) 37 60 true).run Tryz.prog w = .ok (.tuple #[.agg #[.slice none 0 0, .nilIface], .bool false]) w := by kernel_rfl
theorem as16_9 (x : Value) (w : World) : (Instr.typeAssert (.iface 115 x) 37 104 true).run Tryz.prog w = .ok (.tuple #[.agg #[.nilIface, .nilIface], .bool false]) w := by kernel_rfl
theorem as16_10 (x : Value) (w : World) : (Instr.typeAssert (.iface 115 x) 37 106 true).run Tryz.prog w = .ok (.tuple #[.agg #[.nilIface, .nilIface], .bool false]) w := by kernel_rfl
theorem as16_11 (x : Value) (w : World) : (Instr.typeAssert (.iface 115 x) 37 108 true).run Tryz.prog w = .ok (.tuple #[.agg #[.nilIface, .nilIface], .bool false]) w := by kernel_rfl
theorem as16_12 (x : Value) (w : World) : (Instr.typeAssert (.iface 115 x) 37 110 true).run Tryz.prog w = .ok (.tuple #[.agg #[.nilIface, .nilIface, .nilIface], .bool false]) w := by kernel_rfl
theorem as16_13 (x : Value) (w : World) : (Instr.typeAssert (.iface 115 x) 37 62 true).run Tryz.prog w = .ok (.tuple #[.agg #[.string ⟨#[]⟩, .nilIface], .bool false]) w := by kernel_rfl
theorem as16_14 (x : Value) (w : World) : (Instr.typeAssert (.iface 115 x) 37 65 true).run Tryz.prog w = .ok (.tuple #[.agg #[.slice none 0 0, .bool false, .nilIface], .bool false]) w := by kernel_rfl
theorem as16_15 (x : Value) (w : World) : (Instr.typeAssert (.iface 115 x) 37 112 true).run Tryz.prog w = .ok (.tuple #[.agg #[.string ⟨#[]⟩, .nilIface], .bool false]) w := by kernel_rfl
theorem as16_16 (x : Value) (w : World) : (Instr.typeAssert (.iface 115 x) 37 115 true).run Tryz.prog w = .ok (.tuple #[x, .bool true]) w := by kernel_rfl
theorem as16_3 (x : Value) (w : World) : (Instr.typeAssert (.iface 115 x) 37 51 true).run Tryz.prog w = .ok (.tuple #[.agg #[.string ⟨#[]⟩], .bool false]) w := by kernel_rfl
theorem as16_7 (x : Value) (w : World) : (Instr.typeAssert (.iface 115 x) 37 53 true).run Tryz.prog w = .ok (.tuple #[.agg #[.string ⟨#[]⟩], .bool false]) w := by kernel_rfl
theorem as17_4 (x : Value) (w : World) : (Instr.typeAssert (.iface 117 x) 37 99 true).run Tryz.prog w = .ok (.tuple #[.agg #[.slice none 0 0], .bool false]) w := by kernel_rfl
theorem as17_5 (x : Value) (w : World) : (Instr.typeAssert (.iface 117 x) 37 56 true).run Tryz.prog w = .ok (.tuple #[.agg #[.bool false, .slice none 0 0], .bool false]) w := by kernel_rfl
theorem as17_6 (x : Value) (w : World) : (Instr.typeAssert (.iface 117 x) 37 101 true).run Tryz.prog w = .ok (.tuple #[.agg #[.string ⟨#[]⟩, .nilIface], .bool false]) w := by kernel_rfl
theorem as17_8 (x : Value) (w : World) : (Instr.typeAssert (.iface 117 x) 37 60 true).run Tryz.prog w = .ok (.tuple #[.agg #[.slice none 0 0, .nilIface], .bool false]) w := by kernel_rfl
theorem as17_9 (x : Value) (w : World) : (Instr.typeAssert (.iface 117 x) 37 104 true).run Tryz.prog w = .ok (.tuple #[.agg #[.nilIface, .nilIface], .bool false]) w := by kernel_rfl
theorem as17_10 (x : Value) (w : World) : (Instr.typeAssert (.iface 117 x) 37 106 true).run Tryz.prog w = .ok (.tuple #[.agg #[.nilIface, .nilIface], .bool false]) w := by kernel_rfl
theorem as17_11 (x : Value) (w : World) : (Instr.typeAssert (.iface 117 x) 37 108 true).run Tryz.prog w = .ok (.tuple #[.agg #[.nilIface, .nilIface], .bool false]) w := by kernel_rfl
theorem as17_12 (x : Value) (w : World) : (Instr.typeAssert (.iface 117 x) 37 110 true).run Tryz.prog w = .ok (.tuple #[.agg #[.nilIface, .nilIface, .nilIface], .bool false]) w := by kernel_rfl
theorem as17_13 (x : Value) (w : World) : (Instr.typeAssert (.iface 117 x) 37 62 true).run Tryz.prog w = .ok (.tuple #[.agg #[.string ⟨#[]⟩, .nilIface], .bool false]) w := by kernel_rfl
theorem as17_14 (x : Value) (w : World) : (Instr.typeAssert (.iface 117 x) 37 65 true).run Tryz.prog w = .ok (.tuple #[.agg #[.slice none 0 0, .bool false, .nilIface], .bool false]) w := by kernel_rfl
theorem as17_15 (x : Value) (w : World) : (Instr.typeAssert (.iface 117 x) 37 112 true).run Tryz.prog w = .ok (.tuple #[.agg #[.string ⟨#[]⟩, .nilIface], .bool false]) w := by kernel_rfl
theorem as17_16 (x : Value) (w : World) : (Instr.typeAssert (.iface 117 x) 37 115 true).run Tryz.prog w = .ok (.tuple #[.agg #[.nilIface, .string ⟨#[]⟩, .nilIface], .bool false]) w := by kernel_rfl
theorem as17_17 (x : Value) (w : World) : (Instr.typeAssert (.iface 117 x) 37 117 true).run Tryz.prog w = .ok (.tuple #[x, .bool true]) w := by kernel_rfl
theorem as17_3 (x : Value) (w : World) : (Instr.typeAssert (.iface 117 x) 37 51 true).run Tryz.prog w = .ok (.tuple #[.agg #[.string ⟨#[]⟩], .bool false]) w := by kernel_rfl
theorem as17_7 (x : Value) (w : World) : (Instr.typeAssert (.iface 117 x) 37 53 true).run Tryz.prog w = .ok (.tuple #[.agg #[.string ⟨#[]⟩], .bool false]) w := by kernel_rfl
theorem as18_4 (x : Value) (w : World) : (Instr.typeAssert (.iface 119 x) 37 99 true).run Tryz.prog w = .ok (.tuple #[.agg #[.slice none 0 0], .bool false]) w := by kernel_rfl
theorem as18_5 (x : Value) (w : World) : (Instr.typeAssert (.iface 119 x) 37 56 true).run Tryz.prog w = .ok (.tuple #[.agg #[.bool false, .slice none 0 0], .bool false]) w := by kernel_rfl
theorem as18_6 (x : Value) (w : World) : (Instr.typeAssert (.iface 119 x) 37 101 true).run Tryz.prog w = .ok (.tuple #[.agg #[.string ⟨#[]⟩, .nilIface], .bool false]) w := by kernel_rfl
theorem as18_8 (x : Value) (w : World) : (Instr.typeAssert (.iface 119 x) 37 60 true).run Tryz.prog w = .ok (.tuple #[.agg #[.slice none 0 0, .nilIface], .bool false]) w := by kernel_rfl
theorem as18_9 (x : Value) (w : World) : (Instr.typeAssert (.iface 119 x) 37 104 true).run Tryz.prog w = .ok (.tuple #[.agg #[.nilIface, .nilIface], .bool false]) w := by kernel_rfl
theorem as18_10 (x : Value) (w : World) : (Instr.typeAssert (.iface 119 x) 37 106 true).run Tryz.prog w = .ok (.tuple #[.agg #[.nilIface, .nilIface], .bool false]) w := by kernel_rfl
theorem as18_11 (x : Value) (w : World) : (Instr.typeAssert (.iface 119 x) 37 108 true).run Tryz.prog w = .ok (.tuple #[.agg #[.nilIface, .nilIface], .bool false]) w := by kernel_rfl
theorem as18_12 (x : Value) (w : World) : (Instr.typeAssert (.iface 119 x) 37 110 true).run Tryz.prog w = .ok (.tuple #[.agg #[.nilIface, .nilIface, .nilIface], .bool false]) w := by kernel_rfl
theorem as18_13 (x : Value) (w : World) : (Instr.typeAssert (.iface 119 x) 37 62 true).run Tryz.prog w = .ok (.tuple #[.agg #[.string ⟨#[]⟩, .nilIface], .bool false]) w := by kernel_rfl
theorem as18_14 (x : Value) (w : World) : (Instr.typeAssert (.iface 119 x) 37 65 true).run Tryz.prog w = .ok (.tuple #[.agg #[.slice none 0 0, .bool false, .nilIface], .bool false]) w := by kernel_rfl
theorem as18_15 (x : Value) (w : World) : (Instr.typeAssert (.iface 119 x) 37 112 true).run Tryz.prog w = .ok (.tuple #[.agg #[.string ⟨#[]⟩, .nilIface], .bool false]) w := by kernel_rfl
theorem as18_16 (x : Value) (w : World) : (Instr.typeAssert (.iface 119 x) 37 115 true).run Tryz.prog w = .ok (.tuple #[.agg #[.nilIface, .string ⟨#[]⟩, .nilIface], .bool false]) w := by kernel_rfl
theorem as18_17 (x : Value) (w : World) : (Instr.typeAssert (.iface 119 x) 37 117 true).run Tryz.prog w = .ok (.tuple #[.agg #[.nilIface, .string ⟨#[]⟩], .bool false]) w := by kernel_rfl
theorem as18_18 (x : Value) (w : World) : (Instr.typeAssert (.iface 119 x) 37 119 true).run Tryz.prog w = .ok (.tuple #[x, .bool true]) w := by kernel_rfl
theorem as18_3 (x : Value) (w : World) : (Instr.typeAssert (.iface 119 x) 37 51 true).run Tryz.prog w = .ok (.tuple #[.agg #[.string ⟨#[]⟩], .bool false]) w := by kernel_rfl
theorem as18_7 (x : Value) (w : World) : (Instr.typeAssert (.iface 119 x) 37 53 true).run Tryz.prog w = .ok (.tuple #[.agg #[.string ⟨#[]⟩], .bool false]) w := by kernel_rfl
theorem as19_4 (x : Value) (w : World) : (Instr.typeAssert (.iface 121 x) 37 99 true).run Tryz.prog w = .ok (.tuple #[.agg #[.slice none 0 0], .bool false]) w := by kernel_rfl
theorem as19_5 (x : Value) (w : World) : (Instr.typeAssert (.iface 121 x) 37 56 true).run Tryz.prog w = .ok (.tuple #[.agg #[.bool false, .slice none 0 0], .bool false]) w := by kernel_rfl
theorem as19_6 (x : Value) (w : World) : (Instr.typeAssert (.iface 121 x) 37 101 true).run Tryz.prog w = .ok (.tuple #[.agg #[.string ⟨#[]⟩, .nilIface], .bool false]) w := by kernel_rfl
theorem as19_8 (x : Value) (w : World) : (Instr.typeAssert (.iface 121 x) 37 60 true).run Tryz.prog w = .ok (.tuple #[.agg #[.slice none 0 0, .nilIface], .bool false]) w := by kernel_rfl
theorem as19_9 (x : Value) (w : World) : (Instr.typeAssert (.iface 121 x) 37 104 true).run Tryz.prog w = .ok (.tuple #[.agg #[.nilIface, .nilIface], .bool false]) w := by kernel_rfl
theorem as19_10 (x : Value) (w : World) : (Instr.typeAssert (.iface 121 x) 37 106 true).run Tryz.prog w = .ok (.tuple #[.agg #[.nilIface, .nilIface], .bool false]) w := by kernel_rfl
theorem as19_11 (x : Value) (w : World) : (Instr.typeAssert (.iface 121 x) 37 108 true).run Tryz.prog w = .ok (.tuple #[.agg #[.nilIface, .nilIface], .bool false]) w := by kernel_rfl
theorem as19_12 (x : Value) (w : World) : (Instr.typeAssert (.iface 121 x) 37 110 true).run Tryz.prog w = .ok (.tuple #[.agg #[.nilIface, .nilIface, .nilIface], .bool false]) w := by kernel_rfl
theorem as19_13 (x : Value) (w : World) : (Instr.typeAssert (.iface 121 x) 37 62 true).run Tryz.prog w = .ok (.tuple #[.agg #[.string ⟨#[]⟩, .nilIface], .bool false]) w := by kernel_rfl
theorem as19_14 (x : Value) (w : World) : (Instr.typeAssert (.iface 121 x) 37 65 true).run Tryz.prog w = .ok (.tuple #[.agg #[.slice none 0 0, .bool false, .nilIface], .bool false]) w := by kernel_rfl
theorem as19_15 (x : Value) (w : World) : (Instr.typeAssert (.iface 121 x) 37 112 true).run Tryz.prog w = .ok (.tuple #[.agg #[.string ⟨#[]⟩, .nilIface], .bool false]) w := by kernel_rfl
theorem as19_16 (x : Value) (w : World) : (Instr.typeAssert (.iface 121 x) 37 115 true).run Tryz.prog w = .ok (.tuple #[.agg #[.nilIface, .string ⟨#[]⟩, .nilIface], .bool false]) w := by kernel_rfl
theorem as19_17 (x : Value) (w : World) : (Instr.typeAssert (.iface 121 x) 37 117 true).run Tryz.prog w = .ok (.tuple #[.agg #[.nilIface, .string ⟨#[]⟩], .bool false]) w := by kernel_rfl
theorem as19_18 (x : Value) (w : World) : (Instr.typeAssert (.iface 121 x) 37 119 true).run Tryz.prog w = .ok (.tuple #[.agg #[.string ⟨#[]⟩, .nilIface, .nilIface], .bool false]) w := by kernel_rfl
theorem as19_19 (x : Value) (w : World) : (Instr.typeAssert (.iface 121 x) 37 121 true).run Tryz.prog w = .ok (.tuple #[x, .bool true]) w := by kernel_rfl
theorem as19_3 (x : Value) (w : World) : (Instr.typeAssert (.iface 121 x) 37 51 true).run Tryz.prog w = .ok (.tuple #[.agg #[.string ⟨#[]⟩], .bool false]) w := by kernel_rfl
theorem as19_7 (x : Value) (w : World) : (Instr.typeAssert (.iface 121 x) 37 53 true).run Tryz.prog w = .ok (.tuple #[.agg #[.string ⟨#[]⟩], .bool false]) w := by kernel_rfl
theorem as20_4 (x : Value) (w : World) : (Instr.typeAssert (.iface 122 x) 37 99 true).run Tryz.prog w = .ok (.tuple #[.agg #[.slice none 0 0], .bool false]) w := by kernel_rfl
theorem as20_5 (x : Value) (w : World) : (Instr.typeAssert (.iface 122 x) 37 56 true).run Tryz.prog w = .ok (.tuple #[.agg #[.bool false, .slice none 0 0], .bool false]) w := by kernel_rfl
theorem as20_6 (x : Value) (w : World) : (Instr.typeAssert (.iface 122 x) 37 101 true).run Tryz.prog w = .ok (.tuple #[.agg #[.string ⟨#[]⟩, .nilIface], .bool false]) w := by kernel_rfl
theorem as20_8 (x : Value) (w : World) : (Instr.typeAssert (.iface 122 x) 37 60 true).run Tryz.prog w = .ok (.tuple #[.agg #[.slice none 0 0, .nilIface], .bool false]) w := by kernel_rfl
theorem as20_9 (x : Value) (w : World) : (Instr.typeAssert (.iface 122 x) 37 104 true).run Tryz.prog w = .ok (.tuple #[.agg #[.nilIface, .nilIface], .bool false]) w := by kernel_rfl
theorem as20_10 (x : Value) (w : World) : (Instr.typeAssert (.iface 122 x) 37 106 true).run Tryz.prog w = .ok (.tuple #[.agg #[.nilIface, .nilIface], .bool false]) w := by kernel_rfl
theorem as20_11 (x : Value) (w : World) : (Instr.typeAssert (.iface 122 x) 37 108 true).run Tryz.prog w = .ok (.tuple #[.agg #[.nilIface, .nilIface], .bool false]) w := by kernel_rfl
theorem as20_12 (x : Value) (w : World) : (Instr.typeAssert (.iface 122 x) 37 110 true).run Tryz.prog w = .ok (.tuple #[.agg #[.nilIface, .nilIface, .nilIface], .bool false]) w := by kernel_rfl
theorem as20_13 (x : Value) (w : World) : (Instr.typeAssert (.iface 122 x) 37 62 true).run Tryz.prog w = .ok (.tuple #[.agg #[.string ⟨#[]⟩, .nilIface], .bool false]) w := by kernel_rfl
theorem as20_14 (x : Value) (w : World) : (Instr.typeAssert (.iface 122 x) 37 65 true).run Tryz.prog w = .ok (.tuple #[.agg #[.slice none 0 0, .bool false, .nilIface], .bool false]) w := by kernel_rfl
theorem as20_15 (x : Value) (w : World) : (Instr.typeAssert (.iface 122 x) 37 112 true).run Tryz.prog w = .ok (.tuple #[.agg #[.string ⟨#[]⟩, .nilIface], .bool false]) w := by kernel_rfl
theorem as20_16 (x : Value) (w : World) : (Instr.typeAssert (.iface 122 x) 37 115 true).run Tryz.prog w = .ok (.tuple #[.agg #[.nilIface, .string ⟨#[]⟩, .nilIface], .bool false]) w := by kernel_rfl
theorem as20_17 (x : Value) (w : World) : (Instr.typeAssert (.iface 122 x) 37 117 true).run Tryz.prog w = .ok (.tuple #[.agg #[.nilIface, .string ⟨#[]⟩], .bool false]) w := by kernel_rfl
theorem as20_18 (x : Value) (w : World) : (Instr.typeAssert (.iface 122 x) 37 119 true).run Tryz.prog w = .ok (.tuple #[.agg #[.string ⟨#[]⟩, .nilIface, .nilIface], .bool false]) w := by kernel_rfl
theorem as20_19 (x : Value) (w : World) : (Instr.typeAssert (.iface 122 x) 37 121 true).run Tryz.prog w = .ok (.tuple #[.agg #[.nilIface], .bool false]) w := by kernel_rfl
theorem as20_20 (x : Value) (w : World) : (Instr.typeAssert (.iface 122 x) 37 122 true).run Tryz.prog w = .ok (.tuple #[x, .bool true]) w := by kernel_rfl
theorem as20_3 (x : Value) (w : World) : (Instr.typeAssert (.iface 122 x) 37 51 true).run Tryz.prog w = .ok (.tuple #[.agg #[.string ⟨#[]⟩], .bool false]) w := by kernel_rfl
theorem as20_7 (x : Value) (w : World) : (Instr.typeAssert (.iface 122 x) 37 53 true).run Tryz.prog w = .ok (.tuple #[.agg #[.string ⟨#[]⟩], .bool false]) w := by kernel_rfl

/-- Blocks that are old or new since. -/
def On (O : Nat → Prop) (A : Nat) (w' : World) (bb : Nat) : Prop := O bb ∨ (A ≤ bb ∧ bb < w'.heap.size)

theorem ps_new (w : World) (O : Nat → Prop) (A : Nat) (hA : A ≤ w.heap.size) (vs : List Value) : PsO (w.alloc (.cells vs.toArray 37)) (On O A (w.alloc (.cells vs.toArray 37))) (some ⟨w.heap.size, 0, none⟩) vs := by
  refine ⟨w.heap.size, 0, .inr ⟨rfl, .inr ⟨hA, by simp⟩⟩, fun i x hx => ?_⟩
  rw [Nat.zero_add, World.cell?_alloc_new]
  simpa using hx

/-- Those of some values that are there. -/
def there : List Value → List Value
  | [] => []
  | .nilIface :: r => there r
  | v :: r => v :: there r
def nilOr (v : Value) : Prop := v = .nilIface ∨ ∃ T x, v = .iface T x

theorem there_snoc : ∀ (us : List Value) (v : Value), there (us ++ [v]) = there us ++ there [v]
  | [], v => by simp [there]
  | u :: r, v => by
    have := there_snoc r v
    cases u <;> simp [there, this]
theorem there_len : ∀ (us : List Value), (there us).length ≤ us.length
  | [] => by simp [there]
  | u :: r => by
    have := there_len r
    cases u <;> simp [there] <;> omega

set_option maxHeartbeats 1000000 in
theorem there_any (us : List Value) (bb off cap : Nat) (w : World) (hb : bb < w.heap.size) (hc : ∀ i x, us[i]? = some x → w.cell? ⟨bb, off + i, none⟩ = some x) (hn : ∀ u ∈ us, nilOr u) (hl : us.length ≤ 1000) :
    Calls Tryz.prog 51 #[.slice (some ⟨bb, off, none⟩) us.length cap] w fun e w' => ∃ v, e = .returned v ∧ w'.ownsRow w.heap.size 37 1 v (there us).length (there us) ∧ Below w.heap.size w w' := by
  have HC : Hid (∀ i x, us[i]? = some x → w.cell? ⟨bb, off + i, none⟩ = some x) := hc
  have HN : Hid (∀ u ∈ us, nilOr u) := hn
  clear hc hn
  go_enter Tryz.func51, Tryz.ntmps51
  go_wp2
  go_loopw [3, 5, 9] (fun v _ x wr => ∃ (i : Nat), i ≤ us.length ∧ x = .int .i64 (i : Int) ∧ wr.ownsRow w.heap.size 37 1 v (there (us.take i)).length (there (us.take i)) ∧ Below w.heap.size w wr) (fun _ _ x _ => us.length - (intOf x).toNat)
  case atStart => exact ⟨0, Nat.zero_le _, rfl, own_none w _, (Below.refl _ _).alloc (Nat.le_refl _) _⟩
  case round =>
    obtain ⟨i, hi, rfl, hown, hbel⟩ := hrel
    have hszb := hbel.size
    by_cases h : i < us.length
    · have h' : (i : Int) < (us.length : Int) := by omega
      have ci : wr.cell? ⟨bb, off + i, none⟩ = some us[i] := (hbel.cell (p := ⟨bb, _, none⟩) hb).trans (HC.out i _ (by simp))
      have hu := HN.out _ (List.getElem_mem h)
      have HT : Hid (there (us.take (i + 1)) = there (us.take i) ++ there [us[i]]) := by show _ = _; rw [List.take_succ_eq_append_getElem h, there_snoc]
      have hil : (there (us.take i)).length ≤ 1000 := by have := there_len (us.take i); rw [List.length_take] at this; omega
      generalize us[i] = u at ci hu HT
      rcases hu with rfl | ⟨T, p, rfl⟩
      · have HO : Hid (wr.ownsRow w.heap.size 37 1 u3 (there (us.take (i + 1))).length (there (us.take (i + 1)))) := by show World.ownsRow _ _ _ _ _ _ _; rw [HT.out]; simpa [there] using hown
        clear hown
        go_wp2
        go_roundw
        case rel => exact ⟨i + 1, by omega, by go_num, HO.out, hbel⟩
        case measure => simp [intOf]; omega
      · go_wp2_with (first
          | (at_builtin; refine app_own _ rfl _ _ 54 rfl w.heap.size 37 .nilIface 16 Tryz.underlying54 infoN rfl _ _ _ rfl (hown.alloc _) ⟨wr.heap.size, 0, none⟩ 1 1 [.iface T p] rfl rfl (one_new _ _ _) ?c1 ?c2 ?c3 ?c4 ?_)
          | go_in)
        case c1 => first | rfl | (intro u hu; simp at hu; subst hu; rfl)
        case c2 => unfold maxLen; omega
        case c3 => omega
        case c4 => simp; omega
        intro v' w' hown' hg
        have hb' := below_grown (hbel.alloc hszb _) (hown.alloc _) hg (by simp; omega)
        have HO : Hid (w'.ownsRow w.heap.size 37 1 v' (there (us.take (i + 1))).length (there (us.take (i + 1)))) := by show World.ownsRow _ _ _ _ _ _ _; rw [HT.out]; simpa [there] using hown'
        clear hown hown' hg
        go_wp2
        go_roundw
        case rel => exact ⟨i + 1, by omega, by go_num, HO.out, hb'⟩
        case measure => simp [intOf]; omega
    · have h' : ¬ (i : Int) < (us.length : Int) := by omega
      obtain rfl : i = us.length := by omega
      rw [List.take_length] at hown
      have HO : Hid (wr.ownsRow w.heap.size 37 1 u3 (there us).length (there us)) := hown
      clear hown
      go_wp2
      go_ret
      exact ⟨_, rfl, HO.out, hbel⟩

/-- What partsOf says. -/
def PtS (w : World) (O : Nat → Prop) (vs : List Value) (v : Value) : Prop := Calls Tryz.prog 28 #[v] w fun e w' => ∃ ap cp, e = .returned (.slice ap vs.length cp) ∧ PsO w' (On O w.heap.size w') ap vs ∧ Below w.heap.size w w'

theorem own_ps {w w' : World} {O : Nat → Prop} {A n : Nat} {v : Value} {vs : List Value} (hA : w.heap.size ≤ A) (h : w'.ownsRow A 37 1 v n vs) (hn : vs.length = n) : ∃ ap cp, v = .slice ap vs.length cp ∧ PsO w' (On O w.heap.size w') ap vs := by
  obtain ⟨_, ap, cp, rfl, _, _, hp⟩ := PsO.own h
  subst hn
  exact ⟨ap, cp, rfl, hp.mono fun bb hbb => .inr ⟨Nat.le_trans hA hbb.1, hbb.2⟩⟩

set_option maxRecDepth 100000 in
theorem parts6 (t : ByteArray) (T0 : TypeId) (p0 : Value) (w : World) (O : Nat → Prop) : PtS w O [.iface T0 p0] (.iface 101 (.agg #[.string t, .iface T0 p0])) := by
  unfold PtS
  have h4 := as6_4
  have h5 := as6_5
  have h6 := as6_6
  go_enter Tryz.func28, Tryz.ntmps28
  go_wp2
  go_ret
  exact ⟨_, _, rfl, by have := ps_new (w.alloc (.cells #[.string t, .iface T0 p0] 101)) O w.heap.size (by simp) [.iface T0 p0]; simpa using this, two_bel _ _ _⟩

set_option maxRecDepth 100000 in
theorem parts9 (t : ByteArray) (T0 : TypeId) (p0 : Value) (T1 : TypeId) (p1 : Value) (w : World) (O : Nat → Prop) : PtS w O [.iface T0 p0, .iface T1 p1] (.iface 104 (.agg #[.iface T0 p0, .iface T1 p1])) := by
  unfold PtS
  have h4 := as9_4
  have h5 := as9_5
  have h6 := as9_6
  have h8 := as9_8
  have h9 := as9_9
  go_enter Tryz.func28, Tryz.ntmps28
  go_wp2
  go_ret
  exact ⟨_, _, rfl, by have := ps_new (w.alloc (.cells #[.iface T0 p0, .iface T1 p1] 104)) O w.heap.size (by simp) [.iface T0 p0, .iface T1 p1]; simpa using this, two_bel _ _ _⟩

set_option maxRecDepth 100000 in
theorem parts10 (t : ByteArray) (T0 : TypeId) (p0 : Value) (T1 : TypeId) (p1 : Value) (w : World) (O : Nat → Prop) : PtS w O [.iface T0 p0, .iface T1 p1] (.iface 106 (.agg #[.iface T0 p0, .iface T1 p1])) := by
  unfold PtS
  have h4 := as10_4
  have h5 := as10_5
  have h6 := as10_6
  have h8 := as10_8
  have h9 := as10_9
  have h10 := as10_10
  go_enter Tryz.func28, Tryz.ntmps28
  go_wp2
  go_ret
  exact ⟨_, _, rfl, by have := ps_new (w.alloc (.cells #[.iface T0 p0, .iface T1 p1] 106)) O w.heap.size (by simp) [.iface T0 p0, .iface T1 p1]; simpa using this, two_bel _ _ _⟩

set_option maxRecDepth 100000 in
theorem parts11 (t : ByteArray) (T0 : TypeId) (p0 : Value) (T1 : TypeId) (p1 : Value) (w : World) (O : Nat → Prop) : PtS w O [.iface T0 p0, .iface T1 p1] (.iface 108 (.agg #[.iface T0 p0, .iface T1 p1])) := by
  unfold PtS
  have h4 := as11_4
  have h5 := as11_5
  have h6 := as11_6
  have h8 := as11_8
  have h9 := as11_9
  have h10 := as11_10
  have h11 := as11_11
  go_enter Tryz.func28, Tryz.ntmps28
  go_wp2
  go_ret
  exact ⟨_, _, rfl, by have := ps_new (w.alloc (.cells #[.iface T0 p0, .iface T1 p1] 108)) O w.heap.size (by simp) [.iface T0 p0, .iface T1 p1]; simpa using this, two_bel _ _ _⟩

set_option maxRecDepth 100000 in
theorem parts12 (t : ByteArray) (T0 : TypeId) (p0 : Value) (T1 : TypeId) (p1 : Value) (T2 : TypeId) (p2 : Value) (w : World) (O : Nat → Prop) : PtS w O [.iface T0 p0, .iface T1 p1, .iface T2 p2] (.iface 110 (.agg #[.iface T0 p0, .iface T1 p1, .iface T2 p2])) := by
  unfold PtS
  have h4 := as12_4
  have h5 := as12_5
  have h6 := as12_6
  have h8 := as12_8
  have h9 := as12_9
  have h10 := as12_10
  have h11 := as12_11
  have h12 := as12_12
  go_enter Tryz.func28, Tryz.ntmps28
  go_wp2
  go_ret
  exact ⟨_, _, rfl, by have := ps_new (w.alloc (.cells #[.iface T0 p0, .iface T1 p1, .iface T2 p2] 110)) O w.heap.size (by simp) [.iface T0 p0, .iface T1 p1, .iface T2 p2]; simpa using this, two_bel _ _ _⟩

set_option maxRecDepth 100000 in
theorem parts17 (t : ByteArray) (T0 : TypeId) (p0 : Value) (w : World) (O : Nat → Prop) : PtS w O [.iface T0 p0] (.iface 117 (.agg #[.iface T0 p0, .string t])) := by
  unfold PtS
  have h4 := as17_4
  have h5 := as17_5
  have h6 := as17_6
  have h8 := as17_8
  have h9 := as17_9
  have h10 := as17_10
  have h11 := as17_11
  have h12 := as17_12
  have h13 := as17_13
  have h14 := as17_14
  have h15 := as17_15
  have h16 := as17_16
  have h17 := as17_17
  go_enter Tryz.func28, Tryz.ntmps28
  go_wp2
  go_ret
  exact ⟨_, _, rfl, by have := ps_new (w.alloc (.cells #[.iface T0 p0, .string t] 117)) O w.heap.size (by simp) [.iface T0 p0]; simpa using this, two_bel _ _ _⟩

set_option maxRecDepth 100000 in
theorem parts18 (t : ByteArray) (T0 : TypeId) (p0 : Value) (T1 : TypeId) (p1 : Value) (w : World) (O : Nat → Prop) : PtS w O [.iface T0 p0, .iface T1 p1] (.iface 119 (.agg #[.string t, .iface T0 p0, .iface T1 p1])) := by
  unfold PtS
  have h4 := as18_4
  have h5 := as18_5
  have h6 := as18_6
  have h8 := as18_8
  have h9 := as18_9
  have h10 := as18_10
  have h11 := as18_11
  have h12 := as18_12
  have h13 := as18_13
  have h14 := as18_14
  have h15 := as18_15
  have h16 := as18_16
  have h17 := as18_17
  have h18 := as18_18
  go_enter Tryz.func28, Tryz.ntmps28
  go_wp2
  go_ret
  exact ⟨_, _, rfl, by have := ps_new (w.alloc (.cells #[.string t, .iface T0 p0, .iface T1 p1] 119)) O w.heap.size (by simp) [.iface T0 p0, .iface T1 p1]; simpa using this, two_bel _ _ _⟩

set_option maxRecDepth 100000 in
theorem parts19 (t : ByteArray) (T0 : TypeId) (p0 : Value) (w : World) (O : Nat → Prop) : PtS w O [.iface T0 p0] (.iface 121 (.agg #[.iface T0 p0])) := by
  unfold PtS
  have h4 := as19_4
  have h5 := as19_5
  have h6 := as19_6
  have h8 := as19_8
  have h9 := as19_9
  have h10 := as19_10
  have h11 := as19_11
  have h12 := as19_12
  have h13 := as19_13
  have h14 := as19_14
  have h15 := as19_15
  have h16 := as19_16
  have h17 := as19_17
  have h18 := as19_18
  have h19 := as19_19
  go_enter Tryz.func28, Tryz.ntmps28
  go_wp2
  go_ret
  exact ⟨_, _, rfl, by have := ps_new (w.alloc (.cells #[.iface T0 p0] 121)) O w.heap.size (by simp) [.iface T0 p0]; simpa using this, two_bel _ _ _⟩

set_option maxRecDepth 100000 in
theorem parts20 (t : ByteArray) (T0 : TypeId) (p0 : Value) (w : World) (O : Nat → Prop) : PtS w O [.iface T0 p0] (.iface 122 (.agg #[.iface T0 p0])) := by
  unfold PtS
  have h4 := as20_4
  have h5 := as20_5
  have h6 := as20_6
  have h8 := as20_8
  have h9 := as20_9
  have h10 := as20_10
  have h11 := as20_11
  have h12 := as20_12
  have h13 := as20_13
  have h14 := as20_14
  have h15 := as20_15
  have h16 := as20_16
  have h17 := as20_17
  have h18 := as20_18
  have h19 := as20_19
  have h20 := as20_20
  go_enter Tryz.func28, Tryz.ntmps28
  go_wp2
  go_ret
  exact ⟨_, _, rfl, by have := ps_new (w.alloc (.cells #[.iface T0 p0] 122)) O w.heap.size (by simp) [.iface T0 p0]; simpa using this, two_bel _ _ _⟩

set_option maxRecDepth 100000 in
theorem parts15a (t : ByteArray)  (w : World) (O : Nat → Prop) : PtS w O [] (.iface 112 (.agg #[.string t, .nilIface])) := by
  unfold PtS
  have h4 := as15_4
  have h5 := as15_5
  have h6 := as15_6
  have h8 := as15_8
  have h9 := as15_9
  have h10 := as15_10
  have h11 := as15_11
  have h12 := as15_12
  have h13 := as15_13
  have h14 := as15_14
  have h15 := as15_15
  have HT : Hid (Calls Tryz.prog 51 #[.slice (some ⟨w.heap.size + 1, 0, none⟩) 1 1] ((w.alloc (.cells #[.string t, .nilIface] 112)).alloc (.cells #[.nilIface] 37)) fun e w' => ∃ v, e = .returned v ∧ w'.ownsRow (w.heap.size + 2) 37 1 v 0 [] ∧ Below (w.heap.size + 2) ((w.alloc (.cells #[.string t, .nilIface] 112)).alloc (.cells #[.nilIface] 37)) w') := by
    have h := there_any [.nilIface] (w.alloc (.cells #[.string t, .nilIface] 112)).heap.size 0 1 ((w.alloc (.cells #[.string t, .nilIface] 112)).alloc (.cells #[.nilIface] 37)) (by simp) (fun i x hx => by rw [Nat.zero_add, World.cell?_alloc_new]; simpa using hx) (by intro u hu; simp at hu; subst hu; exact .inl rfl) (by simp)
    simp only [World.size_alloc] at h
    exact h
  go_enter Tryz.func28, Tryz.ntmps28
  go_wp2_with (go_at_call 51; refine HT.out.mono ?_; rintro e w1 ⟨v, rfl, ho, hb⟩; have HO : Hid (w1.ownsRow (w.heap.size + 2) 37 1 v 0 []) := ho; clear ho)
  go_ret
  obtain ⟨ap, cp, rfl, hp⟩ := own_ps (w := w) (O := O) (by omega) HO.out rfl
  exact ⟨ap, cp, rfl, hp, (((Below.refl _ w).alloc (Nat.le_refl _) _).alloc (by simp) _).trans (hb.mono (by omega))⟩

set_option maxRecDepth 100000 in
theorem parts15b (t : ByteArray) (T0 : TypeId) (p0 : Value) (w : World) (O : Nat → Prop) : PtS w O [.iface T0 p0] (.iface 112 (.agg #[.string t, .iface T0 p0])) := by
  unfold PtS
  have h4 := as15_4
  have h5 := as15_5
  have h6 := as15_6
  have h8 := as15_8
  have h9 := as15_9
  have h10 := as15_10
  have h11 := as15_11
  have h12 := as15_12
  have h13 := as15_13
  have h14 := as15_14
  have h15 := as15_15
  have HT : Hid (Calls Tryz.prog 51 #[.slice (some ⟨w.heap.size + 1, 0, none⟩) 1 1] ((w.alloc (.cells #[.string t, .iface T0 p0] 112)).alloc (.cells #[.iface T0 p0] 37)) fun e w' => ∃ v, e = .returned v ∧ w'.ownsRow (w.heap.size + 2) 37 1 v 1 [.iface T0 p0] ∧ Below (w.heap.size + 2) ((w.alloc (.cells #[.string t, .iface T0 p0] 112)).alloc (.cells #[.iface T0 p0] 37)) w') := by
    have h := there_any [.iface T0 p0] (w.alloc (.cells #[.string t, .iface T0 p0] 112)).heap.size 0 1 ((w.alloc (.cells #[.string t, .iface T0 p0] 112)).alloc (.cells #[.iface T0 p0] 37)) (by simp) (fun i x hx => by rw [Nat.zero_add, World.cell?_alloc_new]; simpa using hx) (by intro u hu; simp at hu; subst hu; exact .inr ⟨_, _, rfl⟩) (by simp)
    simp only [World.size_alloc] at h
    exact h
  go_enter Tryz.func28, Tryz.ntmps28
  go_wp2_with (go_at_call 51; refine HT.out.mono ?_; rintro e w1 ⟨v, rfl, ho, hb⟩; have HO : Hid (w1.ownsRow (w.heap.size + 2) 37 1 v 1 [.iface T0 p0]) := ho; clear ho)
  go_ret
  obtain ⟨ap, cp, rfl, hp⟩ := own_ps (w := w) (O := O) (by omega) HO.out rfl
  exact ⟨ap, cp, rfl, hp, (((Below.refl _ w).alloc (Nat.le_refl _) _).alloc (by simp) _).trans (hb.mono (by omega))⟩

set_option maxRecDepth 100000 in
theorem parts16a (t : ByteArray) (T0 : TypeId) (p0 : Value) (w : World) (O : Nat → Prop) : PtS w O [.iface T0 p0] (.iface 115 (.agg #[.iface T0 p0, .string t, .nilIface])) := by
  unfold PtS
  have h4 := as16_4
  have h5 := as16_5
  have h6 := as16_6
  have h8 := as16_8
  have h9 := as16_9
  have h10 := as16_10
  have h11 := as16_11
  have h12 := as16_12
  have h13 := as16_13
  have h14 := as16_14
  have h15 := as16_15
  have h16 := as16_16
  have HT : Hid (Calls Tryz.prog 51 #[.slice (some ⟨w.heap.size + 1, 0, none⟩) 2 2] ((w.alloc (.cells #[.iface T0 p0, .string t, .nilIface] 115)).alloc (.cells #[.iface T0 p0, .nilIface] 37)) fun e w' => ∃ v, e = .returned v ∧ w'.ownsRow (w.heap.size + 2) 37 1 v 1 [.iface T0 p0] ∧ Below (w.heap.size + 2) ((w.alloc (.cells #[.iface T0 p0, .string t, .nilIface] 115)).alloc (.cells #[.iface T0 p0, .nilIface] 37)) w') := by
    have h := there_any [.iface T0 p0, .nilIface] (w.alloc (.cells #[.iface T0 p0, .string t, .nilIface] 115)).heap.size 0 2 ((w.alloc (.cells #[.iface T0 p0, .string t, .nilIface] 115)).alloc (.cells #[.iface T0 p0, .nilIface] 37)) (by simp) (fun i x hx => by rw [Nat.zero_add, World.cell?_alloc_new]; simpa using hx) (by intro u hu; simp at hu; rcases hu with rfl | rfl; exact .inr ⟨_, _, rfl⟩; exact .inl rfl) (by simp)
    simp only [World.size_alloc] at h
    exact h
  go_enter Tryz.func28, Tryz.ntmps28
  go_wp2_with (go_at_call 51; refine HT.out.mono ?_; rintro e w1 ⟨v, rfl, ho, hb⟩; have HO : Hid (w1.ownsRow (w.heap.size + 2) 37 1 v 1 [.iface T0 p0]) := ho; clear ho)
  go_ret
  obtain ⟨ap, cp, rfl, hp⟩ := own_ps (w := w) (O := O) (by omega) HO.out rfl
  exact ⟨ap, cp, rfl, hp, (((Below.refl _ w).alloc (Nat.le_refl _) _).alloc (by simp) _).trans (hb.mono (by omega))⟩

set_option maxRecDepth 100000 in
theorem parts16b (t : ByteArray) (T0 : TypeId) (p0 : Value) (T1 : TypeId) (p1 : Value) (w : World) (O : Nat → Prop) : PtS w O [.iface T0 p0, .iface T1 p1] (.iface 115 (.agg #[.iface T0 p0, .string t, .iface T1 p1])) := by
  unfold PtS
  have h4 := as16_4
  have h5 := as16_5
  have h6 := as16_6
  have h8 := as16_8
  have h9 := as16_9
  have h10 := as16_10
  have h11 := as16_11
  have h12 := as16_12
  have h13 := as16_13
  have h14 := as16_14
  have h15 := as16_15
  have h16 := as16_16
  have HT : Hid (Calls Tryz.prog 51 #[.slice (some ⟨w.heap.size + 1, 0, none⟩) 2 2] ((w.alloc (.cells #[.iface T0 p0, .string t, .iface T1 p1] 115)).alloc (.cells #[.iface T0 p0, .iface T1 p1] 37)) fun e w' => ∃ v, e = .returned v ∧ w'.ownsRow (w.heap.size + 2) 37 1 v 2 [.iface T0 p0, .iface T1 p1] ∧ Below (w.heap.size + 2) ((w.alloc (.cells #[.iface T0 p0, .string t, .iface T1 p1] 115)).alloc (.cells #[.iface T0 p0, .iface T1 p1] 37)) w') := by
    have h := there_any [.iface T0 p0, .iface T1 p1] (w.alloc (.cells #[.iface T0 p0, .string t, .iface T1 p1] 115)).heap.size 0 2 ((w.alloc (.cells #[.iface T0 p0, .string t, .iface T1 p1] 115)).alloc (.cells #[.iface T0 p0, .iface T1 p1] 37)) (by simp) (fun i x hx => by rw [Nat.zero_add, World.cell?_alloc_new]; simpa using hx) (by intro u hu; simp at hu; rcases hu with rfl | rfl; exact .inr ⟨_, _, rfl⟩; exact .inr ⟨_, _, rfl⟩) (by simp)
    simp only [World.size_alloc] at h
    exact h
  go_enter Tryz.func28, Tryz.ntmps28
  go_wp2_with (go_at_call 51; refine HT.out.mono ?_; rintro e w1 ⟨v, rfl, ho, hb⟩; have HO : Hid (w1.ownsRow (w.heap.size + 2) 37 1 v 2 [.iface T0 p0, .iface T1 p1]) := ho; clear ho)
  go_ret
  obtain ⟨ap, cp, rfl, hp⟩ := own_ps (w := w) (O := O) (by omega) HO.out rfl
  exact ⟨ap, cp, rfl, hp, (((Below.refl _ w).alloc (Nat.le_refl _) _).alloc (by simp) _).trans (hb.mono (by omega))⟩

set_option maxRecDepth 100000 in
theorem parts1 (t : ByteArray) (n : Int) (w : World) (O : Nat → Prop) : PtS w O [] (.iface 124 (.agg #[.int .i64 n])) := by
  unfold PtS
  have h4 := as1_4
  have h5 := as1_5
  have h6 := as1_6
  have h8 := as1_8
  have h9 := as1_9
  have h10 := as1_10
  have h11 := as1_11
  have h12 := as1_12
  have h13 := as1_13
  have h14 := as1_14
  have h15 := as1_15
  have h16 := as1_16
  have h17 := as1_17
  have h18 := as1_18
  have h19 := as1_19
  have h20 := as1_20
  go_enter Tryz.func28, Tryz.ntmps28
  go_wp2
  go_ret
  exact ⟨_, _, rfl, ⟨0, 0, .inl rfl, fun i x hx => by simp at hx⟩, Below.refl _ _⟩

set_option maxRecDepth 100000 in
theorem parts2 (t : ByteArray) (n : Int) (w : World) (O : Nat → Prop) : PtS w O [] (.iface 126 (.agg #[.string t])) := by
  unfold PtS
  have h4 := as2_4
  have h5 := as2_5
  have h6 := as2_6
  have h8 := as2_8
  have h9 := as2_9
  have h10 := as2_10
  have h11 := as2_11
  have h12 := as2_12
  have h13 := as2_13
  have h14 := as2_14
  have h15 := as2_15
  have h16 := as2_16
  have h17 := as2_17
  have h18 := as2_18
  have h19 := as2_19
  have h20 := as2_20
  go_enter Tryz.func28, Tryz.ntmps28
  go_wp2
  go_ret
  exact ⟨_, _, rfl, ⟨0, 0, .inl rfl, fun i x hx => by simp at hx⟩, Below.refl _ _⟩

set_option maxRecDepth 100000 in
theorem parts4 (vs : List Value) (a : Option Addr) (cap : Nat) (w : World) (O : Nat → Prop) (hO : ∀ bb, O bb → bb < w.heap.size) (hP : PsO w O a vs) : PtS w O vs (.iface 99 (.agg #[.slice a vs.length cap])) := by
  unfold PtS
  have h4 := as4_4
  have HP : Hid (∀ o, PsO (w.alloc o) (On O w.heap.size (w.alloc o)) a vs) := fun o => (hP.kept (fun bb hb => Below.heap_alloc w o bb (hO bb hb))).mono (fun bb hb => .inl hb)
  clear hP
  go_enter Tryz.func28, Tryz.ntmps28
  go_wp2
  go_ret
  exact ⟨_, _, rfl, HP.out _, (Below.refl _ _).alloc (Nat.le_refl _) _⟩

end Go.Proofs.YtifgaaemdojmpaaGreatDoor.ex
