import Derived.Test.YthklplfpnciodaaGreatDoorFK
namespace Go.Proofs.YthklplfpnciodaaGreatDoor.ex
open Go.ChangeShapes Go.WideShapes Go.ChangeAt Go.RowKit Go.Deep Go.Maps
set_option linter.unusedVariables false
set_option linter.unusedSimpArgs false

set_option maxRecDepth 100000 in
theorem look3 (t : ByteArray) (mb mf : Nat) (w : World) (Post : World → Prop) (HA : Hid (Calls Tryz.prog 34 #[.agg #[.map (some mb), .map (some mf)], .string t] ((w.alloc (.cells #[.map (some mb), .map (some mf)] 42)).alloc (.cells #[.string t] 63)) fun e w' => (∃ u, e = .returned u) ∧ Post w')) :
    Calls Tryz.prog 18 #[.agg #[.map (some mb), .map (some mf)], .iface 63 (.agg #[.string t])] w fun e w' => (∃ u, e = .returned u) ∧ Post w' := by
  have h3 := as3_3
  go_enter Tryz.func18, Tryz.ntmps18
  go_wp2_with (go_at_call 34; refine HA.out.mono ?_; rintro e w1 ⟨⟨u1, rfl⟩, hp⟩)
  go_returns
  exact ⟨⟨_, rfl⟩, hp⟩

set_option maxRecDepth 100000 in
theorem look7 (t : ByteArray) (mb mf : Nat) (w : World) (Post : World → Prop) (HA : Hid (Calls Tryz.prog 34 #[.agg #[.map (some mb), .map (some mf)], .string t] ((w.alloc (.cells #[.map (some mb), .map (some mf)] 42)).alloc (.cells #[.string t] 65)) fun e w' => (∃ u, e = .returned u) ∧ Post w')) :
    Calls Tryz.prog 18 #[.agg #[.map (some mb), .map (some mf)], .iface 65 (.agg #[.string t])] w fun e w' => (∃ u, e = .returned u) ∧ Post w' := by
  have h3 := as7_3
  have h7 := as7_7
  go_enter Tryz.func18, Tryz.ntmps18
  go_wp2_with (go_at_call 34; refine HA.out.mono ?_; rintro e w1 ⟨⟨u1, rfl⟩, hp⟩)
  go_returns
  exact ⟨⟨_, rfl⟩, hp⟩

set_option maxRecDepth 100000 in
theorem look5r (a : Option Addr) (n cap : Nat) (mb mf : Nat) (w : World) (Post : World → Prop) (HA : Hid (Calls Tryz.prog 35 #[.agg #[.map (some mb), .map (some mf)], .slice a n cap, .slice none 0 0] ((w.alloc (.cells #[.map (some mb), .map (some mf)] 42)).alloc (.cells #[.bool true, .slice a n cap] 68)) fun e w' => (∃ u, e = .returned u) ∧ Post w')) :
    Calls Tryz.prog 18 #[.agg #[.map (some mb), .map (some mf)], .iface 68 (.agg #[.bool true, .slice a n cap])] w fun e w' => (∃ u, e = .returned u) ∧ Post w' := by
  have h3 := as5_3
  have h7 := as5_7
  have h5 := as5_5
  go_enter Tryz.func18, Tryz.ntmps18
  go_wp2_with (go_at_call 35; refine HA.out.mono ?_; rintro e w1 ⟨⟨u1, rfl⟩, hp⟩)
  go_returns
  exact ⟨⟨_, rfl⟩, hp⟩

set_option maxRecDepth 100000 in
theorem look5 (a : Option Addr) (n cap : Nat) (mb mf : Nat) (w : World) (Post : World → Prop) (HA : Hid (Calls Tryz.prog 36 #[.agg #[.map (some mb), .map (some mf)], .slice a n cap] ((w.alloc (.cells #[.map (some mb), .map (some mf)] 42)).alloc (.cells #[.bool false, .slice a n cap] 68)) fun e w' => (∃ u, e = .returned u) ∧ Post w')) :
    Calls Tryz.prog 18 #[.agg #[.map (some mb), .map (some mf)], .iface 68 (.agg #[.bool false, .slice a n cap])] w fun e w' => (∃ u, e = .returned u) ∧ Post w' := by
  have h3 := as5_3
  have h7 := as5_7
  have h5 := as5_5
  go_enter Tryz.func18, Tryz.ntmps18
  go_wp2_with (go_at_call 36; refine HA.out.mono ?_; rintro e w1 ⟨⟨u1, rfl⟩, hp⟩)
  go_returns
  exact ⟨⟨_, rfl⟩, hp⟩

set_option maxRecDepth 100000 in
theorem look8 (a : Option Addr) (n cap : Nat) (T : TypeId) (p : Value) (mb mf : Nat) (w : World) (Post : World → Prop) (HA : Hid (Calls Tryz.prog 35 #[.agg #[.map (some mb), .map (some mf)], .slice a n cap, .slice (some ⟨w.heap.size + 2, 0, none⟩) 1 1] (((w.alloc (.cells #[.map (some mb), .map (some mf)] 42)).alloc (.cells #[.slice a n cap, .iface T p] 72)).alloc (.cells #[.iface T p] 45)) fun e w' => (∃ u, e = .returned u) ∧ Post w')) :
    Calls Tryz.prog 18 #[.agg #[.map (some mb), .map (some mf)], .iface 72 (.agg #[.slice a n cap, .iface T p])] w fun e w' => (∃ u, e = .returned u) ∧ Post w' := by
  have h3 := as8_3
  have h7 := as8_7
  have h5 := as8_5
  have h8 := as8_8
  go_enter Tryz.func18, Tryz.ntmps18
  go_wp2_with (go_at_call 35; refine HA.out.mono ?_; rintro e w1 ⟨⟨u1, rfl⟩, hp⟩)
  go_returns
  exact ⟨⟨_, rfl⟩, hp⟩

set_option maxRecDepth 100000 in
theorem look13 (t : ByteArray) (T : TypeId) (p : Value) (mb mf : Nat) (w : World) (Post : World → Prop) (HA : Hid (Calls Tryz.prog 37 #[.agg #[.map (some mb), .map (some mf)], .slice (some ⟨w.heap.size + 2, 0, none⟩) 1 1, .slice (some ⟨w.heap.size + 3, 0, none⟩) 1 1] ((((w.alloc (.cells #[.map (some mb), .map (some mf)] 42)).alloc (.cells #[.string t, .iface T p] 74)).alloc (.cells #[.string t] 9)).alloc (.cells #[.iface T p] 45)) fun e w' => (∃ u, e = .returned u) ∧ Post w')) :
    Calls Tryz.prog 18 #[.agg #[.map (some mb), .map (some mf)], .iface 74 (.agg #[.string t, .iface T p])] w fun e w' => (∃ u, e = .returned u) ∧ Post w' := by
  have h3 := as13_3
  have h7 := as13_7
  have h5 := as13_5
  have h8 := as13_8
  have h13 := as13_13
  go_enter Tryz.func18, Tryz.ntmps18
  go_wp2_with (go_at_call 37; refine HA.out.mono ?_; rintro e w1 ⟨⟨u1, rfl⟩, hp⟩)
  go_returns
  exact ⟨⟨_, rfl⟩, hp⟩

set_option maxRecDepth 100000 in
theorem look_rest (T : TypeId) (x : Value) (h3 : ∀ w, (Instr.typeAssert (.iface T x) 45 63 true).run Tryz.prog w = .ok (.tuple #[.agg #[.string ⟨#[]⟩], .bool false]) w) (h7 : ∀ w, (Instr.typeAssert (.iface T x) 45 65 true).run Tryz.prog w = .ok (.tuple #[.agg #[.string ⟨#[]⟩], .bool false]) w) (h5 : ∀ w, (Instr.typeAssert (.iface T x) 45 68 true).run Tryz.prog w = .ok (.tuple #[.agg #[.bool false, .slice none 0 0], .bool false]) w) (h8 : ∀ w, (Instr.typeAssert (.iface T x) 45 72 true).run Tryz.prog w = .ok (.tuple #[.agg #[.slice none 0 0, .nilIface], .bool false]) w) (h13 : ∀ w, (Instr.typeAssert (.iface T x) 45 74 true).run Tryz.prog w = .ok (.tuple #[.agg #[.string ⟨#[]⟩, .nilIface], .bool false]) w) (h14 : ∀ w, (Instr.typeAssert (.iface T x) 45 77 true).run Tryz.prog w = .ok (.tuple #[.agg #[.slice none 0 0, .bool false, .nilIface], .bool false]) w) (mb mf n : Nat) (w : World) (hmb : mb < w.heap.size) (hmf : mf < w.heap.size) (R : World → Option Addr → Nat → Prop) (Post : World → Prop)
    (HP : Hid (Calls Tryz.prog 39 #[.iface T x] (w.alloc (.cells #[.map (some mb), .map (some mf)] 42)).drew fun e w' => ∃ ap cp, e = .returned (.slice ap n cp) ∧ R w' ap cp ∧ Below (w.heap.size + 1) (w.alloc (.cells #[.map (some mb), .map (some mf)] 42)).drew w'))
    (HA : Hid (∀ w1 ap cp, R w1 ap cp → Below (w.heap.size + 1) (w.alloc (.cells #[.map (some mb), .map (some mf)] 42)).drew w1 → Calls Tryz.prog 36 #[.agg #[.map (some mb), .map (some mf)], .slice ap n cp] w1 fun e w' => (∃ u, e = .returned u) ∧ Post w' ∧ Lk mb mf w1 w')) :
    Calls Tryz.prog 18 #[.agg #[.map (some mb), .map (some mf)], .iface T x] w fun e w' => (∃ u, e = .returned u) ∧ Post w' := by
  have HBX : Hid (∀ W : World, W.heap[w.heap.size]? = (w.alloc (.cells #[.map (some mb), .map (some mf)] 42)).heap[w.heap.size]? → W.cell? ⟨w.heap.size, 0, none⟩ = some (.map (some mb)) ∧ W.cell? ⟨w.heap.size, 1, none⟩ = some (.map (some mf))) := fun W hW => by
    have e := hW.trans (heap_alloc_new w (.cells #[.map (some mb), .map (some mf)] 42))
    simp [World.cell?, e]
  have S0 := HBX.out (w.alloc (.cells #[.map (some mb), .map (some mf)] 42)).drew rfl
  go_enter Tryz.func18, Tryz.ntmps18
  go_wp2_with fail
  go_region_held3 (fun w' => w'.cell? ⟨w.heap.size, 0, none⟩ = some (.map (some mb)) ∧ w'.cell? ⟨w.heap.size, 1, none⟩ = some (.map (some mf)))
    (first
      | exact S0
      | exact S1
      | exact S2)
    (first
      | ((go_at_call 39; refine HP.out.mono ?_; rintro e w1 ⟨ap, cp, rfl, hr, hb⟩; have HQ := hb.block w.heap.size (Nat.lt_succ_self _); have S1 := HBX.out w1 HQ; have HA1 := HA.out w1 ap cp hr hb; have HZ : w.heap.size < w1.heap.size := Nat.lt_of_lt_of_le (by simp) hb.size; have HA2 : Hid (Calls Tryz.prog 36 #[.agg #[.map (some mb), .map (some mf)], .slice ap n cp] w1 fun e w' => (∃ u, e = .returned u) ∧ Post w' ∧ Lk mb mf w1 w') := HA1; clear HA1))
      | ((go_at_call 36; refine HA2.out.mono ?_; rintro e w2 ⟨⟨u2, rfl⟩, hp, hk⟩; have S2 := HBX.out w2 ((hk.block _ HZ (Nat.ne_of_gt hmb) (Nat.ne_of_gt hmf)).trans HQ))))
  go_wp2
  go_returns
  exact ⟨⟨_, rfl⟩, hp⟩

end Go.Proofs.YthklplfpnciodaaGreatDoor.ex
