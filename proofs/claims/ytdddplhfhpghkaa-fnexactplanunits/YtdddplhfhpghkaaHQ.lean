import Derived.Test.YtdddplhfhpghkaaHS
namespace Go.Proofs.Ytdddplhfhpghkaa.hp
open Go.ChangeShapes Go.WideShapes Go.ChangeAt Go.RowKit Go.Deep Go.Maps
set_option linter.unusedVariables false
set_option linter.unusedSimpArgs false

set_option maxRecDepth 100000 in
set_option maxHeartbeats 4000000 in
/-- Nothing is there. -/
theorem pop_none (M S : Nat) (F : Nat → Value) (v : Value) (w : World) (h : Ho M S F v [] w) :
    Calls Try.prog 89 #[.pointer (some ⟨S, 4, none⟩)] w fun e w' => e = .returned (.tuple #[.int .i64 0, .bool false]) ∧ w' = w := by
  obtain ⟨a, cap, rfl⟩ := h.hv.len
  have cS : w.cell? ⟨S, 4, none⟩ = some (.slice a 0 cap) := h.row.cell (i := 4) (by decide)
  clear h
  go_enter Try.func89, Try.ntmps89
  go_wp2
  go_ret2
  exact ⟨rfl, rfl⟩

set_option maxRecDepth 100000 in
set_option maxHeartbeats 4000000 in
theorem pop_any (M S : Nat) (F : Nat → Value) (v : Value) (l : List Nat) (w : World) (h : Ho M S F v l w) (hh : Hp l) (h0 : 0 < l.length) (hl : l.length ≤ 1000) :
    Calls Try.prog 89 #[.pointer (some ⟨S, 4, none⟩)] w fun e w' => e = .returned (.tuple #[.int .i64 (gt l 0 : Int), .bool true]) ∧ ∃ v' l', Ho M S F v' l' w' ∧ l.Perm (gt l 0 :: l') ∧ Hp l' ∧ Oth (fun k => k = S ∨ v.ownBlock = some k) w w' ∧ v'.ownBlock = v.ownBlock := by
  obtain ⟨g, cap, rfl, hrw⟩ := h.hv.some h0
  have hcl := hrw.le
  have HSM := Lib.hid h.lt
  have HSZ := Lib.hid h.le
  have HRO := Lib.hid h.row
  have HNW := Lib.hid hrw.new
  obtain ⟨m, hm⟩ : ∃ m, l.length = m + 1 := ⟨l.length - 1, by omega⟩
  have HM := Lib.hid hm
  have cS : w.cell? ⟨S, 4, none⟩ = some (.slice (some ⟨g, 0, none⟩) l.length cap) := h.row.cell (i := 4) (by decide)
  have HSW := Lib.hid (swap_any M g cap l 0 m w hrw (by omega) (by omega) (by omega))
  have HDN := Lib.hid (Dn.init hh hm)
  have HPM := Lib.hid (pop_perm hm)
  have HLT : Hid (((swp l 0 m).take m).length = m) := by show _ = _; rw [List.length_take, swp_len, hm]; omega
  have HGM : Hid (gt (swp l 0 m) m = gt l 0) := by show _ = _; rw [swp_gt (by omega) (by omega), if_pos rfl]
  have HLS : Hid ((swp l 0 m).length = m + 1) := by show _ = _; rw [swp_len, hm]
  have hw0 : IntKind.i64.wrap ((m : Int) + 1 - 1) = (m : Int) := by rw [IntKind.wrap_i64]; omega
  have hne : ((m : Int) + 1 == 0) = false := by rw [beq_eq_false_iff_ne]; omega
  rw [hm] at hl HSW cS hcl HRO
  simp only [Int.ofNat_zero, Int.natCast_zero] at HSW
  rw [hm]
  clear h hh h0 hm hrw
  go_enter Try.func89, Try.ntmps89
  go_wp2_with (go_at_call 97; refine HSW.out.mono ?_; rintro e w5 ⟨rfl, h51, h52⟩; refine Hid.out ?_)
  refine Lib.hid ?_
  have hgS : S ≠ g := by have := HNW.out; have := HSM.out; omega
  have HR5 : Hid (w5.rowIs S 108 5 fun k => if k = 4 then .slice (some ⟨g, 0, none⟩) (m + 1) cap else F k) := HRO.out.of_block (h52.block S HRO.out.lt hgS)
  have c5 : w5.cell? ⟨S, 4, none⟩ = some (.slice (some ⟨g, 0, none⟩) (m + 1) cap) := HR5.out.cell (i := 4) (by decide)
  have f5 := HR5.out.frozen 4
  have cm : w5.cell? ⟨g, m, none⟩ = some (.int .i64 (gt l 0 : Int)) := by have := h51.cell (k := m) (by rw [HLS.out]; omega); rw [HGM.out] at this; exact this
  obtain ⟨W6, hW6⟩ : ∃ W, W = w5.setCell ⟨S, 4, none⟩ (.slice (some ⟨g, 0, none⟩) m cap) := ⟨_, rfl⟩
  have HW6 := Lib.hid hW6
  have HR6 : Hid (W6.rowIs S 108 5 fun k => if k = 4 then .slice (some ⟨g, 0, none⟩) m cap else F k) := by
    show World.rowIs _ _ _ _ _
    rw [hW6]
    refine (HR5.out.set 4 _).congr fun k hk => ?_
    by_cases e : k = 4
    · simp only [if_pos e]
    · simp only [if_neg e]
  have HX6 : Hid (Rw M W6 g cap ((swp l 0 m).take m)) := by
    show Rw _ _ _ _ _
    rw [hW6]
    exact (h51.take m).kept (ty.blk_oth (Ne.symm hgS))
  have HO6 : Hid (Oth (fun k => k = S ∨ some g = some k) w W6) := by
    show Oth _ _ _
    rw [hW6]
    exact (Oth.set (X := fun k => k = S ∨ some g = some k) (h52.mono fun k _ e => .inr (by rw [e])) (.inl rfl) _)
  have c6 : W6.cell? ⟨S, 4, none⟩ = some (.slice (some ⟨g, 0, none⟩) m cap) := HR6.out.cell (i := 4) (by decide)
  have HSK := Lib.hid (sink_any M g cap _ W6 HX6.out HDN.out (by rw [HLT.out]; omega))
  rw [HLT.out] at HSK
  have hm2 : (m : Int) < (m : Int) + 1 := by omega
  have hm3 : (0 : Int) ≤ (m : Int) := by omega
  have hm4 : (m : Int) ≤ (cap : Int) := by omega
  clear hW6 h51 h52 cS
  go_upto_region 8 with fail
  rw [← HW6.out]
  clear c5 f5 cm
  go_wp2_with (go_at_call 98; refine HSK.out.mono ?_; rintro e w7 ⟨rfl, l7, h71, h72, h73, h74⟩; refine Hid.out ?_)
  refine Lib.hid ?_
  have HLL : Hid (l7.length = m) := by show _ = _; rw [h71.length_eq, HLT.out]
  have HR7 : Hid (w7.rowIs S 108 5 fun k => if k = 4 then .slice (some ⟨g, 0, none⟩) m cap else F k) := HR6.out.of_block (h74.block S HR6.out.lt hgS)
  have HO7 : Hid (Oth (fun k => k = S ∨ some g = some k) w w7) := HO6.out.then h74 fun i _ e => .inr (by rw [e])
  have HEN : Hid (∃ v' l', Ho M S F v' l' w7 ∧ l.Perm (gt l 0 :: l') ∧ Hp l' ∧ Oth (fun k => k = S ∨ (Value.slice (some ⟨g, 0, none⟩) (m + 1) cap).ownBlock = some k) w w7 ∧ v'.ownBlock = (Value.slice (some ⟨g, 0, none⟩) (m + 1) cap).ownBlock) :=
    ⟨_, l7, ⟨HR7.out, .inr ⟨g, cap, by rw [HLL.out], h73⟩, HSM.out, Nat.le_trans HSZ.out HO7.out.size⟩, HPM.out.trans (h71.symm.cons _), h72, HO7.out, rfl⟩
  clear h71 h72 h73 h74
  go_wp2
  go_ret2
  exact ⟨rfl, HEN.out⟩
end Go.Proofs.Ytdddplhfhpghkaa.hp
