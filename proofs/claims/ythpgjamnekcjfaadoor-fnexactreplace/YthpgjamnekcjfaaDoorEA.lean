import Derived.Test.YthpgjamnekcjfaaDoorTP
import Derived.Test.YthpgjamnekcjfaaDoorBN
import Derived.Shelf.Strings.Replace
import Derived.Shelf.Strings.BuilderX
import Derived.Ground.NamesProg
namespace Go.Proofs.YthpgjamnekcjfaaDoor.tt
open Go.ChangeShapes Go.WideShapes Go.ChangeAt Go.RowKit Go.Deep Go.Shelf
set_option linter.unusedVariables false
set_option linter.unusedSimpArgs false

/-! ### A text in which a piece is replaced: both sides -/

/-- Every instance, from left to right. -/
def rp (old new s : List UInt8) : List UInt8 := Lib.replaceK old new (Lib.count s old) s

theorem rp_miss {old new s : List UInt8} (h : Lib.index s old = -1) : rp old new s = s := by unfold rp; rw [Lib.count_miss h]; rfl
theorem rp_hit {old new s : List UInt8} {i : Nat} (ho : old ≠ []) (h : Lib.index s old = i) : rp old new s = s.take i ++ new ++ rp old new (s.drop (i + old.length)) := by
  unfold rp
  rw [Lib.count_hit ho h, Nat.add_comm 1, Lib.replaceK_hit old new _ s i h]
theorem rp_nil {old new : List UInt8} (ho : old ≠ []) : rp old new [] = [] := rp_miss (by
  unfold Lib.index
  cases old with
  | nil => exact absurd rfl ho
  | cons b l => rfl)
theorem rp_yes {old new s : List UInt8} (ho : old ≠ []) (hp : old.isPrefixOf s = true) : rp old new s = new ++ rp old new (s.drop old.length) := by
  have hi : Lib.index s old = ((0 : Nat) : Int) := Lib.index_first (Nat.zero_le _) (by simpa [Lib.occAt] using hp) (fun j hj => by omega)
  rw [rp_hit ho hi, List.take_zero, List.nil_append, Nat.zero_add]
theorem rp_no {old new : List UInt8} {b : UInt8} {l : List UInt8} (ho : old ≠ []) (hp : old.isPrefixOf (b :: l) = false) : rp old new (b :: l) = b :: rp old new l := by
  have hi : Lib.index (b :: l) old = if Lib.index l old == -1 then -1 else Lib.index l old + 1 := by
    rw [Lib.index, if_neg (by rw [hp]; simp)]
  by_cases hm : Lib.index l old = -1
  · rw [hm] at hi
    rw [rp_miss (by rw [hi]; rfl), rp_miss hm]
  · have hge := Lib.index_ge l old
    obtain ⟨k, hk⟩ : ∃ k : Nat, Lib.index l old = k := ⟨(Lib.index l old).toNat, by omega⟩
    rw [hk, if_neg (by rw [beq_iff_eq]; omega)] at hi
    rw [rp_hit (i := k + 1) ho (by rw [hi]; omega), rp_hit ho hk, List.take_succ_cons, show k + 1 + old.length = (k + old.length) + 1 by omega, List.drop_succ_cons]
    simp
theorem rp_same {old : List UInt8} (ho : old ≠ []) : ∀ (n : Nat) (s : List UInt8), s.length ≤ n → rp old old s = s
  | 0, s, h => by
    obtain rfl : s = [] := List.length_eq_zero_iff.1 (by omega)
    exact rp_nil ho
  | n + 1, [], _ => rp_nil ho
  | n + 1, b :: l, h => by
    have hl : 0 < old.length := List.length_pos_iff.2 ho
    cases hp : old.isPrefixOf (b :: l) with
    | true =>
      rw [rp_yes ho hp, rp_same ho n _ (by rw [List.length_drop]; omega)]
      obtain ⟨r, hr⟩ := List.isPrefixOf_iff_prefix.1 hp
      rw [← hr, List.drop_left]
    | false =>
      rw [rp_no ho hp, rp_same ho n l (by simpa using h)]
theorem rp_all {old new : List UInt8} (ho : old ≠ []) (s : List UInt8) : Lib.replaceAll s old new = rp old new s := by
  unfold Lib.replaceAll Lib.replace
  by_cases h : old = new
  · subst h
    rw [if_pos (by simp), rp_same ho s.length s (Nat.le_refl _)]
  · rw [if_neg (by simpa using h)]
    unfold rp Lib.replaceNum
    rw [if_pos (Or.inl (by omega))]

end Go.Proofs.YthpgjamnekcjfaaDoor.tt
namespace Go.Proofs
open Go.Shelf
def YthpgjamnekcjfaaDoor.tt.laysRP_ren : Go.Shelf.Ren := ⟨fun | 155 => 55 | 154 => 83 | 138 => 110 | 165 => 111 | 143 => 112 | 166 => 113 | 197 => 114 | 169 => 115 | 195 => 128 | 218 => 129 | 240 => 130 | 241 => 131 | 219 => 132 | 260 => 133 | 276 => 142 | 277 => 143 | 217 => 144 | 225 => 145 | 224 => 146 | 267 => 147 | 266 => 150 | 314 => 151 | n => n, fun | 9 => 9 | 3 => 3 | 4 => 4 | 72 => 118 | 0 => 0 | 76 => 122 | 105 => 124 | 21 => 21 | 5 => 5 | 70 => 116 | 20 => 20 | 37 => 29 | 75 => 121 | 127 => 135 | 164 => 140 | 46 => 89 | 119 => 144 | 139 => 147 | 138 => 146 | 146 => 150 | 51 => 149 | 80 => 126 | n => n, fun | 1 => 1 | 3 => 2 | 4 => 3 | n => n⟩
theorem YthpgjamnekcjfaaDoor.tt.laysRP : Go.Proofs.Lays.n155 Tryd.prog YthpgjamnekcjfaaDoor.tt.laysRP_ren := {
  mixed := by kernel_rfl
  f138 := Tryd.func110.trans (congrArg some (by kernel_rfl))
  f143 := Tryd.func112.trans (congrArg some (by kernel_rfl))
  f154 := Tryd.func83.trans (congrArg some (by kernel_rfl))
  f155 := Tryd.func55.trans (congrArg some (by kernel_rfl))
  f165 := Tryd.func111.trans (congrArg some (by kernel_rfl))
  f166 := Tryd.func113.trans (congrArg some (by kernel_rfl))
  f169 := Tryd.func115.trans (congrArg some (by kernel_rfl))
  f195 := Tryd.func128.trans (congrArg some (by kernel_rfl))
  f197 := Tryd.func114.trans (congrArg some (by kernel_rfl))
  f217 := Tryd.func144.trans (congrArg some (by kernel_rfl))
  f218 := Tryd.func129.trans (congrArg some (by kernel_rfl))
  f219 := Tryd.func132.trans (congrArg some (by kernel_rfl))
  f224 := Tryd.func146.trans (congrArg some (by kernel_rfl))
  f225 := Tryd.func145.trans (congrArg some (by kernel_rfl))
  f240 := Tryd.func130.trans (congrArg some (by kernel_rfl))
  f241 := Tryd.func131.trans (congrArg some (by kernel_rfl))
  f260 := Tryd.func133.trans (congrArg some (by kernel_rfl))
  f266 := Tryd.func150.trans (congrArg some (by kernel_rfl))
  f267 := Tryd.func147.trans (congrArg some (by kernel_rfl))
  f276 := Tryd.func142.trans (congrArg some (by kernel_rfl))
  f277 := Tryd.func143.trans (congrArg some (by kernel_rfl))
  f314 := Tryd.func151.trans (congrArg some (by kernel_rfl))
  t0 := Tryd.underlying0
  a0 := Tryd.isAgg0
  z0 := Tryd.sizeOf0
  v0 := Tryd.zeroValue0
  t3 := Tryd.underlying3
  a3 := Tryd.isAgg3
  z3 := Tryd.sizeOf3
  v3 := Tryd.zeroValue3
  t4 := Tryd.underlying4
  a4 := Tryd.isAgg4
  z4 := Tryd.sizeOf4
  v4 := Tryd.zeroValue4
  t5 := Tryd.underlying5
  a5 := Tryd.isAgg5
  z5 := Tryd.sizeOf5
  v5 := Tryd.zeroValue5
  t9 := Tryd.underlying9
  a9 := Tryd.isAgg9
  z9 := Tryd.sizeOf9
  v9 := Tryd.zeroValue9
  t20 := Tryd.underlying20
  a20 := Tryd.isAgg20
  z20 := Tryd.sizeOf20
  v20 := Tryd.zeroValue20
  t21 := Tryd.underlying21
  a21 := Tryd.isAgg21
  z21 := Tryd.sizeOf21
  v21 := Tryd.zeroValue21
  t37 := Tryd.underlying29
  a37 := Tryd.isAgg29
  z37 := Tryd.sizeOf29
  v37 := Tryd.zeroValue29
  t46 := Tryd.underlying89
  a46 := Tryd.isAgg89
  z46 := Tryd.sizeOf89
  v46 := Tryd.zeroValue89
  t51 := Tryd.underlying149
  a51 := Tryd.isAgg149
  z51 := Tryd.sizeOf149
  v51 := Tryd.zeroValue149
  t70 := Tryd.underlying116
  a70 := Tryd.isAgg116
  z70 := Tryd.sizeOf116
  v70 := Tryd.zeroValue116
  t72 := Tryd.underlying118
  a72 := Tryd.isAgg118
  z72 := Tryd.sizeOf118
  v72 := Tryd.zeroValue118
  t75 := Tryd.underlying121
  a75 := Tryd.isAgg121
  z75 := Tryd.sizeOf121
  v75 := Tryd.zeroValue121
  t76 := Tryd.underlying122
  a76 := Tryd.isAgg122
  z76 := Tryd.sizeOf122
  v76 := Tryd.zeroValue122
  t105 := Tryd.underlying124
  a105 := Tryd.isAgg124
  z105 := Tryd.sizeOf124
  v105 := Tryd.zeroValue124
  t119 := Tryd.underlying144
  a119 := Tryd.isAgg144
  z119 := Tryd.sizeOf144
  t127 := Tryd.underlying135
  a127 := Tryd.isAgg135
  z127 := Tryd.sizeOf135
  v127 := Tryd.zeroValue135
  t138 := Tryd.underlying146
  a138 := Tryd.isAgg146
  z138 := Tryd.sizeOf146
  v138 := Tryd.zeroValue146
  t139 := Tryd.underlying147
  a139 := Tryd.isAgg147
  z139 := Tryd.sizeOf147
  v139 := Tryd.zeroValue147
  t146 := Tryd.underlying150
  a146 := Tryd.isAgg150
  z146 := Tryd.sizeOf150
  v146 := Tryd.zeroValue150
  t164 := Tryd.underlying140
  a164 := Tryd.isAgg140
  z164 := Tryd.sizeOf140
  v164 := Tryd.zeroValue140
  g1 := by kernel_rfl
  g3 := by kernel_rfl
  g4 := by kernel_rfl }
end Go.Proofs
namespace Go.Proofs.YthpgjamnekcjfaaDoor.tt
open Go.ChangeShapes Go.WideShapes Go.ChangeAt Go.RowKit Go.Deep Go.Shelf
set_option linter.unusedVariables false
set_option linter.unusedSimpArgs false
theorem rp_ren : laysRP_ren.f 155 = 55 := by kernel_rfl
theorem rp_g : laysRP_ren.g 1 = laysSP_ren.g 1 := by kernel_rfl

theorem extraRP : Builder.Extra Tryd.prog laysRP_ren where
  sizeBuilder := by kernel_rfl
  liesBuilder := by kernel_rfl
  t5 := Tryd.underlying5
  a5 := Tryd.isAgg5
  z5 := Tryd.sizeOf5
  v5 := Tryd.zeroValue5
  infoByte := by kernel_rfl
  cellsByte := by kernel_rfl
  sizeByte := by kernel_rfl
  neB5 := by decide

theorem ne_of_size {f : ByteArray} (h : 1 ≤ f.size) : f.data.toList ≠ [] := fun e => by
  have h2 : f.data.toList.length = f.size := by simp
  rw [e, List.length_nil] at h2
  omega

theorem replaceAll_any (s f t : ByteArray) (hs : s.size ≤ 1048576) (hf : 1 ≤ f.size) (ht : t.size ≤ 1048576) (w : World) (hm : ML w) :
    Calls Tryd.prog 55 #[.string s, .string f, .string t] w fun e w' => e = .returned (.string ⟨(rp f.data.toList t.data.toList s.data.toList).toArray⟩) ∧ Below w.heap.size w w' := by
  obtain ⟨m, hm⟩ := hm
  have hc : Lib.countB s f ≤ s.size + 1 := by
    have := Lib.count_le s.data.toList f.data.toList
    have h2 : s.data.toList.length = s.size := by simp
    unfold Lib.countB
    omega
  have hmul : Lib.countB s f * t.size ≤ 1048577 * 1048576 := Nat.mul_le_mul (by omega) ht
  have := Any.strings_ReplaceAll laysRP extraRP s f t m w (by omega) (by rw [rp_g]; exact hm) hf (by omega)
  rw [rp_all (ne_of_size hf), rp_ren] at this
  exact this

/-- Bytes that are read as a text. -/
theorem conv_text {base : Nat} {w : World} {g cap z : Nat} {l : List UInt8} (h : bf.Bf base w g cap l) (hz : z = l.length) (hl : l.length ≤ 1099511627776) : (convert 29 9 (.slice (some ⟨g, 0, none⟩) z cap)).run Tryd.prog w = .ok (.string ⟨l.toArray⟩) w := by
  subst hz
  have hB : Lib.Bytes w g 0 ⟨l.toArray⟩ := fun i hi => by
    have hi' : i < l.length := by simpa [ByteArray.size] using hi
    rw [Nat.zero_add, h.cells i hi']
    rfl
  have := Lib.run_convert_whole (P := Tryd.prog) w 29 5 9 Tryd.underlying29 Tryd.underlying5 Tryd.underlying9 g 0 ⟨l.toArray⟩ hB cap
  simpa [ByteArray.size] using this

theorem none_bf0 (w : World) (e : TypeId) : bf.Bf w.heap.size (w.alloc (.cells #[] e)) w.heap.size 0 [] :=
  ⟨Nat.le_refl _, by simp, fun j hj => by simp at hj, fun j hj => by omega, by simp, by unfold maxLen; omega⟩

theorem ext_eq {s f : ByteArray} {i : Nat} (h : i + f.size ≤ s.size) : (s.extract i (i + f.size)).data.toList = (s.data.toList.drop i).take f.size := by
  rw [ByteArray.data_extract, Array.toList_extract, List.extract_eq_take_drop]
  congr 1
  omega

theorem pre_iff {s f : ByteArray} {i : Nat} (h : i + f.size ≤ s.size) : ((s.extract i (i + f.size)).toList == f.toList) = f.data.toList.isPrefixOf (s.data.toList.drop i) := by
  rw [ByteArray.toList_eq, ByteArray.toList_eq, ext_eq h, Bool.eq_iff_iff, beq_iff_eq, List.isPrefixOf_iff_prefix, List.prefix_iff_eq_take]
  have : f.data.toList.length = f.size := by simp
  rw [this]
  exact ⟨fun h => h.symm, fun h => h.symm⟩
theorem pre_short {s f : ByteArray} {i : Nat} (h : ¬ i + f.size ≤ s.size) (hi : i ≤ s.size) : f.data.toList.isPrefixOf (s.data.toList.drop i) = false := by
  rw [Bool.eq_false_iff]
  intro e
  have := (List.isPrefixOf_iff_prefix.1 e).length_le
  simp at this
  have h2 : f.data.size = f.size := rfl
  have h3 : s.data.size = s.size := rfl
  omega

set_option maxRecDepth 100000 in
set_option maxHeartbeats 2000000 in
theorem swap_any (s f t : ByteArray) (hs : s.size ≤ 1048576) (hf : 1 ≤ f.size) (hf2 : f.size ≤ 1048576) (hft : f.size = t.size) (w : World) :
    Calls Tryd.prog 52 #[.string s, .string f, .string t] w fun e w' => e = .returned (.string ⟨(rp f.data.toList t.data.toList s.data.toList).toArray⟩) ∧ Below w.heap.size w w' := by
  have hne := ne_of_size hf
  have HNE : Hid (f.data.toList ≠ []) := hne
  have HFT : Hid (f.size = t.size) := hft
  obtain ⟨R, hR⟩ : ∃ R, rp f.data.toList t.data.toList s.data.toList = R := ⟨_, rfl⟩
  rw [hR]
  have HR : Hid (rp f.data.toList t.data.toList s.data.toList = R) := hR
  clear hne hft hR
  go_enter Tryd.func52, Tryd.ntmps52
  go_wp2
  go_loopw [7, 8] (fun v x wr => ∃ (i g cap z : Nat) (l : List UInt8), i ≤ s.size ∧ v = .slice (some ⟨g, 0, none⟩) z cap ∧ x = .int .i64 (i : Int) ∧ z = l.length ∧ l.length = i ∧ l ++ rp f.data.toList t.data.toList (s.data.toList.drop i) = R ∧ bf.Bf w.heap.size wr g cap l ∧ Below w.heap.size w wr) (fun _ x _ => s.size - (intOf x).toNat)
  case atStart => exact ⟨0, _, _, 0, [], Nat.zero_le _, rfl, rfl, rfl, rfl, by rw [List.drop_zero, List.nil_append]; exact HR.out, none_bf0 w _, (Below.refl _ _).alloc (Nat.le_refl _) _⟩
  case round =>
    obtain ⟨i, g, cap, z, l, hi, rfl, rfl, hz, hli, hrp, hbf, hbel⟩ := hrel
    have HBE : Hid (Below w.heap.size w wr) := hbel
    have HBF : Hid (bf.Bf w.heap.size wr g cap l) := hbf
    have HZ : Hid (z = l.length) := hz
    have HLI : Hid (l.length = i) := hli
    have HRP : Hid (l ++ rp f.data.toList t.data.toList (s.data.toList.drop i) = R) := hrp
    clear hz hli hrp hbf hbel
    by_cases hlt : i < s.size
    · have hlt' : (i : Int) < (s.size : Int) := by omega
      have hi0 : (0 : Int) ≤ (i : Int) := by omega
      cases hp : f.data.toList.isPrefixOf (s.data.toList.drop i) with
      | true =>
        have hle : i + f.size ≤ s.size := by
          by_cases h : i + f.size ≤ s.size
          · exact h
          · rw [pre_short h (by omega)] at hp; cases hp
        have hle' : (i : Int) + (f.size : Int) ≤ (s.size : Int) := by omega
        have heq := (pre_iff hle).trans hp
        obtain ⟨T, hT⟩ : ∃ T, T = t.data.toList := ⟨_, rfl⟩
        have HTL : Hid (T.length = t.size) := by show _ = _; rw [hT]; simp
        have HN : Hid (l ++ T ++ rp f.data.toList t.data.toList (s.data.toList.drop (i + f.size)) = R) := by
          show _ = _
          rw [← HRP.out, rp_yes HNE.out hp, List.drop_drop, List.append_assoc, hT]
          simp
        have HTT : Hid (T = t.data.toList) := hT
        clear hT hp
        obtain ⟨cc, W1, hcv, hbf1, hbw, hsz⟩ := bf.conv_bf (P := Tryd.prog) wr 9 29 5 t (by have := HFT.out; omega) Tryd.underlying9 Tryd.underlying29 Tryd.underlying5
        rw [← HTT.out] at hbf1
        have HC : Hid (∀ j u, (bf.byteVals T)[j]? = some u → W1.cell? ((⟨wr.heap.size, 0, none⟩ : Addr).add j) = some u) := by
          intro j u hj
          obtain ⟨hj', rfl⟩ := bf.byteVals_get hj
          rw [addr_add, Nat.zero_add]
          exact hbf1.cells j hj'
        have HB1 : Hid (bf.Bf w.heap.size W1 g cap l) := HBF.out.below hbw
        have HW : Hid (Below wr.heap.size wr W1) := hbw
        have HL : Hid (l.length + T.length ≤ 1099511627776) := by show _ ≤ _; rw [HLI.out, HTL.out]; have := HFT.out; omega
        clear hbf1 hbw hsz
        go_wp2_with (first
          | (at_builtin; refine bf.app_bytes _ rfl _ _ 29 rfl 5 Tryd.underlying29 bf.info5 rfl HZ.out.symm ⟨wr.heap.size, 0, none⟩ cc (m := T) rfl HTL.out HB1.out HC.out HL.out ?_; intro g2 c2 w2 n2 hn2 hap2; refine Hid.out ?_)
          | go_in)
        refine Lib.hid ?_
        have HB2 : Hid (Below w.heap.size w w2) := HBE.out.trans ((hap2.after HW.out).bel HBF.out.new HBE.out.size)
        have HF2 : Hid (bf.Bf w.heap.size w2 g2 c2 (l ++ T)) := hap2.bf
        have HZ2 : Hid (n2 = (l ++ T).length) := by have := hn2.out; show n2 = _; simpa using this
        have HLL : Hid ((l ++ T).length = i + f.size) := by show _ = _; rw [List.length_append, HLI.out, HTL.out, HFT.out]
        clear hap2 hn2 hcv heq
        go_wp2
        go_roundw
        case rel => exact ⟨i + f.size, g2, c2, n2, l ++ T, hle, rfl, by go_num, HZ2.out, HLL.out, HN.out, HF2.out, HB2.out⟩
        case measure => simp [intOf]; omega
      | false =>
        obtain ⟨y, hy⟩ : ∃ y, y = s[i] := ⟨_, rfl⟩
        have hdr : s.data.toList.drop i = y :: s.data.toList.drop (i + 1) := by
          rw [List.drop_eq_getElem_cons (by simpa using hlt), hy]
          rfl
        have HN : Hid (l ++ [y] ++ rp f.data.toList t.data.toList (s.data.toList.drop (i + 1)) = R) := by
          show _ = _
          rw [hdr] at hp
          rw [← HRP.out, hdr, rp_no HNE.out hp]
          simp
        have HL : Hid (l.length + 1 ≤ 1099511627776) := by show _ ≤ _; rw [HLI.out]; omega
        have HPF : Hid (f.data.toList.isPrefixOf (s.data.toList.drop i) = false) := hp
        have hyv : (s[i].toNat : Int) = (y.toNat : Int) := by rw [hy]
        have HV : Hid ((s[i].toNat : Int) = (y.toNat : Int)) := hyv
        clear hdr hp hyv hy
        by_cases hle : i + f.size ≤ s.size
        · have hle' : (i : Int) + (f.size : Int) ≤ (s.size : Int) := by omega
          have heq := (pre_iff hle).trans HPF.out
          go_wp2_with (first
            | (at_builtin; refine bf.app_bytes _ rfl _ _ 29 rfl 5 Tryd.underlying29 bf.info5 rfl HZ.out.symm ⟨wr.heap.size, 0, none⟩ 1 (m := [y]) rfl rfl (HBF.out.below ((Below.refl _ _).alloc (Nat.le_refl _) _)) (bf.one_at wr _ _ _ HV.out) HL.out ?_; intro g2 c2 w2 n2 hn2 hap2; refine Hid.out ?_)
            | go_in)
          refine Lib.hid ?_
          have HB2 : Hid (Below w.heap.size w w2) := HBE.out.trans ((hap2.after ((Below.refl _ _).alloc (Nat.le_refl _) _)).bel HBF.out.new HBE.out.size)
          have HF2 : Hid (bf.Bf w.heap.size w2 g2 c2 (l ++ [y])) := hap2.bf
          have HZ2 : Hid (n2 = (l ++ [y]).length) := by have := hn2.out; show n2 = _; simpa using this
          have HLL : Hid ((l ++ [y]).length = i + 1) := by show _ = _; rw [List.length_append, HLI.out]; rfl
          clear hap2 hn2 heq
          go_wp2
          go_roundw
          case rel => exact ⟨i + 1, g2, c2, n2, l ++ [y], by omega, rfl, by go_num, HZ2.out, HLL.out, HN.out, HF2.out, HB2.out⟩
          case measure => simp [intOf]; omega
        · have hle' : ¬ (i : Int) + (f.size : Int) ≤ (s.size : Int) := by omega
          go_wp2_with (first
            | (at_builtin; refine bf.app_bytes _ rfl _ _ 29 rfl 5 Tryd.underlying29 bf.info5 rfl HZ.out.symm ⟨wr.heap.size, 0, none⟩ 1 (m := [y]) rfl rfl (HBF.out.below ((Below.refl _ _).alloc (Nat.le_refl _) _)) (bf.one_at wr _ _ _ HV.out) HL.out ?_; intro g2 c2 w2 n2 hn2 hap2; refine Hid.out ?_)
            | go_in)
          refine Lib.hid ?_
          have HB2 : Hid (Below w.heap.size w w2) := HBE.out.trans ((hap2.after ((Below.refl _ _).alloc (Nat.le_refl _) _)).bel HBF.out.new HBE.out.size)
          have HF2 : Hid (bf.Bf w.heap.size w2 g2 c2 (l ++ [y])) := hap2.bf
          have HZ2 : Hid (n2 = (l ++ [y]).length) := by have := hn2.out; show n2 = _; simpa using this
          have HLL : Hid ((l ++ [y]).length = i + 1) := by show _ = _; rw [List.length_append, HLI.out]; rfl
          clear hap2 hn2
          go_wp2
          go_roundw
          case rel => exact ⟨i + 1, g2, c2, n2, l ++ [y], by omega, rfl, by go_num, HZ2.out, HLL.out, HN.out, HF2.out, HB2.out⟩
          case measure => simp [intOf]; omega
    · have hlt' : ¬ (i : Int) < (s.size : Int) := by omega
      obtain rfl : i = s.size := by omega
      have hcv := conv_text HBF.out HZ.out (by rw [HLI.out]; omega)
      have HE : Hid ((⟨l.toArray⟩ : ByteArray) = ⟨R.toArray⟩) := by
        show _ = _
        have h1 := HRP.out
        rw [List.drop_eq_nil_of_le (by simp), rp_nil HNE.out, List.append_nil] at h1
        rw [h1]
      go_wp2
      go_ret
      exact ⟨ret_str HE.out, HBE.out⟩

end Go.Proofs.YthpgjamnekcjfaaDoor.tt
