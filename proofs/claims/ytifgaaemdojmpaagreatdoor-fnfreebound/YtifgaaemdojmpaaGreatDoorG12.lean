import Derived.Test.YtifgaaemdojmpaaGreatDoorG11
import Derived.Sort.KeysCollected
import Derived.Shelf.SlIter.Nil
import Derived.Shelf.SortM.Plain
import Derived.Shelf.SortM.SortNone
import Derived.Ground.GgzProg
import Derived.Ground.SlgmProg
import Derived.Test.YtifgaaemdojmpaaGreatDoorProg
import Derived.Test.YtifgaaemdojmpaaGreatDoorG04
namespace Go.Proofs.YtifgaaemdojmpaaGreatDoor.ex
open Go.ChangeShapes Go.WideShapes Go.ChangeAt Go.RowKit Go.Deep Go.Maps
set_option linter.unusedVariables false
set_option linter.unusedSimpArgs false

theorem cut_sumF {E : Nat → Ex} : ∀ (left p : Nat) (ps : List Nat), cutP E p left = some ps → (ps.map fun q => (E q).size.toNat + 1).sum = left := by
  intro left
  induction left using Nat.strongRecOn with
  | ind left ih =>
    intro p ps h
    rw [cutP] at h
    split at h
    · cases h; simp; omega
    · next h0 =>
      split at h
      · cases h
      · next h1 =>
        rw [Option.map_eq_some_iff] at h
        obtain ⟨qs, hq, rfl⟩ := h
        have := ih _ (by omega) _ _ hq
        simp only [List.map_cons, List.sum_cons]
        omega

theorem sum_w {f g : Nat → Nat} : ∀ (l : List Nat), (∀ q ∈ l, f q + 4 ≤ 8 * g q) → (l.map f).sum + 4 * l.length ≤ 8 * (l.map g).sum
  | [], _ => by simp
  | q :: l, h => by
    have h1 := h q (by simp)
    have h2 := sum_w l (fun x hx => h x (by simp [hx]))
    simp only [List.map_cons, List.sum_cons, List.length_cons]
    omega

theorem wT_le {E : Nat → Ex} {n : Nat} (hn : n ≤ 3000) : ∀ (r p len : Nat), ok E r p len = true → 0 < len → p + len ≤ n → wT r (treeP E r p) + 4 ≤ 8 * len := by
  intro r
  induction r with
  | zero => intro p len h; cases h
  | succ r ih =>
    intro p len hok hl hp
    obtain ⟨hsz, hh, ps, hcp, hpo, hspt, hall⟩ := parts_of_ok (by omega) hok
    obtain ⟨hfits, hpl⟩ := cut_fits _ _ _ hcp
    have hsum := cut_sumF _ _ _ hcp
    have hT : treeP E (r + 1) p = .mk (E p).kind (E p).text (E p).n (ps.map (treeP E r)) := by
      rw [treeP, show (E p).size.toNat = len - 1 by omega, hcp]
      rfl
    rw [hT, wT_mk, wL, List.map_map]
    have h5 := sum_w (f := wT r ∘ treeP E r) (g := fun q => (E q).size.toNat + 1) ps fun q hq => by
      obtain ⟨f1, f2, f3⟩ := hfits q hq
      exact ih q _ (hall q hq) (by omega) (by omega)
    rw [hsum] at h5
    simp only [List.length_map]
    omega

theorem okT_of {E : Nat → Ex} {n : Nat} (hn : n ≤ 3000) (ht : ∀ i, i < n → (E i).text.size ≤ 1048576) : ∀ (r p len : Nat), ok E r p len = true → 0 < len → p + len ≤ n → okT r (treeP E r p) := by
  intro r
  induction r with
  | zero => intro p len h; cases h
  | succ r ih =>
    intro p len hok hl hp
    obtain ⟨ps, N⟩ := node_of hl (by omega) hok
    rw [N.tree]
    have hfew := N.few
    refine ⟨ht p (by omega), ok_kind hok, by simp; omega, fun i q hq => ?_⟩
    rw [List.getElem?_map, Option.map_eq_some_iff] at hq
    obtain ⟨p', hp', rfl⟩ := hq
    have hi : i < ps.length := (List.getElem?_eq_some_iff.1 hp').1
    have e : pAt ps i = p' := by simp [pAt, hp']
    have hkd := N.kid i hi
    obtain ⟨d, z, e1, e2, e3, e4, e5⟩ := N.at_ i hi
    rw [e] at hkd e1
    subst e1
    refine ⟨by rw [tr_kind]; simpa using hkd, ih _ _ e5 (by omega) (by omega)⟩

/-! ### The names found, ascending -/

def asc (l : List (List UInt8)) : Prop := l.Pairwise (fun a b => a < b)

theorem bl (x y : List UInt8) : Op.bytesLess x y = true ↔ x < y := by rw [Go.Proofs.bytesLess_eq]; simp

theorem fadd_mem (s : List UInt8) : ∀ (l : List (List UInt8)) (x : List UInt8), x ∈ fadd l s ↔ x ∈ l ∨ x = s
  | [], x => by simp [fadd]
  | y :: r, x => by
    have ih := fadd_mem s r x
    unfold fadd
    split
    · simp [ih, or_assoc]
    · split
      · next h =>
        subst h
        constructor
        · exact fun h => .inl h
        · rintro (h | rfl)
          · exact h
          · simp
      · rw [List.mem_cons, Or.comm]

theorem fadd_asc (s : List UInt8) : ∀ (l : List (List UInt8)), asc l → asc (fadd l s)
  | [], _ => by simp [fadd, asc]
  | y :: r, h => by
    have h' := List.pairwise_cons.1 h
    unfold fadd
    split
    · next hl =>
      refine List.pairwise_cons.2 ⟨fun x hx => ?_, fadd_asc s r h'.2⟩
      rcases (fadd_mem s r x).1 hx with hx | rfl
      · exact h'.1 x hx
      · exact (bl _ _).1 hl
    · next hl =>
      split
      · exact h
      · next hne =>
        have hlt : s < y := by
          have h1 : ¬ y < s := fun hh => hl ((bl _ _).2 hh)
          rcases List.le_iff_lt_or_eq.1 (List.not_lt.1 h1) with h2 | h2
          · exact h2
          · exact absurd h2.symm hne
        refine List.pairwise_cons.2 ⟨fun x hx => ?_, h⟩
        rcases List.mem_cons.1 hx with rfl | hx
        · exact hlt
        · exact List.lt_trans hlt (h'.1 x hx)

theorem fold_mem : ∀ (l o : List (List UInt8)) (x : List UInt8), x ∈ l.foldl fadd o ↔ x ∈ o ∨ x ∈ l
  | [], o, x => by simp
  | y :: l, o, x => by
    have := fold_mem l (fadd o y) x
    rw [List.foldl_cons, this, fadd_mem]
    simp [or_assoc]
theorem fold_asc : ∀ (l o : List (List UInt8)), asc o → asc (l.foldl fadd o)
  | [], o, h => h
  | y :: l, o, h => fold_asc l _ (fadd_asc y o h)

theorem asc_nodup {l : List (List UInt8)} (h : asc l) : l.Nodup := h.imp fun hab e => by subst e; exact List.lt_irrefl _ hab

/-- The keys that are told, sorted, are the names found. -/
theorem keys_sorted {w : World} {b N : Nat} {D : DataW Unit} (hown : w.ownsMap Tryz.prog 9 (plainElem Tryz.prog 3) b N D) {ss L : List (List UInt8)} (hp : ss.Perm (strKeys D)) (hL : asc L) (hm : ∀ x, Maps.has D (.string x) = true ↔ x ∈ L) : ss.mergeSort (fun x y => decide (x ≤ y)) = L := by
  have hp2 : L.Perm (strKeys D) := by
    obtain ⟨es, hD, hpw, _⟩ := hown.entries keyed9
    obtain ⟨es', hD', hko⟩ := hown.keysOf
    obtain rfl : es = es' := by rw [hD] at hD'; simpa using hD'
    subst hD
    exact perm_strKeys hpw (fun p hp => by obtain ⟨v, hv⟩ := hko p hp; obtain ⟨x, _, hx, _⟩ := Maps.keyOf_str Tryz.underlying9 hv; exact ⟨x, hx⟩) (asc_nodup hL) (fun x => (hm x).symm)
  have e1 := mergeSort_of_perm (hp.trans hp2.symm)
  have e2 : L.mergeSort leB = L := List.mergeSort_of_pairwise (hL.imp fun hab => by simp only [leB, decide_eq_true_eq]; exact List.le_of_lt hab)
  exact e1.trans e2

end Go.Proofs.YtifgaaemdojmpaaGreatDoor.ex

namespace Go.Proofs
open Go.Shelf
def Tryz.keys14_ren : Go.Shelf.Ren := ⟨fun | 7 => 14 | 10 => 34 | n => n, fun | 23 => 32 | 26 => 9 | 3 => 3 | 28 => 41 | 0 => 0 | 27 => 40 | 33 => 74 | 4 => 4 | n => n, fun | n => n⟩
theorem Tryz.keys14 : Go.Proofs.SlLaysZ.n7 Tryz.prog Tryz.keys14_ren := {
  mixed := by kernel_rfl
  f7 := ⟨Tryz.f14.name, by decide, Tryz.func14.trans (congrArg some (by kernel_rfl))⟩
  f10 := ⟨Tryz.f34.name, by decide, Tryz.func34.trans (congrArg some (by kernel_rfl))⟩
  t0 := Tryz.underlying0
  a0 := Tryz.isAgg0
  z0 := Tryz.sizeOf0
  v0 := Tryz.zeroValue0
  t4 := Tryz.underlying4
  a4 := Tryz.isAgg4
  z4 := Tryz.sizeOf4
  v4 := Tryz.zeroValue4
  t23 := Tryz.underlying32
  a23 := Tryz.isAgg32
  z23 := Tryz.sizeOf32
  v23 := Tryz.zeroValue32
  t26 := Tryz.underlying9
  a26 := Tryz.isAgg9
  z26 := Tryz.sizeOf9
  v26 := Tryz.zeroValue9
  t27 := Tryz.underlying40
  a27 := Tryz.isAgg40
  z27 := Tryz.sizeOf40
  v27 := Tryz.zeroValue40
  t28 := Tryz.underlying41
  a28 := Tryz.isAgg41
  z28 := Tryz.sizeOf41
  v28 := Tryz.zeroValue41
  t33 := Tryz.underlying74
  a33 := Tryz.isAgg74
  z33 := Tryz.sizeOf74
  v33 := Tryz.zeroValue74 }
def Tryz.sorted13_ren : Go.Shelf.Ren := ⟨fun | 6 => 13 | 8 => 32 | 9 => 33 | 11 => 53 | 13 => 55 | 12 => 54 | 23 => 75 | 24 => 76 | 14 => 66 | 15 => 67 | 16 => 68 | 17 => 69 | 18 => 70 | 19 => 71 | 20 => 72 | 21 => 73 | 22 => 74 | 25 => 97 | 26 => 98 | 27 => 99 | 28 => 100 | 29 => 101 | 30 => 102 | 31 => 114 | n => n, fun | 26 => 9 | 28 => 41 | 24 => 24 | 0 => 0 | 3 => 3 | 37 => 131 | 48 => 158 | 50 => 160 | 4 => 4 | 40 => 150 | 39 => 149 | 45 => 155 | 5 => 5 | 9 => 9 | 51 => 173 | 55 => 177 | 57 => 190 | 58 => 87 | 33 => 74 | n => n, fun | n => n⟩
theorem Tryz.sorted13 : Go.Proofs.SlLaysZ.n6 Tryz.prog Tryz.sorted13_ren := {
  mixed := by kernel_rfl
  f6 := ⟨Tryz.f13.name, by decide, Tryz.func13.trans (congrArg some (by kernel_rfl))⟩
  f8 := ⟨Tryz.f32.name, by decide, Tryz.func32.trans (congrArg some (by kernel_rfl))⟩
  f11 := ⟨Tryz.f53.name, by decide, Tryz.func53.trans (congrArg some (by kernel_rfl))⟩
  t0 := Tryz.underlying0
  a0 := Tryz.isAgg0
  z0 := Tryz.sizeOf0
  v0 := Tryz.zeroValue0
  t24 := Tryz.underlying24
  a24 := Tryz.isAgg24
  z24 := Tryz.sizeOf24
  v24 := Tryz.zeroValue24
  t26 := Tryz.underlying9
  a26 := Tryz.isAgg9
  z26 := Tryz.sizeOf9
  v26 := Tryz.zeroValue9
  t28 := Tryz.underlying41
  a28 := Tryz.isAgg41
  z28 := Tryz.sizeOf41
  v28 := Tryz.zeroValue41
  i26 := by kernel_rfl }
def Tryz.sort33_ren : Go.Shelf.Ren := ⟨fun | 6 => 33 | 8 => 55 | 9 => 54 | 19 => 75 | 20 => 76 | 21 => 66 | 22 => 67 | 23 => 68 | 24 => 69 | 25 => 70 | 26 => 71 | 27 => 72 | 28 => 73 | 29 => 74 | 36 => 97 | 31 => 98 | 32 => 99 | 37 => 100 | 38 => 101 | 39 => 102 | 41 => 114 | n => n, fun | 27 => 24 | 29 => 9 | 3 => 3 | 32 => 131 | 26 => 24 | 0 => 0 | 44 => 158 | 46 => 160 | 4 => 4 | 36 => 150 | 35 => 149 | 41 => 155 | 5 => 5 | 9 => 9 | 53 => 173 | 57 => 177 | 63 => 190 | 64 => 87 | n => n, fun | n => n⟩
theorem Tryz.sort33 : Go.Proofs.SlLaysM.n6 Tryz.prog Tryz.sort33_ren := {
  mixed := by kernel_rfl
  f6 := ⟨Tryz.f33.name, by decide, Tryz.func33.trans (congrArg some (by kernel_rfl))⟩
  f8 := Tryz.func55.trans (congrArg some (by kernel_rfl))
  f9 := ⟨Tryz.f54.name, by decide, Tryz.func54.trans (congrArg some (by kernel_rfl))⟩
  f19 := Tryz.func75.trans (congrArg some (by kernel_rfl))
  f20 := Tryz.func76.trans (congrArg some (by kernel_rfl))
  f21 := ⟨Tryz.f66.name, by decide, Tryz.func66.trans (congrArg some (by kernel_rfl))⟩
  f22 := ⟨Tryz.f67.name, by decide, Tryz.func67.trans (congrArg some (by kernel_rfl))⟩
  f23 := ⟨Tryz.f68.name, by decide, Tryz.func68.trans (congrArg some (by kernel_rfl))⟩
  f24 := ⟨Tryz.f69.name, by decide, Tryz.func69.trans (congrArg some (by kernel_rfl))⟩
  f25 := ⟨Tryz.f70.name, by decide, Tryz.func70.trans (congrArg some (by kernel_rfl))⟩
  f26 := ⟨Tryz.f71.name, by decide, Tryz.func71.trans (congrArg some (by kernel_rfl))⟩
  f27 := ⟨Tryz.f72.name, by decide, Tryz.func72.trans (congrArg some (by kernel_rfl))⟩
  f28 := ⟨Tryz.f73.name, by decide, Tryz.func73.trans (congrArg some (by kernel_rfl))⟩
  f29 := ⟨Tryz.f74.name, by decide, Tryz.func74.trans (congrArg some (by kernel_rfl))⟩
  f31 := Tryz.func98.trans (congrArg some (by kernel_rfl))
  f32 := Tryz.func99.trans (congrArg some (by kernel_rfl))
  f36 := ⟨Tryz.f97.name, by decide, Tryz.func97.trans (congrArg some (by kernel_rfl))⟩
  f37 := ⟨Tryz.f100.name, by decide, Tryz.func100.trans (congrArg some (by kernel_rfl))⟩
  f38 := ⟨Tryz.f101.name, by decide, Tryz.func101.trans (congrArg some (by kernel_rfl))⟩
  f39 := ⟨Tryz.f102.name, by decide, Tryz.func102.trans (congrArg some (by kernel_rfl))⟩
  f41 := ⟨Tryz.f114.name, by decide, Tryz.func114.trans (congrArg some (by kernel_rfl))⟩
  t0 := Tryz.underlying0
  a0 := Tryz.isAgg0
  z0 := Tryz.sizeOf0
  v0 := Tryz.zeroValue0
  t3 := Tryz.underlying3
  a3 := Tryz.isAgg3
  z3 := Tryz.sizeOf3
  v3 := Tryz.zeroValue3
  t4 := Tryz.underlying4
  a4 := Tryz.isAgg4
  z4 := Tryz.sizeOf4
  v4 := Tryz.zeroValue4
  t5 := Tryz.underlying5
  a5 := Tryz.isAgg5
  z5 := Tryz.sizeOf5
  v5 := Tryz.zeroValue5
  t9 := Tryz.underlying9
  a9 := Tryz.isAgg9
  z9 := Tryz.sizeOf9
  v9 := Tryz.zeroValue9
  t26 := Tryz.underlying24
  a26 := Tryz.isAgg24
  z26 := Tryz.sizeOf24
  v26 := Tryz.zeroValue24
  t27 := Tryz.underlying24
  a27 := Tryz.isAgg24
  z27 := Tryz.sizeOf24
  v27 := Tryz.zeroValue24
  t29 := Tryz.underlying9
  a29 := Tryz.isAgg9
  z29 := Tryz.sizeOf9
  v29 := Tryz.zeroValue9
  t32 := Tryz.underlying131
  a32 := Tryz.isAgg131
  z32 := Tryz.sizeOf131
  v32 := Tryz.zeroValue131
  t35 := Tryz.underlying149
  a35 := Tryz.isAgg149
  z35 := Tryz.sizeOf149
  v35 := Tryz.zeroValue149
  t36 := Tryz.underlying150
  a36 := Tryz.isAgg150
  z36 := Tryz.sizeOf150
  v36 := Tryz.zeroValue150
  t41 := Tryz.underlying155
  a41 := Tryz.isAgg155
  z41 := Tryz.sizeOf155
  v41 := Tryz.zeroValue155
  t44 := Tryz.underlying158
  a44 := Tryz.isAgg158
  z44 := Tryz.sizeOf158
  v44 := Tryz.zeroValue158
  t46 := Tryz.underlying160
  a46 := Tryz.isAgg160
  z46 := Tryz.sizeOf160
  v46 := Tryz.zeroValue160
  t53 := Tryz.underlying173
  a53 := Tryz.isAgg173
  z53 := Tryz.sizeOf173
  v53 := Tryz.zeroValue173
  t57 := Tryz.underlying177
  a57 := Tryz.isAgg177
  z57 := Tryz.sizeOf177
  v57 := Tryz.zeroValue177
  t63 := Tryz.underlying190
  a63 := Tryz.isAgg190
  z63 := Tryz.sizeOf190
  v63 := Tryz.zeroValue190
  t64 := Tryz.underlying87
  a64 := Tryz.isAgg87
  z64 := Tryz.sizeOf87
  v64 := Tryz.zeroValue87 }
end Go.Proofs

/-
  DERIVED. MADE BY PROGRAM (lay-iter.mjs) off ytifgaaemdojmpaagreatdoor.cut.gsa: THE SHELF's CONTRACTS ON 'slices.Sorted(maps.Keys(m))' LAID AT THIS DUMP: 1 map type. NO WALK OF THE LIBRARY's TEXT: each is one application of a contract over any P and ρ (Derived/Shelf/SlIter/, Derived/Shelf/SortM/).
-/
namespace Go.Proofs
open Go.RowKit Go.Maps Go.Sort Go.Shelf

-- maps.Keys[map[string]int,string,int] (function 14; its iterator 34) · slices.Sorted[string] (13) · slices.Sort[[]string,string] (33) · the map's type 32, the keys' 9

/-- slices.Sort's two contracts at this dump, at the fence that asks nothing. -/
theorem Tryz.sorts13 (m : Nat) : AnyZ.SortsIn Tryz.prog Tryz.sorted13_ren Fence.wide m :=
  ⟨fun blk off cap ss W hH hblk hsz => callsIn_wide.2 (AnyM.slices_Sort_string Tryz.sort33 blk off cap ss W hH hblk hsz),
   fun p cap W => callsIn_wide.2 (AnyM.slices_Sort_string_none Tryz.sort33 p cap W)⟩

/-- **maps.Keys[map[string]int,string,int], at whatever map, the nil one too:** a function value over ONE NEW BLOCK, which holds the map. -/
theorem Tryz.maps_Keys_14 (mb : Option Nat) (W : World) : CallsIn Fence.wide 5 Tryz.prog 14 #[.map mb] W fun e w' => e = .returned (.func (.func 34) #[] #[.pointer (some ⟨W.heap.size, 0, none⟩)]) ∧ w' = W.alloc (.cells #[.map mb] 32) :=
  AnyZ.keys_in Tryz.keys14 Fence.wide 5 trivial rfl mb W

set_option maxHeartbeats 1000000 in
/-- **slices.Sorted[string] AT WHAT maps.Keys[map[string]int,string,int] HANDED BACK FOR A MAP THAT IS NOT nil** ('w': the world AHEAD of maps.Keys' call): A NEW SLICE THAT HOLDS THE MAP's KEYS, SORTED; nil just where it has none; nothing that lay before has turned. -/
theorem Tryz.slices_Sorted_keys_13_14 {H : Type} (b nn : Nat) (D0 : DataW H) (R : Value → Option (DataW H × List MemPlace)) (w : World) (hown : w.ownsMap Tryz.prog 9 R b nn D0) (hmax : Maps.size D0 ≤ maxLen) (hbytes : Maps.size D0 * 16 ≤ 140737488355328) :
    CallsIn Fence.wide 5 Tryz.prog 13 #[.func (.func 34) #[] #[.pointer (some ⟨w.heap.size, 0, none⟩)]] (w.alloc (.cells #[.map (some b)] 32)) fun e w' => ∃ (v : Value) (ss : List (List UInt8)), e = .returned v ∧ ss.Perm (strKeys D0) ∧
      w'.ownsRow (w.alloc (.cells #[.map (some b)] 32)).heap.size 9 1 v ss.length ((ss.mergeSort (fun x y => decide (x ≤ y))).map encStr) ∧ (v = .slice none 0 0 ↔ ss = []) ∧ Below (w.alloc (.cells #[.map (some b)] 32)).heap.size (w.alloc (.cells #[.map (some b)] 32)) w' := by
  have hbl := hown.lt
  have hseq : SeqGives Fence.wide 2 Tryz.prog 34 #[.pointer (some ⟨w.heap.size, 0, none⟩)] encStr (fun ss => ss.Perm (strKeys D0)) (Maps.size D0) (w.alloc (.cells #[.map (some b)] 32)) :=
    AnyZ.keys_gives (ρ := Tryz.keys14_ren) { Tryz.keys14 with } Fence.wide _ trivial rfl (by omega) w.heap.size b nn D0 _ (by simp) (by simp) (by
      obtain ⟨es, clock, hb, Ft, hs, hD⟩ := hown
      exact ⟨es, clock, (Below.heap_alloc _ _ b hbl).trans hb, Ft, hs, hD⟩)
  exact AnyZ.sorted_in Tryz.sorted13 Fence.wide 5 trivial trivial trivial trivial rfl (by omega) (Tryz.sorts13 _) (enters_of Tryz.func33 (by kernel_rfl) rfl) 34 #[.pointer (some ⟨w.heap.size, 0, none⟩)] trivial (enters_of Tryz.func34 (by kernel_rfl) rfl) _ _ hmax hbytes _ hseq

set_option maxHeartbeats 1000000 in
/-- **.. AND FOR THE nil MAP: nil.** -/
theorem Tryz.slices_Sorted_keys_nil_13_14 (w : World) :
    CallsIn Fence.wide 5 Tryz.prog 13 #[.func (.func 34) #[] #[.pointer (some ⟨w.heap.size, 0, none⟩)]] (w.alloc (.cells #[.map none] 32)) fun e w' => ∃ (v : Value) (ss : List (List UInt8)), e = .returned v ∧ ss = [] ∧
      w'.ownsRow (w.alloc (.cells #[.map none] 32)).heap.size 9 1 v ss.length ((ss.mergeSort (fun x y => decide (x ≤ y))).map encStr) ∧ (v = .slice none 0 0 ↔ ss = []) ∧ Below (w.alloc (.cells #[.map none] 32)).heap.size (w.alloc (.cells #[.map none] 32)) w' := by
  have hseq : SeqGives Fence.wide 2 Tryz.prog 34 #[.pointer (some ⟨w.heap.size, 0, none⟩)] encStr (fun ss : List (List UInt8) => ss = []) 0 (w.alloc (.cells #[.map none] 32)) :=
    AnyZ.keys_gives_nil (ρ := Tryz.keys14_ren) { Tryz.keys14 with } Fence.wide _ trivial rfl w.heap.size _ (by simp) (by simp)
  exact AnyZ.sorted_in Tryz.sorted13 Fence.wide 5 trivial trivial trivial trivial rfl (by omega) (Tryz.sorts13 _) (enters_of Tryz.func33 (by kernel_rfl) rfl) 34 #[.pointer (some ⟨w.heap.size, 0, none⟩)] trivial (enters_of Tryz.func34 (by kernel_rfl) rfl) _ 0 (Nat.zero_le _) (by omega) _ hseq

-- THE CALLER's WALK over 'slices.Sorted(maps.Keys(m))' (inside '(callsIn_wide (n := 6)).1'; 'have hfK : Fence.wide.fn 14 := trivial', 'have hfS : Fence.wide.fn 13 := trivial' ahead): THE TWO ARMS TO PASTE:
--   gi_wp2_with (first
--     | (gi_at_call 14; refine (Tryz.maps_Keys_14 _ _).mono ?_; rintro e w' ⟨rfl, rfl⟩)
--     | (gi_at_call 13; refine (Tryz.slices_Sorted_keys_13_14 b nn D0 R w hown hmax hbytes).mono ?_; rintro e w' ⟨v, ss, rfl, hS, hrow, hnil, hb⟩))


end Go.Proofs

namespace Go.Proofs.YtifgaaemdojmpaaGreatDoor.ex
open Go.ChangeShapes Go.WideShapes Go.ChangeAt Go.RowKit Go.Deep Go.Maps Go.Sort Go.Shelf
set_option linter.unusedVariables false
set_option linter.unusedSimpArgs false

/-- What both sides answer. -/
def frees (E : Nat → Ex) (n : Nat) : List (List UInt8) := if okAll E n = true then List.foldl fadd [] (freesT 61 (treeP E 61 0) []) else []

theorem free_all {E : Nat → Ex} {b n : Nat} (hn : n ≤ 3000) : ∀ r, FrS E b n r
  | 0 => fun p len cap w vb vo B O hok => by cases hok
  | r + 1 => free_succ hn (free_all hn r)

theorem two_rows (w : World) : StrR ((w.alloc (.cells #[] 9)).alloc (.cells #[] 9)) (.slice (some ⟨w.heap.size, 0, none⟩) 0 0) [] ∧ StrR ((w.alloc (.cells #[] 9)).alloc (.cells #[] 9)) (.slice (some ⟨w.heap.size + 1, 0, none⟩) 0 0) [] := by
  refine ⟨(StrR.zero w).below ((Below.refl _ _).alloc (Nat.le_refl _) _), ?_⟩
  have := StrR.zero (w.alloc (.cells #[] 9))
  rwa [show (w.alloc (.cells #[] 9)).heap.size = w.heap.size + 1 by simp] at this

set_option maxRecDepth 100000 in
set_option maxHeartbeats 1000000 in
theorem sfree_any (E : Nat → Ex) (b n cap : Nat) (hn : n ≤ 1048576) (hc : n ≤ cap ∧ cap ≤ 9223372036854775807) (ht : ∀ i, i < n → (E i).text.size ≤ 1048576) (w : World) (hX : XsB w b n E) :
    Calls Tryz.prog 8 #[.slice (some ⟨b, 0, none⟩) n cap] w fun e w' => ∃ v, e = .returned v ∧ StrR w' v (frees E n) ∧ Below w.heap.size w w' := by
  have HO : Hid (Calls Tryz.prog 7 #[.slice (some ⟨b, 0, none⟩) n cap] w fun e w' => e = .returned (.bool (okAll E n)) ∧ Below w.heap.size w w') := sall_any E b n cap hn hc ht w hX
  by_cases hok : okAll E n = true
  · have hok0 := hok
    simp only [okAll, Bool.and_eq_true, decide_eq_true_eq] at hok0
    obtain ⟨⟨hn0, hn1⟩, hk, hok1⟩ := hok0
    have HT : Hid (∀ (w1 : World) (vb vo : Value), XsB w1 b n E → StrR w1 vb [] → StrR w1 vo [] → Calls Tryz.prog 20 #[.slice (some ⟨b, 0, none⟩) n cap, vb, vo] w1 fun e w' => ∃ v', e = .returned v' ∧ StrR w' v' (frees E n) ∧ Below w1.heap.size w1 w') := fun w1 vb vo h1 h2 h3 => by
      have := free_all (E := E) (b := b) hn1 61 0 n cap w1 vb vo [] [] hok1 h1 hn0 (by omega) hc.1 hc.2 h2 h3 (by simp) (by simp)
      rw [Nat.zero_mul] at this
      rw [frees, if_pos hok]
      refine this.mono ?_
      rintro e w' ⟨v', e1, e2, _, e3⟩
      exact ⟨v', e1, e2, e3⟩
    rw [hok] at HO
    have HX : Hid (XsB w b n E) := hX
    clear hok hk hok1 hX ht
    go_enter Tryz.func8, Tryz.ntmps8
    go_wp2_with (first
      | (go_at_call 7; refine HO.out.mono ?_; rintro e w1 ⟨rfl, hb1⟩)
      | (go_at_call 20; refine (HT.out _ _ _ ((HX.out.below hb1).below (two_b w1 _ _)) (two_rows w1).1 (two_rows w1).2).mono ?_; rintro e w2 ⟨v2, rfl, hr2, hb2⟩))
    go_ret
    exact ⟨_, rfl, hr2, hb1.trans (((two_b w1 _ _).trans (hb2.mono (by simp; omega))).mono hb1.size)⟩
  · have hok' : okAll E n = false := by simpa using hok
    have HE : Hid (frees E n = []) := by show _ = _; rw [frees, if_neg hok]
    rw [hok'] at HO
    clear hok hok' hX ht
    go_enter Tryz.func8, Tryz.ntmps8
    go_wp2_with (go_at_call 7; refine HO.out.mono ?_; rintro e w1 ⟨rfl, hb1⟩)
    go_ret
    exact ⟨_, rfl, by rw [HE.out]; exact StrR.zero w1, hb1.trans (((Below.refl _ _).alloc (Nat.le_refl _) _).mono hb1.size)⟩

end Go.Proofs.YtifgaaemdojmpaaGreatDoor.ex

namespace Go.Proofs.YtifgaaemdojmpaaGreatDoor.ex
open Go.ChangeShapes Go.WideShapes Go.ChangeAt Go.RowKit Go.Deep Go.Maps Go.Sort Go.Shelf
set_option linter.unusedVariables false
set_option linter.unusedSimpArgs false

theorem frees_len : ∀ (r : Nat) (t : Tr) (b : List (List UInt8)), okT r t → ∀ x ∈ freesT r t b, x.length ≤ 1048576
  | 0, _, _, h => h.elim
  | r + 1, .mk k t n ps, b, h => by
    intro x hx
    obtain ⟨h1, _, _, h2⟩ := h
    rw [freesT] at hx
    split at hx
    · split at hx
      · cases hx
      · obtain rfl : x = t.data.toList := by simpa using hx
        simpa using h1
    · obtain ⟨q, hq, hx⟩ := List.mem_flatMap.1 hx
      obtain ⟨i, hi, e⟩ := List.mem_iff_getElem.1 hq
      exact frees_len r q _ (h2 i q (by simp [hi, e])).2 x hx

/-- The two new maps know nothing. -/
theorem sq_new (w : World) : Sq ((w.alloc (.map #[] 0)).alloc (.map #[] 0)) w.heap.size (w.heap.size + 1) 0 [] (fun _ => False) := by
  refine ⟨⟨.map [], (World.ownsMap_made w Tryz.prog 9 _).alloc _, fun x => rfl⟩, ⟨.map [], ?_, fun x => by simp [Maps.has]⟩⟩
  have := World.ownsMap_made (H := Unit) (w.alloc (.map #[] 0)) Tryz.prog 9 (plainElem Tryz.prog 3)
  rwa [show (w.alloc (.map #[] 0)).heap.size = w.heap.size + 1 by simp] at this

theorem keys_len {w : World} {b N : Nat} {D : DataW Unit} (h : w.ownsMap Tryz.prog 9 (plainElem Tryz.prog 3) b N D) {ss : List (List UInt8)} (hp : ss.Perm (strKeys D)) : ss.length ≤ N := by
  have h1 := h.size_le
  obtain ⟨es, rfl, _⟩ := h.entries keyed9
  rw [hp.length_eq]
  simpa [strKeys, Maps.size] using h1

/-- An append of a row of texts to one that is not nil, and where it lies then. -/
theorem app_str_at (w : World) {ops : Array Oper} {rest : List Oper} {o : Oper} {a : Act} {Q : Exit → Act → World → Prop} (hgd : o.guard = none) (s x : Operand)
    (ho : o.op = .call { callee := .builtin .append, args := #[s, x], argTypes := #[24, 24] })
    (base : Nat) (v : Value) (xs : List (List UInt8)) (hs : a.eval s = v) (hown : w.ownsRow base 9 1 v xs.length (xs.map strL)) (hv : v ≠ .slice none 0 0)
    (ad : Addr) (m c : Nat) (ys : List (List UInt8)) (hx : a.eval x = .slice (some ad) m c) (hm : ys.length = m) (hnews : ∀ j u, (ys.map strL)[j]? = some u → w.cell? (ad.add j) = some u) (hlen : xs.length + m ≤ 1000000) (hbase : base ≤ w.heap.size)
    (h : ∀ v' w', w'.ownsRow base 9 1 v' (xs ++ ys).length ((xs ++ ys).map strL) → v' ≠ .slice none 0 0 → w.grownBy w' v.ownBlock → (v'.ownBlock = v.ownBlock ∨ v'.ownBlock = some w.heap.size) → wpList Tryz.prog ops Q rest (a.put o.dst v') w') : wpList Tryz.prog ops Q (o :: rest) a w := by
  obtain ⟨i0, hi, hz0, hz1, hz2⟩ := info_parts info9
  refine wpList_append_own_at w hgd s x 24 ho base 9 i0 _ 1 16 Tryz.underlying24 hi hz0 hz1 hz2 rfl (by omega) v xs.length (xs.map strL) hs hown ad m c (ys.map strL) hx (by simpa using hm) hnews (strL_one _) (by unfold maxLen; omega) (by omega) hbase ?_
  intro v' w' h1 h2 h3 h4
  exact h _ _ (by rw [List.length_append, List.map_append, hm]; exact h1) (fun e => hv (h3.1 e).1) h2 h4

/-- The keys, sorted, in a new row. -/
theorem sorted_any (w : World) (mf N : Nat) (S : List UInt8 → Prop) (L : List (List UInt8)) (hf : FM w mf N S) (hL : asc L) (hm : ∀ x, S x ↔ x ∈ L) (hN : N ≤ 1000000) :
    Calls Tryz.prog 13 #[.func (.func 34) #[] #[.pointer (some ⟨w.heap.size, 0, none⟩)]] (w.alloc (.cells #[.map (some mf)] 32)) fun e w' => ∃ a cap, e = .returned (.slice a L.length cap) ∧ L.length ≤ N ∧ PsO w' (Btw (w.heap.size + 1) w'.heap.size) a (L.map strL) ∧ Below (w.alloc (.cells #[.map (some mf)] 32)).heap.size (w.alloc (.cells #[.map (some mf)] 32)) w' := by
  obtain ⟨D, h1, h2⟩ := hf
  have hsz := h1.size_le
  refine (callsIn_wide.1 (Tryz.slices_Sorted_keys_13_14 mf N D _ w h1 (by unfold maxLen; omega) (by omega))).mono ?_
  rintro e w' ⟨v, ss, rfl, hS, hrow, _, hb⟩
  have e1 := keys_sorted h1 hS hL (fun x => (h2 x).trans (hm x))
  have hlen : ss.length = L.length := by rw [← e1, List.length_mergeSort]
  rw [e1] at hrow
  obtain ⟨_, a, cap, rfl, _, _, hP⟩ := PsO.own hrow
  rw [show (w.alloc (.cells #[.map (some mf)] 32)).heap.size = w.heap.size + 1 by simp] at hP
  exact ⟨a, cap, by rw [hlen], by rw [← hlen]; exact keys_len h1 hS, hP, hb⟩

set_option maxRecDepth 100000 in
set_option maxHeartbeats 1000000 in
theorem ifree_no (E : Nat → Ex) (b n cap : Nat) (hn : n ≤ 1048576) (hc : n ≤ cap ∧ cap ≤ 9223372036854775807) (ht : ∀ i, i < n → (E i).text.size ≤ 1048576) (w : World) (hX : XsB w b n E) (T : Tabs w) (hok : okAll E n = false) :
    Calls Tryz.prog 5 #[.slice (some ⟨b, 0, none⟩) n cap] w fun e w' => ∃ v, e = .returned v ∧ w'.ownsRow w.heap.size 9 1 v (frees E n).length ((frees E n).map strL) ∧ v ≠ .slice none 0 0 ∧ Below w.heap.size w w' := by
  have HC := iok_any E b n cap hn hc ht w hX T
  rw [hok] at HC
  have HC' : Hid (Calls Tryz.prog 10 #[.slice (some ⟨b, 0, none⟩) n cap] w fun e w' => e = .returned (.bool false) ∧ Below w.heap.size w w') := HC
  have HE : Hid (frees E n = []) := by show _ = _; rw [frees, if_neg (by simp [hok])]
  clear HC hok
  go_enter Tryz.func5, Tryz.ntmps5
  go_wp2_with (go_at_call 10; refine HC'.out.mono ?_; rintro e w1 ⟨rfl, hb1⟩)
  go_ret
  exact ⟨_, rfl, by rw [HE.out]; exact ownsRow_base_a (own_none w1 9) hb1.size, not_nilS _ _ _, hb1.alloc hb1.size _⟩

set_option maxRecDepth 100000 in
set_option maxHeartbeats 2000000 in
theorem ifree_yes (E : Nat → Ex) (b n cap : Nat) (hc : n ≤ cap ∧ cap ≤ 9223372036854775807) (ht : ∀ i, i < n → (E i).text.size ≤ 1048576) (w : World) (hX : XsB w b n E) (T : Tabs w) (hok : okAll E n = true) :
    Calls Tryz.prog 5 #[.slice (some ⟨b, 0, none⟩) n cap] w fun e w' => ∃ v, e = .returned v ∧ w'.ownsRow w.heap.size 9 1 v (frees E n).length ((frees E n).map strL) ∧ v ≠ .slice none 0 0 ∧ Below w.heap.size w w' := by
  have hok0 := hok
  simp only [okAll, Bool.and_eq_true, decide_eq_true_eq] at hok0
  obtain ⟨⟨hn0, hn1⟩, hk, hok1⟩ := hok0
  have HC := iok_any E b n cap (by omega) hc ht w hX T
  rw [hok] at HC
  have HC' : Hid (Calls Tryz.prog 10 #[.slice (some ⟨b, 0, none⟩) n cap] w fun e w' => e = .returned (.bool true) ∧ Below w.heap.size w w') := HC
  have HT : Hid (∀ w1, Below w.heap.size w w1 → Calls Tryz.prog 12 #[.slice (some ⟨b, 0, none⟩) n cap] w1 fun e w' => ∃ v, e = .returned v ∧ Nd w' (Btw w1.heap.size w'.heap.size) 61 v (treeP E 61 0) ∧ Below w1.heap.size w1 w') := fun w1 h1 => by
    have := tree_any E b n hn1 61 0 n cap w1 hok1 (hX.below h1) hn0 (by omega) hc.1 hc.2
    simpa using this
  have hwt := wT_le hn1 61 0 n hok1 hn0 (by omega)
  have hot := okT_of hn1 ht 61 0 n hok1 hn0 (by omega)
  have HL : Hid (∀ (w2 : World) (x : Value) (mb mf : Nat) (O : Nat → Prop), Nd w2 O 61 x (treeP E 61 0) → Of mb mf w2 O → Sq w2 mb mf 0 [] (fun _ => False) → mb ≠ mf →
      Calls Tryz.prog 11 #[.agg #[.map (some mb), .map (some mf)], x] w2 fun e w' => (∃ u, e = .returned u) ∧ FM w' mf 24000 (fun x => x ∈ freesT 61 (treeP E 61 0) []) ∧ Lk mb mf w2 w') := fun w2 x mb mf O h1 h2 h3 h4 => by
    refine (look_all 61 (treeP E 61 0) x mb mf 0 [] _ w2 O h1 hot h2 h3 h4 (by omega) (by simp)).mono ?_
    rintro e w' ⟨hu, hs, hl⟩
    exact ⟨hu, (hs.mono (N' := 24000) (by omega)).f.iff (fun x => by simp), hl⟩
  obtain ⟨L, hLd⟩ : ∃ L, frees E n = L := ⟨_, rfl⟩
  have hLL : L = List.foldl fadd [] (freesT 61 (treeP E 61 0) []) := by rw [← hLd, frees, if_pos hok]
  have HLA : Hid (asc L) := by show asc L; rw [hLL]; exact fold_asc _ _ (by simp [asc])
  have HLM : Hid (∀ x, x ∈ freesT 61 (treeP E 61 0) [] ↔ x ∈ L) := fun x => by rw [hLL, fold_mem]; simp
  have HLS : Hid (∀ x ∈ L, x.length ≤ 1048576) := fun x hx => frees_len 61 _ [] hot x ((HLM.out x).2 hx)
  rw [hLd]
  clear HC hok hk hok1 hLL hLd hwt hot
  obtain ⟨TR, hTR⟩ : ∃ TR, treeP E 61 0 = TR := ⟨_, rfl⟩
  rw [hTR] at HT HL HLM
  clear hTR
  obtain ⟨FS, hFS⟩ : ∃ FS, freesT 61 TR [] = FS := ⟨_, rfl⟩
  rw [hFS] at HL HLM
  clear hFS
  go_enter Tryz.func5, Tryz.ntmps5
  have hmm := @run_makeMap Tryz.prog
  go_wp2_with (go_at_call 10; refine HC'.out.mono ?_; rintro e w1 ⟨rfl, hb1⟩)
  obtain ⟨W0, hW0⟩ : ∃ W0, (((w1.alloc (.map #[] 0)).alloc (.map #[] 0)).alloc (.cells #[.map (some w1.heap.size), .map (some (w1.heap.size + 1))] 34)) = W0 := ⟨_, rfl⟩
  have HSZ : Hid (W0.heap.size = w1.heap.size + 3) := by show _ = _; rw [← hW0]; simp
  have HQ0 : Hid (Sq W0 w1.heap.size (w1.heap.size + 1) 0 [] (fun _ => False)) := by show Sq _ _ _ _ _ _; rw [← hW0]; exact (sq_new w1).alloc _
  have HB0 : Hid (Below w.heap.size w W0) := by show Below _ _ _; rw [← hW0]; exact hb1.trans ((three_b w1 _ _ _).mono hb1.size)
  have HBX : Hid (∀ W : World, W.heap[w1.heap.size + 1 + 1]? = W0.heap[w1.heap.size + 1 + 1]? → W.cell? ⟨w1.heap.size + 1 + 1, 0, none⟩ = some (.map (some w1.heap.size)) ∧ W.cell? ⟨w1.heap.size + 1 + 1, 1, none⟩ = some (.map (some (w1.heap.size + 1)))) := fun W h => by
    have e : W0.heap[w1.heap.size + 1 + 1]? = some (.cells #[.map (some w1.heap.size), .map (some (w1.heap.size + 1))] 34) := by
      rw [← hW0]
      have := heap_alloc_new ((w1.alloc (.map #[] 0)).alloc (.map #[] 0)) (.cells #[.map (some w1.heap.size), .map (some (w1.heap.size + 1))] 34)
      simpa using this
    simp [World.cell?, h, e]
  rw [hW0]
  clear hW0
  have S0 := HBX.out W0 rfl
  go_region_held3 (fun w' => w'.cell? ⟨w1.heap.size + 1 + 1, 0, none⟩ = some (.map (some w1.heap.size)) ∧ w'.cell? ⟨w1.heap.size + 1 + 1, 1, none⟩ = some (.map (some (w1.heap.size + 1))))
    (first
      | exact S0
      | exact S3
      | exact S4)
    (first
      | ((go_at_call 12; refine (HT.out _ HB0.out.drew).mono ?_; rintro e w3 ⟨v3, rfl, hnd, hb3⟩; have HB3 : Below W0.heap.size W0 w3 := ⟨hb3.os, hb3.tape, hb3.output, hb3.size, hb3.block⟩; have S3 := HBX.out w3 (HB3.block _ (by have := HSZ.out; omega)); have HO3 : Of w1.heap.size (w1.heap.size + 1) w3 (Btw W0.drew.heap.size w3.heap.size) := fun bb h => ⟨h.2, by have := h.1; have := HSZ.out; have : W0.drew.heap.size = W0.heap.size := rfl; omega, by have := h.1; have := HSZ.out; have : W0.drew.heap.size = W0.heap.size := rfl; omega⟩))
      | ((go_at_call 11; refine (HL.out _ _ _ _ _ hnd HO3 (HQ0.out.kept HB3) (Nat.ne_of_lt (Nat.lt_succ_self _))).mono ?_; rintro e w4 ⟨⟨u4, rfl⟩, hfm, hlk⟩; have S4 := HBX.out w4 ((hlk.block _ (Nat.lt_of_lt_of_le (by have := HSZ.out; omega) HB3.size) (by omega) (by omega)).trans (HB3.block _ (by have := HSZ.out; omega))))))
  obtain ⟨_, c1⟩ := S4
  have HB4 : Hid (Below w.heap.size w w4) := by
    have h3 : Below w.heap.size w w3 := HB0.out.trans (HB3.mono HB0.out.size)
    have hs1 := hb1.size
    exact ⟨hlk.os.trans h3.os, hlk.tape.trans h3.tape, hlk.output.trans h3.output, Nat.le_trans h3.size hlk.size, fun k hk => (hlk.block k (Nat.lt_of_lt_of_le hk h3.size) (by omega) (by omega)).trans (h3.block k hk)⟩
  have HFM : Hid (FM (w4.alloc (.cells #[] 9)) (w1.heap.size + 1) 24000 (fun x => x ∈ FS)) := hfm.kept (Below.heap_alloc _ _ _ hfm.lt)
  have c2 : (w4.alloc (.cells #[] 9)).cell? ⟨w1.heap.size + 1 + 1, 1, none⟩ = some (.map (some (w1.heap.size + 1))) := (World.cell?_of_block (Below.heap_alloc _ _ _ (World.block_lt_of_cell? _ _ c1))).trans c1
  have HSO : Hid (Calls Tryz.prog 13 #[.func (.func 34) #[] #[.pointer (some ⟨w4.heap.size + 1, 0, none⟩)]] ((w4.alloc (.cells #[] 9)).alloc (.cells #[.map (some (w1.heap.size + 1))] 32)) fun e w' => ∃ a cap, e = .returned (.slice a L.length cap) ∧ L.length ≤ 24000 ∧ PsO w' (Btw (w4.heap.size + 1 + 1) w'.heap.size) a (L.map strL) ∧ Below ((w4.alloc (.cells #[] 9)).alloc (.cells #[.map (some (w1.heap.size + 1))] 32)).heap.size ((w4.alloc (.cells #[] 9)).alloc (.cells #[.map (some (w1.heap.size + 1))] 32)) w') := by
    have := sorted_any (w4.alloc (.cells #[] 9)) _ 24000 _ L HFM.out HLA.out HLM.out (by omega)
    rwa [show (w4.alloc (.cells #[] 9)).heap.size = w4.heap.size + 1 by simp] at this
  clear HT HL HQ0 HBX HSZ HB3 HO3 hnd hlk hfm S0 S3 HB0 hb3
  go_wp2_with (first
    | (go_at_call 14; refine (callsIn_wide.1 (Tryz.maps_Keys_14 _ _)).mono ?_; rintro e w5 ⟨rfl, rfl⟩)
    | (go_at_call 13; refine HSO.out.mono ?_; rintro e w6 ⟨a6, cap6, rfl, hl6, hP6, hb6⟩))
  obtain ⟨bb, off, ha, hcl⟩ := hP6
  have ha' : L.length = 0 ∨ a6 = some ⟨bb, off, none⟩ := by rcases ha with h | h; exact .inl (by simpa using h); exact .inr h.1
  have HBB : Hid (0 < L.length → bb < w6.heap.size ∧ some bb ≠ some w4.heap.size) := fun h => by
    have h2 := (ha.resolve_left (by simp; intro e; subst e; simp at h)).2
    exact ⟨h2.2, by have := h2.1; simp; omega⟩
  have HCL : Hid (∀ i x, L[i]? = some x → w6.cell? ⟨bb, off + i, none⟩ = some (strL x)) := fun i x h => hcl i _ (by simp [h])
  have hb46 : Below w4.heap.size w4 w6 := ((two_b w4 (.cells #[] 9) (.cells #[.map (some (w1.heap.size + 1))] 32)).trans (hb6.mono (by simp; omega)))
  have hs4 := HB4.out.size
  have HB6 : Hid (Below w.heap.size w w6) := HB4.out.trans (hb46.mono hs4)
  have HN6 : Hid (w6.ownsRow w.heap.size 9 1 (.slice (some ⟨w4.heap.size, 0, none⟩) 0 0) 0 []) := by
    refine own_below (ownsRow_base_a (own_none w4 9) hs4) ?_
    exact ((Below.refl _ _).alloc (Nat.le_refl _) _).trans (hb6.mono (by simp))
  clear ha hcl HFM hb46 hb6 c1 c2 HSO
  go_loopw [4, 6, 24] (fun v _ x wr => ∃ (i : Nat), i ≤ L.length ∧ x = .int .i64 (i : Int) ∧ wr.ownsRow w.heap.size 9 1 v (L.take i).length ((L.take i).map strL) ∧ v ≠ .slice none 0 0 ∧ (0 < L.length → wr.heap[bb]? = w6.heap[bb]? ∧ some bb ≠ v.ownBlock ∧ bb < wr.heap.size) ∧ Below w.heap.size w wr) (fun _ _ x _ => L.length - (intOf x).toNat)
  case atStart => exact ⟨0, Nat.zero_le _, rfl, HN6.out, not_nilS _ _ _, fun h => ⟨rfl, (HBB.out h).2, (HBB.out h).1⟩, HB6.out⟩
  case round =>
    clear HN6 HB6 HB4 hX T ht hc
    obtain ⟨i, hi, rfl, hown, hni, hbel6, hbel⟩ := hrel
    have HK6 : Hid (0 < L.length → wr.heap[bb]? = w6.heap[bb]? ∧ some bb ≠ u4.ownBlock ∧ bb < wr.heap.size) := hbel6
    clear hbel6
    have hszb := hbel.size
    have HNI : Hid (u4 ≠ .slice none 0 0) := hni
    clear hni
    by_cases h : i < L.length
    · have h' : (i : Int) < (L.length : Int) := by omega
      obtain rfl := ha'.resolve_left (by omega)
      have ci : wr.cell? ⟨bb, off + i, none⟩ = some (strL L[i]) := by
        have cc := HCL.out i L[i] (by simp [h])
        exact (World.cell?_of_block (HK6.out (by omega)).1).trans cc
      have hxs := HLS.out L[i] (List.getElem_mem h)
      have HTK : Hid (L.take (i + 1) = L.take i ++ [L[i]]) := List.take_succ_eq_append_getElem h
      have hil : (L.take i).length ≤ 999999 := by simp; omega
      rw [strL] at ci
      generalize L[i] = x at ci hxs HTK
      obtain ⟨t, ht⟩ : ∃ t : ByteArray, (⟨x.toArray⟩ : ByteArray) = t := ⟨_, rfl⟩
      have HTX : Hid (t.data.toList = x) := by show _ = _; rw [← ht]
      have htl : t.size ≤ 1099511627776 := by rw [← ht]; simp [ByteArray.size]; omega
      rw [ht] at ci
      clear ht hxs
      as_aux_lemma =>
        go_wp2_with (first
          | (go_at_call 15; refine (cl.clone_any t _ htl).mono ?_; rintro e w7 ⟨rfl, hb7⟩; have HOW : Hid ((w7.alloc (.cells #[.string t] 9)).ownsRow w.heap.size 9 1 u4 (L.take i).length ((L.take i).map strL)) := (hown.kept ⟨hb7.os, hb7.tape, hb7.output, hb7.size, fun j hj _ => hb7.block j hj⟩ (kept_ne _)).alloc _; have hbw : Below w.heap.size w (w7.alloc (.cells #[.string t] 9)) := (hbel.trans (hb7.mono hszb)).alloc (Nat.le_trans hszb hb7.size) _; clear hown)
          | (at_builtin; refine app_str_at _ rfl _ _ rfl w.heap.size u4 (L.take i) rfl HOW.out HNI.out ⟨w7.heap.size, 0, none⟩ 1 1 [t.data.toList] rfl rfl (one_at w7 t) (by omega) hbw.size ?_)
          | go_in)
        intro v' w' hown' hni hg hat
        have hb' := below_grown hbw HOW.out hg hbw.size
        have HN' : Hid (v' ≠ .slice none 0 0) := hni
        have HK' : Hid (0 < L.length → w'.heap[bb]? = w6.heap[bb]? ∧ some bb ≠ v'.ownBlock ∧ bb < w'.heap.size) := fun h0 => by
          obtain ⟨k1, k2, k3⟩ := HK6.out h0
          have k4 : bb < w7.heap.size := Nat.lt_of_lt_of_le k3 hb7.size
          have k5 : bb < (w7.alloc (.cells #[.string t] 9)).heap.size := by simp; omega
          refine ⟨(hg.block bb k5 k2).trans ((Below.heap_alloc _ _ _ k4).trans ((hb7.block _ k3).trans k1)), ?_, Nat.lt_of_lt_of_le k5 hg.size⟩
          rcases hat with e | e
          · rw [e]; exact k2
          · rw [e]; intro e2; have e3 := Option.some.inj e2; omega
        have HO' : Hid (w'.ownsRow w.heap.size 9 1 v' (L.take (i + 1)).length ((L.take (i + 1)).map strL)) := by
          show World.ownsRow _ _ _ _ _ _ _
          rw [HTK.out, ← HTX.out]
          have e : (L.take i ++ [t.data.toList]).length = i + 1 := by simp; omega
          rw [e]
          simpa using hown'
        clear hni HNI HOW hg hbw hown' hat HK6
        go_wp2
        go_roundw
        case rel => exact ⟨i + 1, by omega, by go_num, HO'.out, HN'.out, HK'.out, hb'⟩
        case measure => simp [intOf]; omega
    · have h' : ¬ (i : Int) < (L.length : Int) := by omega
      obtain rfl : i = L.length := by omega
      rw [List.take_length] at hown
      have HO2 : Hid (wr.ownsRow w.heap.size 9 1 u4 L.length (L.map strL)) := hown
      clear hown
      go_wp2
      go_ret
      exact ⟨_, rfl, HO2.out, HNI.out, hbel⟩


theorem ifree_any (E : Nat → Ex) (b n cap : Nat) (hn : n ≤ 1048576) (hc : n ≤ cap ∧ cap ≤ 9223372036854775807) (ht : ∀ i, i < n → (E i).text.size ≤ 1048576) (w : World) (hX : XsB w b n E) (T : Tabs w) :
    Calls Tryz.prog 5 #[.slice (some ⟨b, 0, none⟩) n cap] w fun e w' => ∃ v, e = .returned v ∧ w'.ownsRow w.heap.size 9 1 v (frees E n).length ((frees E n).map strL) ∧ v ≠ .slice none 0 0 ∧ Below w.heap.size w w' := by
  by_cases hok : okAll E n = true
  · exact ifree_yes E b n cap hc ht w hX T hok
  · exact ifree_no E b n cap hn hc ht w hX T (by simpa using hok)

end Go.Proofs.YtifgaaemdojmpaaGreatDoor.ex

namespace Go.Proofs.YtifgaaemdojmpaaGreatDoor.pr
open lx (Lx)
open ex (Tr Ex)
set_option linter.unusedVariables false
set_option linter.unusedSimpArgs false

/-! ### Expressions as lexemes: the plain grammar (of the specification) -/

abbrev Ls : Type := List (Lx × Nat)
def isS (l : Ls) (i : Nat) (s : List UInt8) : Bool := match l[i]? with
  | some x => decide (x.1.kind = 4) && decide (x.1.text = s)
  | none => false
def isK (l : Ls) (i : Nat) (s : List UInt8) : Bool := match l[i]? with
  | some x => decide (x.1.kind = 1) && decide (x.1.text = s)
  | none => false
def isW (l : Ls) (i : Nat) : Bool := match l[i]? with
  | some x => decide (x.1.kind = 1) && !ex.kwB ⟨x.1.text.toArray⟩ 10
  | none => false
def tx (l : Ls) (i : Nat) : ByteArray := match l[i]? with
  | some x => ⟨x.1.text.toArray⟩
  | none => ⟨#[]⟩
def nu (l : Ls) (i : Nat) : Int := match l[i]? with
  | some x => x.1.num
  | none => 0
def kd (l : Ls) (i : Nat) : Int := match l[i]? with
  | some x => x.1.kind
  | none => 0
theorem isS_lt {l : Ls} {i : Nat} {s : List UInt8} (h : isS l i s = true) : i < l.length := by
  unfold isS at h
  rcases Nat.lt_or_ge i l.length with h1 | h1
  · exact h1
  · rw [List.getElem?_eq_none h1] at h; cases h
theorem isK_lt {l : Ls} {i : Nat} {s : List UInt8} (h : isK l i s = true) : i < l.length := by
  unfold isK at h
  rcases Nat.lt_or_ge i l.length with h1 | h1
  · exact h1
  · rw [List.getElem?_eq_none h1] at h; cases h
theorem isW_lt {l : Ls} {i : Nat} (h : isW l i = true) : i < l.length := by
  unfold isW at h
  rcases Nat.lt_or_ge i l.length with h1 | h1
  · exact h1
  · rw [List.getElem?_eq_none h1] at h; cases h

/-- What is read, and where it ends; or where it can't go on. -/
inductive Rs (α : Type) where
  | ok (a : α) (i : Nat)
  | bad (i : Nat)
def Rs.bind {α β : Type} (m : Rs α) (f : α → Nat → Rs β) : Rs β := match m with
  | .ok a i => f a i
  | .bad i => .bad i
theorem bind_ok {α β : Type} (a : α) (i : Nat) (f : α → Nat → Rs β) : (Rs.ok a i).bind f = f a i := rfl
theorem bind_bad {α β : Type} (i : Nat) (f : α → Nat → Rs β) : (Rs.bad i : Rs α).bind f = .bad i := rfl
/-- That sign, or no further. -/
def wt {α : Type} (l : Ls) (s : List UInt8) (i : Nat) (k : Nat → Rs α) : Rs α := if isS l i s = true then k (i + 1) else .bad i
def wk {α : Type} (l : Ls) (s : List UInt8) (i : Nat) (k : Nat → Rs α) : Rs α := if isK l i s = true then k (i + 1) else .bad i
def ww {α : Type} (l : Ls) (i : Nat) (k : ByteArray → Nat → Rs α) : Rs α := if isW l i = true then k (tx l i) (i + 1) else .bad i

abbrev sOpen : List UInt8 := [123]
abbrev sShut : List UInt8 := [125]
abbrev sDots : List UInt8 := [46, 46, 46]
abbrev sColon : List UInt8 := [58]
abbrev sComma : List UInt8 := [44]
abbrev sAsk : List UInt8 := [63]
abbrev sSemi : List UInt8 := [59]
abbrev sEq : List UInt8 := [61]
abbrev kLet : List UInt8 := [108, 101, 116]
abbrev kIn : List UInt8 := [105, 110]
abbrev kRec : List UInt8 := [114, 101, 99]
abbrev kWith : List UInt8 := [119, 105, 116, 104]
abbrev kIf : List UInt8 := [105, 102]
abbrev kThen : List UInt8 := [116, 104, 101, 110]
abbrev kElse : List UInt8 := [101, 108, 115, 101]
abbrev kInh : List UInt8 := [105, 110, 104, 101, 114, 105, 116]
abbrev kAss : List UInt8 := [97, 115, 115, 101, 114, 116]
abbrev kOr : List UInt8 := [111, 114]
abbrev noT : ByteArray := ⟨#[]⟩

def takesB (l : Ls) (i : Nat) : Bool := isS l i sOpen && (isS l (i + 1) sDots || ((isS l (i + 1) sShut && isS l (i + 2) sColon) || (isW l (i + 1) && (isS l (i + 2) sComma || (isS l (i + 2) sAsk || (isS l (i + 2) sShut && isS l (i + 3) sColon))))))
def looseB (l : Ls) (i : Nat) : Bool := (isW l i && isS l (i + 1) sColon) || (takesB l i || (isK l i kLet || (isK l i kWith || (isK l i kAss || isK l i kIf))))
def beginsB (l : Ls) (i : Nat) : Bool := decide (i < l.length) && (decide (kd l i = 2) || (decide (kd l i = 3) || (isW l i || (isS l i [40] || (isS l i [91] || (isS l i sOpen || isK l i kRec))))))

abbrev Pt : Type := Nat → Nat → Rs Tr
def rightP (l : Ls) (p : Pt) (lv i : Nat) : Rs Tr := if looseB l i = true then p 1 i else p lv i
def inhL (l : Ls) : Nat → Nat → List Tr × Nat
  | 0, i => ([], i)
  | k + 1, i => if isW l i = true then (.mk 7 (tx l i) 0 [] :: (inhL l k (i + 1)).1, (inhL l k (i + 1)).2) else ([], i)
def bindsL (l : Ls) (p : Pt) : Nat → Nat → Rs (List Tr)
  | 0, i => .bad i
  | k + 1, i =>
    if isK l i kInh = true then wt l sSemi (inhL l (l.length + 1) (i + 1)).2 fun j => (bindsL l p k j).bind fun ts q => .ok ((inhL l (l.length + 1) (i + 1)).1 ++ ts) q
    else if isW l i = true then wt l sEq (i + 1) fun j => (p 1 j).bind fun e q => wt l sSemi q fun r => (bindsL l p k r).bind fun ts u => .ok (.mk 6 (tx l i) 0 [e] :: ts) u
    else .ok [] i
def takeL (l : Ls) (p : Pt) : Nat → Nat → Rs (List Tr × Int)
  | 0, i => .bad i
  | k + 1, i =>
    if isS l i sShut = true then .ok ([], 0) i
    else if isS l i sDots = true then .ok ([], 1) (i + 1)
    else ww l i fun n j => (if isS l j sAsk = true then (p 1 (j + 1)).bind fun e q => .ok [e] q else .ok [] j).bind fun ps q =>
      if isS l q sShut = true then .ok ([.mk 15 n 0 ps], 0) q
      else wt l sComma q fun r => if isS l r sShut = true then .bad r else (takeL l p k r).bind fun x u => .ok (.mk 15 n 0 ps :: x.1, x.2) u
def takeP (l : Ls) (p : Pt) (i : Nat) : Rs Tr := (takeL l p (l.length + 1) i).bind fun x j => wt l sShut j fun q => wt l sColon q fun r => (p 1 r).bind fun e u => .ok (.mk 14 noT x.2 (x.1 ++ [e])) u
def exprP (l : Ls) (p : Pt) (i : Nat) : Rs Tr :=
  if (isW l i && isS l (i + 1) sColon) = true then (p 1 (i + 2)).bind fun e q => .ok (.mk 13 (tx l i) 0 [e]) q
  else if takesB l i = true then takeP l p (i + 1)
  else if isK l i kLet = true then (bindsL l p (l.length + 1) (i + 1)).bind fun bs j => wk l kIn j fun q => (p 1 q).bind fun e u => .ok (.mk 8 noT 0 (bs ++ [e])) u
  else if isK l i kWith = true then (p 1 (i + 1)).bind fun a j => wt l sSemi j fun q => (p 1 q).bind fun e u => .ok (.mk 9 noT 0 [a, e]) u
  else if isK l i kAss = true then (p 1 (i + 1)).bind fun a j => wt l sSemi j fun q => (p 1 q).bind fun e u => .ok (.mk 10 noT 0 [a, e]) u
  else if isK l i kIf = true then (p 1 (i + 1)).bind fun a j => wk l kThen j fun q => (p 1 q).bind fun b u => wk l kElse u fun r => (p 1 r).bind fun e x => .ok (.mk 12 noT 0 [a, b, e]) x
  else p 2 i
def signsOf (lv : Nat) : List (List UInt8) := if lv = 2 then [[45, 62]] else if lv = 3 then [[124, 124]] else if lv = 4 then [[38, 38]] else if lv = 5 then [[61, 61], [33, 61]] else if lv = 6 then [[60], [60, 61], [62], [62, 61]] else if lv = 7 then [[47, 47]] else if lv = 9 then [[43], [45]] else if lv = 10 then [[42], [47]] else if lv = 11 then [[43, 43]] else []
def signOf (l : Ls) (lv i : Nat) : List UInt8 := ((signsOf lv).find? fun s => isS l i s).getD []
def stopsAt (lv : Nat) : Bool := decide (lv = 2 ∨ lv = 5 ∨ lv = 6 ∨ lv = 7 ∨ lv = 11)
def sameLv (lv : Nat) : Bool := decide (lv = 2 ∨ lv = 7 ∨ lv = 11)
def binL (l : Ls) (p : Pt) (lv : Nat) : Nat → Tr → Nat → Rs Tr
  | 0, _, i => .bad i
  | k + 1, e, i => if signOf l lv i = [] then .ok e i else (rightP l p (if sameLv lv = true then lv else lv + 1) (i + 1)).bind fun r j => if stopsAt lv = true then .ok (.mk 18 ⟨(signOf l lv i).toArray⟩ 0 [e, r]) j else binL l p lv k (.mk 18 ⟨(signOf l lv i).toArray⟩ 0 [e, r]) j
def hasL (l : Ls) : Nat → Tr → Nat → Rs Tr
  | 0, _, i => .bad i
  | k + 1, e, i => if isS l i sAsk = true then ww l (i + 1) fun n j => hasL l k (.mk 17 n 0 [e]) j else .ok e i
def levelP (l : Ls) (p : Pt) (lv i : Nat) : Rs Tr :=
  if lv = 8 then (if isS l i [33] = true then (rightP l p 8 (i + 1)).bind fun e j => .ok (.mk 20 noT 0 [e]) j else p 9 i)
  else if lv = 12 then (p 13 i).bind fun e j => hasL l (l.length + 1) e j
  else if lv = 13 then (if isS l i [45] = true then (rightP l p 13 (i + 1)).bind fun e j => .ok (.mk 19 noT 0 [e]) j else p 14 i)
  else (p (lv + 1) i).bind fun e j => binL l p lv (l.length + 1) e j
def callL (l : Ls) (p : Pt) : Nat → Tr → Nat → Rs Tr
  | 0, _, i => .bad i
  | k + 1, e, i => if beginsB l i = true then (p 15 i).bind fun x j => callL l p k (.mk 11 noT 0 [e, x]) j else .ok e i
def getL (l : Ls) (p : Pt) : Nat → Tr → Nat → Rs Tr
  | 0, _, i => .bad i
  | k + 1, e, i => if isS l i [46] = true then ww l (i + 1) fun n j => (if isK l j kOr = true then (p 16 (j + 1)).bind fun x q => .ok (.mk 16 n 0 [e, x]) q else getL l p k (.mk 16 n 0 [e]) j) else .ok e i
def listL (l : Ls) (p : Pt) : Nat → Nat → Rs (List Tr)
  | 0, i => .bad i
  | k + 1, i => if isS l i [93] = true then .ok [] i else (p 15 i).bind fun x j => (listL l p k j).bind fun ts q => .ok (x :: ts) q
def setP (l : Ls) (p : Pt) (n : Int) (i : Nat) : Rs Tr := (bindsL l p (l.length + 1) i).bind fun bs j => wt l sShut j fun q => .ok (.mk 5 noT n bs) q
def atomP (l : Ls) (p : Pt) (i : Nat) : Rs Tr :=
  if (!beginsB l i || takesB l i) = true then .bad i
  else if kd l i = 2 then .ok (.mk 1 noT (nu l i) []) (i + 1)
  else if kd l i = 3 then .ok (.mk 2 (tx l i) 0 []) (i + 1)
  else if isK l i kRec = true then wt l sOpen (i + 1) fun j => setP l p 1 j
  else if kd l i = 1 then .ok (.mk 3 (tx l i) 0 []) (i + 1)
  else if (tx l i).data.toList = [40] then (p 1 (i + 1)).bind fun e j => wt l [41] j fun q => .ok e q
  else if (tx l i).data.toList = [91] then (listL l p (l.length + 1) (i + 1)).bind fun xs j => wt l [93] j fun q => .ok (.mk 4 noT 0 xs) q
  else setP l p 0 (i + 1)
/-- 1: an expression; 2 to 13: of that level; 14: calls; 15: gets; 16: the tightest. -/
def P (l : Ls) : Nat → Pt
  | 0, _, i => .bad i
  | f + 1, lv, i => if lv = 1 then exprP l (P l f) i else if lv = 14 then (P l f 15 i).bind fun e j => callL l (P l f) (l.length + 1) e j else if lv = 15 then (P l f 16 i).bind fun e j => getL l (P l f) (l.length + 1) e j else if lv = 16 then atomP l (P l f) i else levelP l (P l f) lv i

/-! ### A tree's list -/

def fl : Tr → List Ex
  | .mk k t n ps => ⟨k, t, n, (((ps.attach.map fun x => fl x.1).flatten).length : Int)⟩ :: (ps.attach.map fun x => fl x.1).flatten
termination_by t => SizeOf.sizeOf t
decreasing_by all_goals (have h := List.sizeOf_lt_of_mem x.2; simp only [Tr.mk.sizeOf_spec]; omega)
def flL (ps : List Tr) : List Ex := (ps.map fl).flatten
theorem fl_eq (k : Int) (t : ByteArray) (n : Int) (ps : List Tr) : fl (.mk k t n ps) = ⟨k, t, n, ((flL ps).length : Int)⟩ :: flL ps := by
  rw [fl]
  have e : (ps.attach.map fun x => fl x.1) = ps.map fl := by simp
  rw [e]
  rfl
theorem flL_app (a b : List Tr) : flL (a ++ b) = flL a ++ flL b := by unfold flL; rw [List.map_append, List.flatten_append]
theorem flL_one (t : Tr) : flL [t] = fl t := by simp [flL]
theorem flL_cons (t : Tr) (a : List Tr) : flL (t :: a) = fl t ++ flL a := by simp [flL]
theorem flL_nil : flL [] = [] := rfl
theorem fl_pos (t : Tr) : 0 < (fl t).length := by cases t; rw [fl_eq]; simp

/-- As read, or cut where it is too long anyway. -/
def Xx (L X : List Ex) : Prop := L = X ∨ (3001 ≤ L.length ∧ 3000 < X.length)
theorem Xx.refl (L : List Ex) : Xx L L := .inl rfl
theorem Xx.app {L X M Y : List Ex} (h : Xx L X) (k : Xx M Y) : Xx (L ++ M) (X ++ Y) := by
  rcases h with rfl | ⟨h1, h2⟩
  · rcases k with rfl | ⟨k1, k2⟩
    · exact .inl rfl
    · exact .inr ⟨by rw [List.length_append]; omega, by rw [List.length_append]; omega⟩
  · exact .inr ⟨by rw [List.length_append]; omega, by rw [List.length_append]; omega⟩
theorem Xx.cut {L X : List Ex} (h : Xx L X) : Xx (L.take 3001) X := by
  rcases h with rfl | ⟨h1, h2⟩
  · by_cases hl : L.length ≤ 3001
    · exact .inl (List.take_of_length_le hl)
    · exact .inr ⟨by rw [List.length_take]; omega, by omega⟩
  · exact .inr ⟨by rw [List.length_take]; omega, h2⟩
theorem Xx.make {L X : List Ex} (h : Xx L X) (k : Int) (t : ByteArray) (n : Int) : Xx (((⟨k, t, n, (L.length : Int)⟩ : Ex) :: L).take 3001) (⟨k, t, n, (X.length : Int)⟩ :: X) := by
  rcases h with rfl | ⟨h1, h2⟩
  · exact (Xx.refl _).cut
  · exact .inr ⟨by rw [List.length_take, List.length_cons]; omega, by rw [List.length_cons]; omega⟩
theorem Xx.mk {L : List Ex} {ps : List Tr} (h : Xx L (flL ps)) (k : Int) (t : ByteArray) (n : Int) : Xx (((⟨k, t, n, (L.length : Int)⟩ : Ex) :: L).take 3001) (fl (.mk k t n ps)) := by
  rw [fl_eq]
  exact h.make k t n

end Go.Proofs.YtifgaaemdojmpaaGreatDoor.pr
