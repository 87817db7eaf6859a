import Derived.Test.YtkmhaemcpakobaaGreatDoorG13
import Derived.Test.YtkmhaemcpakobaaGreatDoorG11
import Derived.Deep.RegionHeld3
import Derived.Lib.SlBytesConst
import Derived.Test.YtkmhaemcpakobaaGreatDoorG12
import Derived.LaidLaws
import Derived.ChangeArms
import Derived.ChangeSame
import Derived.Deep.Slices
import Derived.Deep.RegionWith
import Derived.Deep.Cut
import Derived.Test.YtkmhaemcpakobaaGreatDoorG08
namespace Go.Proofs.YtkmhaemcpakobaaGreatDoor.tt
open Go.ChangeShapes Go.WideShapes Go.ChangeAt Go.RowKit Go.Deep
set_option linter.unusedVariables false
set_option linter.unusedSimpArgs false

/-! ### What a tree is packed as: both sides -/

theorem treeB_tr' {E : Nat → En} {n : Nat} (h : treeB E n = true) : n ≤ 500 ∧ Tr E n := by unfold treeB at h; exact (@decide_eq_true_iff _ (Classical.propDecidable _)).1 h

def kB (e : En) : UInt8 := UInt8.ofNat (e.kind.toNat + if e.exec then 16 else 0)
def pkE (e : En) : List UInt8 := [kB e] ++ bf.num e.path.size ++ e.path.data.toList ++ bf.num e.data.size ++ e.data.data.toList
def pkL (E : Nat → En) : Nat → List UInt8
  | 0 => []
  | k + 1 => pkL E k ++ pkE (E k)
def hd (n : Nat) : List UInt8 := [76, 65, 82, 49] ++ bf.num n
noncomputable def pkB (E : Nat → En) (n : Nat) : List UInt8 := if treeB E n = true then hd n ++ pkL E n else []
theorem pkB_yes {E : Nat → En} {n : Nat} (h : treeB E n = true) : pkB E n = hd n ++ pkL E n := by unfold pkB; rw [if_pos h]
theorem pkB_no {E : Nat → En} {n : Nat} (h : treeB E n = false) : pkB E n = [] := by unfold pkB; rw [if_neg (by rw [h]; simp)]

theorem num_small {n : Nat} (h : n ≤ 1048576) : (bf.num n).length ≤ 15 := bf.num_len 14 n (by rw [show 128 * 2 ^ 14 = 2097152 from rfl]; omega)
theorem bsz (S : ByteArray) : S.data.toList.length = S.size := by simp
theorem pkE_len {e : En} (h1 : e.path.size ≤ 1048576) (h2 : e.data.size ≤ 1048576) : (pkE e).length ≤ 2097183 := by
  have a := num_small h1
  have b := num_small h2
  unfold pkE
  simp only [List.length_append, List.length_singleton, bsz]
  omega
theorem pkL_len {E : Nat → En} {n : Nat} (hS : SmE n E) : ∀ k, k ≤ n → (pkL E k).length ≤ k * 2097183
  | 0, _ => by simp [pkL]
  | k + 1, h => by
    have a := pkL_len hS k (by omega)
    have b := pkE_len (hS k (by omega)).1 (hS k (by omega)).2
    rw [pkL, List.length_append]
    omega
theorem hd_len {n : Nat} (h : n ≤ 500) : (hd n).length ≤ 19 := by
  have := num_small (n := n) (by omega)
  unfold hd
  simp
  omega

/-- What is known of an entry of a tree. -/
theorem kind_of {E : Nat → En} {k i : Nat} (h : Tr E k) (hi : i < k) : 1 ≤ (E i).kind ∧ (E i).kind ≤ 3 := by
  have h1 := h.1 i hi
  unfold eOk cOk at h1
  simp only [Bool.and_eq_true] at h1
  have h2 := h1.2.2
  split at h2
  · omega
  · split at h2
    · omega
    · simp only [Bool.and_eq_true, decide_eq_true_eq] at h2
      omega

theorem kB_val {e : En} (h : 1 ≤ e.kind ∧ e.kind ≤ 3) : (e.exec = false → e.kind = ((kB e).toNat : Int)) ∧ (e.exec = true → e.kind + 16 = ((kB e).toNat : Int)) := by
  obtain ⟨k, hk⟩ : ∃ k : Nat, e.kind = (k : Int) := ⟨e.kind.toNat, by omega⟩
  constructor
  · intro hx
    unfold kB
    rw [hx, hk, if_neg (by simp), Nat.add_zero, show (k : Int).toNat = k from rfl]
    exact bf.byte_val (n := k) (by omega)
  · intro hx
    unfold kB
    rw [hx, hk, if_pos rfl, show (k : Int).toNat = k from rfl, ← bf.byte_val (n := k + 16) (by omega)]
    omega

theorem four_bf (w w1 : World) (hb : Below w.heap.size w w1) (e : TypeId) : bf.Bf w.heap.size (w1.alloc (.cells #[.int .u8 76, .int .u8 65, .int .u8 82, .int .u8 49] e (4, 5))) w1.heap.size 4 [76, 65, 82, 49] := by
  have hc : ∀ j, (w1.alloc (.cells #[.int .u8 76, .int .u8 65, .int .u8 82, .int .u8 49] e (4, 5))).cell? ⟨w1.heap.size, j, none⟩ = (#[Value.int .u8 76, .int .u8 65, .int .u8 82, .int .u8 49] : Array Value)[j]? := fun j => by
    have hb2 := heap_alloc_new w1 (.cells #[.int .u8 76, .int .u8 65, .int .u8 82, .int .u8 49] e (4, 5))
    unfold World.cell?
    simp only [hb2]
    try rfl
  refine ⟨hb.size, by simp, fun j hj => ?_, fun j hj => ⟨?_, ?_⟩, by simp, by unfold maxLen; omega⟩
  · rw [hc]
    match j, hj with
    | 0, _ => rfl
    | 1, _ => rfl
    | 2, _ => rfl
    | 3, _ => rfl
  · rw [hc, Array.getElem?_eq_getElem (by simpa using hj)]; rfl
  · have hb2 : (w1.alloc (.cells #[.int .u8 76, .int .u8 65, .int .u8 82, .int .u8 49] e (4, 5))).heap[w1.heap.size]? = _ := heap_alloc_new w1 _
    unfold World.frozen?
    simp only [hb2]
    simp
    omega
theorem none_bf (w w1 : World) (hb : Below w.heap.size w w1) (e : TypeId) : bf.Bf w.heap.size (w1.alloc (.cells #[] e)) w1.heap.size 0 [] :=
  ⟨hb.size, by simp, fun j hj => by simp at hj, fun j hj => by omega, by simp, by unfold maxLen; omega⟩

/-- What a packing hands back. -/
def Pkd (w w' : World) (l : List UInt8) (g cap z : Nat) : Prop := z = l.length ∧ bf.Bf w.heap.size w' g cap l

set_option maxHeartbeats 4000000 in
set_option maxRecDepth 100000 in
theorem spack_any (E : Nat → En) (b o n cap : Nat) (w : World) (hR : EnR w b o n E) (hS : SmE n E) (hn : n ≤ 1048576) (hcap : n ≤ cap) (hcl : cap ≤ maxLen) :
    Calls Tryz.prog 37 #[.slice (some ⟨b, o, none⟩) n cap] w fun e w' => (∃ g c z, e = .returned (.slice (some ⟨g, 0, none⟩) z c) ∧ Pkd w w' (pkB E n) g c z) ∧ Below w.heap.size w w' := by
  have HT : Hid (Calls Tryz.prog 35 #[.slice (some ⟨b, o, none⟩) n cap] w fun e w' => e = .returned (.bool (treeB E n)) ∧ Below w.heap.size w w') := stree_any E b o n cap w hR hS hn hcap hcl
  have HER : Hid (EnR w b o n E) := hR
  have HSM : Hid (SmE n E) := hS
  clear hR hS
  cases ht : treeB E n with
  | false =>
    rw [ht] at HT
    have HE : Hid (pkB E n = []) := pkB_no ht
    clear ht
    go_enter Tryz.func37, Tryz.ntmps37
    go_wp2_with (go_at_call 35; refine HT.out.mono ?_; rintro e w1 ⟨rfl, hl1⟩)
    go_ret
    exact ⟨⟨_, _, _, rfl, by unfold Pkd; rw [HE.out]; exact ⟨rfl, none_bf w w1 hl1 _⟩⟩, hl1.alloc hl1.size _⟩
  | true =>
    rw [ht] at HT
    have HE : Hid (pkB E n = hd n ++ pkL E n) := pkB_yes ht
    have hn5 := (treeB_tr' ht).1
    have HTR : Hid (Tr E n) := (treeB_tr' ht).2
    clear ht
    have kc := fun (w : World) (C : Array Value) (n c : Nat) => Lib.run_convert_bytes_const (P := Tryz.prog) w 22 5 C n c Tryz.underlying22 Tryz.underlying5
    go_enter Tryz.func37, Tryz.ntmps37
    go_wp2_with (first
      | (go_at_call 35; refine HT.out.mono ?_; rintro e w1 ⟨rfl, hl1⟩)
      | (go_at_call 56; refine (bf.num_any w.heap.size _ _ _ [76, 65, 82, 49] n (by omega) _ (four_bf w w1 hl1 _) (by simp) rfl).mono ?_; rintro e w2 ⟨g2, c2, z2, rfl, hz2, ha2⟩))
    have HZ2 : Hid (z2 = (hd n ++ pkL E 0).length) := by show _ = _; rw [pkL, List.append_nil]; exact hz2.out
    have HB0 : Hid (bf.Bf w.heap.size w2 g2 c2 (hd n ++ pkL E 0)) := by show bf.Bf _ _ _ _ _; rw [pkL, List.append_nil]; exact ha2.bf
    have HBE0 : Hid (Below w.heap.size w w2) := (hl1.alloc hl1.size _).trans (ha2.bel hl1.size (by simp; have := hl1.size; omega))
    clear hz2 ha2 hl1 kc
    go_loopw [3, 4, 5] (fun v x _ wr => ∃ (i g' cap' z : Nat), i ≤ n ∧ v = .slice (some ⟨g', 0, none⟩) z cap' ∧ x = .int .i64 (i : Int) ∧ z = (hd n ++ pkL E i).length ∧ bf.Bf w.heap.size wr g' cap' (hd n ++ pkL E i) ∧ Below w.heap.size w wr) (fun _ x _ _ => n - (intOf x).toNat)
    case atStart => exact ⟨0, g2, c2, z2, Nat.zero_le _, rfl, rfl, HZ2.out, HB0.out, HBE0.out⟩
    case round =>
      obtain ⟨i, g', cap', z, hi, rfl, rfl, hz, hbf, hbel⟩ := hrel
      have HBE : Hid (Below w.heap.size w wr) := hbel
      by_cases hil : i < n
      · have hil' : (i : Int) < (n : Int) := by omega
        have hi0 : (0 : Int) ≤ (i : Int) := by omega
        have hsm := HSM.out i hil
        obtain ⟨c0, c1, c2', c3⟩ := (HER.out i hil).below hbel
        have HS0 : Hid (∀ W, Below w.heap.size w W → N4 W b (o + i * 4) (E i)) := fun W hW => (HER.out i hil).below hW
        obtain ⟨L, hL⟩ : ∃ L, L = hd n ++ pkL E i := ⟨_, rfl⟩
        rw [← hL] at hz hbf
        have HZ : Hid (z = L.length) := hz
        have HBF : Hid (bf.Bf w.heap.size wr g' cap' L) := hbf
        have HLM : Hid (L.length ≤ 1099000000000) := by
          show _ ≤ _
          have h1 := pkL_len HSM.out i (by omega)
          have h2 := hd_len (n := n) hn5
          rw [hL, List.length_append]
          omega
        have HL : Hid (L.length + 1 ≤ 1099511627776) := by show _ ≤ _; have := HLM.out; omega
        have hkd := kind_of HTR.out hil
        have HKB0 := kB_val hkd
        obtain ⟨P, hP⟩ : ∃ P, (E i).path = P := ⟨_, rfl⟩
        obtain ⟨kd, hk⟩ : ∃ k, (E i).kind = k := ⟨_, rfl⟩
        obtain ⟨d, hd'⟩ : ∃ d, (E i).data = d := ⟨_, rfl⟩
        obtain ⟨y, hy⟩ : ∃ y, y = kB (E i) := ⟨_, rfl⟩
        obtain ⟨x, hxe⟩ : ∃ x, (E i).exec = x := ⟨_, rfl⟩
        have HKB : Hid ((x = false → kd = (y.toNat : Int)) ∧ (x = true → kd + 16 = (y.toNat : Int))) := by rw [hk, hxe, ← hy] at HKB0; exact HKB0
        have HS : Hid (∀ w' : World, Below w.heap.size w w' → w'.cell? ⟨b, o + i * 4, none⟩ = some (.string P) ∧ w'.cell? ⟨b, o + i * 4 + 2, none⟩ = some (.string d)) := fun W hW => by
          obtain ⟨q0, _, q2, _⟩ := HS0.out W hW
          rw [hP] at q0
          rw [hd'] at q2
          exact ⟨q0, q2⟩
        have hPs : P.size ≤ 1048576 := by rw [← hP]; exact hsm.1
        have hds : d.size ≤ 1048576 := by rw [← hd']; exact hsm.2
        have HLP : Hid ((L ++ [y] ++ bf.num P.size ++ P.data.toList).length ≤ 1099510000000) := by
          show _ ≤ _
          have h1 := HLM.out
          have h2 := num_small hPs
          simp only [List.length_append, List.length_singleton, bsz]
          omega
        have HNX0 : Hid (L ++ [y] ++ bf.num P.size ++ P.data.toList ++ bf.num d.size ++ d.data.toList = hd n ++ pkL E (i + 1)) := by
          show _ = _
          rw [hL, pkL, pkE, hP, hd', hy]
          simp only [List.append_assoc]
        rw [hP] at c0
        rw [hk] at c1 hkd
        rw [hd'] at c2'
        rw [hxe] at c3
        obtain ⟨hk1, hk3⟩ := hkd
        clear hbel hbf hz hL hP hk hd' hy hxe hsm HKB0
        cases hx : x with
        | false =>
          rw [hx] at c3
          have HV : Hid (kd = (y.toNat : Int)) := HKB.out.1 hx
          clear hx
          go_wp2_with (first
            | (at_builtin; refine bf.app_bytes _ rfl _ _ 22 rfl 5 Tryz.underlying22 bf.info5 rfl HZ.out.symm ⟨wr.heap.size, 0, none⟩ 1 (m := [y]) rfl rfl (HBF.out.below ((Below.refl _ _).alloc (Nat.le_refl _) _)) (bf.one_at wr _ _ _ HV.out) HL.out ?_; intro g2 c2 w2 n2 hn2 hap2; refine Hid.out ?_)
            | go_in)
          refine Lib.hid ?_
          have HB2 : Hid (Below w.heap.size w w2) := HBE.out.trans ((hap2.after ((Below.refl _ _).alloc (Nat.le_refl _) _)).bel HBF.out.new HBE.out.size)
          have HG2 : Hid (w.heap.size ≤ g2) := hap2.bf.new
          have HT1 : Hid (∀ W, Below w2.heap.size w2 W → Calls Tryz.prog 57 #[.slice (some ⟨g2, 0, none⟩) n2 c2, .string P] W fun e w' => ∃ g' cap' z', e = .returned (.slice (some ⟨g', 0, none⟩) z' cap') ∧ Hid (z' = (L ++ [y] ++ bf.num P.size ++ P.data.toList).length) ∧ bf.Ap w.heap.size W g2 w' g' cap' (L ++ [y] ++ bf.num P.size ++ P.data.toList)) := fun W hW => bf.text_any _ _ _ _ _ P hPs W (hap2.bf.below hW) (by have := HLM.out; rw [List.length_append, List.length_singleton]; omega) (by have := hn2.out; simpa using this)
          have HT2 : Hid (∀ W g3 c3 z3, bf.Bf w.heap.size W g3 c3 (L ++ [y] ++ bf.num P.size ++ P.data.toList) → z3 = (L ++ [y] ++ bf.num P.size ++ P.data.toList).length → Calls Tryz.prog 57 #[.slice (some ⟨g3, 0, none⟩) z3 c3, .string d] W fun e w' => ∃ g' cap' z', e = .returned (.slice (some ⟨g', 0, none⟩) z' cap') ∧ Hid (z' = (L ++ [y] ++ bf.num P.size ++ P.data.toList ++ bf.num d.size ++ d.data.toList).length) ∧ bf.Ap w.heap.size W g3 w' g' cap' (L ++ [y] ++ bf.num P.size ++ P.data.toList ++ bf.num d.size ++ d.data.toList)) := fun W g3 c3 z3 hW hz => bf.text_any _ _ _ _ _ d hds W hW HLP.out hz
          have HNX : Hid (L ++ [y] ++ bf.num P.size ++ P.data.toList ++ bf.num d.size ++ d.data.toList = hd n ++ pkL E (i + 1)) := HNX0.out
          clear hap2 hn2
          go_wp2_with fail
          refine wp_region_held_drew (S := fun w' => w'.cell? ⟨b, o + i * 4, none⟩ = some (.string P) ∧ w'.cell? ⟨b, o + i * 4 + 2, none⟩ = some (.string d)) (by kernel_rfl) (HS.out _ HB2.out.drew) (fun hHeld => ?_)
          refine wpAnyH_take (i := 0) (oi := ⟨some 38, .move (.tmp 3), 22, "l10_tree.go:198", #[], none⟩) (v := ?v1) rfl (by kernel_rfl) (by kernel_rfl) (by kernel_rfl) (fun _ _ _ h => h) (Or.inl ⟨by rfl, ?hy1⟩) (by assumption) ?r1
          case hy1 => (intro w hSw; (try dsimp only at hSw); go_simp; try with_reducible rfl)
          try simp only [Act.put, List.setIfInBounds_toArray, List.set_cons_zero, List.set_cons_succ]
          refine wpAnyH_take (i := 1) (oi := ⟨some 39, .move (.tmp 0), 49, "l10_tree.go:198", #[], none⟩) (v := ?v2) rfl (by kernel_rfl) (by kernel_rfl) (by kernel_rfl) (fun _ _ _ h => h) (Or.inl ⟨by rfl, ?hy2⟩) (by assumption) ?r2
          case hy2 => (intro w hSw; (try dsimp only at hSw); go_simp; try with_reducible rfl)
          try simp only [Act.put, List.setIfInBounds_toArray, List.set_cons_zero, List.set_cons_succ]
          refine wpAnyH_take (i := 2) (oi := ⟨some 40, .move (.tmp 4), 3, "l10_tree.go:198", #[], none⟩) (v := ?v3) rfl (by kernel_rfl) (by kernel_rfl) (by kernel_rfl) (fun _ _ _ h => h) (Or.inl ⟨by rfl, ?hy3⟩) (by assumption) ?r3
          case hy3 => (intro w hSw; (try dsimp only at hSw); go_simp; try with_reducible rfl)
          try simp only [Act.put, List.setIfInBounds_toArray, List.set_cons_zero, List.set_cons_succ]
          refine wpAnyH_take (i := 3) (oi := ⟨some 41, .indexAddr 49 (.tmp 39) (.tmp 40), 0, "l10_tree.go:198", #[⟨1, .data⟩, ⟨2, .data⟩], none⟩) (v := ?v4) rfl (by kernel_rfl) (by kernel_rfl) (by kernel_rfl) (fun _ _ _ h => h) (Or.inl ⟨by rfl, ?hy4⟩) (by assumption) ?r4
          case hy4 => (intro w hSw; (try dsimp only at hSw); go_simp; try with_reducible rfl)
          try simp only [Act.put, List.setIfInBounds_toArray, List.set_cons_zero, List.set_cons_succ]
          refine wpAnyH_take (i := 4) (oi := ⟨some 42, .fieldAddr 77 (.tmp 41) 0, 0, "l10_tree.go:198", #[⟨3, .data⟩], none⟩) (v := ?v5) rfl (by kernel_rfl) (by kernel_rfl) (by kernel_rfl) (fun _ _ _ h => h) (Or.inl ⟨by rfl, ?hy5⟩) (by assumption) ?r5
          case hy5 => (intro w hSw; (try dsimp only at hSw); go_simp; try with_reducible rfl)
          try simp only [Act.put, List.setIfInBounds_toArray, List.set_cons_zero, List.set_cons_succ]
          refine wpAnyH_take (i := 5) (oi := ⟨some 43, .load 9 (.tmp 42), 9, "l10_tree.go:198", #[⟨4, .data⟩], none⟩) (v := ?v6) rfl (by kernel_rfl) (by kernel_rfl) (by kernel_rfl) (fun _ _ _ h => h) (Or.inl ⟨by rfl, ?hy6⟩) (by assumption) ?r6
          case hy6 => (intro w hSw; (try dsimp only at hSw); go_simp; try with_reducible rfl)
          try simp only [Act.put, List.setIfInBounds_toArray, List.set_cons_zero, List.set_cons_succ]
          refine wpAnyH_take (i := 7) (oi := ⟨some 45, .move (.tmp 0), 49, "l10_tree.go:198", #[], none⟩) (v := ?v7) rfl (by kernel_rfl) (by kernel_rfl) (by kernel_rfl) (fun _ _ _ h => h) (Or.inl ⟨by rfl, ?hy7⟩) (by assumption) ?r7
          case hy7 => (intro w hSw; (try dsimp only at hSw); go_simp; try with_reducible rfl)
          try simp only [Act.put, List.setIfInBounds_toArray, List.set_cons_zero, List.set_cons_succ]
          refine wpAnyH_take (i := 8) (oi := ⟨some 46, .move (.tmp 4), 3, "l10_tree.go:198", #[], none⟩) (v := ?v8) rfl (by kernel_rfl) (by kernel_rfl) (by kernel_rfl) (fun _ _ _ h => h) (Or.inl ⟨by rfl, ?hy8⟩) (by assumption) ?r8
          case hy8 => (intro w hSw; (try dsimp only at hSw); go_simp; try with_reducible rfl)
          try simp only [Act.put, List.setIfInBounds_toArray, List.set_cons_zero, List.set_cons_succ]
          refine wpAnyH_take (i := 9) (oi := ⟨some 47, .indexAddr 49 (.tmp 45) (.tmp 46), 0, "l10_tree.go:198", #[⟨7, .data⟩, ⟨8, .data⟩], none⟩) (v := ?v9) rfl (by kernel_rfl) (by kernel_rfl) (by kernel_rfl) (fun _ _ _ h => h) (Or.inl ⟨by rfl, ?hy9⟩) (by assumption) ?r9
          case hy9 => (intro w hSw; (try dsimp only at hSw); go_simp; try with_reducible rfl)
          try simp only [Act.put, List.setIfInBounds_toArray, List.set_cons_zero, List.set_cons_succ]
          refine wpAnyH_take (i := 10) (oi := ⟨some 48, .fieldAddr 77 (.tmp 47) 2, 0, "l10_tree.go:198", #[⟨9, .data⟩], none⟩) (v := ?v10) rfl (by kernel_rfl) (by kernel_rfl) (by kernel_rfl) (fun _ _ _ h => h) (Or.inl ⟨by rfl, ?hy10⟩) (by assumption) ?r10
          case hy10 => (intro w hSw; (try dsimp only at hSw); go_simp; try with_reducible rfl)
          try simp only [Act.put, List.setIfInBounds_toArray, List.set_cons_zero, List.set_cons_succ]
          refine wpAnyH_take (i := 11) (oi := ⟨some 49, .load 9 (.tmp 48), 9, "l10_tree.go:198", #[⟨10, .data⟩], none⟩) (v := ?v11) rfl (by kernel_rfl) (by kernel_rfl) (by kernel_rfl) (fun _ _ _ h => h) (Or.inl ⟨by rfl, ?hy11⟩) (by assumption) ?r11
          case hy11 => (intro w hSw; (try dsimp only at hSw); go_simp; try with_reducible rfl)
          try simp only [Act.put, List.setIfInBounds_toArray, List.set_cons_zero, List.set_cons_succ]
          refine wpAnyH_ready (rs := [6]) (by kernel_rfl) (by simp) ?_
          refine AllReadyH.cons (o := ⟨some 44, .call { callee := .value (.func 57), args := #[.tmp 38, .tmp 43], argTypes := #[22, 9] }, 22, "l10_tree.go:198", #[⟨0, .data⟩, ⟨5, .data⟩], none⟩) rfl (fun K hK => ?_) AllReadyH.nil
          go_simp
          (go_at_call 57; refine (HT1.out _ (Below.refl _ _).drew).mono ?_; rintro e w3 ⟨g3, c3, z3, rfl, hz3, ha3⟩; have hb3 : Below w.heap.size w w3 := HB2.out.trans ((ha3.after (Below.refl _ _).drew).bel HG2.out HB2.out.size))
          try go_wp2_with fail
          refine hK.out _ _ (HS.out _ hb3) (fun hHeld => ?_)
          clear hK K
          try simp only [Act.put, List.setIfInBounds_toArray, List.set_cons_zero, List.set_cons_succ]
          refine wpAnyH_ready (rs := [12]) (by kernel_rfl) (by simp) ?_
          refine AllReadyH.cons (o := ⟨some 50, .call { callee := .value (.func 57), args := #[.tmp 44, .tmp 49], argTypes := #[22, 9] }, 22, "l10_tree.go:198", #[⟨6, .data⟩, ⟨11, .data⟩, ⟨6, .chain⟩], none⟩) rfl (fun K hK => ?_) AllReadyH.nil
          go_simp
          (go_at_call 57; refine (HT2.out w3 g3 c3 z3 ha3.bf hz3.out).mono ?_; rintro e w4 ⟨g4, c4, z4, rfl, hz4, ha4⟩; have hb4 : Below w.heap.size w w4 := hb3.trans (ha4.bel (ha3.bf.new) hb3.size))
          try go_wp2_with fail
          refine hK.out _ _ (HS.out _ hb4) (fun hHeld => ?_)
          clear hK K
          try simp only [Act.put, List.setIfInBounds_toArray, List.set_cons_zero, List.set_cons_succ]
          refine wpAnyH_take (i := 13) (oi := ⟨some 3, .assign (.tmp 50), 22, "l10_tree.go:198", #[⟨12, .data⟩, ⟨12, .chain⟩, ⟨0, .phase⟩, ⟨1, .phase⟩, ⟨2, .phase⟩, ⟨3, .phase⟩, ⟨4, .phase⟩, ⟨5, .phase⟩, ⟨6, .phase⟩, ⟨7, .phase⟩, ⟨8, .phase⟩, ⟨9, .phase⟩, ⟨10, .phase⟩, ⟨11, .phase⟩, ⟨12, .phase⟩], none⟩) (v := ?v12) rfl (by kernel_rfl) (by kernel_rfl) (by kernel_rfl) (fun _ _ _ h => h) (Or.inl ⟨by rfl, ?hy12⟩) (by assumption) ?r12
          case hy12 => (intro w hSw; (try dsimp only at hSw); go_simp; try with_reducible rfl)
          try simp only [Act.put, List.setIfInBounds_toArray, List.set_cons_zero, List.set_cons_succ]
          refine wpAnyH_done (by kernel_rfl) ?_ _
          have HA4 : Hid (bf.Bf w.heap.size w4 g4 c4 (hd n ++ pkL E (i + 1))) := by have := ha4.bf; rw [HNX.out] at this; exact this
          have HZ4 : Hid (z4 = (hd n ++ pkL E (i + 1)).length) := by have := hz4.out; rw [HNX.out] at this; exact this
          clear ha4 ha3 hz4 hz3
          go_wp2_with fail
          go_roundw
          case rel => exact ⟨i + 1, g4, c4, z4, by omega, rfl, by go_num, HZ4.out, HA4.out, hb4⟩
          case measure => simp [intOf] <;> omega
        | true =>
          rw [hx] at c3
          have HV : Hid (kd + 16 = (y.toNat : Int)) := HKB.out.2 hx
          clear hx
          go_wp2_with (first
            | (at_builtin; refine bf.app_bytes _ rfl _ _ 22 rfl 5 Tryz.underlying22 bf.info5 rfl HZ.out.symm ⟨wr.heap.size, 0, none⟩ 1 (m := [y]) rfl rfl (HBF.out.below ((Below.refl _ _).alloc (Nat.le_refl _) _)) (bf.one_at wr _ _ _ HV.out) HL.out ?_; intro g2 c2 w2 n2 hn2 hap2; refine Hid.out ?_)
            | go_in)
          refine Lib.hid ?_
          have HB2 : Hid (Below w.heap.size w w2) := HBE.out.trans ((hap2.after ((Below.refl _ _).alloc (Nat.le_refl _) _)).bel HBF.out.new HBE.out.size)
          have HG2 : Hid (w.heap.size ≤ g2) := hap2.bf.new
          have HT1 : Hid (∀ W, Below w2.heap.size w2 W → Calls Tryz.prog 57 #[.slice (some ⟨g2, 0, none⟩) n2 c2, .string P] W fun e w' => ∃ g' cap' z', e = .returned (.slice (some ⟨g', 0, none⟩) z' cap') ∧ Hid (z' = (L ++ [y] ++ bf.num P.size ++ P.data.toList).length) ∧ bf.Ap w.heap.size W g2 w' g' cap' (L ++ [y] ++ bf.num P.size ++ P.data.toList)) := fun W hW => bf.text_any _ _ _ _ _ P hPs W (hap2.bf.below hW) (by have := HLM.out; rw [List.length_append, List.length_singleton]; omega) (by have := hn2.out; simpa using this)
          have HT2 : Hid (∀ W g3 c3 z3, bf.Bf w.heap.size W g3 c3 (L ++ [y] ++ bf.num P.size ++ P.data.toList) → z3 = (L ++ [y] ++ bf.num P.size ++ P.data.toList).length → Calls Tryz.prog 57 #[.slice (some ⟨g3, 0, none⟩) z3 c3, .string d] W fun e w' => ∃ g' cap' z', e = .returned (.slice (some ⟨g', 0, none⟩) z' cap') ∧ Hid (z' = (L ++ [y] ++ bf.num P.size ++ P.data.toList ++ bf.num d.size ++ d.data.toList).length) ∧ bf.Ap w.heap.size W g3 w' g' cap' (L ++ [y] ++ bf.num P.size ++ P.data.toList ++ bf.num d.size ++ d.data.toList)) := fun W g3 c3 z3 hW hz => bf.text_any _ _ _ _ _ d hds W hW HLP.out hz
          have HNX : Hid (L ++ [y] ++ bf.num P.size ++ P.data.toList ++ bf.num d.size ++ d.data.toList = hd n ++ pkL E (i + 1)) := HNX0.out
          clear hap2 hn2
          go_wp2_with fail
          refine wp_region_held_drew (S := fun w' => w'.cell? ⟨b, o + i * 4, none⟩ = some (.string P) ∧ w'.cell? ⟨b, o + i * 4 + 2, none⟩ = some (.string d)) (by kernel_rfl) (HS.out _ HB2.out.drew) (fun hHeld => ?_)
          refine wpAnyH_take (i := 0) (oi := ⟨some 38, .move (.tmp 3), 22, "l10_tree.go:198", #[], none⟩) (v := ?v13) rfl (by kernel_rfl) (by kernel_rfl) (by kernel_rfl) (fun _ _ _ h => h) (Or.inl ⟨by rfl, ?hy13⟩) (by assumption) ?r13
          case hy13 => (intro w hSw; (try dsimp only at hSw); go_simp; try with_reducible rfl)
          try simp only [Act.put, List.setIfInBounds_toArray, List.set_cons_zero, List.set_cons_succ]
          refine wpAnyH_take (i := 1) (oi := ⟨some 39, .move (.tmp 0), 49, "l10_tree.go:198", #[], none⟩) (v := ?v14) rfl (by kernel_rfl) (by kernel_rfl) (by kernel_rfl) (fun _ _ _ h => h) (Or.inl ⟨by rfl, ?hy14⟩) (by assumption) ?r14
          case hy14 => (intro w hSw; (try dsimp only at hSw); go_simp; try with_reducible rfl)
          try simp only [Act.put, List.setIfInBounds_toArray, List.set_cons_zero, List.set_cons_succ]
          refine wpAnyH_take (i := 2) (oi := ⟨some 40, .move (.tmp 4), 3, "l10_tree.go:198", #[], none⟩) (v := ?v15) rfl (by kernel_rfl) (by kernel_rfl) (by kernel_rfl) (fun _ _ _ h => h) (Or.inl ⟨by rfl, ?hy15⟩) (by assumption) ?r15
          case hy15 => (intro w hSw; (try dsimp only at hSw); go_simp; try with_reducible rfl)
          try simp only [Act.put, List.setIfInBounds_toArray, List.set_cons_zero, List.set_cons_succ]
          refine wpAnyH_take (i := 3) (oi := ⟨some 41, .indexAddr 49 (.tmp 39) (.tmp 40), 0, "l10_tree.go:198", #[⟨1, .data⟩, ⟨2, .data⟩], none⟩) (v := ?v16) rfl (by kernel_rfl) (by kernel_rfl) (by kernel_rfl) (fun _ _ _ h => h) (Or.inl ⟨by rfl, ?hy16⟩) (by assumption) ?r16
          case hy16 => (intro w hSw; (try dsimp only at hSw); go_simp; try with_reducible rfl)
          try simp only [Act.put, List.setIfInBounds_toArray, List.set_cons_zero, List.set_cons_succ]
          refine wpAnyH_take (i := 4) (oi := ⟨some 42, .fieldAddr 77 (.tmp 41) 0, 0, "l10_tree.go:198", #[⟨3, .data⟩], none⟩) (v := ?v17) rfl (by kernel_rfl) (by kernel_rfl) (by kernel_rfl) (fun _ _ _ h => h) (Or.inl ⟨by rfl, ?hy17⟩) (by assumption) ?r17
          case hy17 => (intro w hSw; (try dsimp only at hSw); go_simp; try with_reducible rfl)
          try simp only [Act.put, List.setIfInBounds_toArray, List.set_cons_zero, List.set_cons_succ]
          refine wpAnyH_take (i := 5) (oi := ⟨some 43, .load 9 (.tmp 42), 9, "l10_tree.go:198", #[⟨4, .data⟩], none⟩) (v := ?v18) rfl (by kernel_rfl) (by kernel_rfl) (by kernel_rfl) (fun _ _ _ h => h) (Or.inl ⟨by rfl, ?hy18⟩) (by assumption) ?r18
          case hy18 => (intro w hSw; (try dsimp only at hSw); go_simp; try with_reducible rfl)
          try simp only [Act.put, List.setIfInBounds_toArray, List.set_cons_zero, List.set_cons_succ]
          refine wpAnyH_take (i := 7) (oi := ⟨some 45, .move (.tmp 0), 49, "l10_tree.go:198", #[], none⟩) (v := ?v19) rfl (by kernel_rfl) (by kernel_rfl) (by kernel_rfl) (fun _ _ _ h => h) (Or.inl ⟨by rfl, ?hy19⟩) (by assumption) ?r19
          case hy19 => (intro w hSw; (try dsimp only at hSw); go_simp; try with_reducible rfl)
          try simp only [Act.put, List.setIfInBounds_toArray, List.set_cons_zero, List.set_cons_succ]
          refine wpAnyH_take (i := 8) (oi := ⟨some 46, .move (.tmp 4), 3, "l10_tree.go:198", #[], none⟩) (v := ?v20) rfl (by kernel_rfl) (by kernel_rfl) (by kernel_rfl) (fun _ _ _ h => h) (Or.inl ⟨by rfl, ?hy20⟩) (by assumption) ?r20
          case hy20 => (intro w hSw; (try dsimp only at hSw); go_simp; try with_reducible rfl)
          try simp only [Act.put, List.setIfInBounds_toArray, List.set_cons_zero, List.set_cons_succ]
          refine wpAnyH_take (i := 9) (oi := ⟨some 47, .indexAddr 49 (.tmp 45) (.tmp 46), 0, "l10_tree.go:198", #[⟨7, .data⟩, ⟨8, .data⟩], none⟩) (v := ?v21) rfl (by kernel_rfl) (by kernel_rfl) (by kernel_rfl) (fun _ _ _ h => h) (Or.inl ⟨by rfl, ?hy21⟩) (by assumption) ?r21
          case hy21 => (intro w hSw; (try dsimp only at hSw); go_simp; try with_reducible rfl)
          try simp only [Act.put, List.setIfInBounds_toArray, List.set_cons_zero, List.set_cons_succ]
          refine wpAnyH_take (i := 10) (oi := ⟨some 48, .fieldAddr 77 (.tmp 47) 2, 0, "l10_tree.go:198", #[⟨9, .data⟩], none⟩) (v := ?v22) rfl (by kernel_rfl) (by kernel_rfl) (by kernel_rfl) (fun _ _ _ h => h) (Or.inl ⟨by rfl, ?hy22⟩) (by assumption) ?r22
          case hy22 => (intro w hSw; (try dsimp only at hSw); go_simp; try with_reducible rfl)
          try simp only [Act.put, List.setIfInBounds_toArray, List.set_cons_zero, List.set_cons_succ]
          refine wpAnyH_take (i := 11) (oi := ⟨some 49, .load 9 (.tmp 48), 9, "l10_tree.go:198", #[⟨10, .data⟩], none⟩) (v := ?v23) rfl (by kernel_rfl) (by kernel_rfl) (by kernel_rfl) (fun _ _ _ h => h) (Or.inl ⟨by rfl, ?hy23⟩) (by assumption) ?r23
          case hy23 => (intro w hSw; (try dsimp only at hSw); go_simp; try with_reducible rfl)
          try simp only [Act.put, List.setIfInBounds_toArray, List.set_cons_zero, List.set_cons_succ]
          refine wpAnyH_ready (rs := [6]) (by kernel_rfl) (by simp) ?_
          refine AllReadyH.cons (o := ⟨some 44, .call { callee := .value (.func 57), args := #[.tmp 38, .tmp 43], argTypes := #[22, 9] }, 22, "l10_tree.go:198", #[⟨0, .data⟩, ⟨5, .data⟩], none⟩) rfl (fun K hK => ?_) AllReadyH.nil
          go_simp
          (go_at_call 57; refine (HT1.out _ (Below.refl _ _).drew).mono ?_; rintro e w3 ⟨g3, c3, z3, rfl, hz3, ha3⟩; have hb3 : Below w.heap.size w w3 := HB2.out.trans ((ha3.after (Below.refl _ _).drew).bel HG2.out HB2.out.size))
          try go_wp2_with fail
          refine hK.out _ _ (HS.out _ hb3) (fun hHeld => ?_)
          clear hK K
          try simp only [Act.put, List.setIfInBounds_toArray, List.set_cons_zero, List.set_cons_succ]
          refine wpAnyH_ready (rs := [12]) (by kernel_rfl) (by simp) ?_
          refine AllReadyH.cons (o := ⟨some 50, .call { callee := .value (.func 57), args := #[.tmp 44, .tmp 49], argTypes := #[22, 9] }, 22, "l10_tree.go:198", #[⟨6, .data⟩, ⟨11, .data⟩, ⟨6, .chain⟩], none⟩) rfl (fun K hK => ?_) AllReadyH.nil
          go_simp
          (go_at_call 57; refine (HT2.out w3 g3 c3 z3 ha3.bf hz3.out).mono ?_; rintro e w4 ⟨g4, c4, z4, rfl, hz4, ha4⟩; have hb4 : Below w.heap.size w w4 := hb3.trans (ha4.bel (ha3.bf.new) hb3.size))
          try go_wp2_with fail
          refine hK.out _ _ (HS.out _ hb4) (fun hHeld => ?_)
          clear hK K
          try simp only [Act.put, List.setIfInBounds_toArray, List.set_cons_zero, List.set_cons_succ]
          refine wpAnyH_take (i := 13) (oi := ⟨some 3, .assign (.tmp 50), 22, "l10_tree.go:198", #[⟨12, .data⟩, ⟨12, .chain⟩, ⟨0, .phase⟩, ⟨1, .phase⟩, ⟨2, .phase⟩, ⟨3, .phase⟩, ⟨4, .phase⟩, ⟨5, .phase⟩, ⟨6, .phase⟩, ⟨7, .phase⟩, ⟨8, .phase⟩, ⟨9, .phase⟩, ⟨10, .phase⟩, ⟨11, .phase⟩, ⟨12, .phase⟩], none⟩) (v := ?v24) rfl (by kernel_rfl) (by kernel_rfl) (by kernel_rfl) (fun _ _ _ h => h) (Or.inl ⟨by rfl, ?hy24⟩) (by assumption) ?r24
          case hy24 => (intro w hSw; (try dsimp only at hSw); go_simp; try with_reducible rfl)
          try simp only [Act.put, List.setIfInBounds_toArray, List.set_cons_zero, List.set_cons_succ]
          refine wpAnyH_done (by kernel_rfl) ?_ _
          have HA4 : Hid (bf.Bf w.heap.size w4 g4 c4 (hd n ++ pkL E (i + 1))) := by have := ha4.bf; rw [HNX.out] at this; exact this
          have HZ4 : Hid (z4 = (hd n ++ pkL E (i + 1)).length) := by have := hz4.out; rw [HNX.out] at this; exact this
          clear ha4 ha3 hz4 hz3
          go_wp2_with fail
          go_roundw
          case rel => exact ⟨i + 1, g4, c4, z4, by omega, rfl, by go_num, HZ4.out, HA4.out, hb4⟩
          case measure => simp [intOf] <;> omega
      · have hil' : ¬ (i : Int) < (n : Int) := by omega
        obtain rfl : i = n := by omega
        have HZ : Hid (z = (hd i ++ pkL E i).length) := hz
        have HBF : Hid (bf.Bf w.heap.size wr g' cap' (hd i ++ pkL E i)) := hbf
        clear hbel hbf hz
        go_wp2
        go_ret
        exact ⟨⟨_, _, _, rfl, by unfold Pkd; rw [HE.out]; exact ⟨HZ.out, HBF.out⟩⟩, HBE.out⟩

end Go.Proofs.YtkmhaemcpakobaaGreatDoor.tt

namespace Go.Proofs.YtkmhaemcpakobaaGreatDoor.tt
open Go.ChangeShapes Go.WideShapes Go.ChangeAt Go.RowKit Go.Deep
set_option linter.unusedVariables false
set_option linter.unusedSimpArgs false

/-! ### The law's helpers over a list of entries -/

/-- The entries behind a slice's address. -/
def SrcE (w : World) (a : Option Addr) (n : Nat) (E : Nat → En) : Prop := n = 0 ∨ ∃ b o, a = some ⟨b, o, none⟩ ∧ EnR w b o n E

theorem SrcE.below {w w' : World} {a : Option Addr} {n : Nat} {E : Nat → En} (h : SrcE w a n E) (hb : Below w.heap.size w w') : SrcE w' a n E := by
  rcases h with h | ⟨b, o, e, h⟩
  · exact .inl h
  · exact .inr ⟨b, o, e, h.below hb⟩

/-! ### The copy -/

theorem infoE : (Tryz.prog.info? 77).map (fun i => (i.zero, i.size, i.bytes)) = some (some (.agg #[.string ⟨#[]⟩, .int .i64 0, .string ⟨#[]⟩, .bool false]), 4, 48) := by kernel_rfl

theorem make4 {P : Program} (t e : TypeId) (z : Value) (bytes : Nat) (ht : P.underlying t = some (.slice e)) (hinfo : (P.info? e).map (fun i => (i.zero, i.size, i.bytes)) = some (some z, 4, bytes))
    (kl kc : IntKind) (n : Nat) (hbytes : bytes * n ≤ 281474976710656) (h63 : n ≤ 9223372036854775807) (w : World) :
    (Instr.makeSlice t (.int kl (n : Int)) (.int kc (n : Int))).run P w = .ok (.slice (some ⟨w.heap.size, 0, none⟩) n n) (w.alloc (.cells (madeCells z.cells (n * 4)) e)) := by
  obtain ⟨i, hi, hzz⟩ := Option.map_eq_some_iff.1 hinfo
  simp only [Prod.mk.injEq] at hzz
  obtain ⟨hz, hs, hb⟩ := hzz
  have hb' : (i.bytes : Int) * (n : Int) ≤ 281474976710656 := by
    have h : ((i.bytes * n : Nat) : Int) ≤ 281474976710656 := by rw [hb]; omega
    rwa [Int.natCast_mul] at h
  have hr := run_make (P := P) w t e i z ht hi hz kl kc n n (by omega) (Int.le_refl _) hb' (by omega)
  simp only [Int.toNat_natCast, hs] at hr
  exact hr

/-- The j-th cell of a list of entries. -/
def cellE (E : Nat → En) (j : Nat) : Value := if j % 4 = 0 then .string (E (j / 4)).path else if j % 4 = 1 then .int .i64 (E (j / 4)).kind else if j % 4 = 2 then .string (E (j / 4)).data else .bool (E (j / 4)).exec
theorem cellE0 (E : Nat → En) (k : Nat) : cellE E (k * 4) = .string (E k).path := by
  unfold cellE
  rw [if_pos (by omega), show k * 4 / 4 = k by omega]
theorem cellE1 (E : Nat → En) (k : Nat) : cellE E (k * 4 + 1) = .int .i64 (E k).kind := by
  unfold cellE
  rw [if_neg (by omega), if_pos (by omega), show (k * 4 + 1) / 4 = k by omega]
theorem cellE2 (E : Nat → En) (k : Nat) : cellE E (k * 4 + 2) = .string (E k).data := by
  unfold cellE
  rw [if_neg (by omega), if_neg (by omega), if_pos (by omega), show (k * 4 + 2) / 4 = k by omega]
theorem cellE3 (E : Nat → En) (k : Nat) : cellE E (k * 4 + 3) = .bool (E k).exec := by
  unfold cellE
  rw [if_neg (by omega), if_neg (by omega), if_neg (by omega), show (k * 4 + 3) / 4 = k by omega]

theorem enr_row {w : World} {b e n : Nat} {E : Nat → En} (h : w.rowIs b e (n * 4) (cellE E)) : EnR w b 0 n E := by
  intro i hi
  have h0 := h.cell (i := i * 4) (by omega)
  have h1 := h.cell (i := i * 4 + 1) (by omega)
  have h2 := h.cell (i := i * 4 + 2) (by omega)
  have h3 := h.cell (i := i * 4 + 3) (by omega)
  rw [cellE0] at h0
  rw [cellE1] at h1
  rw [cellE2] at h2
  rw [cellE3] at h3
  rw [Nat.zero_add]
  exact ⟨h0, h1, h2, h3⟩

theorem mk_step {w : World} {b e N m : Nat} {f : Nat → Value} {E : Nat → En} (h : w.rowIs b e N (fun j => if j < m then cellE E j else f j)) {v : Value} (hv : cellE E m = v) :
    (w.setCell ⟨b, m, none⟩ v).rowIs b e N (fun j => if j < m + 1 then cellE E j else f j) :=
  (h.set m _).congr fun i hi => by
    by_cases h : i = m
    · simp [h, hv]
    · have e : (i < m + 1) ↔ (i < m) := by omega
      simp [h, e]

theorem row4 {w : World} {b e N k : Nat} {f : Nat → Value} {E : Nat → En} (h : w.rowIs b e N (fun j => if j < k * 4 then cellE E j else f j)) :
    ((((w.setCell ⟨b, k * 4, none⟩ (.string (E k).path)).setCell ⟨b, k * 4 + 1, none⟩ (.int .i64 (E k).kind)).setCell ⟨b, k * 4 + 2, none⟩ (.string (E k).data)).setCell ⟨b, k * 4 + 3, none⟩ (.bool (E k).exec)).rowIs b e N (fun j => if j < (k + 1) * 4 then cellE E j else f j) := by
  have s0 := mk_step h (cellE0 E k)
  have s1 := mk_step (m := k * 4 + 1) s0 (cellE1 E k)
  have s2 := mk_step (m := k * 4 + 2) s1 (cellE2 E k)
  have s3 := mk_step (m := k * 4 + 3) s2 (cellE3 E k)
  refine s3.congr (fun j hj => ?_)
  rw [show (k + 1) * 4 = k * 4 + 3 + 1 by omega]

theorem rowIs_made4 (w : World) (z : Array Value) (n : Nat) (t : TypeId) (hz : z.size = 4) : (w.alloc (.cells (madeCells z (n * 4)) t)).rowIs w.heap.size t (n * 4) (fun j => z[j % 4]!) :=
  ⟨_, blk_alloc_new _ _, size_madeCells _ _, fun i hi => by simp [madeCells, hi, hz]⟩

theorem ret_cell4 {fn : Func} {i : Tmp} (hf : fn.results = #[.cell i 77]) {tmps : Array Value} {W : World} {b : Nat} {v0 v1 v2 v3 : Value} {R : Ending → World → Prop} (h4 : tmps.getD i undef = .pointer (some ⟨b, 0, none⟩))
    (k0 : W.cell? ⟨b, 0, none⟩ = some v0) (k1 : W.cell? ⟨b, 1, none⟩ = some v1) (k2 : W.cell? ⟨b, 2, none⟩ = some v2) (k3 : W.cell? ⟨b, 3, none⟩ = some v3) (hR : R (.returned (.agg #[v0, v1, v2, v3])) W) :
    bodyPost Tryz.prog fn R Exit.ret { tmps := tmps, defers := [] } W := by
  have h4' : tmps[i]?.getD undef = .pointer (some ⟨b, 0, none⟩) := by simpa using h4
  exact bodyPost_ret (v := .agg #[v0, v1, v2, v3]) (by simp [results, hf, go_sem, h4', k0, k1, k2, k3]) rfl hR

/-! ### A list of entries that came in -/

end Go.Proofs.YtkmhaemcpakobaaGreatDoor.tt

namespace Go.Proofs.YtkmhaemcpakobaaGreatDoor.up
open Go.ChangeShapes Go.WideShapes Go.ChangeAt Go.RowKit Go.Deep
set_option linter.unusedVariables false
set_option linter.unusedSimpArgs false

/-! ### Bytes that are unpacked: the program's pieces and entries -/

/-- What a piece leaves. -/
def PieR (w w' : World) (p b : Nat) (l : List UInt8) (i : Nat) (e : Ending) : Prop := ∃ (S : ByteArray) (i' : Nat), e = .returned (.string S) ∧ S.size ≤ l.length ∧ i ≤ i' ∧ Rs w' p b l.length i' ∧ w.grownBy w' (some p) ∧ ∀ T tail, l.drop i = bf.num T.length ++ T ++ tail → T.length ≤ 1048576 → S.data.toList = T ∧ l.drop i' = tail

set_option maxRecDepth 100000 in
theorem piece_any (b p i : Nat) (l : List UInt8) (hbp : b ≠ p) (hN : l.length ≤ 1048576) (w : World) (h : Rs w p b l.length i) (hB : By w b l) :
    Calls Tryz.prog 98 #[.pointer (some ⟨p, 0, none⟩)] w fun e w' => PieR w w' p b l i e := by
  have HNU : Hid (Calls Tryz.prog 71 #[.pointer (some ⟨p, 0, none⟩)] w fun e w' => NumR w w' p b l i e) := number_any b p i l hbp hN w h hB
  have HBY : Hid (∀ W, w.grownBy W (some p) → By W b l) := fun W hW => hB.grown hW hbp
  have HCU : Hid (∀ W j s, s < 18446744073709551616 → Rs W p b l.length j → Calls Tryz.prog 70 #[.pointer (some ⟨p, 0, none⟩), .int .u64 ((s : Nat) : Int)] W fun e w' => CutR W w' p b l.length j s e) := fun W j s hs hW => cut_any b p l.length j s hs W hW hN
  clear h hB
  go_enter Tryz.func98, Tryz.ntmps98
  go_wp2_with (go_at_call 71; refine HNU.out.mono ?_; rintro e w1 ⟨m, i1, rfl, hm, hi1, hr1, hg1, hp1⟩; have HM : Hid (m < 18446744073709551616) := hm; clear hm; refine Hid.out ?_)
  refine Lib.hid ?_
  have HR1 : Hid (Rs w1 p b l.length i1) := hr1
  have HP1 : Hid (∀ x tail, l.drop i = bf.num x ++ tail → x ≤ 1048576 → m = x ∧ l.drop i1 = tail) := hp1
  clear hr1 hp1
  go_wp2_with (go_at_call 70; refine (HCU.out _ _ _ HM.out HR1.out).mono ?_; rintro e w2 ⟨o, k, hk, rfl, ho, hr2, hg2⟩; have HK : Hid (k = min m (l.length - i1)) := hk; clear hk; refine Hid.out ?_)
  refine Lib.hid ?_
  obtain ⟨S, hS⟩ : ∃ S : ByteArray, S = ⟨((l.drop i1).take k).toArray⟩ := ⟨_, rfl⟩
  have hSs : S.size = k := by
    have h1 := HK.out
    rw [hS]
    show (((l.drop i1).take k).toArray).size = k
    rw [List.size_toArray, List.length_take, List.length_drop]
    omega
  have hG : w.grownBy w2 (some p) := hg1.trans hg2
  have hby : Lib.Bytes w2 b o S := fun j hj => by
    have h1 := HK.out
    have hlt : i1 + j < l.length := by omega
    have hoi : o = i1 := ho (by omega)
    have e1 := HBY.out w2 hG (i1 + j) hlt
    rw [hoi, e1]
    congr 2
    have : S[j] = l[i1 + j] := by
      subst hS
      show (((l.drop i1).take k).toArray)[j] = _
      simp
    rw [this]
  have hcv := Lib.run_convert_whole (P := Tryz.prog) w2 22 5 9 Tryz.underlying22 Tryz.underlying5 Tryz.underlying9 b o S hby k
  rw [hSs] at hcv
  have HR : Hid (PieR w w2 p b l i (.returned (.string S))) := by
    refine ⟨S, i1 + k, rfl, by rw [hSs]; have := HK.out; omega, by omega, hr2, hG, fun T tail hx hT => ?_⟩
    rw [List.append_assoc] at hx
    obtain ⟨hm1, hd1⟩ := HP1.out T.length (T ++ tail) hx hT
    have hlen : l.length - i1 = T.length + tail.length := by
      have := congrArg List.length hd1
      rw [List.length_drop, List.length_append] at this
      exact this
    have hkT : k = T.length := by have := HK.out; omega
    constructor
    · rw [hS, hd1, hkT, List.take_left]
    · rw [← List.drop_drop, hd1, hkT, List.drop_left]
  clear hS hSs hG hby hr2 hg2
  go_wp2
  go_ret
  exact HR.out

theorem c4 {w : World} {k : Nat} {v0 v1 v2 v3 : Value} {T : TypeId} (h : w.heap[k]? = some (.cells #[v0, v1, v2, v3] T (0, 0))) : w.cell? ⟨k, 0, none⟩ = some v0 ∧ w.cell? ⟨k, 1, none⟩ = some v1 ∧ w.cell? ⟨k, 2, none⟩ = some v2 ∧ w.cell? ⟨k, 3, none⟩ = some v3 ∧ ∀ j, w.frozen? ⟨k, j, none⟩ = false := by
  refine ⟨by simp [World.cell?, h], by simp [World.cell?, h], by simp [World.cell?, h], by simp [World.cell?, h], fun j => by simp [World.frozen?, h]⟩
theorem set4 {w : World} {k : Nat} {v0 v1 v2 v3 : Value} {T : TypeId} (h : w.heap[k]? = some (.cells #[v0, v1, v2, v3] T (0, 0))) (j : Nat) (x : Value) : (w.setCell ⟨k, j, none⟩ x).heap[k]? = some (.cells (#[v0, v1, v2, v3].setIfInBounds j x) T (0, 0)) := by
  simp [World.setCell, Array.getElem?_modify, h]
theorem setO {w : World} {k k' : Nat} (hk : k ≠ k') (j : Nat) (x : Value) : (w.setCell ⟨k', j, none⟩ x).heap[k]? = w.heap[k]? := Below.heap_setCell _ _ _ _ hk
theorem grown_new {w w' : World} {p : Nat} (h : w.grownBy w' (some p)) {k : Nat} (hk : w.heap.size ≤ k) (j : Nat) (x : Value) : w.grownBy (w'.setCell ⟨k, j, none⟩ x) (some p) :=
  ⟨h.os, h.tape, h.output, by simpa using h.size, fun q hq hne => (Below.heap_setCell _ _ _ _ (by show q ≠ k; omega)).trans (h.block q hq hne)⟩
theorem grown_bel {w w1 w2 : World} {p : Nat} (h : w.grownBy w1 (some p)) (hb : Below w1.heap.size w1 w2) : w.grownBy w2 (some p) :=
  ⟨hb.os.trans h.os, hb.tape.trans h.tape, hb.output.trans h.output, Nat.le_trans h.size hb.size, fun k hk hne => (hb.block k (Nat.lt_of_lt_of_le hk h.size)).trans (h.block k hk hne)⟩

def kdV (y : UInt8) : Int := bits BinOp.andNot IntKind.u8 (y.toNat : Int) 16
def exV (y : UInt8) : Bool := decide (0 < bits BinOp.and IntKind.u8 (y.toNat : Int) 16)

theorem kx_of {z : tt.En} (h : 1 ≤ z.kind ∧ z.kind ≤ 3) : kdV (tt.kB z) = z.kind ∧ exV (tt.kB z) = z.exec := by
  obtain ⟨k, hk⟩ : ∃ k : Nat, z.kind = (k : Int) := ⟨z.kind.toNat, by omega⟩
  unfold tt.kB
  rw [hk, show (k : Int).toNat = k from rfl]
  have h3 : k = 1 ∨ k = 2 ∨ k = 3 := by omega
  cases z.exec <;> rcases h3 with rfl | rfl | rfl <;> exact ⟨by decide +kernel, by decide +kernel⟩

/-- What an entry leaves. -/
def EntR (w w' : World) (p b : Nat) (l : List UInt8) (i : Nat) (e : Ending) : Prop := ∃ (x : tt.En) (i' : Nat), e = .returned (.agg #[.string x.path, .int .i64 x.kind, .string x.data, .bool x.exec]) ∧ x.path.size ≤ l.length ∧ x.data.size ≤ l.length ∧ i < i' ∧ Rs w' p b l.length i' ∧ w.grownBy w' (some p) ∧ ∀ (y : tt.En) tail, l.drop i = tt.pkE y ++ tail → 1 ≤ y.kind ∧ y.kind ≤ 3 → y.path.size ≤ 1048576 → y.data.size ≤ 1048576 → x = y ∧ l.drop i' = tail

set_option maxRecDepth 100000 in
set_option maxHeartbeats 4000000 in
theorem entry_any (b p i : Nat) (l : List UInt8) (hbp : b ≠ p) (hN : l.length ≤ 1048576) (hil : i < l.length) (w : World) (h : Rs w p b l.length i) (hB : By w b l) :
    Calls Tryz.prog 72 #[.pointer (some ⟨p, 0, none⟩)] w fun e w' => EntR w w' p b l i e := by
  have hpl := h.lt
  have HBY : Hid (∀ W, w.grownBy W (some p) → By W b l) := fun W hW => hB.grown hW hbp
  have HCU : Hid (∀ W, Rs W p b l.length i → Calls Tryz.prog 70 #[.pointer (some ⟨p, 0, none⟩), .int .u64 1] W fun e w' => CutR W w' p b l.length i 1 e) := fun W hW => cut_any b p l.length i 1 (by omega) W hW hN
  have HPI : Hid (∀ W j, w.grownBy W (some p) → Rs W p b l.length j → Calls Tryz.prog 98 #[.pointer (some ⟨p, 0, none⟩)] W fun e w' => PieR W w' p b l j e) := fun W j hg hW => piece_any b p j l hbp hN W hW (HBY.out W hg)
  have HR0 : Hid (∀ ob, Rs (w.alloc ob) p b l.length i) := fun ob => h.below ((Below.refl _ _).alloc (Nat.le_refl _) _)
  have HG0 : Hid (∀ ob, w.grownBy (w.alloc ob) (some p)) := fun ob => grown_bel (grown_refl _ _) ((Below.refl _ _).alloc (Nat.le_refl _) _)
  obtain ⟨y, hy⟩ : ∃ y, y = l[i] := ⟨_, rfl⟩
  have HYC : Hid (∀ W, w.grownBy W (some p) → W.cell? ⟨b, i, none⟩ = some (.int .u8 (y.toNat : Int))) := fun W hW => by rw [hy]; exact HBY.out W hW i hil
  have HDR : Hid (l.drop i = y :: l.drop (i + 1)) := by show _ = _; rw [hy]; exact List.drop_eq_getElem_cons hil
  have hyb : (y.toNat : Int) < 256 := by have := y.toNat_lt; omega
  have HMN : Hid (min 1 (l.length - i) = 1) := by show _ = _; omega
  have hkw : 0 ≤ bits BinOp.andNot IntKind.u8 (y.toNat : Int) 16 ∧ bits BinOp.andNot IntKind.u8 (y.toNat : Int) 16 ≤ 255 := by
    have h := wf_bits BinOp.andNot .u8 (y.toNat : Int) 16
    simpa [Lit.wf, IntKind.min, IntKind.max, IntKind.signed, IntKind.bits] using h
  clear h hB hy
  go_enter Tryz.func72, Tryz.ntmps72
  go_wp2_with (go_at_call 70; refine (HCU.out _ (HR0.out _)).mono ?_; rintro e w1 ⟨o1, k1, hk1, rfl, ho1, hr1, hg1⟩; obtain rfl : k1 = 1 := hk1.trans HMN.out; obtain rfl := ho1 hil; clear hk1; have hcell := HYC.out w1 ((HG0.out _).trans hg1); refine Hid.out ?_)
  refine Lib.hid ?_
  have hw1 : w.heap.size < w1.heap.size := by have := hg1.size; simp only [World.size_alloc] at this; omega
  have HGW1 : Hid (w.grownBy w1 (some p)) := (HG0.out _).trans hg1
  have HH1 : Hid (w1.heap[w.heap.size]? = some (.cells #[.string ⟨#[]⟩, .int .i64 0, .string ⟨#[]⟩, .bool false] 77 (0, 0))) := (hg1.block w.heap.size (by simp) (fun e => by have := Option.some.inj e; omega)).trans (heap_alloc_new w _)
  have HGA : Hid (∀ ob, w.grownBy (w1.alloc ob) (some p)) := fun ob => grown_bel HGW1.out ((Below.refl _ _).alloc (Nat.le_refl _) _)
  have HRA : Hid (∀ ob, Rs (w1.alloc ob) p b l.length (o1 + 1)) := fun ob => hr1.below ((Below.refl _ _).alloc (Nat.le_refl _) _)
  obtain ⟨vk, hvk⟩ : ∃ v, bits BinOp.andNot IntKind.u8 (y.toNat : Int) 16 = v := ⟨_, rfl⟩
  obtain ⟨vx, hvx⟩ : ∃ v, decide (0 < bits BinOp.and IntKind.u8 (y.toNat : Int) 16) = v := ⟨_, rfl⟩
  have HVK : Hid (kdV y = vk) := hvk
  have HVX : Hid (exV y = vx) := hvx
  clear hg1 hr1
  go_wp2_with (go_at_call 98; refine (HPI.out _ _ (HGA.out _) (HRA.out _)).mono ?_; rintro e w2 ⟨S1, i2, rfl, hs1, hi2, hr2, hg2, hp2⟩; have HP2 : Hid (∀ T tail, l.drop (o1 + 1) = bf.num T.length ++ T ++ tail → T.length ≤ 1048576 → S1.data.toList = T ∧ l.drop i2 = tail) := hp2; clear hp2; refine Hid.out ?_)
  refine Lib.hid ?_
  have hw2 : w1.heap.size < w2.heap.size := by have := hg2.size; simp only [World.size_alloc] at this; omega
  have HB2 : Hid (w2.heap[w1.heap.size]? = some (.cells #[.string ⟨#[]⟩, .int .i64 vk, .string ⟨#[]⟩, .bool vx] 77 (0, 0))) := by
    have h1 := (hg2.block w1.heap.size (by simp) (fun e => by have := Option.some.inj e; omega)).trans (heap_alloc_new w1 _)
    first | exact h1 | (rw [hvk, hvx] at h1; exact h1)
  have HH2 : Hid (w2.heap[w.heap.size]? = some (.cells #[.string ⟨#[]⟩, .int .i64 0, .string ⟨#[]⟩, .bool false] 77 (0, 0))) := (hg2.block w.heap.size (by simp; omega) (fun e => by have := Option.some.inj e; omega)).trans ((Below.heap_alloc w1 _ _ hw1).trans HH1.out)
  have HGW2 : Hid (w.grownBy w2 (some p)) := (HGA.out _).trans hg2
  obtain ⟨q0, q1, q2, q3, qf⟩ := c4 HB2.out
  have qf0 := qf 0
  have HB3 : Hid ((w2.setCell ⟨w1.heap.size, 0, none⟩ (.string S1)).heap[w1.heap.size]? = some (.cells #[.string S1, .int .i64 vk, .string ⟨#[]⟩, .bool vx] 77 (0, 0))) := set4 HB2.out 0 _
  have HH3 : Hid ((w2.setCell ⟨w1.heap.size, 0, none⟩ (.string S1)).heap[w.heap.size]? = some (.cells #[.string ⟨#[]⟩, .int .i64 0, .string ⟨#[]⟩, .bool false] 77 (0, 0))) := (setO (by omega) _ _).trans HH2.out
  have HG3 : Hid (w.grownBy (w2.setCell ⟨w1.heap.size, 0, none⟩ (.string S1)) (some p)) := grown_new HGW2.out (by omega) _ _
  have HR3 : Hid (Rs (w2.setCell ⟨w1.heap.size, 0, none⟩ (.string S1)) p b l.length i2) := hr2.kept (setO (by omega) _ _)
  have HZ3 : Hid ((w2.setCell ⟨w1.heap.size, 0, none⟩ (.string S1)).heap.size = w2.heap.size) := by show _ = _; simp [World.setCell]
  clear hg2 hr2 qf
  go_wp2_with (go_at_call 98; refine (HPI.out _ _ HG3.out HR3.out).mono ?_; rintro e w3 ⟨S2, i3, rfl, hs2, hi3, hr3, hg3, hp3⟩; have HP3 : Hid (∀ T tail, l.drop i2 = bf.num T.length ++ T ++ tail → T.length ≤ 1048576 → S2.data.toList = T ∧ l.drop i3 = tail) := hp3; clear hp3; refine Hid.out ?_)
  refine Lib.hid ?_
  have hw3 : w2.heap.size ≤ w3.heap.size := by have := hg3.size; rw [HZ3.out] at this; exact this
  have HB4 : Hid (w3.heap[w1.heap.size]? = some (.cells #[.string S1, .int .i64 vk, .string ⟨#[]⟩, .bool vx] 77 (0, 0))) := (hg3.block w1.heap.size (by rw [HZ3.out]; exact hw2) (fun e => by have := Option.some.inj e; omega)).trans HB3.out
  have HH4 : Hid (w3.heap[w.heap.size]? = some (.cells #[.string ⟨#[]⟩, .int .i64 0, .string ⟨#[]⟩, .bool false] 77 (0, 0))) := (hg3.block w.heap.size (by rw [HZ3.out]; omega) (fun e => by have := Option.some.inj e; omega)).trans HH3.out
  have HG4 : Hid (w.grownBy w3 (some p)) := HG3.out.trans hg3
  obtain ⟨r0, r1, r2, r3, rf⟩ := c4 HB4.out
  have rf2 := rf 2
  have HB5 : Hid ((w3.setCell ⟨w1.heap.size, 2, none⟩ (.string S2)).heap[w1.heap.size]? = some (.cells #[.string S1, .int .i64 vk, .string S2, .bool vx] 77 (0, 0))) := set4 HB4.out 2 _
  have HH5 : Hid ((w3.setCell ⟨w1.heap.size, 2, none⟩ (.string S2)).heap[w.heap.size]? = some (.cells #[.string ⟨#[]⟩, .int .i64 0, .string ⟨#[]⟩, .bool false] 77 (0, 0))) := (setO (by omega) _ _).trans HH4.out
  have HG5 : Hid (w.grownBy (w3.setCell ⟨w1.heap.size, 2, none⟩ (.string S2)) (some p)) := grown_new HG4.out (by omega) _ _
  have HR5 : Hid (Rs (w3.setCell ⟨w1.heap.size, 2, none⟩ (.string S2)) p b l.length i3) := hr3.kept (setO (by omega) _ _)
  clear hg3 hr3 rf q0 q1 q2 q3 qf0
  go_upto_region 5 with fail
  obtain ⟨W5, hW5⟩ : ∃ W, W = w3.setCell ⟨w1.heap.size, 2, none⟩ (.string S2) := ⟨_, rfl⟩
  rw [← hW5] at HB5 HH5 HG5 HR5 ⊢
  clear hW5 r0 r1 r2 r3 rf2
  obtain ⟨t0, t1, t2, t3, tf⟩ := c4 HB5.out
  obtain ⟨z0, z1, z2, z3, zf⟩ := c4 HH5.out
  have zf0 := zf 0
  have zf1 := zf 1
  have zf2 := zf 2
  have zf3 := zf 3
  clear tf zf
  have HF : Hid (((((W5.setCell ⟨w.heap.size, 0, none⟩ (.string S1)).setCell ⟨w.heap.size, 1, none⟩ (.int .i64 vk)).setCell ⟨w.heap.size, 2, none⟩ (.string S2)).setCell ⟨w.heap.size, 3, none⟩ (.bool vx)).heap[w.heap.size]? = some (.cells #[.string S1, .int .i64 vk, .string S2, .bool vx] 77 (0, 0))) := set4 (set4 (set4 (set4 HH5.out 0 _) 1 _) 2 _) 3 _
  go_wp2
  refine tt.ret_cell4 Tryz.results72 rfl (v0 := .string S1) (v1 := .int .i64 vk) (v2 := .string S2) (v3 := .bool vx) ?_ ?_ ?_ ?_ ?_
  · exact (c4 HF.out).1
  · exact (c4 HF.out).2.1
  · exact (c4 HF.out).2.2.1
  · exact (c4 HF.out).2.2.2.1
  · refine ⟨⟨S1, vk, S2, vx⟩, i3, rfl, hs1, hs2, by omega, ?_, ?_, fun z tail hz hk hps hds => ?_⟩
    · exact (((HR5.out.kept (setO (by omega) _ _)).kept (setO (by omega) _ _)).kept (setO (by omega) _ _)).kept (setO (by omega) _ _)
    · exact grown_new (grown_new (grown_new (grown_new HG5.out (Nat.le_refl _) _ _) (Nat.le_refl _) _ _) (Nat.le_refl _) _ _) (Nat.le_refl _) _ _
    · rw [HDR.out] at hz
      have hz1 : y :: l.drop (o1 + 1) = tt.kB z :: (bf.num z.path.size ++ (z.path.data.toList ++ (bf.num z.data.size ++ (z.data.data.toList ++ tail)))) := by
        rw [hz]
        unfold tt.pkE
        simp only [List.append_assoc, List.cons_append, List.nil_append]
      have hyz : y = tt.kB z := (List.cons.inj hz1).1
      have hz := (List.cons.inj hz1).2
      have hpl' : z.path.data.toList.length = z.path.size := by simp
      have hdl' : z.data.data.toList.length = z.data.size := by simp
      obtain ⟨e1, hz2⟩ := HP2.out z.path.data.toList (bf.num z.data.size ++ (z.data.data.toList ++ tail)) (by rw [hz, hpl']; simp only [List.append_assoc]) (by omega)
      obtain ⟨e2, hz3⟩ := HP3.out z.data.data.toList tail (by rw [hz2, hdl']; simp only [List.append_assoc]) (by omega)
      refine ⟨?_, hz3⟩
      have hkx := kx_of hk
      rw [← hyz, HVK.out, HVX.out] at hkx
      have f1 : S1 = z.path := ByteArray.ext (Array.toList_inj.1 e1)
      have f2 : S2 = z.data := ByteArray.ext (Array.toList_inj.1 e2)
      rw [f1, f2, hkx.1, hkx.2]

end Go.Proofs.YtkmhaemcpakobaaGreatDoor.up

namespace Go.Proofs.YtkmhaemcpakobaaGreatDoor.tt
open Go.ChangeShapes Go.WideShapes Go.ChangeAt Go.RowKit Go.Deep
set_option linter.unusedVariables false
set_option linter.unusedSimpArgs false

/-! ### Entries cloned; rows of entries of the call's own -/

def enC (E : Nat → En) (n : Nat) : List Value := (List.range (n * 4)).map (cellE E)
theorem enC_len (E : Nat → En) (n : Nat) : (enC E n).length = n * 4 := by simp [enC]
theorem enC_succ (E : Nat → En) (n : Nat) : enC E (n + 1) = enC E n ++ [.string (E n).path, .int .i64 (E n).kind, .string (E n).data, .bool (E n).exec] := by
  have h : (n + 1) * 4 = n * 4 + 1 + 1 + 1 + 1 := by omega
  unfold enC
  rw [h, List.range_succ, List.range_succ, List.range_succ, List.range_succ]
  simp only [List.map_append, List.map_cons, List.map_nil, List.append_assoc, List.cons_append, List.nil_append]
  rw [cellE0, cellE1, cellE2, cellE3]
theorem enC_congr {E F : Nat → En} {n : Nat} (h : ∀ i, i < n → E i = F i) : enC E n = enC F n := by
  unfold enC
  refine List.map_congr_left fun j hj => ?_
  have hj' : j / 4 < n := by have := List.mem_range.1 hj; omega
  unfold cellE
  rw [h _ hj']

/-- A row of entries that can be read and written. -/
def RowE (base : Nat) (w : World) (v : Value) (n : Nat) (E : Nat → En) : Prop := ∃ g cap f, v = .slice (some ⟨g, 0, none⟩) n cap ∧ base ≤ g ∧ n ≤ cap ∧ cap ≤ maxLen ∧ w.rowIs g 77 (cap * 4) f ∧ EnR w g 0 n E

theorem own_rowE {base : Nat} {w : World} {v : Value} {n : Nat} {E : Nat → En} (h : w.ownsRow base 77 4 v n (enC E n)) (hv : v ≠ .slice none 0 0) : RowE base w v n E := by
  rcases h.2 with ⟨rfl, _⟩ | ⟨g, cap, cur, rfl, hb, hg, hnc, hcm, hcs, htk⟩
  · exact absurd rfl hv
  · refine ⟨g, cap, fun j => cur[j]?.getD undef, rfl, hb, hnc, hcm, ⟨cur, hg, hcs, fun i hi => by have hq : cur[i]? = some (cur[i]'(by omega)) := Array.getElem?_eq_getElem _; simp [hq]⟩, fun i hi => ?_⟩
    have hc : ∀ j, j < n * 4 → w.cell? ⟨g, j, none⟩ = some (cellE E j) := fun j hj => by
      have h1 : (cur.toList.take (n * 4))[j]? = some (cellE E j) := by rw [htk]; simp [enC, hj]
      rw [List.getElem?_take_of_lt hj, Array.getElem?_toList] at h1
      simp [World.cell?, hg, h1]
    rw [Nat.zero_add]
    exact ⟨by rw [hc _ (by omega), cellE0], by rw [hc _ (by omega), cellE1], by rw [hc _ (by omega), cellE2], by rw [hc _ (by omega), cellE3]⟩

theorem made_own (w : World) (n : Nat) (hn : n ≤ 1048576) (M : Array Value) (hM : M.size = n * 4) : (w.alloc (.cells M 77)).ownsRow w.heap.size 77 4 (.slice (some ⟨w.heap.size, 0, none⟩) 0 n) 0 [] :=
  ⟨rfl, .inr ⟨w.heap.size, n, M, rfl, Nat.le_refl _, heap_alloc_new w _, Nat.zero_le _, by unfold maxLen; omega, hM, by simp⟩⟩

theorem four_at (W : World) (k : Nat) (hk : k = W.heap.size) (e : TypeId) (v0 v1 v2 v3 : Value) : ∀ j u, [v0, v1, v2, v3][j]? = some u → (W.alloc (.cells #[v0, v1, v2, v3] e)).cell? ((⟨k, 0, none⟩ : Addr).add j) = some u := by
  subst hk
  intro j u h
  have hc : (W.alloc (.cells #[v0, v1, v2, v3] e)).cell? ⟨W.heap.size, j, none⟩ = (#[v0, v1, v2, v3] : Array Value)[j]? := World.cell?_alloc_new W _ _ j
  rw [addr_add, Nat.zero_add, hc, ← h]
  simp

/-- One entry more. -/
theorem app_ent (w : World) {ops : Array Oper} {rest : List Oper} {o : Oper} {a : Act} {Q : Exit → Act → World → Prop} (hgd : o.guard = none) (s x : Operand)
    (ho : o.op = .call { callee := .builtin .append, args := #[s, x], argTypes := #[49, 49] })
    (base : Nat) (v : Value) (n : Nat) (xs : List Value) (hs : a.eval s = v) (hown : w.ownsRow base 77 4 v n xs) (hv : v ≠ .slice none 0 0)
    (ad : Addr) (c : Nat) (v0 v1 v2 v3 : Value) (hx : a.eval x = .slice (some ad) 1 c) (hnews : ∀ j u, [v0, v1, v2, v3][j]? = some u → w.cell? (ad.add j) = some u) (h1 : ∀ u ∈ [v0, v1, v2, v3], u.oneCell' = true)
    (h63 : n ≤ 2000000) (hbase : base ≤ w.heap.size)
    (h : ∀ v' w', w'.ownsRow base 77 4 v' (n + 1) (xs ++ [v0, v1, v2, v3]) → v' ≠ .slice none 0 0 → w.grownBy w' v.ownBlock → wpList Tryz.prog ops Q rest (a.put o.dst v') w') : wpList Tryz.prog ops Q (o :: rest) a w := by
  obtain ⟨i, hi, hzz⟩ := Option.map_eq_some_iff.1 infoE
  simp only [Prod.mk.injEq] at hzz
  obtain ⟨hz, hsi, hb⟩ := hzz
  exact wpList_append_own w hgd s x 49 ho base 77 i _ 4 48 Tryz.underlying49 hi hz hsi hb rfl (by decide) v n xs hs hown ad 1 c [v0, v1, v2, v3] hx rfl hnews h1 (by unfold maxLen; omega) (by omega) hbase (fun v' w' p q r => h v' w' p (fun e => hv (r.1 e).1) q)

theorem four_one (P : ByteArray) (kd : Int) (d : ByteArray) (x : Bool) : ∀ u ∈ [Value.string P, .int .i64 kd, .string d, .bool x], u.oneCell' = true := by
  intro u hu
  simp only [List.mem_cons, List.not_mem_nil, or_false] at hu
  rcases hu with rfl | rfl | rfl | rfl <;> rfl

end Go.Proofs.YtkmhaemcpakobaaGreatDoor.tt
