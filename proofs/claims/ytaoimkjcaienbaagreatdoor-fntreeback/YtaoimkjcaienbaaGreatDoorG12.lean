import Derived.Test.YtaoimkjcaienbaaGreatDoorG07
import Derived.Test.YtaoimkjcaienbaaGreatDoorG11
import Derived.Deep.RegionHeld3
import Derived.Lib.SlBytesConst
import Derived.Test.YtaoimkjcaienbaaGreatDoorG04
namespace Go.Proofs.YtaoimkjcaienbaaGreatDoor.tt
open Go.ChangeShapes Go.WideShapes Go.ChangeAt Go.RowKit Go.Deep
set_option linter.unusedVariables false
set_option linter.unusedSimpArgs false

/-! ### What a tree is packed as: both sides -/

theorem treeB_tr' {E : Nat → En} {n : Nat} (h : treeB E n = true) : n ≤ 500 ∧ Tr E n := by unfold treeB at h; exact (@decide_eq_true_iff _ (Classical.propDecidable _)).1 h

def kB (e : En) : UInt8 := UInt8.ofNat (e.kind.toNat + if e.exec then 16 else 0)
def pkE (e : En) : List UInt8 := [kB e] ++ bf.num e.path.size ++ e.path.data.toList ++ bf.num e.data.size ++ e.data.data.toList
def pkL (E : Nat → En) : Nat → List UInt8
  | 0 => []
  | k + 1 => pkL E k ++ pkE (E k)
def hd (n : Nat) : List UInt8 := [76, 65, 82, 49] ++ bf.num n
noncomputable def pkB (E : Nat → En) (n : Nat) : List UInt8 := if treeB E n = true then hd n ++ pkL E n else []
theorem pkB_yes {E : Nat → En} {n : Nat} (h : treeB E n = true) : pkB E n = hd n ++ pkL E n := by unfold pkB; rw [if_pos h]
theorem pkB_no {E : Nat → En} {n : Nat} (h : treeB E n = false) : pkB E n = [] := by unfold pkB; rw [if_neg (by rw [h]; simp)]

theorem num_small {n : Nat} (h : n ≤ 1048576) : (bf.num n).length ≤ 15 := bf.num_len 14 n (by rw [show 128 * 2 ^ 14 = 2097152 from rfl]; omega)
theorem bsz (S : ByteArray) : S.data.toList.length = S.size := by simp
theorem pkE_len {e : En} (h1 : e.path.size ≤ 1048576) (h2 : e.data.size ≤ 1048576) : (pkE e).length ≤ 2097183 := by
  have a := num_small h1
  have b := num_small h2
  unfold pkE
  simp only [List.length_append, List.length_singleton, bsz]
  omega
theorem pkL_len {E : Nat → En} {n : Nat} (hS : SmE n E) : ∀ k, k ≤ n → (pkL E k).length ≤ k * 2097183
  | 0, _ => by simp [pkL]
  | k + 1, h => by
    have a := pkL_len hS k (by omega)
    have b := pkE_len (hS k (by omega)).1 (hS k (by omega)).2
    rw [pkL, List.length_append]
    omega
theorem hd_len {n : Nat} (h : n ≤ 500) : (hd n).length ≤ 19 := by
  have := num_small (n := n) (by omega)
  unfold hd
  simp
  omega

/-- What is known of an entry of a tree. -/
theorem kind_of {E : Nat → En} {k i : Nat} (h : Tr E k) (hi : i < k) : 1 ≤ (E i).kind ∧ (E i).kind ≤ 3 := by
  have h1 := h.1 i hi
  unfold eOk cOk at h1
  simp only [Bool.and_eq_true] at h1
  have h2 := h1.2.2
  split at h2
  · omega
  · split at h2
    · omega
    · simp only [Bool.and_eq_true, decide_eq_true_eq] at h2
      omega

theorem kB_val {e : En} (h : 1 ≤ e.kind ∧ e.kind ≤ 3) : (e.exec = false → e.kind = ((kB e).toNat : Int)) ∧ (e.exec = true → e.kind + 16 = ((kB e).toNat : Int)) := by
  obtain ⟨k, hk⟩ : ∃ k : Nat, e.kind = (k : Int) := ⟨e.kind.toNat, by omega⟩
  constructor
  · intro hx
    unfold kB
    rw [hx, hk, if_neg (by simp), Nat.add_zero, show (k : Int).toNat = k from rfl]
    exact bf.byte_val (n := k) (by omega)
  · intro hx
    unfold kB
    rw [hx, hk, if_pos rfl, show (k : Int).toNat = k from rfl, ← bf.byte_val (n := k + 16) (by omega)]
    omega

theorem four_bf (w w1 : World) (hb : Below w.heap.size w w1) (e : TypeId) : bf.Bf w.heap.size (w1.alloc (.cells #[.int .u8 76, .int .u8 65, .int .u8 82, .int .u8 49] e (4, 5))) w1.heap.size 4 [76, 65, 82, 49] := by
  have hc : ∀ j, (w1.alloc (.cells #[.int .u8 76, .int .u8 65, .int .u8 82, .int .u8 49] e (4, 5))).cell? ⟨w1.heap.size, j, none⟩ = (#[Value.int .u8 76, .int .u8 65, .int .u8 82, .int .u8 49] : Array Value)[j]? := fun j => by
    have hb2 := heap_alloc_new w1 (.cells #[.int .u8 76, .int .u8 65, .int .u8 82, .int .u8 49] e (4, 5))
    unfold World.cell?
    simp only [hb2]
    try rfl
  refine ⟨hb.size, by simp, fun j hj => ?_, fun j hj => ⟨?_, ?_⟩, by simp, by unfold maxLen; omega⟩
  · rw [hc]
    match j, hj with
    | 0, _ => rfl
    | 1, _ => rfl
    | 2, _ => rfl
    | 3, _ => rfl
  · rw [hc, Array.getElem?_eq_getElem (by simpa using hj)]; rfl
  · have hb2 : (w1.alloc (.cells #[.int .u8 76, .int .u8 65, .int .u8 82, .int .u8 49] e (4, 5))).heap[w1.heap.size]? = _ := heap_alloc_new w1 _
    unfold World.frozen?
    simp only [hb2]
    simp
    omega
theorem none_bf (w w1 : World) (hb : Below w.heap.size w w1) (e : TypeId) : bf.Bf w.heap.size (w1.alloc (.cells #[] e)) w1.heap.size 0 [] :=
  ⟨hb.size, by simp, fun j hj => by simp at hj, fun j hj => by omega, by simp, by unfold maxLen; omega⟩

/-- What a packing hands back. -/
def Pkd (w w' : World) (l : List UInt8) (g cap z : Nat) : Prop := z = l.length ∧ bf.Bf w.heap.size w' g cap l

set_option maxHeartbeats 4000000 in
set_option maxRecDepth 100000 in
theorem spack_any (E : Nat → En) (b o n cap : Nat) (w : World) (hR : EnR w b o n E) (hS : SmE n E) (hn : n ≤ 1048576) (hcap : n ≤ cap) (hcl : cap ≤ maxLen) :
    Calls Tryz.prog 43 #[.slice (some ⟨b, o, none⟩) n cap] w fun e w' => (∃ g c z, e = .returned (.slice (some ⟨g, 0, none⟩) z c) ∧ Pkd w w' (pkB E n) g c z) ∧ Below w.heap.size w w' := by
  have HT : Hid (Calls Tryz.prog 9 #[.slice (some ⟨b, o, none⟩) n cap] w fun e w' => e = .returned (.bool (treeB E n)) ∧ Below w.heap.size w w') := stree_any E b o n cap w hR hS hn hcap hcl
  have HER : Hid (EnR w b o n E) := hR
  have HSM : Hid (SmE n E) := hS
  clear hR hS
  cases ht : treeB E n with
  | false =>
    rw [ht] at HT
    have HE : Hid (pkB E n = []) := pkB_no ht
    clear ht
    go_enter Tryz.func43, Tryz.ntmps43
    go_wp2_with (go_at_call 9; refine HT.out.mono ?_; rintro e w1 ⟨rfl, hl1⟩)
    go_ret
    exact ⟨⟨_, _, _, rfl, by unfold Pkd; rw [HE.out]; exact ⟨rfl, none_bf w w1 hl1 _⟩⟩, hl1.alloc hl1.size _⟩
  | true =>
    rw [ht] at HT
    have HE : Hid (pkB E n = hd n ++ pkL E n) := pkB_yes ht
    have hn5 := (treeB_tr' ht).1
    have HTR : Hid (Tr E n) := (treeB_tr' ht).2
    clear ht
    have kc := fun (w : World) (C : Array Value) (n c : Nat) => Lib.run_convert_bytes_const (P := Tryz.prog) w 22 5 C n c Tryz.underlying22 Tryz.underlying5
    go_enter Tryz.func43, Tryz.ntmps43
    go_wp2_with (first
      | (go_at_call 9; refine HT.out.mono ?_; rintro e w1 ⟨rfl, hl1⟩)
      | (go_at_call 74; refine (bf.num_any w.heap.size _ _ _ [76, 65, 82, 49] n (by omega) _ (four_bf w w1 hl1 _) (by simp) rfl).mono ?_; rintro e w2 ⟨g2, c2, z2, rfl, hz2, ha2⟩))
    have HZ2 : Hid (z2 = (hd n ++ pkL E 0).length) := by show _ = _; rw [pkL, List.append_nil]; exact hz2.out
    have HB0 : Hid (bf.Bf w.heap.size w2 g2 c2 (hd n ++ pkL E 0)) := by show bf.Bf _ _ _ _ _; rw [pkL, List.append_nil]; exact ha2.bf
    have HBE0 : Hid (Below w.heap.size w w2) := (hl1.alloc hl1.size _).trans (ha2.bel hl1.size (by simp; have := hl1.size; omega))
    clear hz2 ha2 hl1 kc
    go_loopw [3, 4, 5] (fun v x _ wr => ∃ (i g' cap' z : Nat), i ≤ n ∧ v = .slice (some ⟨g', 0, none⟩) z cap' ∧ x = .int .i64 (i : Int) ∧ z = (hd n ++ pkL E i).length ∧ bf.Bf w.heap.size wr g' cap' (hd n ++ pkL E i) ∧ Below w.heap.size w wr) (fun _ x _ _ => n - (intOf x).toNat)
    case atStart => exact ⟨0, g2, c2, z2, Nat.zero_le _, rfl, rfl, HZ2.out, HB0.out, HBE0.out⟩
    case round =>
      obtain ⟨i, g', cap', z, hi, rfl, rfl, hz, hbf, hbel⟩ := hrel
      have HBE : Hid (Below w.heap.size w wr) := hbel
      by_cases hil : i < n
      · have hil' : (i : Int) < (n : Int) := by omega
        have hi0 : (0 : Int) ≤ (i : Int) := by omega
        have hsm := HSM.out i hil
        obtain ⟨c0, c1, c2', c3⟩ := (HER.out i hil).below hbel
        have HS0 : Hid (∀ W, Below w.heap.size w W → N4 W b (o + i * 4) (E i)) := fun W hW => (HER.out i hil).below hW
        obtain ⟨L, hL⟩ : ∃ L, L = hd n ++ pkL E i := ⟨_, rfl⟩
        rw [← hL] at hz hbf
        have HZ : Hid (z = L.length) := hz
        have HBF : Hid (bf.Bf w.heap.size wr g' cap' L) := hbf
        have HLM : Hid (L.length ≤ 1099000000000) := by
          show _ ≤ _
          have h1 := pkL_len HSM.out i (by omega)
          have h2 := hd_len (n := n) hn5
          rw [hL, List.length_append]
          omega
        have HL : Hid (L.length + 1 ≤ 1099511627776) := by show _ ≤ _; have := HLM.out; omega
        have hkd := kind_of HTR.out hil
        have HKB0 := kB_val hkd
        obtain ⟨P, hP⟩ : ∃ P, (E i).path = P := ⟨_, rfl⟩
        obtain ⟨kd, hk⟩ : ∃ k, (E i).kind = k := ⟨_, rfl⟩
        obtain ⟨d, hd'⟩ : ∃ d, (E i).data = d := ⟨_, rfl⟩
        obtain ⟨y, hy⟩ : ∃ y, y = kB (E i) := ⟨_, rfl⟩
        obtain ⟨x, hxe⟩ : ∃ x, (E i).exec = x := ⟨_, rfl⟩
        have HKB : Hid ((x = false → kd = (y.toNat : Int)) ∧ (x = true → kd + 16 = (y.toNat : Int))) := by rw [hk, hxe, ← hy] at HKB0; exact HKB0
        have HS : Hid (∀ w' : World, Below w.heap.size w w' → w'.cell? ⟨b, o + i * 4, none⟩ = some (.string P) ∧ w'.cell? ⟨b, o + i * 4 + 2, none⟩ = some (.string d)) := fun W hW => by
          obtain ⟨q0, _, q2, _⟩ := HS0.out W hW
          rw [hP] at q0
          rw [hd'] at q2
          exact ⟨q0, q2⟩
        have hPs : P.size ≤ 1048576 := by rw [← hP]; exact hsm.1
        have hds : d.size ≤ 1048576 := by rw [← hd']; exact hsm.2
        have HLP : Hid ((L ++ [y] ++ bf.num P.size ++ P.data.toList).length ≤ 1099510000000) := by
          show _ ≤ _
          have h1 := HLM.out
          have h2 := num_small hPs
          simp only [List.length_append, List.length_singleton, bsz]
          omega
        have HNX0 : Hid (L ++ [y] ++ bf.num P.size ++ P.data.toList ++ bf.num d.size ++ d.data.toList = hd n ++ pkL E (i + 1)) := by
          show _ = _
          rw [hL, pkL, pkE, hP, hd', hy]
          simp only [List.append_assoc]
        rw [hP] at c0
        rw [hk] at c1 hkd
        rw [hd'] at c2'
        rw [hxe] at c3
        obtain ⟨hk1, hk3⟩ := hkd
        clear hbel hbf hz hL hP hk hd' hy hxe hsm HKB0
        cases hx : x with
        | false =>
          rw [hx] at c3
          have HV : Hid (kd = (y.toNat : Int)) := HKB.out.1 hx
          clear hx
          go_wp2_with (first
            | (at_builtin; refine bf.app_bytes _ rfl _ _ 22 rfl 5 Tryz.underlying22 bf.info5 rfl HZ.out.symm ⟨wr.heap.size, 0, none⟩ 1 (m := [y]) rfl rfl (HBF.out.below ((Below.refl _ _).alloc (Nat.le_refl _) _)) (bf.one_at wr _ _ _ HV.out) HL.out ?_; intro g2 c2 w2 n2 hn2 hap2; refine Hid.out ?_)
            | go_in)
          refine Lib.hid ?_
          have HB2 : Hid (Below w.heap.size w w2) := HBE.out.trans ((hap2.after ((Below.refl _ _).alloc (Nat.le_refl _) _)).bel HBF.out.new HBE.out.size)
          have HG2 : Hid (w.heap.size ≤ g2) := hap2.bf.new
          have HT1 : Hid (∀ W, Below w2.heap.size w2 W → Calls Tryz.prog 75 #[.slice (some ⟨g2, 0, none⟩) n2 c2, .string P] W fun e w' => ∃ g' cap' z', e = .returned (.slice (some ⟨g', 0, none⟩) z' cap') ∧ Hid (z' = (L ++ [y] ++ bf.num P.size ++ P.data.toList).length) ∧ bf.Ap w.heap.size W g2 w' g' cap' (L ++ [y] ++ bf.num P.size ++ P.data.toList)) := fun W hW => bf.text_any _ _ _ _ _ P hPs W (hap2.bf.below hW) (by have := HLM.out; rw [List.length_append, List.length_singleton]; omega) (by have := hn2.out; simpa using this)
          have HT2 : Hid (∀ W g3 c3 z3, bf.Bf w.heap.size W g3 c3 (L ++ [y] ++ bf.num P.size ++ P.data.toList) → z3 = (L ++ [y] ++ bf.num P.size ++ P.data.toList).length → Calls Tryz.prog 75 #[.slice (some ⟨g3, 0, none⟩) z3 c3, .string d] W fun e w' => ∃ g' cap' z', e = .returned (.slice (some ⟨g', 0, none⟩) z' cap') ∧ Hid (z' = (L ++ [y] ++ bf.num P.size ++ P.data.toList ++ bf.num d.size ++ d.data.toList).length) ∧ bf.Ap w.heap.size W g3 w' g' cap' (L ++ [y] ++ bf.num P.size ++ P.data.toList ++ bf.num d.size ++ d.data.toList)) := fun W g3 c3 z3 hW hz => bf.text_any _ _ _ _ _ d hds W hW HLP.out hz
          have HNX : Hid (L ++ [y] ++ bf.num P.size ++ P.data.toList ++ bf.num d.size ++ d.data.toList = hd n ++ pkL E (i + 1)) := HNX0.out
          clear hap2 hn2
          go_wp2_with fail
          refine wp_region_held_drew (S := fun w' => w'.cell? ⟨b, o + i * 4, none⟩ = some (.string P) ∧ w'.cell? ⟨b, o + i * 4 + 2, none⟩ = some (.string d)) (by kernel_rfl) (HS.out _ HB2.out.drew) (fun hHeld => ?_)
          refine wpAnyH_take (i := 0) (oi := ⟨some 38, .move (.tmp 3), 22, "l10_tree.go:198", #[], none⟩) (v := ?v1) rfl (by kernel_rfl) (by kernel_rfl) (by kernel_rfl) (fun _ _ _ h => h) (Or.inl ⟨by rfl, ?hy1⟩) (by assumption) ?r1
          case hy1 => (intro w hSw; (try dsimp only at hSw); go_simp; try with_reducible rfl)
          try simp only [Act.put, List.setIfInBounds_toArray, List.set_cons_zero, List.set_cons_succ]
          refine wpAnyH_take (i := 1) (oi := ⟨some 39, .move (.tmp 0), 24, "l10_tree.go:198", #[], none⟩) (v := ?v2) rfl (by kernel_rfl) (by kernel_rfl) (by kernel_rfl) (fun _ _ _ h => h) (Or.inl ⟨by rfl, ?hy2⟩) (by assumption) ?r2
          case hy2 => (intro w hSw; (try dsimp only at hSw); go_simp; try with_reducible rfl)
          try simp only [Act.put, List.setIfInBounds_toArray, List.set_cons_zero, List.set_cons_succ]
          refine wpAnyH_take (i := 2) (oi := ⟨some 40, .move (.tmp 4), 3, "l10_tree.go:198", #[], none⟩) (v := ?v3) rfl (by kernel_rfl) (by kernel_rfl) (by kernel_rfl) (fun _ _ _ h => h) (Or.inl ⟨by rfl, ?hy3⟩) (by assumption) ?r3
          case hy3 => (intro w hSw; (try dsimp only at hSw); go_simp; try with_reducible rfl)
          try simp only [Act.put, List.setIfInBounds_toArray, List.set_cons_zero, List.set_cons_succ]
          refine wpAnyH_take (i := 3) (oi := ⟨some 41, .indexAddr 24 (.tmp 39) (.tmp 40), 0, "l10_tree.go:198", #[⟨1, .data⟩, ⟨2, .data⟩], none⟩) (v := ?v4) rfl (by kernel_rfl) (by kernel_rfl) (by kernel_rfl) (fun _ _ _ h => h) (Or.inl ⟨by rfl, ?hy4⟩) (by assumption) ?r4
          case hy4 => (intro w hSw; (try dsimp only at hSw); go_simp; try with_reducible rfl)
          try simp only [Act.put, List.setIfInBounds_toArray, List.set_cons_zero, List.set_cons_succ]
          refine wpAnyH_take (i := 4) (oi := ⟨some 42, .fieldAddr 29 (.tmp 41) 0, 0, "l10_tree.go:198", #[⟨3, .data⟩], none⟩) (v := ?v5) rfl (by kernel_rfl) (by kernel_rfl) (by kernel_rfl) (fun _ _ _ h => h) (Or.inl ⟨by rfl, ?hy5⟩) (by assumption) ?r5
          case hy5 => (intro w hSw; (try dsimp only at hSw); go_simp; try with_reducible rfl)
          try simp only [Act.put, List.setIfInBounds_toArray, List.set_cons_zero, List.set_cons_succ]
          refine wpAnyH_take (i := 5) (oi := ⟨some 43, .load 9 (.tmp 42), 9, "l10_tree.go:198", #[⟨4, .data⟩], none⟩) (v := ?v6) rfl (by kernel_rfl) (by kernel_rfl) (by kernel_rfl) (fun _ _ _ h => h) (Or.inl ⟨by rfl, ?hy6⟩) (by assumption) ?r6
          case hy6 => (intro w hSw; (try dsimp only at hSw); go_simp; try with_reducible rfl)
          try simp only [Act.put, List.setIfInBounds_toArray, List.set_cons_zero, List.set_cons_succ]
          refine wpAnyH_take (i := 7) (oi := ⟨some 45, .move (.tmp 0), 24, "l10_tree.go:198", #[], none⟩) (v := ?v7) rfl (by kernel_rfl) (by kernel_rfl) (by kernel_rfl) (fun _ _ _ h => h) (Or.inl ⟨by rfl, ?hy7⟩) (by assumption) ?r7
          case hy7 => (intro w hSw; (try dsimp only at hSw); go_simp; try with_reducible rfl)
          try simp only [Act.put, List.setIfInBounds_toArray, List.set_cons_zero, List.set_cons_succ]
          refine wpAnyH_take (i := 8) (oi := ⟨some 46, .move (.tmp 4), 3, "l10_tree.go:198", #[], none⟩) (v := ?v8) rfl (by kernel_rfl) (by kernel_rfl) (by kernel_rfl) (fun _ _ _ h => h) (Or.inl ⟨by rfl, ?hy8⟩) (by assumption) ?r8
          case hy8 => (intro w hSw; (try dsimp only at hSw); go_simp; try with_reducible rfl)
          try simp only [Act.put, List.setIfInBounds_toArray, List.set_cons_zero, List.set_cons_succ]
          refine wpAnyH_take (i := 9) (oi := ⟨some 47, .indexAddr 24 (.tmp 45) (.tmp 46), 0, "l10_tree.go:198", #[⟨7, .data⟩, ⟨8, .data⟩], none⟩) (v := ?v9) rfl (by kernel_rfl) (by kernel_rfl) (by kernel_rfl) (fun _ _ _ h => h) (Or.inl ⟨by rfl, ?hy9⟩) (by assumption) ?r9
          case hy9 => (intro w hSw; (try dsimp only at hSw); go_simp; try with_reducible rfl)
          try simp only [Act.put, List.setIfInBounds_toArray, List.set_cons_zero, List.set_cons_succ]
          refine wpAnyH_take (i := 10) (oi := ⟨some 48, .fieldAddr 29 (.tmp 47) 2, 0, "l10_tree.go:198", #[⟨9, .data⟩], none⟩) (v := ?v10) rfl (by kernel_rfl) (by kernel_rfl) (by kernel_rfl) (fun _ _ _ h => h) (Or.inl ⟨by rfl, ?hy10⟩) (by assumption) ?r10
          case hy10 => (intro w hSw; (try dsimp only at hSw); go_simp; try with_reducible rfl)
          try simp only [Act.put, List.setIfInBounds_toArray, List.set_cons_zero, List.set_cons_succ]
          refine wpAnyH_take (i := 11) (oi := ⟨some 49, .load 9 (.tmp 48), 9, "l10_tree.go:198", #[⟨10, .data⟩], none⟩) (v := ?v11) rfl (by kernel_rfl) (by kernel_rfl) (by kernel_rfl) (fun _ _ _ h => h) (Or.inl ⟨by rfl, ?hy11⟩) (by assumption) ?r11
          case hy11 => (intro w hSw; (try dsimp only at hSw); go_simp; try with_reducible rfl)
          try simp only [Act.put, List.setIfInBounds_toArray, List.set_cons_zero, List.set_cons_succ]
          refine wpAnyH_ready (rs := [6]) (by kernel_rfl) (by simp) ?_
          refine AllReadyH.cons (o := ⟨some 44, .call { callee := .value (.func 75), args := #[.tmp 38, .tmp 43], argTypes := #[22, 9] }, 22, "l10_tree.go:198", #[⟨0, .data⟩, ⟨5, .data⟩], none⟩) rfl (fun K hK => ?_) AllReadyH.nil
          go_simp
          (go_at_call 75; refine (HT1.out _ (Below.refl _ _).drew).mono ?_; rintro e w3 ⟨g3, c3, z3, rfl, hz3, ha3⟩; have hb3 : Below w.heap.size w w3 := HB2.out.trans ((ha3.after (Below.refl _ _).drew).bel HG2.out HB2.out.size))
          try go_wp2_with fail
          refine hK.out _ _ (HS.out _ hb3) (fun hHeld => ?_)
          clear hK K
          try simp only [Act.put, List.setIfInBounds_toArray, List.set_cons_zero, List.set_cons_succ]
          refine wpAnyH_ready (rs := [12]) (by kernel_rfl) (by simp) ?_
          refine AllReadyH.cons (o := ⟨some 50, .call { callee := .value (.func 75), args := #[.tmp 44, .tmp 49], argTypes := #[22, 9] }, 22, "l10_tree.go:198", #[⟨6, .data⟩, ⟨11, .data⟩, ⟨6, .chain⟩], none⟩) rfl (fun K hK => ?_) AllReadyH.nil
          go_simp
          (go_at_call 75; refine (HT2.out w3 g3 c3 z3 ha3.bf hz3.out).mono ?_; rintro e w4 ⟨g4, c4, z4, rfl, hz4, ha4⟩; have hb4 : Below w.heap.size w w4 := hb3.trans (ha4.bel (ha3.bf.new) hb3.size))
          try go_wp2_with fail
          refine hK.out _ _ (HS.out _ hb4) (fun hHeld => ?_)
          clear hK K
          try simp only [Act.put, List.setIfInBounds_toArray, List.set_cons_zero, List.set_cons_succ]
          refine wpAnyH_take (i := 13) (oi := ⟨some 3, .assign (.tmp 50), 22, "l10_tree.go:198", #[⟨12, .data⟩, ⟨12, .chain⟩, ⟨0, .phase⟩, ⟨1, .phase⟩, ⟨2, .phase⟩, ⟨3, .phase⟩, ⟨4, .phase⟩, ⟨5, .phase⟩, ⟨6, .phase⟩, ⟨7, .phase⟩, ⟨8, .phase⟩, ⟨9, .phase⟩, ⟨10, .phase⟩, ⟨11, .phase⟩, ⟨12, .phase⟩], none⟩) (v := ?v12) rfl (by kernel_rfl) (by kernel_rfl) (by kernel_rfl) (fun _ _ _ h => h) (Or.inl ⟨by rfl, ?hy12⟩) (by assumption) ?r12
          case hy12 => (intro w hSw; (try dsimp only at hSw); go_simp; try with_reducible rfl)
          try simp only [Act.put, List.setIfInBounds_toArray, List.set_cons_zero, List.set_cons_succ]
          refine wpAnyH_done (by kernel_rfl) ?_ _
          have HA4 : Hid (bf.Bf w.heap.size w4 g4 c4 (hd n ++ pkL E (i + 1))) := by have := ha4.bf; rw [HNX.out] at this; exact this
          have HZ4 : Hid (z4 = (hd n ++ pkL E (i + 1)).length) := by have := hz4.out; rw [HNX.out] at this; exact this
          clear ha4 ha3 hz4 hz3
          go_wp2_with fail
          go_roundw
          case rel => exact ⟨i + 1, g4, c4, z4, by omega, rfl, by go_num, HZ4.out, HA4.out, hb4⟩
          case measure => simp [intOf] <;> omega
        | true =>
          rw [hx] at c3
          have HV : Hid (kd + 16 = (y.toNat : Int)) := HKB.out.2 hx
          clear hx
          go_wp2_with (first
            | (at_builtin; refine bf.app_bytes _ rfl _ _ 22 rfl 5 Tryz.underlying22 bf.info5 rfl HZ.out.symm ⟨wr.heap.size, 0, none⟩ 1 (m := [y]) rfl rfl (HBF.out.below ((Below.refl _ _).alloc (Nat.le_refl _) _)) (bf.one_at wr _ _ _ HV.out) HL.out ?_; intro g2 c2 w2 n2 hn2 hap2; refine Hid.out ?_)
            | go_in)
          refine Lib.hid ?_
          have HB2 : Hid (Below w.heap.size w w2) := HBE.out.trans ((hap2.after ((Below.refl _ _).alloc (Nat.le_refl _) _)).bel HBF.out.new HBE.out.size)
          have HG2 : Hid (w.heap.size ≤ g2) := hap2.bf.new
          have HT1 : Hid (∀ W, Below w2.heap.size w2 W → Calls Tryz.prog 75 #[.slice (some ⟨g2, 0, none⟩) n2 c2, .string P] W fun e w' => ∃ g' cap' z', e = .returned (.slice (some ⟨g', 0, none⟩) z' cap') ∧ Hid (z' = (L ++ [y] ++ bf.num P.size ++ P.data.toList).length) ∧ bf.Ap w.heap.size W g2 w' g' cap' (L ++ [y] ++ bf.num P.size ++ P.data.toList)) := fun W hW => bf.text_any _ _ _ _ _ P hPs W (hap2.bf.below hW) (by have := HLM.out; rw [List.length_append, List.length_singleton]; omega) (by have := hn2.out; simpa using this)
          have HT2 : Hid (∀ W g3 c3 z3, bf.Bf w.heap.size W g3 c3 (L ++ [y] ++ bf.num P.size ++ P.data.toList) → z3 = (L ++ [y] ++ bf.num P.size ++ P.data.toList).length → Calls Tryz.prog 75 #[.slice (some ⟨g3, 0, none⟩) z3 c3, .string d] W fun e w' => ∃ g' cap' z', e = .returned (.slice (some ⟨g', 0, none⟩) z' cap') ∧ Hid (z' = (L ++ [y] ++ bf.num P.size ++ P.data.toList ++ bf.num d.size ++ d.data.toList).length) ∧ bf.Ap w.heap.size W g3 w' g' cap' (L ++ [y] ++ bf.num P.size ++ P.data.toList ++ bf.num d.size ++ d.data.toList)) := fun W g3 c3 z3 hW hz => bf.text_any _ _ _ _ _ d hds W hW HLP.out hz
          have HNX : Hid (L ++ [y] ++ bf.num P.size ++ P.data.toList ++ bf.num d.size ++ d.data.toList = hd n ++ pkL E (i + 1)) := HNX0.out
          clear hap2 hn2
          go_wp2_with fail
          refine wp_region_held_drew (S := fun w' => w'.cell? ⟨b, o + i * 4, none⟩ = some (.string P) ∧ w'.cell? ⟨b, o + i * 4 + 2, none⟩ = some (.string d)) (by kernel_rfl) (HS.out _ HB2.out.drew) (fun hHeld => ?_)
          refine wpAnyH_take (i := 0) (oi := ⟨some 38, .move (.tmp 3), 22, "l10_tree.go:198", #[], none⟩) (v := ?v13) rfl (by kernel_rfl) (by kernel_rfl) (by kernel_rfl) (fun _ _ _ h => h) (Or.inl ⟨by rfl, ?hy13⟩) (by assumption) ?r13
          case hy13 => (intro w hSw; (try dsimp only at hSw); go_simp; try with_reducible rfl)
          try simp only [Act.put, List.setIfInBounds_toArray, List.set_cons_zero, List.set_cons_succ]
          refine wpAnyH_take (i := 1) (oi := ⟨some 39, .move (.tmp 0), 24, "l10_tree.go:198", #[], none⟩) (v := ?v14) rfl (by kernel_rfl) (by kernel_rfl) (by kernel_rfl) (fun _ _ _ h => h) (Or.inl ⟨by rfl, ?hy14⟩) (by assumption) ?r14
          case hy14 => (intro w hSw; (try dsimp only at hSw); go_simp; try with_reducible rfl)
          try simp only [Act.put, List.setIfInBounds_toArray, List.set_cons_zero, List.set_cons_succ]
          refine wpAnyH_take (i := 2) (oi := ⟨some 40, .move (.tmp 4), 3, "l10_tree.go:198", #[], none⟩) (v := ?v15) rfl (by kernel_rfl) (by kernel_rfl) (by kernel_rfl) (fun _ _ _ h => h) (Or.inl ⟨by rfl, ?hy15⟩) (by assumption) ?r15
          case hy15 => (intro w hSw; (try dsimp only at hSw); go_simp; try with_reducible rfl)
          try simp only [Act.put, List.setIfInBounds_toArray, List.set_cons_zero, List.set_cons_succ]
          refine wpAnyH_take (i := 3) (oi := ⟨some 41, .indexAddr 24 (.tmp 39) (.tmp 40), 0, "l10_tree.go:198", #[⟨1, .data⟩, ⟨2, .data⟩], none⟩) (v := ?v16) rfl (by kernel_rfl) (by kernel_rfl) (by kernel_rfl) (fun _ _ _ h => h) (Or.inl ⟨by rfl, ?hy16⟩) (by assumption) ?r16
          case hy16 => (intro w hSw; (try dsimp only at hSw); go_simp; try with_reducible rfl)
          try simp only [Act.put, List.setIfInBounds_toArray, List.set_cons_zero, List.set_cons_succ]
          refine wpAnyH_take (i := 4) (oi := ⟨some 42, .fieldAddr 29 (.tmp 41) 0, 0, "l10_tree.go:198", #[⟨3, .data⟩], none⟩) (v := ?v17) rfl (by kernel_rfl) (by kernel_rfl) (by kernel_rfl) (fun _ _ _ h => h) (Or.inl ⟨by rfl, ?hy17⟩) (by assumption) ?r17
          case hy17 => (intro w hSw; (try dsimp only at hSw); go_simp; try with_reducible rfl)
          try simp only [Act.put, List.setIfInBounds_toArray, List.set_cons_zero, List.set_cons_succ]
          refine wpAnyH_take (i := 5) (oi := ⟨some 43, .load 9 (.tmp 42), 9, "l10_tree.go:198", #[⟨4, .data⟩], none⟩) (v := ?v18) rfl (by kernel_rfl) (by kernel_rfl) (by kernel_rfl) (fun _ _ _ h => h) (Or.inl ⟨by rfl, ?hy18⟩) (by assumption) ?r18
          case hy18 => (intro w hSw; (try dsimp only at hSw); go_simp; try with_reducible rfl)
          try simp only [Act.put, List.setIfInBounds_toArray, List.set_cons_zero, List.set_cons_succ]
          refine wpAnyH_take (i := 7) (oi := ⟨some 45, .move (.tmp 0), 24, "l10_tree.go:198", #[], none⟩) (v := ?v19) rfl (by kernel_rfl) (by kernel_rfl) (by kernel_rfl) (fun _ _ _ h => h) (Or.inl ⟨by rfl, ?hy19⟩) (by assumption) ?r19
          case hy19 => (intro w hSw; (try dsimp only at hSw); go_simp; try with_reducible rfl)
          try simp only [Act.put, List.setIfInBounds_toArray, List.set_cons_zero, List.set_cons_succ]
          refine wpAnyH_take (i := 8) (oi := ⟨some 46, .move (.tmp 4), 3, "l10_tree.go:198", #[], none⟩) (v := ?v20) rfl (by kernel_rfl) (by kernel_rfl) (by kernel_rfl) (fun _ _ _ h => h) (Or.inl ⟨by rfl, ?hy20⟩) (by assumption) ?r20
          case hy20 => (intro w hSw; (try dsimp only at hSw); go_simp; try with_reducible rfl)
          try simp only [Act.put, List.setIfInBounds_toArray, List.set_cons_zero, List.set_cons_succ]
          refine wpAnyH_take (i := 9) (oi := ⟨some 47, .indexAddr 24 (.tmp 45) (.tmp 46), 0, "l10_tree.go:198", #[⟨7, .data⟩, ⟨8, .data⟩], none⟩) (v := ?v21) rfl (by kernel_rfl) (by kernel_rfl) (by kernel_rfl) (fun _ _ _ h => h) (Or.inl ⟨by rfl, ?hy21⟩) (by assumption) ?r21
          case hy21 => (intro w hSw; (try dsimp only at hSw); go_simp; try with_reducible rfl)
          try simp only [Act.put, List.setIfInBounds_toArray, List.set_cons_zero, List.set_cons_succ]
          refine wpAnyH_take (i := 10) (oi := ⟨some 48, .fieldAddr 29 (.tmp 47) 2, 0, "l10_tree.go:198", #[⟨9, .data⟩], none⟩) (v := ?v22) rfl (by kernel_rfl) (by kernel_rfl) (by kernel_rfl) (fun _ _ _ h => h) (Or.inl ⟨by rfl, ?hy22⟩) (by assumption) ?r22
          case hy22 => (intro w hSw; (try dsimp only at hSw); go_simp; try with_reducible rfl)
          try simp only [Act.put, List.setIfInBounds_toArray, List.set_cons_zero, List.set_cons_succ]
          refine wpAnyH_take (i := 11) (oi := ⟨some 49, .load 9 (.tmp 48), 9, "l10_tree.go:198", #[⟨10, .data⟩], none⟩) (v := ?v23) rfl (by kernel_rfl) (by kernel_rfl) (by kernel_rfl) (fun _ _ _ h => h) (Or.inl ⟨by rfl, ?hy23⟩) (by assumption) ?r23
          case hy23 => (intro w hSw; (try dsimp only at hSw); go_simp; try with_reducible rfl)
          try simp only [Act.put, List.setIfInBounds_toArray, List.set_cons_zero, List.set_cons_succ]
          refine wpAnyH_ready (rs := [6]) (by kernel_rfl) (by simp) ?_
          refine AllReadyH.cons (o := ⟨some 44, .call { callee := .value (.func 75), args := #[.tmp 38, .tmp 43], argTypes := #[22, 9] }, 22, "l10_tree.go:198", #[⟨0, .data⟩, ⟨5, .data⟩], none⟩) rfl (fun K hK => ?_) AllReadyH.nil
          go_simp
          (go_at_call 75; refine (HT1.out _ (Below.refl _ _).drew).mono ?_; rintro e w3 ⟨g3, c3, z3, rfl, hz3, ha3⟩; have hb3 : Below w.heap.size w w3 := HB2.out.trans ((ha3.after (Below.refl _ _).drew).bel HG2.out HB2.out.size))
          try go_wp2_with fail
          refine hK.out _ _ (HS.out _ hb3) (fun hHeld => ?_)
          clear hK K
          try simp only [Act.put, List.setIfInBounds_toArray, List.set_cons_zero, List.set_cons_succ]
          refine wpAnyH_ready (rs := [12]) (by kernel_rfl) (by simp) ?_
          refine AllReadyH.cons (o := ⟨some 50, .call { callee := .value (.func 75), args := #[.tmp 44, .tmp 49], argTypes := #[22, 9] }, 22, "l10_tree.go:198", #[⟨6, .data⟩, ⟨11, .data⟩, ⟨6, .chain⟩], none⟩) rfl (fun K hK => ?_) AllReadyH.nil
          go_simp
          (go_at_call 75; refine (HT2.out w3 g3 c3 z3 ha3.bf hz3.out).mono ?_; rintro e w4 ⟨g4, c4, z4, rfl, hz4, ha4⟩; have hb4 : Below w.heap.size w w4 := hb3.trans (ha4.bel (ha3.bf.new) hb3.size))
          try go_wp2_with fail
          refine hK.out _ _ (HS.out _ hb4) (fun hHeld => ?_)
          clear hK K
          try simp only [Act.put, List.setIfInBounds_toArray, List.set_cons_zero, List.set_cons_succ]
          refine wpAnyH_take (i := 13) (oi := ⟨some 3, .assign (.tmp 50), 22, "l10_tree.go:198", #[⟨12, .data⟩, ⟨12, .chain⟩, ⟨0, .phase⟩, ⟨1, .phase⟩, ⟨2, .phase⟩, ⟨3, .phase⟩, ⟨4, .phase⟩, ⟨5, .phase⟩, ⟨6, .phase⟩, ⟨7, .phase⟩, ⟨8, .phase⟩, ⟨9, .phase⟩, ⟨10, .phase⟩, ⟨11, .phase⟩, ⟨12, .phase⟩], none⟩) (v := ?v24) rfl (by kernel_rfl) (by kernel_rfl) (by kernel_rfl) (fun _ _ _ h => h) (Or.inl ⟨by rfl, ?hy24⟩) (by assumption) ?r24
          case hy24 => (intro w hSw; (try dsimp only at hSw); go_simp; try with_reducible rfl)
          try simp only [Act.put, List.setIfInBounds_toArray, List.set_cons_zero, List.set_cons_succ]
          refine wpAnyH_done (by kernel_rfl) ?_ _
          have HA4 : Hid (bf.Bf w.heap.size w4 g4 c4 (hd n ++ pkL E (i + 1))) := by have := ha4.bf; rw [HNX.out] at this; exact this
          have HZ4 : Hid (z4 = (hd n ++ pkL E (i + 1)).length) := by have := hz4.out; rw [HNX.out] at this; exact this
          clear ha4 ha3 hz4 hz3
          go_wp2_with fail
          go_roundw
          case rel => exact ⟨i + 1, g4, c4, z4, by omega, rfl, by go_num, HZ4.out, HA4.out, hb4⟩
          case measure => simp [intOf] <;> omega
      · have hil' : ¬ (i : Int) < (n : Int) := by omega
        obtain rfl : i = n := by omega
        have HZ : Hid (z = (hd i ++ pkL E i).length) := hz
        have HBF : Hid (bf.Bf w.heap.size wr g' cap' (hd i ++ pkL E i)) := hbf
        clear hbel hbf hz
        go_wp2
        go_ret
        exact ⟨⟨_, _, _, rfl, by unfold Pkd; rw [HE.out]; exact ⟨HZ.out, HBF.out⟩⟩, HBE.out⟩

end Go.Proofs.YtaoimkjcaienbaaGreatDoor.tt

namespace Go.Proofs.YtaoimkjcaienbaaGreatDoor.up
open Go.ChangeShapes Go.WideShapes Go.ChangeAt Go.RowKit Go.Deep
set_option linter.unusedVariables false
set_option linter.unusedSimpArgs false

/-! ### Bytes that are unpacked: the program's reader -/

/-- What is left of the bytes in block b, from place i on. -/
def Rs (w : World) (p b N i : Nat) : Prop := ∃ o c, w.cell? ⟨p, 0, none⟩ = some (.slice (some ⟨b, o, none⟩) (N - i) c) ∧ w.frozen? ⟨p, 0, none⟩ = false ∧ (i < N → o = i) ∧ N - i ≤ c ∧ c ≤ 9223372036854775807 ∧ i ≤ N

theorem Rs.kept {w w' : World} {p b N i : Nat} (h : Rs w p b N i) (hb : w'.heap[p]? = w.heap[p]?) : Rs w' p b N i := by
  obtain ⟨o, c, h1, h2, h3⟩ := h
  exact ⟨o, c, (World.cell?_of_block (a := ⟨p, 0, none⟩) hb).trans h1, (World.frozen?_of_block (a := ⟨p, 0, none⟩) hb).trans h2, h3⟩
theorem Rs.lt {w : World} {p b N i : Nat} (h : Rs w p b N i) : p < w.heap.size := by obtain ⟨o, c, h1, _⟩ := h; exact World.block_lt_of_cell? _ _ h1
theorem Rs.below {w w' : World} {p b N i : Nat} (h : Rs w p b N i) (hb : Below w.heap.size w w') : Rs w' p b N i := h.kept (hb.block p h.lt)

theorem grown_set {w w' : World} {b : Nat} (h : w.grownBy w' (some b)) (i : Nat) (x : Value) : w.grownBy (w'.setCell ⟨b, i, none⟩ x) (some b) :=
  ⟨h.os, h.tape, h.output, by simpa using h.size, fun k hk hne => by
    rw [← h.block k hk hne]
    simp only [World.setCell]
    rw [Array.getElem?_modify]
    split
    · next e => exact absurd (by simp [e]) hne
    · rfl⟩
theorem grown_refl (w : World) (r : Option Nat) : w.grownBy w r := ⟨rfl, rfl, rfl, Nat.le_refl _, fun _ _ _ => rfl⟩

theorem Rs.next {w : World} {p b N i o c k : Nat} (hc : w.cell? ⟨p, 0, none⟩ = some (.slice (some ⟨b, o, none⟩) (N - i) c)) (hf : w.frozen? ⟨p, 0, none⟩ = false) (ho : i < N → o = i) (hcN : N - i ≤ c) (hcm : c ≤ 9223372036854775807) (hiN : i ≤ N) (hk : k ≤ N - i) (z o' : Nat) (hz : z = N - (i + k)) (ho' : i + k < N → o' = i + k) :
    Rs (w.setCell ⟨p, 0, none⟩ (.slice (some ⟨b, o', none⟩) z (c - k))) p b N (i + k) := by
  subst hz
  exact ⟨o', c - k, World.cell?_setCell_same _ _ _ hc, by rw [← hf]; simp [go_sem], ho', by omega, by omega, by omega⟩

/-- What a cut leaves. -/
def CutR (w w' : World) (p b N i s : Nat) (e : Ending) : Prop := ∃ o k, k = min s (N - i) ∧ e = .returned (.slice (some ⟨b, o, none⟩) k k) ∧ (i < N → o = i) ∧ Rs w' p b N (i + k) ∧ w.grownBy w' (some p)
theorem cutR_mk {w w' : World} {p b N i s o k : Nat} (h1 : k = min s (N - i)) (h2 : i < N → o = i) (h3 : Rs w' p b N (i + k)) (h4 : w.grownBy w' (some p)) : CutR w w' p b N i s (.returned (.slice (some ⟨b, o, none⟩) k k)) := ⟨o, k, h1, rfl, h2, h3, h4⟩

set_option maxRecDepth 100000 in
theorem cut_any (b p N i s : Nat) (hs : s < 18446744073709551616) (w : World) (h : Rs w p b N i) (hN : N ≤ 1048576) :
    Calls Tryz.prog 29 #[.pointer (some ⟨p, 0, none⟩), .int .u64 (s : Int)] w fun e w' => CutR w w' p b N i s e := by
  obtain ⟨o, c, hc, hf, ho, hcN, hcm, hiN⟩ := h
  obtain ⟨n, hn⟩ : ∃ n, n = N - i := ⟨_, rfl⟩
  have HNN : Hid (n = N - i) := hn
  have HS : Hid (s < 18446744073709551616) := hs
  rw [← hn] at hc hcN
  have HC : Hid (w.cell? ⟨p, 0, none⟩ = some (.slice (some ⟨b, o, none⟩) (N - i) c)) := by rw [← hn]; exact hc
  have hnm : n ≤ 1048576 := by omega
  obtain ⟨k, hk⟩ : ∃ k, k = min s n := ⟨_, rfl⟩
  have hmn : min (s : Int) (n : Int) = (k : Int) := by omega
  have hkn : k ≤ n := by omega
  have HKK : Hid (k = min s (N - i)) := by show _ = _; rw [hk, HNN.out]
  have HZ : Hid (n - k = N - (i + k)) := by show _ = _; have := HNN.out; omega
  have HO : Hid (i < N → o = i) := ho
  have HNI : Hid (k ≤ N - i) := by show _ ≤ _; have := HNN.out; omega
  clear hs hn hk ho
  go_enter Tryz.func29, Tryz.ntmps29
  go_wp2_with fail
  · go_ret
    have h := Rs.next HC.out hf HO.out (by have := HNN.out; omega) hcm hiN HNI.out (n - k) o HZ.out (fun h => by have := HNN.out; omega)
    rw [show c - k = 0 by omega] at h
    exact cutR_mk HKK.out HO.out h (grown_set (grown_refl _ _) _ _)
  · go_ret
    exact cutR_mk HKK.out HO.out (Rs.next HC.out hf HO.out (by have := HNN.out; omega) hcm hiN HNI.out (n - k) (o + k) HZ.out (fun h => by rw [HO.out (by omega)])) (grown_set (grown_refl _ _) _ _)

end Go.Proofs.YtaoimkjcaienbaaGreatDoor.up

namespace Go.Proofs.YtaoimkjcaienbaaGreatDoor.up
open Go.ChangeShapes Go.WideShapes Go.ChangeAt Go.RowKit Go.Deep
set_option linter.unusedVariables false
set_option linter.unusedSimpArgs false

/-! ### Bytes that are unpacked: the program's numbers -/

/-- The bytes of a block. -/
def By (w : World) (b : Nat) (l : List UInt8) : Prop := ∀ j (h : j < l.length), w.cell? ⟨b, j, none⟩ = some (.int .u8 (l[j].toNat : Int))
theorem By.grown {w w' : World} {b p : Nat} {l : List UInt8} (h : By w b l) (hg : w.grownBy w' (some p)) (hb : b ≠ p) : By w' b l := fun j hj => by
  have hlt := World.block_lt_of_cell? _ _ (h j hj)
  exact (World.cell?_of_block (a := ⟨b, j, none⟩) (hg.block b hlt (fun e => hb (Option.some.inj e)))).trans (h j hj)
theorem By.below {w w' : World} {b : Nat} {l : List UInt8} (h : By w b l) (hb : Below w.heap.size w w') : By w' b l := fun j hj => (hb.cell (p := ⟨b, j, none⟩) (World.block_lt_of_cell? _ _ (h j hj))).trans (h j hj)

theorem num_ne (x : Nat) : bf.num x ≠ [] := by
  by_cases h : x < 128
  · rw [bf.num_low h]; simp
  · rw [bf.num_high h]; simp

/-- How long what is left is. -/
def leftN (p : Nat) (w : World) : Nat := match w.cell? ⟨p, 0, none⟩ with
  | some (.slice _ n _) => n
  | _ => 0
theorem leftN_of {w : World} {p b N i : Nat} (h : Rs w p b N i) : leftN p w = N - i := by
  obtain ⟨o, c, h1, _⟩ := h
  unfold leftN
  rw [h1]

/-- One group more. -/
def nx (a sh v : Nat) : Nat := (bits BinOp.or IntKind.u64 (a : Int) (IntKind.u64.wrap ((v : Int) % 128 * 2 ^ min sh 64))).toNat
theorem nx_wf (a sh v : Nat) : bits BinOp.or IntKind.u64 (a : Int) (IntKind.u64.wrap ((v : Int) % 128 * 2 ^ min sh 64)) = (nx a sh v : Int) ∧ nx a sh v < 18446744073709551616 := by
  have h := wf_bits BinOp.or .u64 (a : Int) (IntKind.u64.wrap ((v : Int) % 128 * 2 ^ min sh 64))
  have h' : 0 ≤ bits BinOp.or IntKind.u64 (a : Int) (IntKind.u64.wrap ((v : Int) % 128 * 2 ^ min sh 64)) ∧ bits BinOp.or IntKind.u64 (a : Int) (IntKind.u64.wrap ((v : Int) % 128 * 2 ^ min sh 64)) ≤ 18446744073709551615 := by
    simpa [Lit.wf, IntKind.min, IntKind.max, IntKind.signed, IntKind.bits] using h
  unfold nx
  omega
theorem nx_eq {a sh v : Nat} (ha : a < 2 ^ sh) (hb : a + v % 128 * 2 ^ sh ≤ 1048576) : nx a sh v = a + v % 128 * 2 ^ sh := by
  have hc : IntKind.u64.wrap ((v : Int) % 128 * 2 ^ min sh 64) = ((v % 128 * 2 ^ sh : Nat) : Int) := by
    by_cases h0 : v % 128 = 0
    · rw [show (v : Int) % 128 = 0 by omega, h0, Int.zero_mul, Nat.zero_mul]; rfl
    · have h1 : 1 ≤ v % 128 := by omega
      have h2 : 2 ^ sh ≤ v % 128 * 2 ^ sh := Nat.le_mul_of_pos_left _ h1
      have h3 : sh < 64 := by
        apply Classical.byContradiction
        intro h
        have : 2 ^ 64 ≤ 2 ^ sh := Nat.pow_le_pow_right (by omega) (by omega)
        have e64 : (2 : Nat) ^ 64 = 18446744073709551616 := rfl
        omega
      rw [Nat.min_eq_left (by omega)]
      have e : (v : Int) % 128 * 2 ^ sh = ((v % 128 * 2 ^ sh : Nat) : Int) := by
        rw [Int.natCast_mul, Int.natCast_pow]; rfl
      rw [e, IntKind.wrap_u64]
      omega
  have h := (nx_wf a sh v).1
  rw [hc, bits_or_u64_nat a (v % 128 * 2 ^ sh) (by omega) (by omega)] at h
  have ho := Nat.two_pow_add_eq_or_of_lt (i := sh) ha (v % 128)
  rw [Nat.mul_comm (2 ^ sh)] at ho
  rw [Nat.or_comm, ← ho] at h
  omega

/-- What a number leaves. -/
def NumR (w w' : World) (p b : Nat) (l : List UInt8) (i : Nat) (e : Ending) : Prop := ∃ (m i' : Nat), e = .returned (.int .u64 (m : Int)) ∧ m < 18446744073709551616 ∧ i ≤ i' ∧ Rs w' p b l.length i' ∧ w.grownBy w' (some p) ∧ ∀ x tail, l.drop i = bf.num x ++ tail → x ≤ 1048576 → m = x ∧ l.drop i' = tail

/-- Where its loop stands. -/
structure NumI (w wr : World) (p b : Nat) (l : List UInt8) (i : Nat) (a sh i' : Nat) : Prop where
  ab : a < 18446744073709551616
  le : i ≤ i'
  shl : sh ≤ 7 * (i' - i)
  rs : Rs wr p b l.length i'
  gr : w.grownBy wr (some p)
  pr : ∀ x tail, l.drop i = bf.num x ++ tail → x ≤ 1048576 → ∃ y, l.drop i' = bf.num y ++ tail ∧ x = a + y * 2 ^ sh ∧ a < 2 ^ sh

set_option maxRecDepth 100000 in
set_option maxHeartbeats 4000000 in
theorem number_any (b p i : Nat) (l : List UInt8) (hbp : b ≠ p) (hN : l.length ≤ 1048576) (w : World) (h : Rs w p b l.length i) (hB : By w b l) :
    Calls Tryz.prog 30 #[.pointer (some ⟨p, 0, none⟩)] w fun e w' => NumR w w' p b l i e := by
  have HBY : Hid (∀ W, w.grownBy W (some p) → By W b l) := fun W hW => hB.grown hW hbp
  have HCU : Hid (∀ W j, Rs W p b l.length j → Calls Tryz.prog 29 #[.pointer (some ⟨p, 0, none⟩), .int .u64 1] W fun e w' => CutR W w' p b l.length j 1 e) := fun W j hW => cut_any b p l.length j 1 (by omega) W hW hN
  have HI0 : Hid (NumI w w p b l i 0 0 i) := ⟨by omega, Nat.le_refl _, by omega, h, grown_refl _ _, fun x tail hx _ => ⟨x, hx, by simp, by simp⟩⟩
  clear h hB
  go_enter Tryz.func30, Tryz.ntmps30
  go_wp2
  go_loopw [3, 4, 5] (fun v s _ wr => ∃ (a sh i' : Nat), v = .int .u64 (a : Int) ∧ s = .int .i64 (sh : Int) ∧ NumI w wr p b l i a sh i') (fun _ _ _ wr => leftN p wr)
  case atStart => exact ⟨0, 0, i, rfl, rfl, HI0.out⟩
  case round =>
    obtain ⟨a, sh, i', rfl, rfl, hI⟩ := hrel
    have HII : Hid (NumI w wr p b l i a sh i') := hI
    have hRs := hI.rs
    obtain ⟨o, c, hc, hf, ho, hcN, hcm, hiN⟩ := hRs
    have hsh : sh ≤ 7340032 := by have := hI.shl; omega
    clear hI
    by_cases hil : i' < l.length
    · obtain ⟨n, hn⟩ : ∃ n, l.length - i' = n + 1 := ⟨l.length - i' - 1, by omega⟩
      rw [hn] at hc
      have hpos : (0 : Int) < ((n + 1 : Nat) : Int) := by omega
      obtain ⟨y, hy⟩ : ∃ y, y = l[i'] := ⟨_, rfl⟩
      have HYC : Hid (∀ W, w.grownBy W (some p) → W.cell? ⟨b, i', none⟩ = some (.int .u8 (y.toNat : Int))) := fun W hW => by rw [hy]; exact HBY.out W hW i' hil
      have HDR : Hid (l.drop i' = y :: l.drop (i' + 1)) := by show _ = _; rw [hy]; exact List.drop_eq_getElem_cons hil
      have hyb : (y.toNat : Int) < 256 := by have := y.toNat_lt; omega
      have HMN : Hid (min 1 (l.length - i') = 1) := by show _ = _; omega
      clear hn hy
      go_wp2_with (go_at_call 29; refine (HCU.out _ _ HII.out.rs).mono ?_; rintro e w1 ⟨o1, k1, hk1, rfl, ho1, hr1, hg1⟩; obtain rfl : k1 = 1 := hk1.trans HMN.out; obtain rfl := ho1 hil; clear hk1; have hcell := HYC.out w1 (HII.out.gr.trans hg1); refine Hid.out ?_)
      refine Lib.hid ?_
      by_cases hlow : y.toNat < 128
      · have hlow' : (y.toNat : Int) < 128 := by omega
        have HR : Hid (NumR w w1 p b l i (.returned (.int .u64 (nx a sh y.toNat : Int)))) := by
          refine ⟨_, o1 + 1, rfl, (nx_wf a sh y.toNat).2, by have := HII.out.le; omega, hr1, HII.out.gr.trans hg1, fun x tail hx hxb => ?_⟩
          obtain ⟨z, hz, hxe, hal⟩ := HII.out.pr x tail hx hxb
          rw [HDR.out] at hz
          by_cases hz1 : z < 128
          · rw [bf.num_low hz1, List.singleton_append, List.cons.injEq] at hz
            have hyz : y.toNat = z := by rw [hz.1, UInt8.toNat_ofNat']; omega
            refine ⟨?_, hz.2⟩
            rw [nx_eq hal (by rw [hyz, Nat.mod_eq_of_lt hz1]; omega), hyz, Nat.mod_eq_of_lt hz1, hxe]
          · rw [bf.num_high hz1, List.cons_append, List.cons.injEq] at hz
            have hyz : y.toNat = z % 128 + 128 := by rw [hz.1, UInt8.toNat_ofNat']; omega
            omega
        have hnx := (nx_wf a sh y.toNat).1
        clear hr1 hg1
        go_wp2
        go_ret
        exact HR.out
      · have hlow' : ¬ (y.toNat : Int) < 128 := by omega
        have HR : Hid (NumI w w1 p b l i (nx a sh y.toNat) (sh + 7) (o1 + 1)) := by
          refine ⟨(nx_wf a sh y.toNat).2, by have := HII.out.le; omega, by have h1 := HII.out.le; have h2 := HII.out.shl; omega, hr1, HII.out.gr.trans hg1, fun x tail hx hxb => ?_⟩
          obtain ⟨z, hz, hxe, hal⟩ := HII.out.pr x tail hx hxb
          rw [HDR.out] at hz
          by_cases hz1 : z < 128
          · rw [bf.num_low hz1, List.singleton_append, List.cons.injEq] at hz
            have hyz : y.toNat = z := by rw [hz.1, UInt8.toNat_ofNat']; omega
            omega
          · rw [bf.num_high hz1, List.cons_append, List.cons.injEq] at hz
            have hyz : y.toNat = z % 128 + 128 := by rw [hz.1, UInt8.toNat_ofNat']; omega
            have hm : y.toNat % 128 = z % 128 := by omega
            have hsplit : z * 2 ^ sh = z % 128 * 2 ^ sh + z / 128 * (128 * 2 ^ sh) := by
              rw [← Nat.mul_assoc, ← Nat.add_mul]
              congr 1
              omega
            have hpow : 2 ^ (sh + 7) = 128 * 2 ^ sh := by rw [Nat.pow_add]; omega
            have hb1 : a + y.toNat % 128 * 2 ^ sh ≤ 1048576 := by rw [hm]; omega
            refine ⟨z / 128, hz.2, ?_, ?_⟩
            · rw [nx_eq hal hb1, hm, hpow]; omega
            · rw [nx_eq hal hb1, hm, hpow]
              have : z % 128 * 2 ^ sh ≤ 127 * 2 ^ sh := Nat.mul_le_mul_right _ (by omega)
              omega
        have HLT : Hid (leftN p w1 < leftN p wr) := by
          show _ < _
          rw [leftN_of hr1, leftN_of HII.out.rs]
          omega
        have hnx := (nx_wf a sh y.toNat).1
        clear hr1 hg1
        go_wp2
        exact ⟨⟨_, sh + 7, o1 + 1, rfl, by go_num, HR.out⟩, HLT.out⟩
    · have hn0 : l.length - i' = 0 := by omega
      rw [hn0] at hc
      have HR : Hid (NumR w wr p b l i (.returned (.int .u64 (a : Int)))) := by
        refine ⟨a, i', rfl, HII.out.ab, HII.out.le, HII.out.rs, HII.out.gr, fun x tail hx hxb => ?_⟩
        obtain ⟨z, hz, _, _⟩ := HII.out.pr x tail hx hxb
        rw [List.drop_eq_nil_of_le (by omega)] at hz
        exact absurd (List.append_eq_nil_iff.1 hz.symm).1 (num_ne z)
      clear hn0
      go_wp2
      go_ret
      exact HR.out

end Go.Proofs.YtaoimkjcaienbaaGreatDoor.up
