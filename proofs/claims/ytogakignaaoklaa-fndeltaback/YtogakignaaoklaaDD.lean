import Derived.Test.YtogakignaaoklaaDA
import Derived.Test.YtogakignaaoklaaBN
import Derived.Deep.RegionHeld3
import Derived.Lib.SlBytesConst
namespace Go.Proofs.Ytogakignaaoklaa.dl
open Go.ChangeShapes Go.WideShapes Go.ChangeAt Go.RowKit Go.Deep
open bf (Bf Ap num)
set_option linter.unusedVariables false
set_option linter.unusedSimpArgs false

/-! ### The bytes of a delta: the model; impl.DeltaBytes -/

def ldt : List UInt8 := [76, 68, 84, 49]
def enc (x : Sp) : List UInt8 := if x.k = 1 then [1] ++ num x.p.toNat ++ num x.n.toNat else [2] ++ num x.d.length ++ x.d
def encL (ss : List Sp) (k : Nat) : List UInt8 := ((ss.take k).map enc).flatten
theorem encL_succ {ss : List Sp} {k : Nat} {x : Sp} (h : ss[k]? = some x) : encL ss (k + 1) = encL ss k ++ enc x := by
  unfold encL
  rw [List.take_add_one, h]
  simp
theorem encL_zero (ss : List Sp) : encL ss 0 = [] := rfl
def good (ss : List Sp) : Bool := okL ss && ss.all lowS
def dbB (ss : List Sp) : List UInt8 := if good ss = true then ldt ++ encL ss ss.length else []
theorem dbB_yes {ss : List Sp} (h : good ss = true) : dbB ss = ldt ++ encL ss ss.length := by unfold dbB; rw [if_pos h]
theorem dbB_no {ss : List Sp} (h : good ss = false) : dbB ss = [] := by unfold dbB; rw [if_neg (by rw [h]; simp)]
theorem good_iff {ss : List Sp} : good ss = true ↔ ss.length ≤ 10000 ∧ (∀ x ∈ ss, okS x = true ∧ lowS x = true) := by
  unfold good okL
  rw [Bool.and_eq_true, Bool.and_eq_true, decide_eq_true_iff, allOk_iff, List.all_eq_true]
  constructor
  · rintro ⟨⟨h1, h2⟩, h3⟩
    exact ⟨h1, fun x hx => ⟨h2 x hx, h3 x hx⟩⟩
  · rintro ⟨h1, h2⟩
    exact ⟨⟨h1, fun x hx => (h2 x hx).1⟩, fun x hx => (h2 x hx).2⟩
theorem num_small {n : Nat} (h : n ≤ 268435455) : (num n).length ≤ 22 := bf.num_len 21 n (by rw [show 128 * 2 ^ 21 = 268435456 from rfl]; omega)
theorem enc_len {x : Sp} (ho : okS x = true) (hl : lowS x = true) (hd : x.d.length ≤ 1048576) : (enc x).length ≤ 45 + x.d.length := by
  unfold lowS low3 at hl
  rw [decide_eq_true_iff] at hl
  unfold enc
  split
  · have h1 := num_small (n := x.p.toNat) (by omega)
    have h2 := num_small (n := x.n.toNat) (by omega)
    simp only [List.length_append, List.length_singleton]
    omega
  · have h1 := num_small (n := x.d.length) (by omega)
    simp only [List.length_append, List.length_singleton]
    omega
theorem encL_len {ss : List Sp} (h : ∀ x ∈ ss, okS x = true ∧ lowS x = true) (hd : ∀ x ∈ ss, x.d.length ≤ 1048576) : ∀ k, (encL ss k).length ≤ k * 1048621
  | 0 => by rw [encL_zero]; exact Nat.zero_le _
  | k + 1 => by
    have ih := encL_len h hd k
    cases hx : ss[k]? with
    | none =>
      have : encL ss (k + 1) = encL ss k := by unfold encL; rw [List.take_add_one, hx]; simp
      rw [this]
      exact Nat.le_trans ih (Nat.mul_le_mul_right _ (Nat.le_succ k))
    | some x =>
      have hm := List.mem_of_getElem? hx
      have := enc_len (h x hm).1 (h x hm).2 (hd x hm)
      have := hd x hm
      rw [encL_succ hx, List.length_append]
      omega
theorem dbB_len {ss : List Sp} (hd : ∀ x ∈ ss, x.d.length ≤ 1048576) : (dbB ss).length ≤ 20000000000 := by
  cases h : good ss with
  | false => rw [dbB_no h]; simp
  | true =>
    obtain ⟨h1, h2⟩ := good_iff.1 h
    have := encL_len h2 hd ss.length
    rw [dbB_yes h, List.length_append, show ldt.length = 4 from rfl]
    omega

/-- An append of bytes at a step of a region that draws its order. -/
theorem step_bytes {P : Program} {W : World} {ops : Array Oper} {o : Oper} {a : Act} {K : Act → World → Prop} {Q : Exit → Act → World → Prop} {Ex : Prop} (hgd : o.guard = none) (s x : Operand) (t : TypeId)
    (ho : o.op = .call { callee := .builtin .append, args := #[s, x], argTypes := #[t, t] }) (e : TypeId) (ht : P.underlying t = some (.slice e)) (hinfo : (P.info? e).map (fun i => (i.zero, i.size, i.bytes)) = some (some (.int .u8 0), 1, 1))
    {base g cap n : Nat} {l : List UInt8} (hs : a.eval s = .slice (some ⟨g, 0, none⟩) n cap) (hn : l.length = n) (ad : Addr) (c : Nat) {m : List UInt8} {nm : Nat} (hx : a.eval x = .slice (some ad) nm c) (hnm : m.length = nm)
    (hbf : Bf base W g cap l) (hm : ∀ j u, (bf.byteVals m)[j]? = some u → W.cell? (ad.add j) = some u) (hz : l.length + m.length ≤ 1099511627776)
    (h : ∀ g' cap' w' n', Hid (n' = (l ++ m).length) → Ap base W g w' g' cap' (l ++ m) → K (a.put o.dst (.slice (some ⟨g', 0, none⟩) n' cap')) w') :
    if Region.wanted o (yielded ops a.tmps) = true then Oper.wp P o a W K Q else Ex := by
  have hw : Region.wanted o (yielded ops a.tmps) = true := by simp [Region.wanted, hgd]
  rw [if_pos hw]
  subst hn hnm
  obtain ⟨g', cap', w', hrun, hap⟩ := bf.run_bytes hbf (by have := hbf.lt; have := hbf.new; omega) t e ht hinfo ad c hm hz
  unfold Oper.wp
  simp [execOp, ho, resolve, invoke, builtin, hs, hx, hrun, Result.andThen]
  exact h g' cap' w' (l.length + m.length) (by show _ = _; rw [List.length_append]) hap

theorem box_kept {base : Nat} {W W' : World} {g g' c' : Nat} {l' : List UInt8} (h : Ap base W g W' g' c' l') {k : Nat} (hk : k < W.heap.size) (hg : k ≠ g) : ∀ j, W'.cell? ⟨k, j, none⟩ = W.cell? ⟨k, j, none⟩ :=
  fun j => World.cell?_of_block (a := ⟨k, j, none⟩) (h.grown.block k hk (fun e => hg (Option.some.inj e)))

/-- What a row that has grown left as it was. -/
def Away (W : World) (g : Nat) (W' : World) : Prop := W.heap.size ≤ W'.heap.size ∧ ∀ k, k < W.heap.size → k ≠ g → W'.heap[k]? = W.heap[k]?
theorem Away.of {base : Nat} {W W' : World} {g g' c' : Nat} {l' : List UInt8} (h : Ap base W g W' g' c' l') : Away W g W' := ⟨h.grown.size, fun k hk hg => h.grown.block k hk (fun e => hg (Option.some.inj e))⟩
theorem Away.refl (W : World) (g : Nat) : Away W g W := ⟨Nat.le_refl _, fun _ _ _ => rfl⟩
theorem Away.drew {W W' : World} {g : Nat} (h : Away W g W') : Away W g W'.drew := h
theorem Away.cell {W W' : World} {g : Nat} (h : Away W g W') {k : Nat} (hk : k < W.heap.size) (hg : k ≠ g) (j : Nat) : W'.cell? ⟨k, j, none⟩ = W.cell? ⟨k, j, none⟩ := World.cell?_of_block (a := ⟨k, j, none⟩) (h.2 k hk hg)

set_option maxHeartbeats 4000000 in
set_option maxRecDepth 100000 in
theorem iapp_any (base g cap z : Nat) (L : List UInt8) (x : Sp) (a : Option Addr) (c : Nat) (w : World) (hbf : Bf base w g cap L) (hL : L.length ≤ 1099000000000) (hz : z = L.length) (hok : okS x = true) (hlow : lowS x = true) (hd : SrcD w a x.d) (hdl : x.d.length ≤ 1048576) (hag : ∀ b o, a = some ⟨b, o, none⟩ → x.d.length ≠ 0 → b ≠ g) :
    Calls Try.prog 31 #[.agg #[.int .i64 x.k, .int .i64 x.p, .int .i64 x.n, .slice a x.d.length c], .slice (some ⟨g, 0, none⟩) z cap] w fun e w' => ∃ g' cap' z', e = .returned (.slice (some ⟨g', 0, none⟩) z' cap') ∧ Hid (z' = (L ++ enc x).length) ∧ Ap base w g w' g' cap' (L ++ enc x) := by
  have hkd := ok3_kind hok
  have HBF : Hid (Bf base w g cap L) := hbf
  have HG : Hid (g < w.heap.size) := hbf.lt
  have HZ : Hid (z = L.length) := hz
  have HL : Hid (L.length + 1 ≤ 1099511627776) := by show _ ≤ _; omega
  have HK1 : Hid (∀ o : Obj, w.heap.size + 1 = (w.alloc o).heap.size) := fun o => (World.size_alloc _ _).symm
  have HK0 : Hid (∀ o : Obj, w.heap.size ≤ (w.alloc o).heap.size) := fun o => by rw [World.size_alloc]; omega
  rw [lowS, low3, decide_eq_true_iff] at hlow
  rcases hkd with hk | hk
  · obtain ⟨hp, hn, hm⟩ := ok3_one.1 (by have := hok; unfold okS at this; rwa [hk] at this)
    obtain ⟨pn, hpn⟩ : ∃ q : Nat, x.p = (q : Int) := ⟨x.p.toNat, by omega⟩
    obtain ⟨nn, hnn⟩ : ∃ q : Nat, x.n = (q : Int) := ⟨x.n.toNat, by omega⟩
    have HE : Hid (enc x = [1] ++ num pn ++ num nn) := by show _ = _; unfold enc; rw [if_pos hk, hpn, hnn]; rfl
    have hpb : pn ≤ 268435455 := by omega
    have hnb : nn ≤ 268435455 := by omega
    rw [hk, hpn, hnn, hm]
    have HLM : Hid ((L ++ [1] ++ num pn).length ≤ 1099511627000) := by
      show _ ≤ _
      have := num_small hpb
      simp only [List.length_append, List.length_singleton]
      omega
    have HL1 : Hid ((L ++ [(1 : UInt8)]).length ≤ 1099511627000) := by show _ ≤ _; simp only [List.length_append, List.length_singleton]; omega
    clear hok hlow hd hdl hag hk hpn hnn hm hp hn hbf hL hz
    have HV : Hid ((1 : Int) = ((1 : UInt8).toNat : Int)) := rfl
    go_enter Try.func31, Try.ntmps31
    obtain ⟨we, hwe⟩ : ∃ we, w.alloc (.cells #[.int .i64 1, .int .i64 (pn : Int), .int .i64 (nn : Int), .slice a 0 c] 41) = we := ⟨_, rfl⟩
    have HWE : Hid (w.alloc (.cells #[.int .i64 1, .int .i64 (pn : Int), .int .i64 (nn : Int), .slice a 0 c] 41) = we) := hwe
    clear hwe
    go_wp2_with (first
      | (at_builtin; refine bf.app_bytes _ rfl _ _ 22 rfl 5 Try.underlying22 bf.info5 rfl HZ.out.symm ⟨w.heap.size + 1, 0, none⟩ 1 (m := [1]) rfl rfl (HBF.out.below (((Below.refl _ _).alloc (Nat.le_refl _) _).alloc (HK0.out _) _)) (bf.one_at' _ _ (HK1.out _) _ _ _ HV.out) HL.out ?_; intro g2 c2 w2 n2 hn2 hap2; refine Hid.out ?_)
      | go_in)
    refine Lib.hid ?_
    have b2 : Below w.heap.size w ((w.alloc (.cells #[.int .i64 1, .int .i64 (pn : Int), .int .i64 (nn : Int), .slice a 0 c] 41)).alloc (.cells #[.int .u8 1] 5)) := ((Below.refl _ _).alloc (Nat.le_refl _) _).alloc (by rw [World.size_alloc]; omega) _
    have hA2 := hap2.after b2
    have HA2 : Hid (Ap base w g w2 g2 c2 (L ++ [1])) := hA2
    have hs2 : w.heap.size < w2.heap.size := by have h1 := hap2.grown.size; simp only [World.size_alloc] at h1; omega
    have hg2 : w.heap.size ≠ g2 := by have h1 := hap2.here; have := HG.out; simp only [World.size_alloc] at h1; omega
    have q0 : ∀ j, w2.cell? ⟨w.heap.size, j, none⟩ = (w.alloc (.cells #[.int .i64 1, .int .i64 (pn : Int), .int .i64 (nn : Int), .slice a 0 c] 41)).cell? ⟨w.heap.size, j, none⟩ := fun j => (box_kept hap2 (k := w.heap.size) (by simp only [World.size_alloc]; omega) (by have := HG.out; omega) j).trans (((Below.refl _ _).alloc (Nat.le_refl _) _).cell (p := ⟨w.heap.size, j, none⟩) (by rw [World.size_alloc]; show w.heap.size < _; omega))
    have p0 : w2.cell? ⟨w.heap.size, 0, none⟩ = some (.int .i64 1) := (q0 0).trans (by simp [go_sem])
    have p1 : w2.cell? ⟨w.heap.size, 1, none⟩ = some (.int .i64 (pn : Int)) := (q0 1).trans (by simp [go_sem])
    have p2 : w2.cell? ⟨w.heap.size, 2, none⟩ = some (.int .i64 (nn : Int)) := (q0 2).trans (by simp [go_sem])
    have HS : Hid (∀ W, Away w2 g2 W → W.cell? ⟨w.heap.size, 1, none⟩ = some (.int .i64 (pn : Int)) ∧ W.cell? ⟨w.heap.size, 2, none⟩ = some (.int .i64 (nn : Int))) := fun W hW => ⟨(hW.cell hs2 hg2 1).trans p1, (hW.cell hs2 hg2 2).trans p2⟩
    have HAR : Hid (Away w2 g2 w2) := Away.refl _ _
    have HK : Hid (∀ W g' c' (l' : List UInt8), Ap base w2 g2 W g' c' l' → Away w2 g2 W) := fun W g' c' l' h => Away.of h
    have HT1 : Hid (∀ W, Below w2.heap.size w2 W → Calls Try.prog 44 #[.slice (some ⟨g2, 0, none⟩) n2 c2, .int .i64 (pn : Int)] W fun e w' => ∃ g' cap' z', e = .returned (.slice (some ⟨g', 0, none⟩) z' cap') ∧ Hid (z' = (L ++ [1] ++ num pn).length) ∧ Ap base W g2 w' g' cap' (L ++ [1] ++ num pn)) := fun W hW => bf.numb_any _ _ _ _ _ pn hpb W (hap2.bf.below hW) HL1.out (by have := hn2.out; exact this)
    have HT2 : Hid (∀ W g3 c3 z3, Bf base W g3 c3 (L ++ [1] ++ num pn) → z3 = (L ++ [1] ++ num pn).length → Calls Try.prog 44 #[.slice (some ⟨g3, 0, none⟩) z3 c3, .int .i64 (nn : Int)] W fun e w' => ∃ g' cap' z', e = .returned (.slice (some ⟨g', 0, none⟩) z' cap') ∧ Hid (z' = (L ++ [1] ++ num pn ++ num nn).length) ∧ Ap base W g3 w' g' cap' (L ++ [1] ++ num pn ++ num nn)) := fun W g3 c3 z3 hW hz => bf.numb_any _ _ _ _ _ nn hnb W hW HLM.out hz
    clear hap2 hn2 q0 hA2 b2 p1 p2
    go_wp2_with fail
    refine wp_region_held_drew (S := fun w' => w'.cell? ⟨w.heap.size, 1, none⟩ = some (.int .i64 (pn : Int)) ∧ w'.cell? ⟨w.heap.size, 2, none⟩ = some (.int .i64 (nn : Int))) (by kernel_rfl) (HS.out _ HAR.out.drew) (fun hHeld => ?_)
    refine wpAnyH_take (i := 0) (oi := ⟨some 14, .move (.tmp 1), 22, "l14_delta.go:165", #[], none⟩) (v := ?v1) rfl (by kernel_rfl) (by kernel_rfl) (by kernel_rfl) (fun _ _ _ h => h) (Or.inl ⟨by rfl, ?hy1⟩) (by assumption) ?r1
    case hy1 => (intro w hSw; (try dsimp only at hSw); go_simp; try with_reducible rfl)
    try simp only [Act.put, List.setIfInBounds_toArray, List.set_cons_zero, List.set_cons_succ]
    refine wpAnyH_take (i := 1) (oi := ⟨some 15, .fieldAddr 41 (.tmp 2) 1, 0, "l14_delta.go:165", #[], none⟩) (v := ?v2) rfl (by kernel_rfl) (by kernel_rfl) (by kernel_rfl) (fun _ _ _ h => h) (Or.inl ⟨by rfl, ?hy2⟩) (by assumption) ?r2
    case hy2 => (intro w hSw; (try dsimp only at hSw); go_simp; try with_reducible rfl)
    try simp only [Act.put, List.setIfInBounds_toArray, List.set_cons_zero, List.set_cons_succ]
    refine wpAnyH_take (i := 2) (oi := ⟨some 16, .load 2 (.tmp 15), 2, "l14_delta.go:165", #[⟨1, .data⟩], none⟩) (v := ?v3) rfl (by kernel_rfl) (by kernel_rfl) (by kernel_rfl) (fun _ _ _ h => h) (Or.inl ⟨by rfl, ?hy3⟩) (by assumption) ?r3
    case hy3 => (intro w hSw; (try dsimp only at hSw); go_simp; try with_reducible rfl)
    try simp only [Act.put, List.setIfInBounds_toArray, List.set_cons_zero, List.set_cons_succ]
    refine wpAnyH_take (i := 4) (oi := ⟨some 18, .fieldAddr 41 (.tmp 2) 2, 0, "l14_delta.go:165", #[], none⟩) (v := ?v4) rfl (by kernel_rfl) (by kernel_rfl) (by kernel_rfl) (fun _ _ _ h => h) (Or.inl ⟨by rfl, ?hy4⟩) (by assumption) ?r4
    case hy4 => (intro w hSw; (try dsimp only at hSw); go_simp; try with_reducible rfl)
    try simp only [Act.put, List.setIfInBounds_toArray, List.set_cons_zero, List.set_cons_succ]
    refine wpAnyH_take (i := 5) (oi := ⟨some 19, .load 2 (.tmp 18), 2, "l14_delta.go:165", #[⟨4, .data⟩], none⟩) (v := ?v5) rfl (by kernel_rfl) (by kernel_rfl) (by kernel_rfl) (fun _ _ _ h => h) (Or.inl ⟨by rfl, ?hy5⟩) (by assumption) ?r5
    case hy5 => (intro w hSw; (try dsimp only at hSw); go_simp; try with_reducible rfl)
    try simp only [Act.put, List.setIfInBounds_toArray, List.set_cons_zero, List.set_cons_succ]
    refine wpAnyH_ready (rs := [3]) (by kernel_rfl) (by simp) ?_
    refine AllReadyH.cons (o := ⟨some 17, .call { callee := .value (.func 44), args := #[.tmp 14, .tmp 16], argTypes := #[22, 3] }, 22, "l14_delta.go:165", #[⟨0, .data⟩, ⟨2, .data⟩], none⟩) rfl (fun K hK => ?_) AllReadyH.nil
    go_simp
    (go_at_call 44; refine (HT1.out _ (Below.refl _ _).drew).mono ?_; rintro e w3 ⟨g3, c3, z3, rfl, hz3, ha3⟩; have ha3' := ha3.after (Below.refl w2.heap.size w2).drew)
    try go_wp2_with fail
    refine hK.out _ _ (HS.out _ (HK.out _ _ _ _ ha3')) (fun hHeld => ?_)
    clear hK K
    try simp only [Act.put, List.setIfInBounds_toArray, List.set_cons_zero, List.set_cons_succ]
    refine wpAnyH_ready (rs := [6]) (by kernel_rfl) (by simp) ?_
    refine AllReadyH.cons (o := ⟨some 20, .call { callee := .value (.func 44), args := #[.tmp 17, .tmp 19], argTypes := #[22, 3] }, 22, "l14_delta.go:165", #[⟨3, .data⟩, ⟨5, .data⟩, ⟨3, .chain⟩], none⟩) rfl (fun K hK => ?_) AllReadyH.nil
    go_simp
    (go_at_call 44; refine (HT2.out w3 g3 c3 z3 ha3.bf hz3.out).mono ?_; rintro e w4 ⟨g4, c4, z4, rfl, hz4, ha4⟩; have ha4' := ha3'.trans ha4)
    try go_wp2_with fail
    refine hK.out _ _ (HS.out _ (HK.out _ _ _ _ ha4')) (fun hHeld => ?_)
    clear hK K
    try simp only [Act.put, List.setIfInBounds_toArray, List.set_cons_zero, List.set_cons_succ]
    refine wpAnyH_take (i := 7) (oi := ⟨some 4, .assign (.tmp 20), 22, "l14_delta.go:165", #[⟨6, .data⟩, ⟨6, .chain⟩, ⟨0, .phase⟩, ⟨1, .phase⟩, ⟨2, .phase⟩, ⟨3, .phase⟩, ⟨4, .phase⟩, ⟨5, .phase⟩, ⟨6, .phase⟩], none⟩) (v := ?v6) rfl (by kernel_rfl) (by kernel_rfl) (by kernel_rfl) (fun _ _ _ h => h) (Or.inl ⟨by rfl, ?hy6⟩) (by assumption) ?r6
    case hy6 => (intro w hSw; (try dsimp only at hSw); go_simp; try with_reducible rfl)
    try simp only [Act.put, List.setIfInBounds_toArray, List.set_cons_zero, List.set_cons_succ]
    refine wpAnyH_done (by kernel_rfl) ?_ _
    have HF : Hid (Ap base w g w4 g4 c4 (L ++ enc x)) := by
      have := HA2.out.trans ha4'
      rw [HE.out, ← List.append_assoc, ← List.append_assoc]
      exact this
    have HZ4 : Hid (z4 = (L ++ enc x).length) := by show _ = _; rw [HE.out, ← List.append_assoc, ← List.append_assoc]; exact hz4.out
    clear ha4 ha3 hz4 hz3 ha3' ha4'
    go_wp2_with fail
    go_ret
    exact ⟨g4, c4, z4, rfl, HZ4, HF.out⟩
  · have hk1 : ¬ x.k = 1 := by omega
    obtain ⟨_, hp, hn, hm⟩ := (ok3_two hk1).1 hok
    have HE : Hid (enc x = [2] ++ num x.d.length ++ x.d) := by show _ = _; unfold enc; rw [if_neg hk1]
    rw [hk, hp, hn]
    obtain ⟨D, hD⟩ : ∃ D, x.d = D := ⟨_, rfl⟩
    rw [hD] at HE hd hdl hm hag ⊢
    obtain ⟨db, dof, rfl, hdc⟩ : ∃ b o, a = some ⟨b, o, none⟩ ∧ ∀ i (hi : i < D.length), w.cell? ⟨b, o + i, none⟩ = some (.int .u8 (D[i].toNat : Int)) := by
      rcases hd with h | ⟨b, o, e, h⟩
      · omega
      · exact ⟨b, o, e, fun i hi => by rw [h i hi, inB_at D i hi]⟩
    have hdg := hag db dof rfl (by omega)
    have hdlt : db < w.heap.size := World.block_lt_of_cell? _ _ (hdc 0 (by omega))
    obtain ⟨dl, hdl'⟩ : ∃ n, D.length = n := ⟨_, rfl⟩
    have HDL : Hid (D.length = dl) := hdl'
    have HLM2 : Hid ((L ++ [2] ++ num dl).length + D.length ≤ 1099511627776) := by
      show _ ≤ _
      have := num_small (n := dl) (by omega)
      simp only [List.length_append, List.length_singleton]
      omega
    have HL1 : Hid ((L ++ [(2 : UInt8)]).length ≤ 1099511627000) := by show _ ≤ _; simp only [List.length_append, List.length_singleton]; omega
    have hdl2 : dl ≤ 268435455 := by omega
    obtain ⟨dc, hdc'⟩ : ∃ q, c = q := ⟨_, rfl⟩
    subst hdc'
    have HDC0 : Hid (∀ W : World, (∀ j, W.cell? ⟨db, j, none⟩ = w.cell? ⟨db, j, none⟩) → ∀ j u, (bf.byteVals D)[j]? = some u → W.cell? ((⟨db, dof, none⟩ : Addr).add j) = some u) := fun W hW j u hj => by
      obtain ⟨hj', rfl⟩ := bf.byteVals_get hj
      rw [addr_add, hW]
      exact hdc j hj'
    rw [hdl'] at HE ⊢
    clear hok hlow hd hdl hag hk hk1 hm hp hn hbf hL hz hdc hD hdl'
    have HV : Hid ((2 : Int) = ((2 : UInt8).toNat : Int)) := rfl
    go_enter Try.func31, Try.ntmps31
    go_wp2_with (first
      | (at_builtin; refine bf.app_bytes _ rfl _ _ 22 rfl 5 Try.underlying22 bf.info5 rfl HZ.out.symm ⟨w.heap.size + 1, 0, none⟩ 1 (m := [2]) rfl rfl (HBF.out.below (((Below.refl _ _).alloc (Nat.le_refl _) _).alloc (HK0.out _) _)) (bf.one_at' _ _ (HK1.out _) _ _ _ HV.out) HL.out ?_; intro g2 c2 w2 n2 hn2 hap2; refine Hid.out ?_)
      | go_in)
    refine Lib.hid ?_
    have b2 : Below w.heap.size w ((w.alloc (.cells #[.int .i64 2, .int .i64 0, .int .i64 0, .slice (some ⟨db, dof, none⟩) dl c] 41)).alloc (.cells #[.int .u8 2] 5)) := ((Below.refl _ _).alloc (Nat.le_refl _) _).alloc (by rw [World.size_alloc]; omega) _
    have hA2 := hap2.after b2
    have HA2 : Hid (Ap base w g w2 g2 c2 (L ++ [2])) := hA2
    have hs2 : w.heap.size < w2.heap.size := by have h1 := hap2.grown.size; simp only [World.size_alloc] at h1; omega
    have hg2 : w.heap.size ≠ g2 := by have h1 := hap2.here; have := HG.out; simp only [World.size_alloc] at h1; omega
    have hdg2 : db ≠ g2 := by have h1 := hap2.here; have := HG.out; simp only [World.size_alloc] at h1; omega
    have q0 : ∀ j, w2.cell? ⟨w.heap.size, j, none⟩ = (w.alloc (.cells #[.int .i64 2, .int .i64 0, .int .i64 0, .slice (some ⟨db, dof, none⟩) dl c] 41)).cell? ⟨w.heap.size, j, none⟩ := fun j => (box_kept hap2 (k := w.heap.size) (by simp only [World.size_alloc]; omega) (by have := HG.out; omega) j).trans (((Below.refl _ _).alloc (Nat.le_refl _) _).cell (p := ⟨w.heap.size, j, none⟩) (by rw [World.size_alloc]; show w.heap.size < _; omega))
    have p0 : w2.cell? ⟨w.heap.size, 0, none⟩ = some (.int .i64 2) := (q0 0).trans (by simp [go_sem])
    have p3 : w2.cell? ⟨w.heap.size, 3, none⟩ = some (.slice (some ⟨db, dof, none⟩) dl c) := (q0 3).trans (by simp [go_sem])
    have HS : Hid (∀ W, Away w2 g2 W → W.cell? ⟨w.heap.size, 3, none⟩ = some (.slice (some ⟨db, dof, none⟩) dl c)) := fun W hW => (hW.cell hs2 hg2 3).trans p3
    have HDC : Hid (∀ W, Away w2 g2 W → ∀ j u, (bf.byteVals D)[j]? = some u → W.cell? ((⟨db, dof, none⟩ : Addr).add j) = some u) := fun W hW => HDC0.out W fun j => ((hW.cell (by omega) hdg2 j).trans (box_kept hA2 hdlt hdg j))
    have HAR : Hid (Away w2 g2 w2) := Away.refl _ _
    have HK : Hid (∀ W g' c' (l' : List UInt8), Ap base w2 g2 W g' c' l' → Away w2 g2 W) := fun W g' c' l' h => Away.of h
    have HT1 : Hid (∀ W, Below w2.heap.size w2 W → Calls Try.prog 44 #[.slice (some ⟨g2, 0, none⟩) n2 c2, .int .i64 (dl : Int)] W fun e w' => ∃ g' cap' z', e = .returned (.slice (some ⟨g', 0, none⟩) z' cap') ∧ Hid (z' = (L ++ [2] ++ num dl).length) ∧ Ap base W g2 w' g' cap' (L ++ [2] ++ num dl)) := fun W hW => bf.numb_any _ _ _ _ _ dl hdl2 W (hap2.bf.below hW) HL1.out (by have := hn2.out; exact this)
    clear hap2 hn2 q0 hA2 b2 p3
    go_wp2_with fail
    refine wp_region_held_drew (S := fun w' => w'.cell? ⟨w.heap.size, 3, none⟩ = some (.slice (some ⟨db, dof, none⟩) dl c)) (by kernel_rfl) (HS.out _ HAR.out.drew) (fun hHeld => ?_)
    refine wpAnyH_take (i := 0) (oi := ⟨some 21, .move (.tmp 1), 22, "l14_delta.go:167", #[], none⟩) (v := ?v7) rfl (by kernel_rfl) (by kernel_rfl) (by kernel_rfl) (fun _ _ _ h => h) (Or.inl ⟨by rfl, ?hy7⟩) (by assumption) ?r7
    case hy7 => (intro w hSw; (try dsimp only at hSw); go_simp; try with_reducible rfl)
    try simp only [Act.put, List.setIfInBounds_toArray, List.set_cons_zero, List.set_cons_succ]
    refine wpAnyH_take (i := 1) (oi := ⟨some 22, .fieldAddr 41 (.tmp 2) 3, 0, "l14_delta.go:167", #[], none⟩) (v := ?v8) rfl (by kernel_rfl) (by kernel_rfl) (by kernel_rfl) (fun _ _ _ h => h) (Or.inl ⟨by rfl, ?hy8⟩) (by assumption) ?r8
    case hy8 => (intro w hSw; (try dsimp only at hSw); go_simp; try with_reducible rfl)
    try simp only [Act.put, List.setIfInBounds_toArray, List.set_cons_zero, List.set_cons_succ]
    refine wpAnyH_take (i := 2) (oi := ⟨some 23, .load 22 (.tmp 22), 22, "l14_delta.go:167", #[⟨1, .data⟩], none⟩) (v := ?v9) rfl (by kernel_rfl) (by kernel_rfl) (by kernel_rfl) (fun _ _ _ h => h) (Or.inl ⟨by rfl, ?hy9⟩) (by assumption) ?r9
    case hy9 => (intro w hSw; (try dsimp only at hSw); go_simp; try with_reducible rfl)
    try simp only [Act.put, List.setIfInBounds_toArray, List.set_cons_zero, List.set_cons_succ]
    refine wpAnyH_take (i := 3) (oi := ⟨some 24, .call { callee := .builtin .len, args := #[.tmp 23], argTypes := #[22] }, 3, "l14_delta.go:167", #[⟨2, .data⟩], none⟩) (v := ?v10) rfl (by kernel_rfl) (by kernel_rfl) (by kernel_rfl) (fun _ _ _ h => h) (Or.inl ⟨by rfl, ?hy10⟩) (by assumption) ?r10
    case hy10 => (intro w hSw; (try dsimp only at hSw); go_simp; try with_reducible rfl)
    try simp only [Act.put, List.setIfInBounds_toArray, List.set_cons_zero, List.set_cons_succ]
    refine wpAnyH_take (i := 5) (oi := ⟨some 26, .fieldAddr 41 (.tmp 2) 3, 0, "l14_delta.go:167", #[], none⟩) (v := ?v11) rfl (by kernel_rfl) (by kernel_rfl) (by kernel_rfl) (fun _ _ _ h => h) (Or.inl ⟨by rfl, ?hy11⟩) (by assumption) ?r11
    case hy11 => (intro w hSw; (try dsimp only at hSw); go_simp; try with_reducible rfl)
    try simp only [Act.put, List.setIfInBounds_toArray, List.set_cons_zero, List.set_cons_succ]
    refine wpAnyH_take (i := 6) (oi := ⟨some 27, .load 22 (.tmp 26), 22, "l14_delta.go:167", #[⟨5, .data⟩], none⟩) (v := ?v12) rfl (by kernel_rfl) (by kernel_rfl) (by kernel_rfl) (fun _ _ _ h => h) (Or.inl ⟨by rfl, ?hy12⟩) (by assumption) ?r12
    case hy12 => (intro w hSw; (try dsimp only at hSw); go_simp; try with_reducible rfl)
    try simp only [Act.put, List.setIfInBounds_toArray, List.set_cons_zero, List.set_cons_succ]
    refine wpAnyH_ready (rs := [4]) (by kernel_rfl) (by simp) ?_
    refine AllReadyH.cons (o := ⟨some 25, .call { callee := .value (.func 44), args := #[.tmp 21, .tmp 24], argTypes := #[22, 3] }, 22, "l14_delta.go:167", #[⟨0, .data⟩, ⟨3, .data⟩], none⟩) rfl (fun K hK => ?_) AllReadyH.nil
    go_simp
    (go_at_call 44; refine (HT1.out _ (Below.refl _ _).drew).mono ?_; rintro e w3 ⟨g3, c3, z3, rfl, hz3, ha3⟩; have ha3' := ha3.after (Below.refl w2.heap.size w2).drew)
    try go_wp2_with fail
    refine hK.out _ _ (HS.out _ (HK.out _ _ _ _ ha3')) (fun hHeld => ?_)
    clear hK K
    try simp only [Act.put, List.setIfInBounds_toArray, List.set_cons_zero, List.set_cons_succ]
    refine wpAnyH_ready (rs := [7]) (by kernel_rfl) (by simp) ?_
    refine AllReadyH.cons (o := ⟨some 28, .call { callee := .builtin .append, args := #[.tmp 25, .tmp 27], argTypes := #[22, 22] }, 22, "l14_delta.go:167", #[⟨4, .data⟩, ⟨6, .data⟩, ⟨4, .chain⟩], none⟩) rfl (fun K hK => ?_) AllReadyH.nil
    refine step_bytes (by rfl) _ _ 22 (by rfl) 5 Try.underlying22 bf.info5 (by rfl) hz3.out.symm ⟨db, dof, none⟩ c (m := D) (by rfl) HDL.out ha3.bf (HDC.out _ (HK.out _ _ _ _ ha3')) HLM2.out ?_
    intro g4 c4 w4 z4 hz4 ha4
    have ha4' := ha3'.trans ha4
    refine hK.out _ _ (HS.out _ (HK.out _ _ _ _ ha4')) (fun hHeld => ?_)
    clear hK K
    try simp only [Act.put, List.setIfInBounds_toArray, List.set_cons_zero, List.set_cons_succ]
    refine wpAnyH_take (i := 8) (oi := ⟨some 4, .assign (.tmp 28), 22, "l14_delta.go:167", #[⟨7, .data⟩, ⟨7, .chain⟩, ⟨0, .phase⟩, ⟨1, .phase⟩, ⟨2, .phase⟩, ⟨3, .phase⟩, ⟨4, .phase⟩, ⟨5, .phase⟩, ⟨6, .phase⟩, ⟨7, .phase⟩], none⟩) (v := ?v13) rfl (by kernel_rfl) (by kernel_rfl) (by kernel_rfl) (fun _ _ _ h => h) (Or.inl ⟨by rfl, ?hy13⟩) (by assumption) ?r13
    case hy13 => (intro w hSw; (try dsimp only at hSw); go_simp; try with_reducible rfl)
    try simp only [Act.put, List.setIfInBounds_toArray, List.set_cons_zero, List.set_cons_succ]
    refine wpAnyH_done (by kernel_rfl) ?_ _
    have HF : Hid (Ap base w g w4 g4 c4 (L ++ enc x)) := by
      have := HA2.out.trans ha4'
      rw [HE.out, ← List.append_assoc, ← List.append_assoc]
      exact this
    have HZ4 : Hid (z4 = (L ++ enc x).length) := by show _ = _; rw [HE.out, ← List.append_assoc, ← List.append_assoc]; exact hz4.out
    clear ha4 ha3 hz4 hz3 ha3' ha4'
    go_wp2_with fail
    go_ret
    exact ⟨g4, c4, z4, rfl, HZ4, HF.out⟩

theorem src_lt {w : World} {a : Option Addr} {l : List UInt8} (h : SrcD w a l) : ∀ b o, a = some ⟨b, o, none⟩ → l.length ≠ 0 → b < w.heap.size := fun b o e hl => by
  rcases h with h | ⟨b', o', e', h⟩
  · exact absurd h hl
  · rw [e] at e'
    cases e'
    exact World.block_lt_of_cell? _ _ (h 0 (by omega))

theorem ldt_bf (w w1 : World) (hb : Below w.heap.size w w1) (e : TypeId) : Bf w.heap.size (w1.alloc (.cells #[.int .u8 76, .int .u8 68, .int .u8 84, .int .u8 49] e (4, 5))) w1.heap.size 4 ldt := by
  have hc : ∀ j, (w1.alloc (.cells #[.int .u8 76, .int .u8 68, .int .u8 84, .int .u8 49] e (4, 5))).cell? ⟨w1.heap.size, j, none⟩ = (#[Value.int .u8 76, .int .u8 68, .int .u8 84, .int .u8 49] : Array Value)[j]? := fun j => by
    have hb2 := heap_alloc_new w1 (.cells #[.int .u8 76, .int .u8 68, .int .u8 84, .int .u8 49] e (4, 5))
    unfold World.cell?
    simp only [hb2]
    try rfl
  unfold ldt
  refine ⟨hb.size, by simp, fun j hj => ?_, fun j hj => ⟨?_, ?_⟩, by simp, by unfold maxLen; omega⟩
  · rw [hc]
    match j, hj with
    | 0, _ => rfl
    | 1, _ => rfl
    | 2, _ => rfl
    | 3, _ => rfl
  · rw [hc, Array.getElem?_eq_getElem (by simpa using hj)]; rfl
  · have hb2 : (w1.alloc (.cells #[.int .u8 76, .int .u8 68, .int .u8 84, .int .u8 49] e (4, 5))).heap[w1.heap.size]? = _ := heap_alloc_new w1 _
    unfold World.frozen?
    simp only [hb2]
    simp
    omega
theorem none_bf (w w1 : World) (hb : Below w.heap.size w w1) (e : TypeId) : Bf w.heap.size (w1.alloc (.cells #[] e)) w1.heap.size 0 [] :=
  ⟨hb.size, by simp, fun j hj => by simp at hj, fun j hj => by omega, by simp, by unfold maxLen; omega⟩
theorem none_bf' (w w1 : World) (g : Nat) (hg : w1.heap.size = g) (hb : Below w.heap.size w w1) (e : TypeId) : Bf w.heap.size (w1.alloc (.cells #[] e)) g 0 [] := by subst hg; exact none_bf w w1 hb e

/-- What is handed back. -/
def Bys (w w' : World) (l : List UInt8) (g cap z : Nat) : Prop := z = l.length ∧ Bf w.heap.size w' g cap l

set_option maxHeartbeats 4000000 in
set_option maxRecDepth 100000 in
theorem idb_any (b o c : Nat) (ss : List Sp) (w : World) (hb : Rd w b o ss) (hw : wt ss ≤ 1048576) :
    Calls Try.prog 12 #[.slice (some ⟨b, o, none⟩) ss.length c] w fun e w' => (∃ g c z, e = .returned (.slice (some ⟨g, 0, none⟩) z c) ∧ Bys w w' (dbB ss) g c z) ∧ Below w.heap.size w w' := by
  have hn : ss.length ≤ 1048576 := Nat.le_trans (wt_len ss) hw
  have HD : Hid (∀ x ∈ ss, x.d.length ≤ 1048576) := fun x hx => Nat.le_trans (wt_d hx) hw
  have HT : Hid (Calls Try.prog 30 #[.slice (some ⟨b, o, none⟩) ss.length c] w fun e w' => e = .returned (.bool (okL ss)) ∧ Below w.heap.size w w') := oks_any b o c ss w hb hn
  have HB : Hid (Rd w b o ss) := hb
  clear hb hw
  cases ht : okL ss with
  | false =>
    rw [ht] at HT
    have HE : Hid (dbB ss = []) := dbB_no (by unfold good; rw [ht]; rfl)
    clear ht
    go_enter Try.func12, Try.ntmps12
    go_wp2_with (go_at_call 30; refine HT.out.mono ?_; rintro e w1 ⟨rfl, hl1⟩)
    go_ret
    exact ⟨⟨_, _, _, rfl, by unfold Bys; rw [HE.out]; exact ⟨rfl, none_bf w w1 hl1 _⟩⟩, hl1.alloc hl1.size _⟩
  | true =>
    rw [ht] at HT
    have HOK : Hid (∀ x ∈ ss, okS x = true) := by unfold okL at ht; exact allOk_iff.1 ((Bool.and_eq_true _ _ ▸ ht).2)
    have HT2 : Hid (okL ss = true) := ht
    have hlen : ss.length ≤ 10000 := by unfold okL at ht; rw [Bool.and_eq_true, decide_eq_true_iff] at ht; exact ht.1
    clear ht
    have kc := fun (w : World) (C : Array Value) (n c : Nat) => Lib.run_convert_bytes_const (P := Try.prog) w 22 5 C n c Try.underlying22 Try.underlying5
    go_enter Try.func12, Try.ntmps12
    go_wp2_with (go_at_call 30; refine HT.out.mono ?_; rintro e w1 ⟨rfl, hl1⟩)
    have HB0 : Hid (Bf w.heap.size (w1.alloc (.cells #[.int .u8 76, .int .u8 68, .int .u8 84, .int .u8 49] 5 (4, 5))) w1.heap.size 4 ldt) := ldt_bf w w1 hl1 5
    have HBE0 : Hid (Below w.heap.size w (w1.alloc (.cells #[.int .u8 76, .int .u8 68, .int .u8 84, .int .u8 49] 5 (4, 5)))) := hl1.alloc hl1.size _
    clear kc hl1
    go_loopw [3, 5, 14] (fun v _ x wr => ∃ (i g' cap' z : Nat), i ≤ ss.length ∧ v = .slice (some ⟨g', 0, none⟩) z cap' ∧ x = .int .i64 (i : Int) ∧ z = (ldt ++ encL ss i).length ∧ Bf w.heap.size wr g' cap' (ldt ++ encL ss i) ∧ (∀ j y, j < i → ss[j]? = some y → lowS y = true) ∧ Below w.heap.size w wr) (fun _ _ x _ => ss.length - (intOf x).toNat)
    case atStart => exact ⟨0, w1.heap.size, 4, 4, Nat.zero_le _, rfl, rfl, rfl, HB0.out, fun j y h => by omega, HBE0.out⟩
    case round =>
      clear HB0 HBE0
      obtain ⟨i, g', cap', z, hi, rfl, rfl, hz, hbf, hlow, hbel⟩ := hrel
      have HBE : Hid (Below w.heap.size w wr) := hbel
      have HLO : Hid (∀ j y, j < i → ss[j]? = some y → lowS y = true) := hlow
      clear hlow
      by_cases hil : i < ss.length
      · have hil' : (i : Int) < (ss.length : Int) := by omega
        have hi0 : (0 : Int) ≤ (i : Int) := by omega
        obtain ⟨x, hx⟩ : ∃ x, ss[i]? = some x := ⟨_, List.getElem?_eq_getElem hil⟩
        have hxm := List.mem_of_getElem? hx
        obtain ⟨a', c', e0, e1, e2, e3, hsr0⟩ := HB.out i x hx
        have hlt0 := src_lt hsr0
        have K : ∀ {p v}, w.cell? ⟨b, p, none⟩ = some v → wr.cell? ⟨b, p, none⟩ = some v := fun {p v} h => (hbel.cell (p := ⟨b, p, none⟩) (World.block_lt_of_cell? _ _ h)).trans h
        have g0 := K e0
        have g1 := K e1
        have g2 := K e2
        have g3 := K e3
        have HX : Hid (ss[i]? = some x) := hx
        obtain ⟨L, hL⟩ : ∃ L, L = ldt ++ encL ss i := ⟨_, rfl⟩
        rw [← hL] at hz hbf
        have HNX : Hid (L ++ enc x = ldt ++ encL ss (i + 1)) := by show _ = _; rw [hL, encL_succ hx, List.append_assoc]
        have HLL : Hid ((∀ j y, j < i → ss[j]? = some y → lowS y = true) → L.length ≤ 1099000000000) := fun hlw => by
          have h1 : (encL ss i).length ≤ i * 1048621 := by
            have h2 : encL ss i = encL (ss.take i) i := by unfold encL; rw [List.take_take, Nat.min_self]
            rw [h2]
            refine encL_len (fun y hy => ⟨HOK.out y (List.mem_of_mem_take hy), ?_⟩) (fun y hy => HD.out y (List.mem_of_mem_take hy)) i
            obtain ⟨j, hj, rfl⟩ := List.getElem_of_mem hy
            rw [List.length_take] at hj
            rw [List.getElem_take]
            exact hlw j _ (by omega) (List.getElem?_eq_getElem (by omega))
          rw [hL, List.length_append, show ldt.length = 4 from rfl]
          omega
        have HBF : Hid (Bf w.heap.size wr g' cap' L) := hbf
        have HCALL : Hid (lowS x = true → ∀ W, Below wr.heap.size wr W → Calls Try.prog 31 #[.agg #[.int .i64 x.k, .int .i64 x.p, .int .i64 x.n, .slice a' x.d.length c'], .slice (some ⟨g', 0, none⟩) z cap'] W fun e w' => ∃ g'' cap'' z'', e = .returned (.slice (some ⟨g'', 0, none⟩) z'' cap'') ∧ Hid (z'' = (L ++ enc x).length) ∧ Ap w.heap.size W g' w' g'' cap'' (L ++ enc x)) := fun hlx W hW =>
          iapp_any w.heap.size g' cap' z L x a' c' W (HBF.out.below hW) (HLL.out HLO.out) hz (HOK.out x hxm) hlx (hsr0.below (hbel.trans (hW.mono hbel.size))) (HD.out x hxm) (fun b o e hl => by have := hlt0 b o e hl; have := HBF.out.new; omega)
        have HLV : Hid (lowS x = low3 x.p x.n) := rfl
        obtain ⟨z0, hz0⟩ : ∃ z, x.k = z := ⟨_, rfl⟩
        obtain ⟨z1, hz1⟩ : ∃ z, x.p = z := ⟨_, rfl⟩
        obtain ⟨z2, hz2⟩ : ∃ z, x.n = z := ⟨_, rfl⟩
        obtain ⟨m, hm⟩ : ∃ z, x.d.length = z := ⟨_, rfl⟩
        rw [hz0, hz1, hz2, hm] at HCALL
        rw [hz1, hz2] at HLV
        rw [hz0] at g0
        rw [hz1] at g1
        rw [hz2] at g2
        rw [hm] at g3
        clear hbel hx hz0 hz1 hz2 hm hsr0 hlt0 K e0 e1 e2 e3 hL hz hbf
        by_cases hp : z1 ≤ 268435455
        · by_cases hq : z2 ≤ 268435455
          · have HLX : Hid (lowS x = true) := by show _ = _; rw [HLV.out]; simp [low3, hp, hq]
            have HC1 := HCALL.out HLX.out
            have HC : Hid (∀ W, Below wr.heap.size wr W → Calls Try.prog 31 #[.agg #[.int .i64 z0, .int .i64 z1, .int .i64 z2, .slice a' m c'], .slice (some ⟨g', 0, none⟩) z cap'] W fun e w' => ∃ g'' cap'' z'', e = .returned (.slice (some ⟨g'', 0, none⟩) z'' cap'') ∧ Hid (z'' = (L ++ enc x).length) ∧ Ap w.heap.size W g' w' g'' cap'' (L ++ enc x)) := HC1
            clear HC1 HCALL
            go_wp2_with (go_at_call 31; refine (HC.out _ (box_below _ _ _)).mono ?_; rintro e w2 ⟨g2, c2, z3, rfl, hz3, ha3⟩; refine Hid.out ?_)
            refine Lib.hid ?_
            have HA : Hid (Bf w.heap.size w2 g2 c2 (ldt ++ encL ss (i + 1))) := by have := ha3.bf; rw [HNX.out] at this; exact this
            have HZ : Hid (z3 = (ldt ++ encL ss (i + 1)).length) := by have := hz3.out; rw [HNX.out] at this; exact this
            have HBB : Hid (Below w.heap.size w w2) := HBE.out.trans ((ha3.after (box_below _ _ _)).bel HBF.out.new HBE.out.size)
            have HLN : Hid (∀ j y, j < i + 1 → ss[j]? = some y → lowS y = true) := fun j y hj hy => by
              rcases Nat.lt_or_ge j i with h | h
              · exact HLO.out j y h hy
              · obtain rfl : j = i := by omega
                rw [HX.out] at hy
                cases hy
                exact HLX.out
            clear ha3 hz3
            go_wp2
            go_roundw
            case rel => exact ⟨i + 1, g2, c2, z3, by omega, rfl, by go_num, HZ.out, HA.out, HLN.out, HBB.out⟩
            case measure => simp [intOf] <;> omega
          · have HE : Hid (dbB ss = []) := dbB_no (by
              cases hg : good ss with
              | false => rfl
              | true =>
                have := ((good_iff.1 hg).2 x hxm).2
                rw [HLV.out] at this
                simp [low3, hq] at this)
            go_wp2
            go_ret
            exact ⟨⟨_, _, _, rfl, by unfold Bys; rw [HE.out]; exact ⟨rfl, none_bf' w _ _ (World.size_alloc _ _) (HBE.out.alloc HBE.out.size _) _⟩⟩, (HBE.out.alloc HBE.out.size _).alloc (by have := HBE.out.size; simp; omega) _⟩
        · have HE : Hid (dbB ss = []) := dbB_no (by
            cases hg : good ss with
            | false => rfl
            | true =>
              have := ((good_iff.1 hg).2 x hxm).2
              rw [HLV.out] at this
              simp [low3, hp] at this)
          go_wp2
          go_ret
          exact ⟨⟨_, _, _, rfl, by unfold Bys; rw [HE.out]; exact ⟨rfl, none_bf' w _ _ (World.size_alloc _ _) (HBE.out.alloc HBE.out.size _) _⟩⟩, (HBE.out.alloc HBE.out.size _).alloc (by have := HBE.out.size; simp; omega) _⟩
      · have hil' : ¬ (i : Int) < (ss.length : Int) := by omega
        obtain rfl : i = ss.length := by omega
        have HE : Hid (dbB ss = ldt ++ encL ss ss.length) := dbB_yes (by
          refine good_iff.2 ⟨hlen, fun x hx => ⟨HOK.out x hx, ?_⟩⟩
          obtain ⟨j, hj, rfl⟩ := List.getElem_of_mem hx
          exact HLO.out j _ (by omega) (List.getElem?_eq_getElem hj))
        have HZ : Hid (z = (ldt ++ encL ss ss.length).length) := hz
        have HBF : Hid (Bf w.heap.size wr g' cap' (ldt ++ encL ss ss.length)) := hbf
        clear hbel hbf hz
        go_wp2
        go_ret
        exact ⟨⟨_, _, _, rfl, by unfold Bys; rw [HE.out]; exact ⟨HZ.out, HBF.out⟩⟩, HBE.out⟩

end Go.Proofs.Ytogakignaaoklaa.dl
