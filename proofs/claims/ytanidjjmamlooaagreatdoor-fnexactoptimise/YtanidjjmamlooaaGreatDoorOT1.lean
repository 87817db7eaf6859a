import Derived.Test.YtanidjjmamlooaaGreatDoorSOL
import Derived.DeepKeys3
import Derived.Maps.Own
import Derived.Maps.OwnOps
import Derived.Maps.OwnSet
import Derived.Maps.Views
import Derived.BigQuiet
import Derived.Deep.QuietTactic
namespace Go.Proofs.YtanidjjmamlooaaGreatDoor.so
open Go.ChangeShapes Go.WideShapes Go.ChangeAt Go.RowKit Go.Deep Go.Shelf Go.Maps
set_option linter.unusedVariables false
set_option linter.unusedSimpArgs false

/-! ### Optimise, plainly; sets of contents -/

def cn (e : ty.Et) : List UInt8 × Bool := (e.fData.data.toList, e.fExec)
/-- One entry: what has been seen, and what is spare. -/
def stO (q : List ty.Et × Nat) (e : ty.Et) : List ty.Et × Nat := if e.fKind = 2 then (if cn e ∈ q.1.map cn then (q.1, q.2 + e.fData.size) else (q.1 ++ [e], q.2)) else q
def opE (q : List ty.Et × Nat) (l : List ty.Et) : List ty.Et × Nat := l.foldl stO q
def opI (ps : List ty.It) : List ty.Et × Nat := ps.foldl (fun q x => opE q x.fTree) ([], 0)
/-- What Optimise answers. -/
noncomputable def optA (ps : List ty.It) : Int := if stB ps = true then ((opI ps).2 : Int) else -1

theorem opE_take {q : List ty.Et × Nat} {l : List ty.Et} {k : Nat} {e : ty.Et} (h : l[k]? = some e) : opE q (l.take (k + 1)) = stO (opE q (l.take k)) e := by
  unfold opE
  rw [List.take_add_one, h, Option.toList_some, List.foldl_append]
  rfl
theorem opI_take {ps : List ty.It} {i : Nat} {x : ty.It} (h : ps[i]? = some x) : opI (ps.take (i + 1)) = opE (opI (ps.take i)) x.fTree := by
  unfold opI
  rw [List.take_add_one, h, Option.toList_some, List.foldl_append]
  rfl
theorem stO_skip {q : List ty.Et × Nat} {e : ty.Et} (h : e.fKind ≠ 2) : stO q e = q := by unfold stO; rw [if_neg h]
theorem stO_seen {q : List ty.Et × Nat} {e : ty.Et} (h : e.fKind = 2) (hm : cn e ∈ q.1.map cn) : stO q e = (q.1, q.2 + e.fData.size) := by unfold stO; rw [if_pos h, if_pos hm]
theorem stO_new {q : List ty.Et × Nat} {e : ty.Et} (h : e.fKind = 2) (hm : cn e ∉ q.1.map cn) : stO q e = (q.1 ++ [e], q.2) := by unfold stO; rw [if_pos h, if_neg hm]
/-- How much there can be. -/
def BdO (i k : Nat) (q : List ty.Et × Nat) : Prop := q.1.length ≤ i * 1048576 + k ∧ q.2 ≤ i * 1099511627776 + k * 1048576
theorem BdO.zero : BdO 0 0 ([], 0) := by
  unfold BdO
  refine And.intro ?_ ?_ <;> simp
theorem BdO.step {i k : Nat} {q : List ty.Et × Nat} {e : ty.Et} (h : BdO i k q) (hz : e.fData.size ≤ 1048576) : BdO i (k + 1) (stO q e) := by
  unfold BdO at h ⊢
  obtain ⟨h1, h2⟩ := h
  have h3 : (stO q e).1.length ≤ q.1.length + 1 ∧ (stO q e).2 ≤ q.2 + 1048576 := by
    unfold stO
    split
    · split
      · exact And.intro (Nat.le_succ _) (Nat.add_le_add_left hz _)
      · refine And.intro ?_ (Nat.le_add_right _ _)
        rw [List.length_append]
        exact Nat.le_refl _
    · exact And.intro (Nat.le_succ _) (Nat.le_add_right _ _)
  refine And.intro ?_ ?_
  · omega
  · omega
theorem BdO.more {i k : Nat} {q : List ty.Et × Nat} (h : BdO i k q) : BdO i (k + 1) q := by
  unfold BdO at h ⊢
  refine And.intro ?_ ?_
  · omega
  · omega
theorem BdO.next {i k : Nat} {q : List ty.Et × Nat} (h : BdO i k q) (hk : k ≤ 1048576) : BdO (i + 1) 0 q := by
  unfold BdO at h ⊢
  refine And.intro ?_ ?_
  · omega
  · omega
theorem BdO.len {i k : Nat} {q : List ty.Et × Nat} (h : BdO i k q) : q.1.length ≤ i * 1048576 + k := h.1
theorem BdO.sum {i k : Nat} {q : List ty.Et × Nat} (h : BdO i k q) : q.2 ≤ i * 1099511627776 + k * 1048576 := h.2

theorem st_three {ps : List ty.It} (h : stB ps = true) : ps.length ≤ 300 := by
  unfold stB at h
  simp only [Bool.and_eq_true, decide_eq_true_eq] at h
  exact h.1
theorem tree_sz {ps : List ty.It} (hw : ty.wtIt ps ≤ 1048576) : ∀ x ∈ ps, x.fTree.length ≤ 1048576 ∧ ∀ e ∈ x.fTree, e.fData.size ≤ 1048576 := fun x hx => by
  have h1 := ty.wtIt_mem hx
  unfold ty.wt1It at h1
  have h3 := ty.wtEt_len x.fTree
  refine ⟨by omega, fun e he => ?_⟩
  have h2 := ty.wtEt_mem he
  unfold ty.wt1Et at h2
  omega

/-- The key of a content. -/
def kcV (d : ByteArray) (e : Bool) : Value := .agg #[.string d, .bool e]
theorem keyedC : Keyed Tryz.prog 44 := Keyed.of_law (deep_law (m := 3) (by omega) (by kernel_rfl) (by kernel_rfl) (by kernel_rfl))
noncomputable def kc (d : ByteArray) (e : Bool) : Lit := (keyOf Tryz.prog 44 (kcV d e)).getD (.bool false)
theorem keyC (d : ByteArray) (e : Bool) (hd : d.size ≤ 1048576) : keyOf Tryz.prog 44 (kcV d e) = some (kc d e) := by
  have h : ∃ l, keyOf Tryz.prog 44 (kcV d e) = some l := by
    have h1 : Tryz.prog.keyType 44 = true := by kernel_rfl
    have h2 : (kcV d e).formed Tryz.prog 44 = true := by kernel_rfl
    have h0 : d.size ≤ maxLen := by unfold maxLen; omega
    have h3 : Tryz.prog.cellsOf 44 = 2 := by kernel_rfl
    have h4 : Tryz.prog.cellsOf 9 = 1 := by kernel_rfl
    have h5 : Tryz.prog.cellsOf 4 = 1 := by kernel_rfl
    obtain ⟨m, hm⟩ : ∃ m, Tryz.prog.types.size = m + 1 := ⟨Tryz.prog.types.size - 1, by kernel_rfl⟩
    unfold keyOf
    simp only [Tryz.underlying44]
    rw [if_pos (by rw [h1, h2]; rfl), hm]
    unfold Program.keyLits
    simp only [Tryz.underlying44, kcV, Value.cells]
    rw [h3]
    simp [Program.keyLits, h3, h4, h5, Tryz.underlying9, Tryz.underlying4, h0]
  obtain ⟨l, hl⟩ := h
  unfold kc
  rw [hl]
  rfl
theorem kc_inj {d d' : ByteArray} {e e' : Bool} (hd : d.size ≤ 1048576) (hd' : d'.size ≤ 1048576) (h : kc d e = kc d' e') : d = d' ∧ e = e' := by
  have h1 := keyC d e hd
  have h2 := keyC d' e' hd'
  rw [h] at h1
  have h3 := keyedC.inj h1 h2
  unfold kcV at h3
  simp at h3
  exact h3

end Go.Proofs.YtanidjjmamlooaaGreatDoor.so

namespace Go.Proofs.YtanidjjmamlooaaGreatDoor.so
open Go.ChangeShapes Go.WideShapes Go.ChangeAt Go.RowKit Go.Deep Go.Shelf Go.Maps
set_option linter.unusedVariables false
set_option linter.unusedSimpArgs false

/-! ### Optimise: the program -/

abbrev OwC (w : World) (b n : Nat) (D : DataW Unit) : Prop := w.ownsMap Tryz.prog 44 unitElem b n D
theorem OwC.below {w w' : World} {b n : Nat} {D : DataW Unit} (h : OwC w b n D) (hb : Below w.heap.size w w') : OwC w' b n D := World.ownsMap.kept h (row := none) ⟨hb.os, hb.tape, hb.output, hb.size, fun j hj _ => hb.block j hj⟩ (by simp)

set_option maxRecDepth 100000 in
theorem cadd_any (d : ByteArray) (x : Bool) (hd : d.size ≤ 1048576) (b n : Nat) (hn : n ≤ 400000000) (D : DataW Unit) (w : World) (h : OwC w b n D) (B : Nat) (hB : B ≤ b) (hB' : B ≤ w.heap.size) :
    Calls Tryz.prog 14 #[.map (some b), .agg #[.string d, .bool x]] w fun e w' => (∃ v, e = .returned v) ∧ OwC w' b (n + 1) (D.put (kc d x) (.agg [])) ∧ Below B w w' := by
  have hkey := keyC d x hd
  unfold kcV at hkey
  have HAL : Hid (∀ ob, Below B w (w.alloc ob)) := fun ob => (Below.refl _ _).alloc hB' _
  go_enter Tryz.func14, Tryz.ntmps14
  go_wp2_with (first
    | (at_mapUpdate; refine wpList_mapUpdate_own _ rfl _ _ _ 42 rfl 44 55 keyedC Tryz.underlying42 _ b n D rfl (h.alloc _) (by unfold maxLen; omega) _ _ _ rfl rfl hkey _ [] unitElem_mk ?_; intro wu hownu hgu)
    | go_in)
  go_returns
  exact ⟨⟨_, rfl⟩, hownu, (HAL.out _).grown hgu (Nat.le_trans hB' (HAL.out _).size) (fun k hk => by have := Option.some.inj hk; omega)⟩

set_option maxRecDepth 100000 in
theorem chas_any (d : ByteArray) (x : Bool) (hd : d.size ≤ 1048576) (b n : Nat) (D : DataW Unit) (w : World) (h : OwC w b n D) :
    Calls Tryz.prog 13 #[.map (some b), .agg #[.string d, .bool x]] w fun e w' => e = .returned (.bool (Maps.has D (kc d x))) ∧ Below w.heap.size w w' := by
  have hkey := keyC d x hd
  unfold kcV at hkey
  have HAL : Hid (∀ ob ob', Below w.heap.size w ((w.alloc ob).alloc ob')) := fun ob ob' => ((Below.refl _ _).alloc (Nat.le_refl _) _).alloc (by simp) _
  go_enter Tryz.func13, Tryz.ntmps13
  go_wp2_with (first
    | (at_lookup; refine wpList_lookup_own_unit _ rfl _ _ 42 rfl 44 55 keyedC Tryz.underlying42 (Tryz.zeroValue55 _) b n D rfl (h.alloc _) _ _ rfl hkey ?_)
    | go_in)
  go_ret
  exact ⟨rfl, HAL.out _ _⟩

/-- What stands between two entries. -/
def KpO (i k : Nat) (q : List ty.Et × Nat) (b : Nat) (w : World) : Prop := BdO i k q ∧ ∃ D N, N ≤ i * 1048576 + k ∧ OwC w b N D ∧ ∀ (d : ByteArray) (x : Bool), d.size ≤ 1048576 → (Maps.has D (kc d x) = true ↔ (d.data.toList, x) ∈ q.1.map cn)
theorem KpO.zero (w : World) : KpO 0 0 ([], 0) w.heap.size (w.alloc (.map #[] 0)) := ⟨BdO.zero, .map [], 0, Nat.le_refl _, World.ownsMap_made w Tryz.prog 44 _, fun d x _ => by simp [Maps.has]⟩
theorem KpO.below {i k : Nat} {q : List ty.Et × Nat} {b : Nat} {w w' : World} (h : KpO i k q b w) (hb : Below w.heap.size w w') : KpO i k q b w' := by
  obtain ⟨h1, D, N, h2, h3, h4⟩ := h
  exact ⟨h1, D, N, h2, h3.below hb, h4⟩
theorem KpO.skip {i k : Nat} {q : List ty.Et × Nat} {b : Nat} {w : World} {e : ty.Et} (h : KpO i k q b w) (he : e.fKind ≠ 2) : KpO i (k + 1) (stO q e) b w := by
  obtain ⟨h1, D, N, h2, h3, h4⟩ := h
  rw [stO_skip he]
  refine ⟨h1.more, D, N, ?_, h3, h4⟩
  omega
set_option maxRecDepth 100000 in
theorem KpO.next {i k : Nat} {q : List ty.Et × Nat} {b : Nat} {w : World} (h : KpO i k q b w) (hk : k ≤ 1048576) : KpO (i + 1) 0 q b w := by
  obtain ⟨h1, D, N, h2, h3, h4⟩ := h
  have hN1 : N ≤ (i + 1) * 1048576 + 0 := by
    clear h1 h3 h4
    have e : (i + 1) * 1048576 = i * 1048576 + 1048576 := Nat.succ_mul i 1048576
    rw [e, Nat.add_zero]
    exact Nat.le_trans h2 (Nat.add_le_add_left hk _)
  exact ⟨h1.next hk, D, N, hN1, h3, h4⟩
set_option maxRecDepth 100000 in
theorem KpO.put {i k : Nat} {q : List ty.Et × Nat} {b N : Nat} {D : DataW Unit} {w w' : World} {e : ty.Et} (hB : BdO i k q) (hN : N ≤ i * 1048576 + k) (hw : OwC w b N D) (h4 : ∀ (d : ByteArray) (x : Bool), d.size ≤ 1048576 → (Maps.has D (kc d x) = true ↔ (d.data.toList, x) ∈ q.1.map cn)) (he : e.fKind = 2) (hz : e.fData.size ≤ 1048576)
    (h : OwC w' b (N + 1) (D.put (kc e.fData e.fExec) (.agg []))) : KpO i (k + 1) (stO q e) b w' := by
  have hN1 : N + 1 ≤ i * 1048576 + (k + 1) := by omega
  refine ⟨hB.step hz, _, N + 1, hN1, h, fun d x hd => ?_⟩
  have hm : ∀ c, c ∈ (stO q e).1.map cn ↔ (c ∈ q.1.map cn ∨ c = cn e) := fun c => by
    by_cases hc : cn e ∈ q.1.map cn
    · rw [stO_seen he hc]
      exact ⟨.inl, fun h => h.elim id (fun e1 => by rw [e1]; exact hc)⟩
    · rw [stO_new he hc]
      simp only [List.map_append, List.map_cons, List.map_nil, List.mem_append, List.mem_singleton]
  rw [hm]
  have hk : WideAt.IsKeyLit (kc e.fData e.fExec) := keyedC.key (keyC e.fData e.fExec hz)
  by_cases hc : kc d x = kc e.fData e.fExec
  · have h5 := kc_inj hd hz hc
    rw [hc, has_put_same hw.isMap hk]
    simp [cn, h5.1, h5.2]
  · rw [has_put_other hc, h4 d x hd]
    refine ⟨.inl, fun h => h.elim id (fun e1 => absurd ?_ hc)⟩
    have e2 := congrArg Prod.fst e1
    have e3 := congrArg Prod.snd e1
    simp only [cn] at e2 e3
    have e4 : d = e.fData := ByteArray.ext (Array.ext' e2)
    rw [e4, e3]

theorem two_cells {wr w3 : World} {E C : Array Value} {tE tC : TypeId} (h : Below ((wr.alloc (.cells E tE)).alloc (.cells C tC)).heap.size ((wr.alloc (.cells E tE)).alloc (.cells C tC)) w3) : (∀ j v, E[j]? = some v → w3.cell? ⟨wr.heap.size, j, none⟩ = some v) ∧ (∀ j v, C[j]? = some v → w3.cell? ⟨wr.heap.size + 1, j, none⟩ = some v) := by
  refine ⟨fun j v hj => ?_, fun j v hj => ?_⟩
  · have h1 : (wr.alloc (.cells E tE)).cell? ⟨wr.heap.size, j, none⟩ = E[j]? := World.cell?_alloc_new wr _ _ j
    rw [hj] at h1
    have h2 := (((Below.refl (wr.alloc (.cells E tE)).heap.size (wr.alloc (.cells E tE))).alloc (Nat.le_refl _) (.cells C tC)).cell (p := ⟨wr.heap.size, j, none⟩) (World.block_lt_of_cell? _ _ h1)).trans h1
    exact (h.cell (p := ⟨wr.heap.size, j, none⟩) (World.block_lt_of_cell? _ _ h2)).trans h2
  · have h1 : ((wr.alloc (.cells E tE)).alloc (.cells C tC)).cell? ⟨(wr.alloc (.cells E tE)).heap.size, j, none⟩ = C[j]? := World.cell?_alloc_new _ _ _ j
    rw [hj, World.size_alloc] at h1
    exact (h.cell (p := ⟨wr.heap.size + 1, j, none⟩) (World.block_lt_of_cell? _ _ h1)).trans h1

theorem mk_set (W : World) : (Instr.makeMap 42 none).run Tryz.prog W = .ok (.map (some W.heap.size)) (W.alloc (.map #[] 0)) := by
  simp [Instr.makeMap, go_sem]

set_option maxRecDepth 100000 in
set_option maxHeartbeats 8000000 in
theorem iopt_any (lo : Nat) (a : Option Addr) (c : Nat) (ps : List ty.It) (w : World) (hb : ty.SrcIt (some lo) w a ps) (hw : ty.wtIt ps ≤ 1048576) (hM : tt.ML w) (hT : wd.TabB w) :
    Calls Tryz.prog 7 #[.slice a ps.length c] w fun e w' => e = .returned (.int .i64 (optA ps)) ∧ Below w.heap.size w w' := by
  have HSO : Hid (Calls Tryz.prog 12 #[.slice a ps.length c] w fun e w' => e = .returned (.bool (stB ps)) ∧ Below w.heap.size w w') := istore_any lo a c ps w hb hw hM hT
  have HSR : Hid (ty.SrcIt (some lo) w a ps) := hb
  have HTZ : Hid (∀ x ∈ ps, x.fTree.length ≤ 1048576 ∧ ∀ e ∈ x.fTree, e.fData.size ≤ 1048576) := tree_sz hw
  have HL3 : Hid (stB ps = true → ps.length ≤ 300) := fun h => st_three h
  have HAN : Hid (optA ps = if stB ps = true then ((opI ps).2 : Int) else -1) := rfl
  obtain ⟨n, hnn⟩ : ∃ n, ps.length = n := ⟨_, rfl⟩
  have HN : Hid (ps.length = n) := hnn
  obtain ⟨R, hR⟩ : ∃ R, optA ps = R := ⟨_, rfl⟩
  obtain ⟨bs, hbs⟩ : ∃ b, stB ps = b := ⟨_, rfl⟩
  rw [hR] at HAN ⊢
  rw [hbs] at HSO HL3 HAN
  rw [hnn] at HSO HL3 ⊢
  clear hb hw hM hT hnn hR hbs
  cases bs with
  | false =>
    have HE : Hid (R = -1) := by show _ = _; rw [HAN.out]; rfl
    go_enter Tryz.func7, Tryz.ntmps7
    go_wp2_with (go_at_call 12; refine HSO.out.mono ?_; rintro e w1 ⟨rfl, hl1⟩)
    go_ret
    exact ⟨by rw [HE.out]; rfl, hl1⟩
  | true =>
    have hn3 : n ≤ 300 := HL3.out rfl
    have HE : Hid (R = ((opI ps).2 : Int)) := by show _ = _; rw [HAN.out]; rfl
    have hmm : ∀ W : World, (Instr.makeMap 42 none).run Tryz.prog W = .ok (.map (some W.heap.size)) (W.alloc (.map #[] 0)) := fun W => mk_set W
    clear HL3 HAN
    go_enter Tryz.func7, Tryz.ntmps7
    go_wp2_with (go_at_call 12; refine HSO.out.mono ?_; rintro e w1 ⟨rfl, hl1⟩; refine Hid.out ?_)
    refine Lib.hid ?_
    have HK0 : Hid (KpO 0 0 (opI (ps.take 0)) w1.heap.size (w1.alloc (.map #[] 0))) := KpO.zero w1
    have HB0 : Hid (Below w.heap.size w (w1.alloc (.map #[] 0))) := hl1.alloc hl1.size _
    have hb1 : w.heap.size ≤ w1.heap.size := hl1.size
    obtain ⟨B, hB⟩ : ∃ B, w1.heap.size = B := ⟨_, rfl⟩
    have HBB : Hid (w1.heap.size = B) := hB
    rw [hB] at HK0 hb1
    clear hl1 hB HSO
    go_wp2
    clear hmm
    rw [HBB.out]
    go_loopw [4, 16] (fun v y wr => ∃ i : Nat, i ≤ n ∧ y = .int .i64 (i : Int) ∧ v = .int .i64 ((opI (ps.take i)).2 : Int) ∧ KpO i 0 (opI (ps.take i)) B wr ∧ Below w.heap.size w wr) (fun _ y _ => n - (intOf y).toNat)
    case atStart => exact ⟨0, Nat.zero_le _, rfl, rfl, HK0.out, HB0.out⟩
    case round =>
      obtain ⟨i, hi, rfl, rfl, hkp, hbel⟩ := hrel
      have HKP : Hid (KpO i 0 (opI (ps.take i)) B wr) := hkp
      have HBE : Hid (Below w.heap.size w wr) := hbel
      clear hkp
      by_cases hil : i < n
      · have hil' : (i : Int) < (n : Int) := by omega
        have hi0 : (0 : Int) ≤ (i : Int) := by omega
        obtain ⟨x, hx⟩ : ∃ x, ps[i]? = some x := ⟨_, List.getElem?_eq_getElem (by rw [HN.out]; exact hil)⟩
        obtain ⟨b, o, rfl, hc⟩ : ∃ b o, a = some ⟨b, o, none⟩ ∧ ∀ (j : Nat) (y : ty.It), ps[j]? = some y → ty.CIt (some lo) w b (o + j * 5) y := by
          rcases HSR.out with h | ⟨b, o, e, _, h⟩
          · cases h.1
          · exact ⟨b, o, e, h⟩
        obtain ⟨a2, c2, a4, c4, q0, q1, q2, q3, q4, s2, s4, t2, t4⟩ := hc i x hx
        clear s2 t2 t4
        obtain ⟨tb, tq, rfl, htc⟩ : ∃ b o, a4 = some ⟨b, o, none⟩ ∧ ∀ (j : Nat) (y : ty.Et), x.fTree[j]? = some y → ty.CEt (some lo) w b (o + j * 4) y := by
          rcases s4 with h | ⟨b, o, e, _, h⟩
          · cases h.1
          · exact ⟨b, o, e, h⟩
        have HTC : Hid (∀ (j : Nat) (y : ty.Et), x.fTree[j]? = some y → ∀ W, Below w.heap.size w W → W.cell? ⟨tb, tq + j * 4, none⟩ = some (.string y.fPath) ∧ W.cell? ⟨tb, tq + j * 4 + 1, none⟩ = some (.int .i64 y.fKind) ∧ W.cell? ⟨tb, tq + j * 4 + 2, none⟩ = some (.string y.fData) ∧ W.cell? ⟨tb, tq + j * 4 + 3, none⟩ = some (.bool y.fExec)) := fun j y hy W h => by
          obtain ⟨k0, k1, k2, k3⟩ := htc j y hy
          have K : ∀ {p v}, w.cell? ⟨tb, p, none⟩ = some v → W.cell? ⟨tb, p, none⟩ = some v := fun {p v} k => (h.cell (p := ⟨tb, p, none⟩) (World.block_lt_of_cell? _ _ k)).trans k
          exact ⟨K k0, K k1, K k2, K k3⟩
        have K : ∀ {p v}, w.cell? ⟨b, p, none⟩ = some v → wr.cell? ⟨b, p, none⟩ = some v := fun {p v} k => (hbel.cell (p := ⟨b, p, none⟩) (World.block_lt_of_cell? _ _ k)).trans k
        have r0 := K q0
        have r1 := K q1
        have r2 := K q2
        have r3 := K q3
        have r4 := K q4
        have hxz := HTZ.out x (List.mem_of_getElem? hx)
        have hm4 := hxz.1
        have HEZ : Hid (∀ e ∈ x.fTree, e.fData.size ≤ 1048576) := hxz.2
        have HOX : Hid (opI (ps.take (i + 1)) = opE (opI (ps.take i)) x.fTree) := opI_take hx
        obtain ⟨q, hq⟩ : ∃ q, opI (ps.take i) = q := ⟨_, rfl⟩
        rw [hq] at HOX HKP
        obtain ⟨m4, hmm4⟩ : ∃ m, x.fTree.length = m := ⟨_, rfl⟩
        have HM4 : Hid (x.fTree.length = m4) := hmm4
        obtain ⟨m2, hmm2⟩ : ∃ m, x.fRefs.length = m := ⟨_, rfl⟩
        obtain ⟨z0, hz0⟩ : ∃ z, x.fPath = z := ⟨_, rfl⟩
        obtain ⟨z1, hz1⟩ : ∃ z, x.fSum = z := ⟨_, rfl⟩
        obtain ⟨z3, hz3⟩ : ∃ z, x.fFrom = z := ⟨_, rfl⟩
        obtain ⟨tl, htl⟩ : ∃ l, x.fTree = l := ⟨_, rfl⟩
        rw [hz0] at r0
        rw [hz1] at r1
        rw [hmm2] at r2
        rw [hz3] at r3
        rw [hmm4] at r4 hm4
        rw [htl] at HTC HEZ HOX HM4
        have HB1 : Hid (∀ ob, Below w.heap.size w (wr.alloc ob)) := fun ob => HBE.out.alloc HBE.out.size _
        have HK1 : Hid (∀ ob, KpO i 0 (opE q (tl.take 0)) B (wr.alloc ob)) := fun ob => HKP.out.below ((Below.refl _ _).alloc (Nat.le_refl _) _)
        clear hc htc s4 q0 q1 q2 q3 q4 K hx hxz hbel hmm4 hmm2 hz0 hz1 hz3 htl
        rw [hq]
        clear hq
        go_wp2
        go_loopw [4, 23] (fun v y wr => ∃ k : Nat, k ≤ m4 ∧ y = .int .i64 (k : Int) ∧ v = .int .i64 ((opE q (tl.take k)).2 : Int) ∧ KpO i k (opE q (tl.take k)) B wr ∧ Below w.heap.size w wr) (fun _ y _ => m4 - (intOf y).toNat)
        case atStart => exact ⟨0, Nat.zero_le _, rfl, rfl, HK1.out _, HB1.out _⟩
        case round =>
          obtain ⟨k, hk, rfl, rfl, hkp, hbel⟩ := hrel
          have HKP2 : Hid (KpO i k (opE q (tl.take k)) B wr) := hkp
          have HBE2 : Hid (Below w.heap.size w wr) := hbel
          by_cases hkl : k < m4
          · have hkl' : (k : Int) < (m4 : Int) := by omega
            have hk0 : (0 : Int) ≤ (k : Int) := by omega
            obtain ⟨y, hy⟩ : ∃ y, tl[k]? = some y := ⟨_, List.getElem?_eq_getElem (by rw [HM4.out]; exact hkl)⟩
            obtain ⟨p0, p1, p2, p3⟩ := HTC.out k y hy wr hbel
            have hyz : y.fData.size ≤ 1048576 := HEZ.out y (List.mem_of_getElem? hy)
            have HST : Hid (opE q (tl.take (k + 1)) = stO (opE q (tl.take k)) y) := opE_take hy
            obtain ⟨qk, hqk⟩ : ∃ z, opE q (tl.take k) = z := ⟨_, rfl⟩
            rw [hqk] at HST HKP2 hkp
            rw [hqk]
            obtain ⟨hBd, D, N, hN, hOw, hmem⟩ := hkp
            have hS := hBd.sum
            have HSK : Hid (y.fKind ≠ 2 → KpO i (k + 1) (stO qk y) B wr) := fun h => HKP2.out.skip h
            have HSV : Hid (y.fKind ≠ 2 → (stO qk y).2 = qk.2) := fun h => by rw [stO_skip h]
            have HHS : Hid (∀ W, Below wr.heap.size wr W → Calls Tryz.prog 13 #[.map (some B), .agg #[.string y.fData, .bool y.fExec]] W fun e w' => e = .returned (.bool (decide (cn y ∈ qk.1.map cn))) ∧ Below W.heap.size W w') := fun W h => by
              have h1 := chas_any y.fData y.fExec hyz B N D W (hOw.below h)
              have h2 := hmem y.fData y.fExec hyz
              have e : Maps.has D (kc y.fData y.fExec) = decide (cn y ∈ qk.1.map cn) := by
                rw [Bool.eq_iff_iff, h2, decide_eq_true_eq]
                rfl
              rw [e] at h1
              exact h1
            have HAD : Hid (y.fKind = 2 → ∀ W, Below wr.heap.size wr W → Calls Tryz.prog 14 #[.map (some B), .agg #[.string y.fData, .bool y.fExec]] W fun e w' => (∃ v, e = .returned v) ∧ KpO i (k + 1) (stO qk y) B w' ∧ Below w.heap.size W w') := fun hk2 W h => by
              refine (cadd_any y.fData y.fExec hyz B N (by omega) D W (hOw.below h) w.heap.size hb1 (Nat.le_trans HBE2.out.size h.size)).mono ?_
              rintro e w' ⟨h1, h2, h3⟩
              exact ⟨h1, KpO.put hBd hN (hOw.below h) hmem hk2 hyz h2, h3⟩
            have HSS : Hid (y.fKind = 2 → cn y ∈ qk.1.map cn → (stO qk y).2 = qk.2 + y.fData.size) := fun h1 h2 => by rw [stO_seen h1 h2]
            have HSN : Hid (y.fKind = 2 → cn y ∉ qk.1.map cn → (stO qk y).2 = qk.2) := fun h1 h2 => by rw [stO_new h1 h2]
            obtain ⟨s0, hs0⟩ : ∃ z, qk.2 = z := ⟨_, rfl⟩
            rw [hs0] at hS HSV HSS HSN
            rw [hs0]
            obtain ⟨y0, hy0⟩ : ∃ z, y.fPath = z := ⟨_, rfl⟩
            obtain ⟨y1, hy1⟩ : ∃ z, y.fKind = z := ⟨_, rfl⟩
            obtain ⟨y2, hy2⟩ : ∃ z, y.fData = z := ⟨_, rfl⟩
            obtain ⟨y3, hy3⟩ : ∃ z, y.fExec = z := ⟨_, rfl⟩
            rw [hy0] at p0
            rw [hy1] at p1 HSK HSV HAD HSS HSN
            rw [hy2] at p2 hyz HHS HAD HSS
            rw [hy3] at p3 HHS HAD
            clear hy hqk hBd hN hOw hmem hs0 hy0 hy1 hy2 hy3 hbel
            have HBA : Hid (∀ ob, Below w.heap.size w (wr.alloc ob)) := fun ob => HBE2.out.alloc HBE2.out.size _
            by_cases hk2 : y1 = 2
            · subst hk2
              have HA2 := Lib.hid (HAD.out rfl)
              have HS2 := Lib.hid (HSS.out rfl)
              have HN2 := Lib.hid (HSN.out rfl)
              clear HAD HSS HSN HSK HSV
              by_cases hcm : cn y ∈ qk.1.map cn
              · rw [decide_eq_true hcm] at HHS
                have HSE : Hid ((stO qk y).2 = s0 + y2.size) := HS2.out hcm
                have hwr1 : IntKind.i64.wrap ((s0 : Int) + (y2.size : Int)) = (s0 : Int) + (y2.size : Int) := by rw [IntKind.wrap_i64]; omega
                clear hcm HS2 HN2
                go_wp2_with (first
                  | (go_at_call 13; refine (HHS.out _ (((Below.refl _ _).alloc (Nat.le_refl _) _).alloc (by simp) _)).mono ?_; rintro e w3 ⟨rfl, hl3⟩; refine Hid.out ?_)
                  | go_in)
                refine Lib.hid ?_
                have d2 := (two_cells hl3).1 2 _ rfl
                have e0 := (two_cells hl3).2 0 _ rfl
                have e1 := (two_cells hl3).2 1 _ rfl
                have hl4 : Below wr.heap.size wr w3 := (((Below.refl _ _).alloc (Nat.le_refl _) _).alloc (by simp) _).trans (hl3.mono (by simp; omega))
                have HA3 := Lib.hid (HA2.out _ hl4)
                have HB3 : Hid (Below w.heap.size w w3) := HBE2.out.trans (hl4.mono HBE2.out.size)
                clear hl3 hl4 HA2 HHS
                go_wp2_with (go_at_call 14; refine HA3.out.mono ?_; rintro e w4 ⟨⟨v4, rfl⟩, hk4, hl4⟩; refine Hid.out ?_)
                refine Lib.hid ?_
                have HK4 : Hid (KpO i (k + 1) (stO qk y) B w4) := hk4
                have HB4 : Hid (Below w.heap.size w w4) := HB3.out.trans hl4
                clear hk4 hl4
                go_wp2
                go_roundw
                case rel => exact ⟨k + 1, by omega, by go_num, by rw [HST.out, HSE.out]; first | rfl | simp, by rw [HST.out]; exact HK4.out, HB4.out⟩
                case measure => simp [intOf]; omega
              · rw [decide_eq_false hcm] at HHS
                have HSE : Hid ((stO qk y).2 = s0) := HN2.out hcm
                clear hcm HS2 HN2
                go_wp2_with (first
                  | (go_at_call 13; refine (HHS.out _ (((Below.refl _ _).alloc (Nat.le_refl _) _).alloc (by simp) _)).mono ?_; rintro e w3 ⟨rfl, hl3⟩; refine Hid.out ?_)
                  | go_in)
                refine Lib.hid ?_
                have e0 := (two_cells hl3).2 0 _ rfl
                have e1 := (two_cells hl3).2 1 _ rfl
                have hl4 : Below wr.heap.size wr w3 := (((Below.refl _ _).alloc (Nat.le_refl _) _).alloc (by simp) _).trans (hl3.mono (by simp; omega))
                have HA3 := Lib.hid (HA2.out _ hl4)
                have HB3 : Hid (Below w.heap.size w w3) := HBE2.out.trans (hl4.mono HBE2.out.size)
                clear hl3 hl4 HA2 HHS
                go_wp2_with (go_at_call 14; refine HA3.out.mono ?_; rintro e w4 ⟨⟨v4, rfl⟩, hk4, hl4⟩; refine Hid.out ?_)
                refine Lib.hid ?_
                have HK4 : Hid (KpO i (k + 1) (stO qk y) B w4) := hk4
                have HB4 : Hid (Below w.heap.size w w4) := HB3.out.trans hl4
                clear hk4 hl4
                go_wp2
                go_roundw
                case rel => exact ⟨k + 1, by omega, by go_num, by rw [HST.out, HSE.out], by rw [HST.out]; exact HK4.out, HB4.out⟩
                case measure => simp [intOf]; omega
            · have HK4 : Hid (∀ ob, KpO i (k + 1) (stO qk y) B (wr.alloc ob)) := fun ob => (HSK.out hk2).below ((Below.refl _ _).alloc (Nat.le_refl _) _)
              have HSE : Hid ((stO qk y).2 = s0) := HSV.out hk2
              clear HAD HSS HSN HSK HSV HHS
              go_wp2
              go_roundw
              case rel => exact ⟨k + 1, by omega, by go_num, by rw [HST.out, HSE.out], by rw [HST.out]; exact HK4.out _, HBA.out _⟩
              case measure => simp [intOf]; omega
          · have hkl' : ¬ (k : Int) < (m4 : Int) := by omega
            obtain rfl : k = m4 := by omega
            have HET : Hid (opE q (tl.take k) = opI (ps.take (i + 1))) := by show _ = _; rw [HOX.out, List.take_of_length_le (by rw [HM4.out]; exact Nat.le_refl _)]
            have HKN : Hid (KpO (i + 1) 0 (opI (ps.take (i + 1))) B wr) := by show KpO _ _ _ _ _; rw [← HET.out]; exact HKP2.out.next (by omega)
            clear hkp hbel
            go_wp2
            go_roundw
            case rel => exact ⟨i + 1, by omega, by go_num, by rw [HET.out], HKN.out, HBE2.out⟩
            case measure => simp [intOf]; omega
      · have hil' : ¬ (i : Int) < (n : Int) := by omega
        obtain rfl : i = n := by omega
        have HPT : Hid (ps.take i = ps) := List.take_of_length_le (by rw [HN.out]; exact Nat.le_refl _)
        clear hbel
        go_wp2
        go_ret
        exact ⟨by rw [HE.out, HPT.out]; rfl, HBE.out⟩

end Go.Proofs.YtanidjjmamlooaaGreatDoor.so

namespace Go.Proofs.YtanidjjmamlooaaGreatDoor.so
open Go.ChangeShapes Go.WideShapes Go.ChangeAt Go.RowKit Go.Deep Go.Shelf Go.Maps
set_option linter.unusedVariables false
set_option linter.unusedSimpArgs false

/-! ### Optimise: the specification -/

def eC (sn : List ty.Et) : List Value := sn.flatMap fun e => [.string e.fPath, .int .i64 e.fKind, .string e.fData, .bool e.fExec]
theorem eC_len (sn : List ty.Et) : (eC sn).length = sn.length * 4 := by
  unfold eC
  induction sn with
  | nil => rfl
  | cons a l ih => rw [List.flatMap_cons, List.length_append, ih]; simp; omega
theorem eC_at : ∀ {sn : List ty.Et} {j : Nat} {e : ty.Et}, sn[j]? = some e → (eC sn)[j * 4 + 2]? = some (.string e.fData) ∧ (eC sn)[j * 4 + 3]? = some (.bool e.fExec)
  | [], j, e, h => by simp at h
  | a :: l, 0, e, h => by
    simp at h
    subst h
    exact ⟨rfl, rfl⟩
  | a :: l, j + 1, e, h => by
    have ih := eC_at (sn := l) (j := j) (e := e) (by simpa using h)
    have e1 : eC (a :: l) = [.string a.fPath, .int .i64 a.fKind, .string a.fData, .bool a.fExec] ++ eC l := rfl
    rw [e1, List.getElem?_append_right (by simp; omega), List.getElem?_append_right (by simp; omega)]
    have e2 : (j + 1) * 4 + 2 - [Value.string a.fPath, .int .i64 a.fKind, .string a.fData, .bool a.fExec].length = j * 4 + 2 := by simp; omega
    have e3 : (j + 1) * 4 + 3 - [Value.string a.fPath, .int .i64 a.fKind, .string a.fData, .bool a.fExec].length = j * 4 + 3 := by simp; omega
    rw [e2, e3]
    exact ih
theorem eC_snoc (sn : List ty.Et) (e : ty.Et) : eC (sn ++ [e]) = eC sn ++ [.string e.fPath, .int .i64 e.fKind, .string e.fData, .bool e.fExec] := by
  unfold eC
  rw [List.flatMap_append]
  simp

/-- A row of entries of the call's own. -/
def OwE (B : Nat) (w : World) (v : Value) (sn : List ty.Et) : Prop := w.ownsRow B 39 4 v sn.length (eC sn) ∧ v ≠ .slice none 0 0
theorem OwE.below {B : Nat} {w w' : World} {v : Value} {sn : List ty.Et} (h : OwE B w v sn) (hb : Below w.heap.size w w') : OwE B w' v sn := ⟨World.ownsRow.kept h.1 (row := none) ⟨hb.os, hb.tape, hb.output, hb.size, fun j hj _ => hb.block j hj⟩ (Classical.em _), h.2⟩
theorem OwE.cells {B : Nat} {w : World} {v : Value} {sn : List ty.Et} (h : OwE B w v sn) : ∃ g cap, v = .slice (some ⟨g, 0, none⟩) sn.length cap ∧ B ≤ g ∧ g < w.heap.size ∧ ∀ (j : Nat) (e : ty.Et), sn[j]? = some e → w.cell? ⟨g, j * 4 + 2, none⟩ = some (.string e.fData) ∧ w.cell? ⟨g, j * 4 + 3, none⟩ = some (.bool e.fExec) := by
  obtain ⟨⟨_, h'⟩, hv⟩ := h
  rcases h' with ⟨rfl, _⟩ | ⟨g, cap, cur, rfl, hb, hg, hnc, hcm, hcs, htk⟩
  · exact absurd rfl hv
  · refine ⟨g, cap, rfl, hb, (Array.getElem?_eq_some_iff.1 hg).1, fun j e he => ?_⟩
    have hj := (List.getElem?_eq_some_iff.1 he).1
    have hc : ∀ p u, p < sn.length * 4 → (eC sn)[p]? = some u → w.cell? ⟨g, p, none⟩ = some u := fun p u hp hu => by
      have h1 : (cur.toList.take (sn.length * 4))[p]? = some u := by rw [htk]; exact hu
      rw [List.getElem?_take_of_lt hp, Array.getElem?_toList] at h1
      simp [World.cell?, hg, h1]
    have h2 := eC_at he
    exact ⟨hc _ _ (by omega) h2.1, hc _ _ (by omega) h2.2⟩
theorem OwE.zero (w : World) : OwE w.heap.size (w.alloc (.cells #[] 39)) (.slice (some ⟨w.heap.size, 0, none⟩) 0 0) [] := ⟨⟨rfl, .inr ⟨w.heap.size, 0, #[], rfl, Nat.le_refl _, by unfold World.alloc; exact Array.getElem?_push_size, Nat.zero_le _, by unfold maxLen; omega, rfl, by simp [eC]⟩⟩, by intro e; cases e⟩

theorem four_new (W : World) (e : TypeId) (v0 v1 v2 v3 : Value) : ∀ j u, [v0, v1, v2, v3][j]? = some u → (W.alloc (.cells #[v0, v1, v2, v3] e)).cell? ((⟨W.heap.size, 0, none⟩ : Addr).add j) = some u := by
  intro j u h
  have hc : (W.alloc (.cells #[v0, v1, v2, v3] e)).cell? ⟨W.heap.size, j, none⟩ = (#[v0, v1, v2, v3] : Array Value)[j]? := World.cell?_alloc_new W _ _ j
  rw [addr_add, Nat.zero_add, hc, ← h]
  simp

theorem app_en (w : World) {ops : Array Oper} {rest : List Oper} {o : Oper} {a : Act} {Q : Exit → Act → World → Prop} (hgd : o.guard = none) (s x : Operand)
    (ho : o.op = .call { callee := .builtin .append, args := #[s, x], argTypes := #[35, 35] })
    (base : Nat) (v : Value) (sn : List ty.Et) (hs : a.eval s = v) (hown : OwE base w v sn)
    (ad : Addr) (c : Nat) (e : ty.Et) (hx : a.eval x = .slice (some ad) 1 c) (hnews : ∀ j u, [Value.string e.fPath, .int .i64 e.fKind, .string e.fData, .bool e.fExec][j]? = some u → w.cell? (ad.add j) = some u)
    (h63 : sn.length ≤ 400000000) (hbase : base ≤ w.heap.size)
    (h : ∀ v' w', OwE base w' v' (sn ++ [e]) → w.grownBy w' v.ownBlock → wpList Tryz.prog ops Q rest (a.put o.dst v') w') : wpList Tryz.prog ops Q (o :: rest) a w := by
  obtain ⟨i, hi, hzz⟩ := Option.map_eq_some_iff.1 tt.infoE
  simp only [Prod.mk.injEq] at hzz
  obtain ⟨hz, hsi, hb⟩ := hzz
  refine wpList_append_own w hgd s x 35 ho base 39 i _ 4 48 Tryz.underlying35 hi hz hsi hb rfl (by decide) v sn.length (eC sn) hs hown.1 ad 1 c _ hx rfl hnews (fun u hu => by
    simp only [List.mem_cons, List.not_mem_nil, or_false] at hu
    rcases hu with rfl | rfl | rfl | rfl <;> rfl) (by unfold maxLen; omega) (by omega) hbase (fun v' w' p q r => h v' w' ⟨?_, fun e => hown.2 (r.1 e).1⟩ q)
  rw [eC_snoc, List.length_append]
  exact p

set_option maxRecDepth 100000 in
set_option maxHeartbeats 8000000 in
theorem sopt_any (lo : Nat) (a : Option Addr) (c : Nat) (ps : List ty.It) (w : World) (hb : ty.SrcIt (some lo) w a ps) (hw : ty.wtIt ps ≤ 1048576) :
    Calls Tryz.prog 5 #[.slice a ps.length c] w fun e w' => e = .returned (.int .i64 (optA ps)) ∧ Below w.heap.size w w' := by
  have HSO : Hid (Calls Tryz.prog 10 #[.slice a ps.length c] w fun e w' => e = .returned (.bool (stB ps)) ∧ Below w.heap.size w w') := sstore_any lo a c ps w hb hw
  have HSR : Hid (ty.SrcIt (some lo) w a ps) := hb
  have HTZ : Hid (∀ x ∈ ps, x.fTree.length ≤ 1048576 ∧ ∀ e ∈ x.fTree, e.fData.size ≤ 1048576) := tree_sz hw
  have HL3 : Hid (stB ps = true → ps.length ≤ 300) := fun h => st_three h
  have HAN : Hid (optA ps = if stB ps = true then ((opI ps).2 : Int) else -1) := rfl
  obtain ⟨n, hnn⟩ : ∃ n, ps.length = n := ⟨_, rfl⟩
  have HN : Hid (ps.length = n) := hnn
  obtain ⟨R, hR⟩ : ∃ R, optA ps = R := ⟨_, rfl⟩
  obtain ⟨bs, hbs⟩ : ∃ b, stB ps = b := ⟨_, rfl⟩
  rw [hR] at HAN ⊢
  rw [hbs] at HSO HL3 HAN
  rw [hnn] at HSO HL3 ⊢
  clear hb hw hnn hR hbs
  cases bs with
  | false =>
    have HE : Hid (R = -1) := by show _ = _; rw [HAN.out]; rfl
    go_enter Tryz.func5, Tryz.ntmps5
    go_wp2_with (go_at_call 10; refine HSO.out.mono ?_; rintro e w1 ⟨rfl, hl1⟩)
    go_ret
    exact ⟨by rw [HE.out]; rfl, hl1⟩
  | true =>
    have hn3 : n ≤ 300 := HL3.out rfl
    have HE : Hid (R = ((opI ps).2 : Int)) := by show _ = _; rw [HAN.out]; rfl
    clear HL3 HAN
    go_enter Tryz.func5, Tryz.ntmps5
    go_wp2_with (go_at_call 10; refine HSO.out.mono ?_; rintro e w1 ⟨rfl, hl1⟩; refine Hid.out ?_)
    refine Lib.hid ?_
    have HB0 : Hid (Below w.heap.size w (w1.alloc (.cells #[] 39))) := hl1.alloc hl1.size _
    have HZ0 : Hid (OwE w1.heap.size (w1.alloc (.cells #[] 39)) (.slice (some ⟨w1.heap.size, 0, none⟩) 0 0) []) := OwE.zero w1
    have HWS : Hid (w.heap.size ≤ w1.heap.size) := hl1.size
    clear hl1 HSO
    go_wp2
    go_loopw [3, 4, 5, 6, 8, 9] (fun s v y _ _ _ wr => ∃ i : Nat, i ≤ n ∧ y = .int .i64 (i : Int) ∧ s = .int .i64 ((opI (ps.take i)).2 : Int) ∧ BdO i 0 (opI (ps.take i)) ∧ OwE w1.heap.size wr v (opI (ps.take i)).1 ∧ Below w.heap.size w wr) (fun _ _ y _ _ _ _ => n - (intOf y).toNat)
    case atStart => exact ⟨0, Nat.zero_le _, rfl, rfl, BdO.zero, HZ0.out, HB0.out⟩
    case round =>
      obtain ⟨i, hi, rfl, rfl, hbd, how, hbel⟩ := hrel
      have HBD : Hid (BdO i 0 (opI (ps.take i))) := hbd
      have HOW : Hid (OwE w1.heap.size wr u4 (opI (ps.take i)).1) := how
      have HBE : Hid (Below w.heap.size w wr) := hbel
      clear hbd how
      by_cases hil : i < n
      · have hil' : (i : Int) < (n : Int) := by omega
        have hi0 : (0 : Int) ≤ (i : Int) := by omega
        obtain ⟨x, hx⟩ : ∃ x, ps[i]? = some x := ⟨_, List.getElem?_eq_getElem (by rw [HN.out]; exact hil)⟩
        obtain ⟨b, o, rfl, hc⟩ : ∃ b o, a = some ⟨b, o, none⟩ ∧ ∀ (j : Nat) (y : ty.It), ps[j]? = some y → ty.CIt (some lo) w b (o + j * 5) y := by
          rcases HSR.out with h | ⟨b, o, e, _, h⟩
          · cases h.1
          · exact ⟨b, o, e, h⟩
        obtain ⟨a2, c2, a4, c4, q0, q1, q2, q3, q4, s2, s4, t2, t4⟩ := hc i x hx
        clear s2 t2 t4 q0 q1 q2 q3
        obtain ⟨tb, tq, rfl, htc⟩ : ∃ b o, a4 = some ⟨b, o, none⟩ ∧ ∀ (j : Nat) (y : ty.Et), x.fTree[j]? = some y → ty.CEt (some lo) w b (o + j * 4) y := by
          rcases s4 with h | ⟨b, o, e, _, h⟩
          · cases h.1
          · exact ⟨b, o, e, h⟩
        have HTC : Hid (∀ (j : Nat) (y : ty.Et), x.fTree[j]? = some y → ∀ W, Below w.heap.size w W → W.cell? ⟨tb, tq + j * 4, none⟩ = some (.string y.fPath) ∧ W.cell? ⟨tb, tq + j * 4 + 1, none⟩ = some (.int .i64 y.fKind) ∧ W.cell? ⟨tb, tq + j * 4 + 2, none⟩ = some (.string y.fData) ∧ W.cell? ⟨tb, tq + j * 4 + 3, none⟩ = some (.bool y.fExec)) := fun j y hy W h => by
          obtain ⟨k0, k1, k2, k3⟩ := htc j y hy
          have K : ∀ {p v}, w.cell? ⟨tb, p, none⟩ = some v → W.cell? ⟨tb, p, none⟩ = some v := fun {p v} k => (h.cell (p := ⟨tb, p, none⟩) (World.block_lt_of_cell? _ _ k)).trans k
          exact ⟨K k0, K k1, K k2, K k3⟩
        have HQ4 : Hid (∀ W, Below w.heap.size w W → W.cell? ⟨b, o + i * 5 + 4, none⟩ = some (.slice (some ⟨tb, tq, none⟩) x.fTree.length c4)) := fun W h => (h.cell (p := ⟨b, _, none⟩) (World.block_lt_of_cell? _ _ q4)).trans q4
        have hxz := HTZ.out x (List.mem_of_getElem? hx)
        have hm4 := hxz.1
        have HEZ : Hid (∀ e ∈ x.fTree, e.fData.size ≤ 1048576) := hxz.2
        have HOX : Hid (opI (ps.take (i + 1)) = opE (opI (ps.take i)) x.fTree) := opI_take hx
        obtain ⟨q, hq⟩ : ∃ q, opI (ps.take i) = q := ⟨_, rfl⟩
        rw [hq] at HOX HBD HOW
        obtain ⟨m4, hmm4⟩ : ∃ m, x.fTree.length = m := ⟨_, rfl⟩
        have HM4 : Hid (x.fTree.length = m4) := hmm4
        obtain ⟨tl, htl⟩ : ∃ l, x.fTree = l := ⟨_, rfl⟩
        rw [hmm4] at hm4 HQ4
        rw [htl] at HTC HEZ HOX HM4
        clear hc htc s4 q4 hx hxz hbel hmm4 htl
        rw [hq]
        clear hq
        go_wp2
        go_loopw [3, 4, 6, 8, 9] (fun s v y _ _ wr => ∃ k : Nat, k ≤ m4 ∧ y = .int .i64 (k : Int) ∧ s = .int .i64 ((opE q (tl.take k)).2 : Int) ∧ BdO i k (opE q (tl.take k)) ∧ OwE w1.heap.size wr v (opE q (tl.take k)).1 ∧ Below w.heap.size w wr) (fun _ _ y _ _ _ => m4 - (intOf y).toNat)
        case atStart => exact ⟨0, Nat.zero_le _, rfl, rfl, HBD.out, HOW.out, HBE.out⟩
        case round =>
          obtain ⟨k, hk, rfl, rfl, hbd, how, hbel⟩ := hrel
          have r4 := HQ4.out _ hbel
          have HBD2 : Hid (BdO i k (opE q (tl.take k))) := hbd
          have HOW2 : Hid (OwE w1.heap.size wr u4 (opE q (tl.take k)).1) := how
          have HBE2 : Hid (Below w.heap.size w wr) := hbel
          by_cases hkl : k < m4
          · have hkl' : (k : Int) < (m4 : Int) := by omega
            have hk0 : (0 : Int) ≤ (k : Int) := by omega
            obtain ⟨y, hy⟩ : ∃ y, tl[k]? = some y := ⟨_, List.getElem?_eq_getElem (by rw [HM4.out]; exact hkl)⟩
            obtain ⟨p0, p1, p2, p3⟩ := HTC.out k y hy wr hbel
            have hyz : y.fData.size ≤ 1048576 := HEZ.out y (List.mem_of_getElem? hy)
            have HST : Hid (opE q (tl.take (k + 1)) = stO (opE q (tl.take k)) y) := opE_take hy
            obtain ⟨qk, hqk⟩ : ∃ z, opE q (tl.take k) = z := ⟨_, rfl⟩
            rw [hqk] at HST HBD2 HOW2
            rw [hqk]
            have hS := HBD2.out.sum
            have hLn := HBD2.out.len
            have HBK : Hid (BdO i (k + 1) (stO qk y)) := HBD2.out.step hyz
            have HSV : Hid (y.fKind ≠ 2 → stO qk y = qk) := fun h => stO_skip h
            have HSS : Hid (y.fKind = 2 → cn y ∈ qk.1.map cn → stO qk y = (qk.1, qk.2 + y.fData.size)) := fun h1 h2 => stO_seen h1 h2
            have HSN : Hid (y.fKind = 2 → cn y ∉ qk.1.map cn → stO qk y = (qk.1 ++ [y], qk.2)) := fun h1 h2 => stO_new h1 h2
            have HCN : Hid (cn y = (y.fData.data.toList, y.fExec)) := rfl
            have HYY : Hid (y = ⟨y.fPath, y.fKind, y.fData, y.fExec⟩) := rfl
            obtain ⟨s0, hs0⟩ : ∃ z, qk.2 = z := ⟨_, rfl⟩
            rw [hs0] at hS HSS HSN
            rw [hs0]
            obtain ⟨sn, hsn⟩ : ∃ z, qk.1 = z := ⟨_, rfl⟩
            rw [hsn] at hLn HSS HSN HOW2
            have HS1 : Hid (qk.1 = sn ∧ qk.2 = s0) := ⟨hsn, hs0⟩
            obtain ⟨y0, hy0⟩ : ∃ z, y.fPath = z := ⟨_, rfl⟩
            obtain ⟨y1, hy1⟩ : ∃ z, y.fKind = z := ⟨_, rfl⟩
            obtain ⟨y2, hy2⟩ : ∃ z, y.fData = z := ⟨_, rfl⟩
            obtain ⟨y3, hy3⟩ : ∃ z, y.fExec = z := ⟨_, rfl⟩
            have HYF : Hid (y.fPath = y0 ∧ y.fKind = y1 ∧ y.fData = y2 ∧ y.fExec = y3) := ⟨hy0, hy1, hy2, hy3⟩
            rw [hy0] at p0
            rw [hy1] at p1 HSV HSS HSN
            rw [hy2] at p2 hyz HSS HCN
            rw [hy3] at p3 HCN
            clear hy hqk hs0 hsn hy0 hy1 hy2 hy3 hbel hbd how HYY
            have HBA : Hid (∀ ob, Below w.heap.size w (wr.alloc ob)) := fun ob => HBE2.out.alloc HBE2.out.size _
            have HOA : Hid (∀ ob, OwE w1.heap.size (wr.alloc ob) u4 sn) := fun ob => HOW2.out.below ((Below.refl _ _).alloc (Nat.le_refl _) _)
            by_cases hk2 : y1 = 2
            · subst hk2
              have HS2 := Lib.hid (HSS.out rfl)
              have HN2 := Lib.hid (HSN.out rfl)
              clear HSS HSN HSV
              obtain ⟨g, cap, hve, hgB, hgl, hgc⟩ := HOW2.out.cells
              subst hve
              obtain ⟨N, hNN⟩ : ∃ N, sn.length = N := ⟨_, rfl⟩
              have HNN : Hid (sn.length = N) := hNN
              rw [hNN] at hLn HOA ⊢
              have HGC : Hid (∀ (j : Nat) (e : ty.Et), sn[j]? = some e → ∀ W, Below wr.heap.size wr W → W.cell? ⟨g, j * 4 + 2, none⟩ = some (.string e.fData) ∧ W.cell? ⟨g, j * 4 + 3, none⟩ = some (.bool e.fExec)) := fun j e he W h => by
                obtain ⟨k2, k3⟩ := hgc j e he
                exact ⟨(h.cell (p := ⟨g, _, none⟩) hgl).trans k2, (h.cell (p := ⟨g, _, none⟩) hgl).trans k3⟩
              have hwr1 : IntKind.i64.wrap ((s0 : Int) + (y2.size : Int)) = (s0 : Int) + (y2.size : Int) := by rw [IntKind.wrap_i64]; omega
              obtain ⟨wo, rfl⟩ : ∃ wo, wo = wr := ⟨_, rfl⟩
              have HD2 : Hid (∀ W, Below (wo.heap.size + 1) (wo.alloc (.cells #[.string y0, .int .i64 2, .string y2, .bool y3] 39)) W → (W.cell? ⟨wo.heap.size, 0, none⟩ = some (.string y0) ∧ W.cell? ⟨wo.heap.size, 1, none⟩ = some (.int .i64 2)) ∧ W.cell? ⟨wo.heap.size, 2, none⟩ = some (.string y2) ∧ W.cell? ⟨wo.heap.size, 3, none⟩ = some (.bool y3)) := fun W h => by
                have K : ∀ j v, (#[Value.string y0, .int .i64 2, .string y2, .bool y3] : Array Value)[j]? = some v → W.cell? ⟨wo.heap.size, j, none⟩ = some v := fun j v hj => by
                  have h1 : (wo.alloc (.cells #[Value.string y0, .int .i64 2, .string y2, .bool y3] 39)).cell? ⟨wo.heap.size, j, none⟩ = _ := World.cell?_alloc_new wo _ _ j
                  rw [hj] at h1
                  exact (h.cell (p := ⟨wo.heap.size, j, none⟩) (Nat.lt_succ_self _)).trans h1
                exact ⟨⟨K 0 _ rfl, K 1 _ rfl⟩, K 2 _ rfl, K 3 _ rfl⟩
              have HBX0 : Hid (∀ W, Below (wo.heap.size + 1) (wo.alloc (.cells #[.string y0, .int .i64 2, .string y2, .bool y3] 39)) W → Below wo.heap.size wo W) := fun W h => ((Below.refl _ _).alloc (Nat.le_refl _) _).trans (h.mono (Nat.le_succ _))
              have HOW3 : Hid (OwE w1.heap.size wo (.slice (some ⟨g, 0, none⟩) N cap) sn) := by rw [← hNN]; exact HOW2.out
              have HSZ : Hid (w.heap.size ≤ w1.heap.size ∧ w1.heap.size ≤ g ∧ g < wo.heap.size) := ⟨HWS.out, hgB, hgl⟩
              have hz9 : w1.heap.size ≤ wo.heap.size := by omega
              clear hgc hNN
              go_wp2
              go_loopw [8, 9] (fun v z wx => ∃ j : Nat, j ≤ N ∧ z = .int .i64 (j : Int) ∧ v = .bool (decide (cn y ∈ (sn.take j).map cn)) ∧ Below (wo.heap.size + 1) (wo.alloc (.cells #[.string y0, .int .i64 2, .string y2, .bool y3] 39)) wx) (fun _ z _ => N - (intOf z).toNat)
              case atStart => exact ⟨0, Nat.zero_le _, rfl, by simp, Below.refl _ _⟩
              case round =>
                obtain ⟨j, hj, rfl, rfl, hbx⟩ := hrel
                have HBX : Hid (Below w.heap.size w wr) := HBE2.out.trans ((HBX0.out _ hbx).mono HBE2.out.size)
                have HOX3 : Hid (OwE w1.heap.size wr (.slice (some ⟨g, 0, none⟩) N cap) sn) := HOW3.out.below (HBX0.out _ hbx)
                have HBJ : Hid (Below (wo.heap.size + 1) (wo.alloc (.cells #[.string y0, .int .i64 2, .string y2, .bool y3] 39)) wr) := hbx
                by_cases hjN : j < N
                · have hjN' : (j : Int) < (N : Int) := by omega
                  have hj0 : (0 : Int) ≤ (j : Int) := by omega
                  obtain ⟨e, he⟩ : ∃ e, sn[j]? = some e := ⟨_, List.getElem?_eq_getElem (by rw [HNN.out]; exact hjN)⟩
                  have HTK : Hid (sn.take (j + 1) = sn.take j ++ [e]) := by show _ = _; rw [List.take_add_one, he]; rfl
                  by_cases hcm : cn y ∈ (sn.take j).map cn
                  · have hmm : cn y ∈ sn.map cn := by
                      obtain ⟨z, hz, ez⟩ := List.mem_map.1 hcm
                      exact List.mem_map.2 ⟨z, List.mem_of_mem_take hz, ez⟩
                    have HSE : Hid (stO qk y = (sn, s0 + y2.size)) := HS2.out hmm
                    have d2 := (HD2.out _ hbx).2.1
                    rw [decide_eq_true hcm]
                    clear hcm hmm hbx HS2 HN2 he HTK
                    go_wp2
                    go_roundw
                    case rel => exact ⟨k + 1, by omega, by go_num, by rw [HST.out, HSE.out]; first | rfl | simp, by rw [HST.out]; exact HBK.out, by rw [HST.out, HSE.out]; exact HOX3.out, HBX.out⟩
                    case measure => simp [intOf]; omega
                  · rw [decide_eq_false hcm]
                    obtain ⟨g2, g3⟩ := HGC.out j e he wr (HBX0.out _ hbx)
                    obtain ⟨_, d2, d3⟩ := HD2.out _ hbx
                    have HNX : Hid (decide (cn y ∈ (sn.take (j + 1)).map cn) = decide (cn y = cn e)) := by
                      show _ = _
                      rw [HTK.out, List.map_append, Bool.eq_iff_iff, decide_eq_true_eq, decide_eq_true_eq, List.mem_append]
                      exact ⟨fun h => h.elim (fun h => absurd h hcm) (fun h => by simpa using h), fun h => .inr (by simpa using h)⟩
                    have HCE : Hid (cn e = (e.fData.data.toList, e.fExec)) := rfl
                    obtain ⟨f2, hf2⟩ : ∃ z, e.fData = z := ⟨_, rfl⟩
                    obtain ⟨f3, hf3⟩ : ∃ z, e.fExec = z := ⟨_, rfl⟩
                    rw [hf2] at g2 HCE
                    rw [hf3] at g3 HCE
                    have HBQ : Hid (∀ m, Below (wo.heap.size + 1) (wo.alloc (.cells #[.string y0, .int .i64 2, .string y2, .bool y3] 39)) (wr.drewN m)) := fun m => below_drewN HBJ.out _
                    clear hbx hcm HTK he hf2 hf3 HS2 HN2
                    cases he2 : (f2.toList == y2.toList) with
                    | false =>
                      have HV : Hid (decide (cn y = cn e) = false) := decide_eq_false fun h => by
                        rw [HCN.out, HCE.out] at h
                        have h1 := congrArg Prod.fst h
                        simp only [← ByteArray.toList_eq] at h1
                        rw [h1] at he2
                        simp at he2
                      go_wp2
                      go_quiet (fail)
                      go_wp2
                      go_roundw
                      case rel => exact ⟨j + 1, by omega, by go_num, by rw [HNX.out, HV.out], by first | exact HBQ.out _ | exact HBJ.out | exact HBJ.out.drew⟩
                      case measure => simp [intOf]; omega
                    | true =>
                      have hf : f2.data.toList = y2.data.toList := by
                        rw [← ByteArray.toList_eq, ← ByteArray.toList_eq]
                        simpa using he2
                      have HV : Hid (decide (cn y = cn e) = (f3 == y3)) := by
                        show _ = _
                        rw [HCN.out, HCE.out, hf]
                        cases f3 <;> cases y3 <;> simp
                      obtain ⟨bx, hbx⟩ : ∃ b, (f3 == y3) = b := ⟨_, rfl⟩
                      rw [hbx] at HV
                      clear hf
                      go_wp2
                      go_quiet (fail)
                      go_wp2
                      go_roundw
                      case rel => exact ⟨j + 1, by omega, by go_num, by rw [HNX.out, HV.out], by first | exact HBQ.out _ | exact HBJ.out | exact HBJ.out.drew⟩
                      case measure => simp [intOf]; omega
                · have hjN' : ¬ (j : Int) < (N : Int) := by omega
                  obtain rfl : j = N := by omega
                  have HTA : Hid (sn.take j = sn) := List.take_of_length_le (by rw [HNN.out]; exact Nat.le_refl _)
                  rw [HTA.out]
                  by_cases hmm : cn y ∈ sn.map cn
                  · have HSE : Hid (stO qk y = (sn, s0 + y2.size)) := HS2.out hmm
                    have d2 := (HD2.out _ hbx).2.1
                    rw [decide_eq_true hmm]
                    clear hmm hbx HS2 HN2
                    go_wp2
                    go_roundw
                    case rel => exact ⟨k + 1, by omega, by go_num, by rw [HST.out, HSE.out]; first | rfl | simp, by rw [HST.out]; exact HBK.out, by rw [HST.out, HSE.out]; exact HOX3.out, HBX.out⟩
                    case measure => simp [intOf]; omega
                  · have HSE : Hid (stO qk y = (sn ++ [y], s0)) := HN2.out hmm
                    obtain ⟨⟨d0, d1⟩, d2, d3⟩ := HD2.out _ hbx
                    rw [decide_eq_false hmm]
                    have HNW : Hid (∀ j u, [Value.string y.fPath, .int .i64 y.fKind, .string y.fData, .bool y.fExec][j]? = some u → (wr.alloc (.cells #[.string y0, .int .i64 2, .string y2, .bool y3] 39)).cell? ((⟨wr.heap.size, 0, none⟩ : Addr).add j) = some u) := by
                      obtain ⟨e1, e2, e3, e4⟩ := HYF.out
                      rw [e1, e2, e3, e4]
                      exact four_new wr _ _ _ _ _
                    have HO9 : Hid (∀ ob, OwE w1.heap.size (wr.alloc ob) (.slice (some ⟨g, 0, none⟩) j cap) sn) := fun ob => HOX3.out.below ((Below.refl _ _).alloc (Nat.le_refl _) _)
                    have HB9 : Hid (∀ ob, Below w.heap.size w (wr.alloc ob)) := fun ob => HBX.out.alloc HBX.out.size _
                    have HZ9 : Hid (∀ ob, w1.heap.size ≤ (wr.alloc ob).heap.size) := fun ob => by
                      have h1 := HBJ.out.size
                      rw [World.size_alloc] at h1 ⊢
                      omega
                    clear hmm hbx HS2 HN2
                    go_wp2_with (first
                      | (at_builtin; refine app_en _ rfl _ _ rfl w1.heap.size _ sn rfl (HO9.out _) ⟨wr.heap.size, 0, none⟩ 1 y rfl HNW.out (by have := HNN.out; omega) (HZ9.out _) ?_; intro v6 w6 hown6 hg6; refine Hid.out ?_)
                      | go_in)
                    refine Lib.hid ?_
                    have HO6 : Hid (OwE w1.heap.size w6 v6 (sn ++ [y])) := hown6
                    have HB6 : Hid (Below w.heap.size w w6) := (HB9.out _).grown hg6 (HB9.out _).size (fun k hk => by have : g = k := Option.some.inj hk; have := HSZ.out; omega)
                    clear hown6 hg6
                    go_wp2
                    go_roundw
                    case rel => exact ⟨k + 1, by omega, by go_num, by rw [HST.out, HSE.out], by rw [HST.out]; exact HBK.out, by rw [HST.out, HSE.out]; exact HO6.out, HB6.out⟩
                    case measure => simp [intOf]; omega
            · have HSE : Hid (stO qk y = qk) := HSV.out hk2
              clear HSS HSN HSV
              go_wp2
              go_roundw
              case rel => exact ⟨k + 1, by omega, by go_num, by rw [HST.out, HSE.out, HS1.out.2], by rw [HST.out]; exact HBK.out, by rw [HST.out, HSE.out, HS1.out.1]; exact HOA.out _, HBA.out _⟩
              case measure => simp [intOf]; omega
          · have hkl' : ¬ (k : Int) < (m4 : Int) := by omega
            obtain rfl : k = m4 := by omega
            have HET : Hid (opE q (tl.take k) = opI (ps.take (i + 1))) := by show _ = _; rw [HOX.out, List.take_of_length_le (by rw [HM4.out]; exact Nat.le_refl _)]
            have HBN : Hid (BdO (i + 1) 0 (opI (ps.take (i + 1)))) := by show BdO _ _ _; rw [← HET.out]; exact HBD2.out.next (by omega)
            clear hbd how hbel
            go_wp2
            go_roundw
            case rel => exact ⟨i + 1, by omega, by go_num, by rw [HET.out], HBN.out, by rw [← HET.out]; exact HOW2.out, HBE2.out⟩
            case measure => simp [intOf]; omega
      · have hil' : ¬ (i : Int) < (n : Int) := by omega
        obtain rfl : i = n := by omega
        have HPT : Hid (ps.take i = ps) := List.take_of_length_le (by rw [HN.out]; exact Nat.le_refl _)
        clear hbel
        go_wp2
        go_ret
        exact ⟨by rw [HE.out, HPT.out]; rfl, HBE.out⟩

end Go.Proofs.YtanidjjmamlooaaGreatDoor.so

namespace Go.Proofs.YtanidjjmamlooaaGreatDoor.so
open Go.ChangeShapes Go.WideShapes Go.ChangeAt Go.RowKit Go.Deep Go.Shelf Go.Maps
set_option linter.unusedVariables false
set_option linter.unusedSimpArgs false

/-! ### FnExactOptimise's walk -/

set_option maxHeartbeats 2000000 in
set_option maxRecDepth 100000 in
theorem opt_law (a0 : Option Addr) (cap0 : Nat) (ps : List ty.It) (w : World) (hm : tt.ML w) (hT : wd.TabB w) (hb : ty.SrcIt none w a0 ps) (hs : ty.SmIt ps) :
    Calls Tryz.prog 3 #[.slice a0 ps.length cap0] w fun e w' => e = .returned (.bool true) ∧ Below w.heap.size w w' := by
  have HSZ : Hid (Calls Tryz.prog 4 #[.slice a0 ps.length cap0, .int .i64 1048576] w fun e w' => (∃ r : Int, e = .returned (.int .i64 r) ∧ (r = -1 ∨ 0 ≤ r ∧ r = 1048576 - (ty.wtIt ps : Int))) ∧ Below w.heap.size w w') := ty.szIt_any a0 cap0 ps 1048576 w hb hs ⟨by omega, by omega⟩
  have HTO : Hid (∀ W, Below w.heap.size w W → ty.wtIt ps ≤ 1048576 → Calls Tryz.prog 6 #[.slice a0 ps.length cap0] W fun e w' => e = .returned (.slice (some ⟨W.heap.size, 0, none⟩) ps.length ps.length) ∧ ty.SrcIt (some W.heap.size) w' (some ⟨W.heap.size, 0, none⟩) ps ∧ Below W.heap.size W w') := fun W h hw => ty.toIt_any a0 cap0 ps W (hb.below h) hw
  have HT : Hid (tt.ML w ∧ wd.TabB w) := ⟨hm, hT⟩
  clear hb hs hm hT
  obtain ⟨n, hnn⟩ : ∃ n, ps.length = n := ⟨_, rfl⟩
  have HSP : Hid (∀ (lo : Nat) (a : Option Addr) (c : Nat) W, ty.SrcIt (some lo) W a ps → ty.wtIt ps ≤ 1048576 → Calls Tryz.prog 5 #[.slice a n c] W fun e w' => e = .returned (.int .i64 (optA ps)) ∧ Below W.heap.size W w') := fun lo a c W h hw => by rw [← hnn]; exact sopt_any lo a c ps W h hw
  have HIP : Hid (∀ (lo : Nat) (a : Option Addr) (c : Nat) W, ty.SrcIt (some lo) W a ps → ty.wtIt ps ≤ 1048576 → tt.ML W → wd.TabB W → Calls Tryz.prog 7 #[.slice a n c] W fun e w' => e = .returned (.int .i64 (optA ps)) ∧ Below W.heap.size W w') := fun lo a c W h hw hm ht => by rw [← hnn]; exact iopt_any lo a c ps W h hw hm ht
  have HEQ : Hid (∀ (a a' : Option Addr) (c c' : Nat) W, ty.SrcIt none W a ps → ty.SrcIt none W a' ps → ty.wtIt ps ≤ 1048576 → Calls Tryz.prog 8 #[.slice a n c, .slice a' n c'] W fun e w' => e = .returned (.bool true) ∧ Below W.heap.size W w') := fun a a' c c' W h h' hw => by rw [← hnn]; exact ty.eqIt_any a a' c c' ps W h h' hw
  rw [hnn] at HSZ HTO ⊢
  clear hnn
  obtain ⟨V, hV⟩ : ∃ V, optA ps = V := ⟨_, rfl⟩
  rw [hV] at HSP HIP
  clear hV
  go_enter Tryz.func3, Tryz.ntmps3
  go_wp2_with (go_at_call 4; refine HSZ.out.mono ?_; rintro e w1 ⟨⟨r, rfl, hr⟩, hl1⟩)
  · go_ret
    exact ⟨rfl, hl1⟩
  · have HW : Hid (ty.wtIt ps ≤ 1048576) := by
      have h := hr.resolve_left (by omega)
      show _ ≤ _
      omega
    clear hr
    have s1 := hl1.size
    go_wp2_with (go_at_call 6; refine (HTO.out _ hl1 HW.out).mono ?_; rintro e w2 ⟨rfl, ho2, hl2⟩; refine Hid.out ?_)
    refine Lib.hid ?_
    have HS2 : Hid (ty.SrcIt (some w1.heap.size) w2 (some ⟨w1.heap.size, 0, none⟩) ps) := ho2
    clear ho2
    go_wp2_with (go_at_call 5; refine (HSP.out _ _ _ _ HS2.out HW.out).mono ?_; rintro e w3 ⟨rfl, hl3⟩; refine Hid.out ?_)
    refine Lib.hid ?_
    have B3 : Below w.heap.size w w3 := (hl1.trans (hl2.mono hl1.size)).trans (hl3.mono (Nat.le_trans hl1.size hl2.size))
    clear HS2
    go_wp2_with (go_at_call 6; refine (HTO.out _ B3 HW.out).mono ?_; rintro e w4 ⟨rfl, ho4, hl4⟩; refine Hid.out ?_)
    refine Lib.hid ?_
    have HS4 : Hid (ty.SrcIt (some w3.heap.size) w4 (some ⟨w3.heap.size, 0, none⟩) ps) := ho4
    have B4 : Below w.heap.size w w4 := B3.trans (hl4.mono B3.size)
    clear ho4
    go_wp2_with (go_at_call 7; refine (HIP.out _ _ _ _ HS4.out HW.out (HT.out.1.below B4) (HT.out.2.below B4)).mono ?_; rintro e w5 ⟨rfl, hl5⟩; refine Hid.out ?_)
    refine Lib.hid ?_
    have HS5 : Hid (ty.SrcIt none w5 (some ⟨w3.heap.size, 0, none⟩) ps) := (HS4.out.below hl5).any
    have B5 : Below w.heap.size w w5 := B4.trans (hl5.mono B4.size)
    clear HS4
    go_wp2_with (go_at_call 6; refine (HTO.out _ B5 HW.out).mono ?_; rintro e w6 ⟨rfl, ho6, hl6⟩; refine Hid.out ?_)
    refine Lib.hid ?_
    have HS6 : Hid (ty.SrcIt none w6 (some ⟨w5.heap.size, 0, none⟩) ps) := ho6.any
    have HX6 : Hid (ty.SrcIt none w6 (some ⟨w3.heap.size, 0, none⟩) ps) := HS5.out.below hl6
    have B6 : Below w.heap.size w w6 := B5.trans (hl6.mono B5.size)
    clear ho6
    go_wp2_with (go_at_call 8; refine (HEQ.out _ _ _ _ _ HX6.out HS6.out HW.out).mono ?_; rintro e w7 ⟨rfl, hl7⟩)
    go_ret
    exact ⟨rfl, B6.trans (hl7.mono B6.size)⟩

end Go.Proofs.YtanidjjmamlooaaGreatDoor.so

