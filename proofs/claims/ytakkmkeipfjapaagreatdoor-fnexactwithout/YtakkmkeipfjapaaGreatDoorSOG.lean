import Derived.Test.YtakkmkeipfjapaaGreatDoorSO1
import Derived.Deep.RegionHeld3
namespace Go.Proofs.YtakkmkeipfjapaaGreatDoor.so
open Go.ChangeShapes Go.WideShapes Go.ChangeAt Go.RowKit Go.Deep Go.Shelf
set_option linter.unusedVariables false
set_option linter.unusedSimpArgs false

/-! ### Stores: the specification's item -/

/-- One move of a region that draws: an operation that is wanted. -/
theorem tkH {P : Program} {ops : Array Oper} {Q : Exit → Act → World → Prop} {md : Region.Mode} {S : World → Prop} {i : Nat} {oi : Oper} {v : Value} {fuel : Nat} {listed : Array Bool} {a : Act} {w : World} (hi : ops[i]? = some oi)
    (hy : ∀ w, S w → (execOp a.eval oi).run P w = .ok (.value v) w) (h : wpAnyH P md ops Q S fuel (listed.setIfInBounds i true) (a.put oi.dst v) w)
    (hs : Region.noSelect ops = true := by kernel_rfl) (hf : Region.free md ops listed i = true := by kernel_rfl) (hr : (Region.ready md ops listed).contains i = true := by kernel_rfl)
    (hQ : ∀ c a w, Q (.panic c) (a.put oi.dst v) w → Q (.panic c) a w := by exact fun _ _ _ h => h) (hw : Region.wanted oi (yielded ops a.tmps) = true := by rfl) (hS : S w := by assumption) : wpAnyH P md ops Q S (fuel + 1) listed a w :=
  wpAnyH_take hi hs hf hr hQ (Or.inl ⟨hw, hy⟩) hS h

/-- One move: an operation whose guard is false. -/
theorem skH {P : Program} {ops : Array Oper} {Q : Exit → Act → World → Prop} {md : Region.Mode} {S : World → Prop} {i : Nat} {oi : Oper} {fuel : Nat} {listed : Array Bool} {a : Act} {w : World} (hi : ops[i]? = some oi)
    (h : wpAnyH P md ops Q S fuel (listed.setIfInBounds i true) (a.put oi.dst undef) w)
    (hs : Region.noSelect ops = true := by kernel_rfl) (hf : Region.free md ops listed i = true := by kernel_rfl) (hr : (Region.ready md ops listed).contains i = true := by kernel_rfl)
    (hQ : ∀ c a w, Q (.panic c) (a.put oi.dst undef) w → Q (.panic c) a w := by exact fun _ _ _ h => h) (hw : Region.wanted oi (yielded ops a.tmps) = false := by rfl) (hS : S w := by assumption) : wpAnyH P md ops Q S (fuel + 1) listed a w :=
  wpAnyH_take hi hs hf hr hQ (Or.inr ⟨hw, rfl⟩) hS h

/-- An item of such parts is right among these Paths. -/
noncomputable def itP (pa su fr : ByteArray) (l : List ByteArray) (E : Nat → tt.En) (n : Nat) (zs : List (List UInt8)) : Bool := wd.aokB pa && (tt.treeB E n && (decide (su = tt.tsB E n) && (frB fr && eqT l (rf.rfs E n zs))))

theorem beq_dec (a b : ByteArray) : (a.toList == b.toList) = decide (a = b) := by
  rw [Bool.eq_iff_iff]
  simp only [beq_iff_eq, decide_eq_true_eq]
  constructor
  · intro e
    apply ByteArray.ext
    apply Array.ext'
    rw [ByteArray.toList_eq, ByteArray.toList_eq] at e
    exact e
  · rintro rfl; rfl

set_option maxRecDepth 100000 in
set_option maxHeartbeats 8000000 in
theorem sitem_any (pa su fr : ByteArray) (l : List ByteArray) (E : Nat → tt.En) (zs : List (List UInt8)) (a2 : Option Addr) (c2 b o n c4 bb off xc : Nat) (w : World) (hp : pa.size ≤ 1048576) (hf : fr.size ≤ 1048576) (s2 : ty.SrcS none w a2 l) (hl : l.length ≤ 1048576)
    (hR : tt.EnR w b o n E) (hS : tt.SmE n E) (hn : n ≤ 1048576) (hc : n ≤ c4) (hcm : c4 ≤ maxLen) (hz : ∀ i x, zs[i]? = some x → w.cell? ⟨bb, off + i, none⟩ = some (sr.strL x)) (hzx : ∀ x ∈ zs, x.length ≤ 1048576) (hzl : zs.length ≤ 2000) :
    Calls Tryz.prog 49 #[.agg #[.string pa, .string su, .slice a2 l.length c2, .string fr, .slice (some ⟨b, o, none⟩) n c4], .slice (some ⟨bb, off, none⟩) zs.length xc] w fun e w' => e = .returned (.bool (itP pa su fr l E n zs)) ∧ Below w.heap.size w w' := by
  have HPA : Hid (∀ W : World, Below w.heap.size w W → Calls Tryz.prog 39 #[.string pa] W fun e w' => e = .returned (.bool (wd.aokB pa)) ∧ Below W.heap.size W w') := fun W _ => (wd.aspec_any pa hp W).mono fun e w' ⟨h1, h2⟩ => ⟨h1, by rw [h2]; exact Below.refl _ _⟩
  have HFR : Hid (∀ W : World, Below w.heap.size w W → Calls Tryz.prog 39 #[.string fr] W fun e w' => e = .returned (.bool (wd.aokB fr)) ∧ Below W.heap.size W w') := fun W _ => (wd.aspec_any fr hf W).mono fun e w' ⟨h1, h2⟩ => ⟨h1, by rw [h2]; exact Below.refl _ _⟩
  have HTR : Hid (∀ W : World, Below w.heap.size w W → Calls Tryz.prog 40 #[.slice (some ⟨b, o, none⟩) n c4] W fun e w' => e = .returned (.bool (tt.treeB E n)) ∧ Below W.heap.size W w') := fun W h => tt.stree_any E b o n c4 W (hR.below h) hS hn hc hcm
  have HTS : Hid (∀ W : World, Below w.heap.size w W → Calls Tryz.prog 63 #[.slice (some ⟨b, o, none⟩) n c4] W fun e w' => e = .returned (.string (tt.tsB E n)) ∧ Below W.heap.size W w') := fun W h => tt.stsum_any E b o n c4 W (hR.below h) hS hn hc hcm
  have HRF : Hid (∀ W : World, Below w.heap.size w W → Calls Tryz.prog 65 #[.slice (some ⟨b, o, none⟩) n c4, .slice (some ⟨bb, off, none⟩) zs.length xc] W fun e w' => (∃ v, e = .returned v ∧ sr.StrR w' v (rf.rfs E n zs)) ∧ Below W.heap.size W w') := fun W h => rf.srefs_any E b o n c4 zs bb off xc W (hR.below h) hS hn (fun i x hx => (h.cell (p := ⟨bb, off + i, none⟩) (World.block_lt_of_cell? _ _ (hz i x hx))).trans (hz i x hx)) hzx hzl
  obtain ⟨rs, hrs⟩ : ∃ rs, rf.rfs E n zs = rs := ⟨_, rfl⟩
  have HST : Hid (∀ (W : World) (v : Value), Below w.heap.size w W → sr.StrR W v rs → Calls Tryz.prog 76 #[.slice a2 l.length c2, v] W fun e w' => e = .returned (.bool (eqT l rs)) ∧ Below W.heap.size W w') := fun W v h hr => same_texts a2 c2 l rs v W (s2.below h) hl hr
  have HE : Hid (itP pa su fr l E n zs = (wd.aokB pa && (tt.treeB E n && (decide (su = tt.tsB E n) && (frB fr && eqT l rs))))) := by show _ = _; rw [← hrs]; rfl
  rw [hrs] at HRF
  have HSU := beq_dec su (tt.tsB E n)
  obtain ⟨V, hV⟩ : ∃ V, itP pa su fr l E n zs = V := ⟨_, rfl⟩
  rw [hV] at HE ⊢
  obtain ⟨TS, hTS⟩ : ∃ TS, tt.tsB E n = TS := ⟨_, rfl⟩
  rw [hTS] at HTS HE HSU
  obtain ⟨b1, hb1⟩ : ∃ z, wd.aokB pa = z := ⟨_, rfl⟩
  obtain ⟨b2, hb2⟩ : ∃ z, tt.treeB E n = z := ⟨_, rfl⟩
  obtain ⟨b3, hb3⟩ : ∃ z, decide (su = TS) = z := ⟨_, rfl⟩
  obtain ⟨b5, hb5⟩ : ∃ z, eqT l rs = z := ⟨_, rfl⟩
  rw [hb1] at HPA HE
  rw [hb2] at HTR HE
  rw [hb3] at HSU HE
  rw [hb5] at HST HE
  obtain ⟨m2, hm2⟩ : ∃ m, l.length = m := ⟨_, rfl⟩
  rw [hm2] at HST ⊢
  obtain ⟨mz, hmz⟩ : ∃ m, zs.length = m := ⟨_, rfl⟩
  rw [hmz] at HRF ⊢
  clear hb1 hb2 hb3 hb5 hV hTS hrs hm2 hmz s2 hR hS hz hzx
  obtain ⟨W1, hW1⟩ : ∃ W1, W1 = w.alloc (.cells #[.string pa, .string su, .slice a2 m2 c2, .string fr, .slice (some ⟨b, o, none⟩) n c4] 50) := ⟨_, rfl⟩
  have HBR : Hid (Below w.heap.size w W1) := by show Below _ _ _; rw [hW1]; exact (Below.refl _ _).alloc (Nat.le_refl _) _
  have HD1 : Hid (Below W1.heap.size W1 (w.alloc (.cells #[.string pa, .string su, .slice a2 m2 c2, .string fr, .slice (some ⟨b, o, none⟩) n c4] 50)).drew) := by show Below _ _ _; rw [← hW1]; exact (Below.refl _ _).drew
  have HD1R : Hid (Below w.heap.size w (w.alloc (.cells #[.string pa, .string su, .slice a2 m2 c2, .string fr, .slice (some ⟨b, o, none⟩) n c4] 50)).drew) := ((Below.refl _ _).alloc (Nat.le_refl _) _).drew
  have HCB : Hid (∀ w' : World, Below W1.heap.size W1 w' → w'.cell? ⟨w.heap.size, 0, none⟩ = some (.string pa) ∧ w'.cell? ⟨w.heap.size, 1, none⟩ = some (.string su) ∧ w'.cell? ⟨w.heap.size, 2, none⟩ = some (.slice a2 m2 c2) ∧ w'.cell? ⟨w.heap.size, 3, none⟩ = some (.string fr) ∧ w'.cell? ⟨w.heap.size, 4, none⟩ = some (.slice (some ⟨b, o, none⟩) n c4)) := fun w' hb => by
    have k := (bcell hb).1 w.heap.size
    rw [k 0 (by rw [hW1]; simp), k 1 (by rw [hW1]; simp), k 2 (by rw [hW1]; simp), k 3 (by rw [hW1]; simp), k 4 (by rw [hW1]; simp), hW1]
    exact ⟨by simp [go_sem], by simp [go_sem], by simp [go_sem], by simp [go_sem], by simp [go_sem]⟩
  clear hW1
  go_enter Tryz.func49, Tryz.ntmps49
  go_upto_region 1 with fail
  cases b1 with
  | false =>
    have HV : Hid (V = false) := HE.out
    clear HE
    try go_wp2_with fail
    refine wp_region_held_drew (S := fun w' => w'.cell? ⟨w.heap.size, 0, none⟩ = some (.string pa) ∧ w'.cell? ⟨w.heap.size, 1, none⟩ = some (.string su) ∧ w'.cell? ⟨w.heap.size, 2, none⟩ = some (.slice a2 m2 c2) ∧ w'.cell? ⟨w.heap.size, 3, none⟩ = some (.string fr) ∧ w'.cell? ⟨w.heap.size, 4, none⟩ = some (.slice (some ⟨b, o, none⟩) n c4)) (by kernel_rfl) (HCB.out _ (HD1.out)) (fun hHeld => ?_)
    refine tkH (i := 0) (oi := ⟨some 5, .fieldAddr 50 (.tmp 2) 0, 0, "l12_store.go:26", #[], none⟩) (v := ?v1) rfl ?y1 ?r1
    case y1 => (intro w hSw; (try dsimp only at hSw); go_simp; try with_reducible rfl)
    try simp only [Act.put, List.setIfInBounds_toArray, List.set_cons_zero, List.set_cons_succ]
    refine tkH (i := 1) (oi := ⟨some 6, .load 9 (.tmp 5), 9, "l12_store.go:26", #[⟨0, .data⟩], none⟩) (v := ?v2) rfl ?y2 ?r2
    case y2 => (intro w hSw; (try dsimp only at hSw); go_simp; try with_reducible rfl)
    try simp only [Act.put, List.setIfInBounds_toArray, List.set_cons_zero, List.set_cons_succ]
    refine wpAnyH_ready (rs := [2]) (by kernel_rfl) (by simp) ?_
    refine AllReadyH.cons (o := ⟨some 7, .call { callee := .value (.func 39), args := #[.tmp 6], argTypes := #[9] }, 4, "l12_store.go:26", #[⟨1, .data⟩], none⟩) rfl (fun K hK => ?_) AllReadyH.nil
    go_simp
    (go_at_call 39; refine (HPA.out _ (HD1R.out)).mono ?_; rintro e v1 ⟨rfl, hlv1⟩; have hbv1 : Below W1.heap.size W1 v1 := (HD1.out).trans (hlv1.mono (HD1.out).size); have hrv1 : Below w.heap.size w v1 := (HD1R.out).trans (hlv1.mono (HD1R.out).size))
    try go_wp2_with fail
    refine hK.out _ _ (HCB.out _ (hbv1)) (fun hHeld => ?_)
    clear hK K
    try simp only [Act.put, List.setIfInBounds_toArray, List.set_cons_zero, List.set_cons_succ]
    refine tkH (i := 3) (oi := ⟨some 8, .move (.tmp 7), 4, "l12_store.go:26", #[⟨2, .data⟩, ⟨2, .chain⟩], none⟩) (v := ?v3) rfl ?y3 ?r3
    case y3 => (intro w hSw; (try dsimp only at hSw); go_simp; try with_reducible rfl)
    try simp only [Act.put, List.setIfInBounds_toArray, List.set_cons_zero, List.set_cons_succ]
    refine skH (i := 4) (oi := ⟨some 9, .fieldAddr 50 (.tmp 2) 4, 0, "l12_store.go:26", #[⟨3, .guard⟩], some (3, true)⟩) rfl ?_
    try simp only [Act.put, List.setIfInBounds_toArray, List.set_cons_zero, List.set_cons_succ]
    refine skH (i := 5) (oi := ⟨some 10, .load 39 (.tmp 9), 39, "l12_store.go:26", #[⟨4, .data⟩, ⟨3, .guard⟩], some (3, true)⟩) rfl ?_
    try simp only [Act.put, List.setIfInBounds_toArray, List.set_cons_zero, List.set_cons_succ]
    refine skH (i := 6) (oi := ⟨some 11, .call { callee := .value (.func 40), args := #[.tmp 10], argTypes := #[39] }, 4, "l12_store.go:26", #[⟨5, .data⟩, ⟨3, .chain⟩, ⟨3, .guard⟩], some (3, true)⟩) rfl ?_
    try simp only [Act.put, List.setIfInBounds_toArray, List.set_cons_zero, List.set_cons_succ]
    refine tkH (i := 7) (oi := ⟨some 12, .pick (.tmp 8) (.tmp 11) (.const (.bool false)), 4, "l12_store.go:26", #[⟨3, .data⟩, ⟨6, .data⟩], none⟩) (v := ?v4) rfl ?y4 ?r4
    case y4 => (intro w hSw; (try dsimp only at hSw); go_simp; try with_reducible rfl)
    try simp only [Act.put, List.setIfInBounds_toArray, List.set_cons_zero, List.set_cons_succ]
    refine tkH (i := 8) (oi := ⟨some 13, .move (.tmp 12), 4, "l12_store.go:26", #[⟨7, .data⟩, ⟨6, .chain⟩], none⟩) (v := ?v5) rfl ?y5 ?r5
    case y5 => (intro w hSw; (try dsimp only at hSw); go_simp; try with_reducible rfl)
    try simp only [Act.put, List.setIfInBounds_toArray, List.set_cons_zero, List.set_cons_succ]
    refine skH (i := 9) (oi := ⟨some 14, .fieldAddr 50 (.tmp 2) 1, 0, "l12_store.go:26", #[⟨8, .guard⟩], some (8, true)⟩) rfl ?_
    try simp only [Act.put, List.setIfInBounds_toArray, List.set_cons_zero, List.set_cons_succ]
    refine skH (i := 10) (oi := ⟨some 15, .load 9 (.tmp 14), 9, "l12_store.go:26", #[⟨9, .data⟩, ⟨8, .guard⟩], some (8, true)⟩) rfl ?_
    try simp only [Act.put, List.setIfInBounds_toArray, List.set_cons_zero, List.set_cons_succ]
    refine skH (i := 11) (oi := ⟨some 16, .fieldAddr 50 (.tmp 2) 4, 0, "l12_store.go:26", #[⟨8, .guard⟩], some (8, true)⟩) rfl ?_
    try simp only [Act.put, List.setIfInBounds_toArray, List.set_cons_zero, List.set_cons_succ]
    refine skH (i := 12) (oi := ⟨some 17, .load 39 (.tmp 16), 39, "l12_store.go:26", #[⟨11, .data⟩, ⟨8, .guard⟩], some (8, true)⟩) rfl ?_
    try simp only [Act.put, List.setIfInBounds_toArray, List.set_cons_zero, List.set_cons_succ]
    refine skH (i := 13) (oi := ⟨some 18, .call { callee := .value (.func 63), args := #[.tmp 17], argTypes := #[39] }, 9, "l12_store.go:26", #[⟨12, .data⟩, ⟨8, .chain⟩, ⟨8, .guard⟩], some (8, true)⟩) rfl ?_
    try simp only [Act.put, List.setIfInBounds_toArray, List.set_cons_zero, List.set_cons_succ]
    refine skH (i := 14) (oi := ⟨some 19, .binOp .eql 9 (.tmp 15) (.tmp 18) 9, 4, "l12_store.go:26", #[⟨10, .data⟩, ⟨13, .data⟩, ⟨8, .guard⟩], some (8, true)⟩) rfl ?_
    try simp only [Act.put, List.setIfInBounds_toArray, List.set_cons_zero, List.set_cons_succ]
    refine tkH (i := 15) (oi := ⟨some 20, .pick (.tmp 13) (.tmp 19) (.const (.bool false)), 4, "l12_store.go:26", #[⟨8, .data⟩, ⟨14, .data⟩], none⟩) (v := ?v6) rfl ?y6 ?r6
    case y6 => (intro w hSw; (try dsimp only at hSw); go_simp; try with_reducible rfl)
    try simp only [Act.put, List.setIfInBounds_toArray, List.set_cons_zero, List.set_cons_succ]
    refine tkH (i := 16) (oi := ⟨some 21, .move (.tmp 20), 4, "l12_store.go:26", #[⟨15, .data⟩, ⟨13, .chain⟩], none⟩) (v := ?v7) rfl ?y7 ?r7
    case y7 => (intro w hSw; (try dsimp only at hSw); go_simp; try with_reducible rfl)
    try simp only [Act.put, List.setIfInBounds_toArray, List.set_cons_zero, List.set_cons_succ]
    refine skH (i := 17) (oi := ⟨some 22, .fieldAddr 50 (.tmp 2) 3, 0, "l12_store.go:26", #[⟨16, .guard⟩], some (16, true)⟩) rfl ?_
    try simp only [Act.put, List.setIfInBounds_toArray, List.set_cons_zero, List.set_cons_succ]
    refine skH (i := 18) (oi := ⟨some 23, .load 9 (.tmp 22), 9, "l12_store.go:26", #[⟨17, .data⟩, ⟨16, .guard⟩], some (16, true)⟩) rfl ?_
    try simp only [Act.put, List.setIfInBounds_toArray, List.set_cons_zero, List.set_cons_succ]
    refine skH (i := 19) (oi := ⟨some 24, .binOp .eql 9 (.tmp 23) (.const (.string { data := #[] })) 9, 4, "l12_store.go:26", #[⟨18, .data⟩, ⟨16, .guard⟩], some (16, true)⟩) rfl ?_
    try simp only [Act.put, List.setIfInBounds_toArray, List.set_cons_zero, List.set_cons_succ]
    refine skH (i := 20) (oi := ⟨some 25, .move (.tmp 24), 4, "l12_store.go:26", #[⟨19, .data⟩, ⟨16, .chain⟩, ⟨16, .guard⟩], some (16, true)⟩) rfl ?_
    try simp only [Act.put, List.setIfInBounds_toArray, List.set_cons_zero, List.set_cons_succ]
    refine skH (i := 21) (oi := ⟨some 26, .fieldAddr 50 (.tmp 2) 3, 0, "l12_store.go:26", #[⟨20, .guard⟩], some (20, false)⟩) rfl ?_
    try simp only [Act.put, List.setIfInBounds_toArray, List.set_cons_zero, List.set_cons_succ]
    refine skH (i := 22) (oi := ⟨some 27, .load 9 (.tmp 26), 9, "l12_store.go:26", #[⟨21, .data⟩, ⟨20, .guard⟩], some (20, false)⟩) rfl ?_
    try simp only [Act.put, List.setIfInBounds_toArray, List.set_cons_zero, List.set_cons_succ]
    refine skH (i := 23) (oi := ⟨some 28, .call { callee := .value (.func 39), args := #[.tmp 27], argTypes := #[9] }, 4, "l12_store.go:26", #[⟨22, .data⟩, ⟨20, .chain⟩, ⟨20, .guard⟩], some (20, false)⟩) rfl ?_
    try simp only [Act.put, List.setIfInBounds_toArray, List.set_cons_zero, List.set_cons_succ]
    refine skH (i := 24) (oi := ⟨some 29, .pick (.tmp 25) (.const (.bool true)) (.tmp 28), 4, "l12_store.go:26", #[⟨20, .data⟩, ⟨23, .data⟩, ⟨16, .guard⟩], some (16, true)⟩) rfl ?_
    try simp only [Act.put, List.setIfInBounds_toArray, List.set_cons_zero, List.set_cons_succ]
    refine tkH (i := 25) (oi := ⟨some 30, .pick (.tmp 21) (.tmp 29) (.const (.bool false)), 4, "l12_store.go:26", #[⟨16, .data⟩, ⟨24, .data⟩], none⟩) (v := ?v8) rfl ?y8 ?r8
    case y8 => (intro w hSw; (try dsimp only at hSw); go_simp; try with_reducible rfl)
    try simp only [Act.put, List.setIfInBounds_toArray, List.set_cons_zero, List.set_cons_succ]
    refine tkH (i := 26) (oi := ⟨some 31, .move (.tmp 30), 4, "l12_store.go:26", #[⟨25, .data⟩, ⟨23, .chain⟩], none⟩) (v := ?v9) rfl ?y9 ?r9
    case y9 => (intro w hSw; (try dsimp only at hSw); go_simp; try with_reducible rfl)
    try simp only [Act.put, List.setIfInBounds_toArray, List.set_cons_zero, List.set_cons_succ]
    refine skH (i := 27) (oi := ⟨some 32, .fieldAddr 50 (.tmp 2) 2, 0, "l12_store.go:26", #[⟨26, .guard⟩], some (26, true)⟩) rfl ?_
    try simp only [Act.put, List.setIfInBounds_toArray, List.set_cons_zero, List.set_cons_succ]
    refine skH (i := 28) (oi := ⟨some 33, .load 23 (.tmp 32), 23, "l12_store.go:26", #[⟨27, .data⟩, ⟨26, .guard⟩], some (26, true)⟩) rfl ?_
    try simp only [Act.put, List.setIfInBounds_toArray, List.set_cons_zero, List.set_cons_succ]
    refine skH (i := 29) (oi := ⟨some 34, .fieldAddr 50 (.tmp 2) 4, 0, "l12_store.go:26", #[⟨26, .guard⟩], some (26, true)⟩) rfl ?_
    try simp only [Act.put, List.setIfInBounds_toArray, List.set_cons_zero, List.set_cons_succ]
    refine skH (i := 30) (oi := ⟨some 35, .load 39 (.tmp 34), 39, "l12_store.go:26", #[⟨29, .data⟩, ⟨26, .guard⟩], some (26, true)⟩) rfl ?_
    try simp only [Act.put, List.setIfInBounds_toArray, List.set_cons_zero, List.set_cons_succ]
    refine skH (i := 31) (oi := ⟨some 36, .move (.tmp 1), 23, "l12_store.go:26", #[⟨26, .guard⟩], some (26, true)⟩) rfl ?_
    try simp only [Act.put, List.setIfInBounds_toArray, List.set_cons_zero, List.set_cons_succ]
    refine skH (i := 32) (oi := ⟨some 37, .call { callee := .value (.func 65), args := #[.tmp 35, .tmp 36], argTypes := #[39, 23] }, 23, "l12_store.go:26", #[⟨30, .data⟩, ⟨31, .data⟩, ⟨26, .chain⟩, ⟨26, .guard⟩], some (26, true)⟩) rfl ?_
    try simp only [Act.put, List.setIfInBounds_toArray, List.set_cons_zero, List.set_cons_succ]
    refine skH (i := 33) (oi := ⟨some 38, .call { callee := .value (.func 76), args := #[.tmp 33, .tmp 37], argTypes := #[23, 23] }, 4, "l12_store.go:26", #[⟨28, .data⟩, ⟨32, .data⟩, ⟨32, .chain⟩, ⟨26, .guard⟩], some (26, true)⟩) rfl ?_
    try simp only [Act.put, List.setIfInBounds_toArray, List.set_cons_zero, List.set_cons_succ]
    refine tkH (i := 34) (oi := ⟨some 39, .pick (.tmp 31) (.tmp 38) (.const (.bool false)), 4, "l12_store.go:26", #[⟨26, .data⟩, ⟨33, .data⟩], none⟩) (v := ?v10) rfl ?y10 ?r10
    case y10 => (intro w hSw; (try dsimp only at hSw); go_simp; try with_reducible rfl)
    try simp only [Act.put, List.setIfInBounds_toArray, List.set_cons_zero, List.set_cons_succ]
    refine tkH (i := 35) (oi := ⟨some 4, .assign (.tmp 39), 4, "l12_store.go:26", #[⟨34, .data⟩, ⟨33, .chain⟩, ⟨0, .phase⟩, ⟨1, .phase⟩, ⟨2, .phase⟩, ⟨3, .phase⟩, ⟨4, .phase⟩, ⟨5, .phase⟩, ⟨6, .phase⟩, ⟨7, .phase⟩, ⟨8, .phase⟩, ⟨9, .phase⟩, ⟨10, .phase⟩, ⟨11, .phase⟩, ⟨12, .phase⟩, ⟨13, .phase⟩, ⟨14, .phase⟩, ⟨15, .phase⟩, ⟨16, .phase⟩, ⟨17, .phase⟩, ⟨18, .phase⟩, ⟨19, .phase⟩, ⟨20, .phase⟩, ⟨21, .phase⟩, ⟨22, .phase⟩, ⟨23, .phase⟩, ⟨24, .phase⟩, ⟨25, .phase⟩, ⟨26, .phase⟩, ⟨27, .phase⟩, ⟨28, .phase⟩, ⟨29, .phase⟩, ⟨30, .phase⟩, ⟨31, .phase⟩, ⟨32, .phase⟩, ⟨33, .phase⟩, ⟨34, .phase⟩], none⟩) (v := ?v11) rfl ?y11 ?r11
    case y11 => (intro w hSw; (try dsimp only at hSw); go_simp; try with_reducible rfl)
    try simp only [Act.put, List.setIfInBounds_toArray, List.set_cons_zero, List.set_cons_succ]
    refine wpAnyH_done (by kernel_rfl) ?_ _
    go_wp2_with fail
    go_ret
    exact ⟨ret_bool HV.out.symm, hrv1⟩
  | true =>
  cases b2 with
  | false =>
    have HV : Hid (V = false) := HE.out
    clear HE
    try go_wp2_with fail
    refine wp_region_held_drew (S := fun w' => w'.cell? ⟨w.heap.size, 0, none⟩ = some (.string pa) ∧ w'.cell? ⟨w.heap.size, 1, none⟩ = some (.string su) ∧ w'.cell? ⟨w.heap.size, 2, none⟩ = some (.slice a2 m2 c2) ∧ w'.cell? ⟨w.heap.size, 3, none⟩ = some (.string fr) ∧ w'.cell? ⟨w.heap.size, 4, none⟩ = some (.slice (some ⟨b, o, none⟩) n c4)) (by kernel_rfl) (HCB.out _ (HD1.out)) (fun hHeld => ?_)
    refine tkH (i := 0) (oi := ⟨some 5, .fieldAddr 50 (.tmp 2) 0, 0, "l12_store.go:26", #[], none⟩) (v := ?v12) rfl ?y12 ?r12
    case y12 => (intro w hSw; (try dsimp only at hSw); go_simp; try with_reducible rfl)
    try simp only [Act.put, List.setIfInBounds_toArray, List.set_cons_zero, List.set_cons_succ]
    refine tkH (i := 1) (oi := ⟨some 6, .load 9 (.tmp 5), 9, "l12_store.go:26", #[⟨0, .data⟩], none⟩) (v := ?v13) rfl ?y13 ?r13
    case y13 => (intro w hSw; (try dsimp only at hSw); go_simp; try with_reducible rfl)
    try simp only [Act.put, List.setIfInBounds_toArray, List.set_cons_zero, List.set_cons_succ]
    refine wpAnyH_ready (rs := [2]) (by kernel_rfl) (by simp) ?_
    refine AllReadyH.cons (o := ⟨some 7, .call { callee := .value (.func 39), args := #[.tmp 6], argTypes := #[9] }, 4, "l12_store.go:26", #[⟨1, .data⟩], none⟩) rfl (fun K hK => ?_) AllReadyH.nil
    go_simp
    (go_at_call 39; refine (HPA.out _ (HD1R.out)).mono ?_; rintro e v1 ⟨rfl, hlv1⟩; have hbv1 : Below W1.heap.size W1 v1 := (HD1.out).trans (hlv1.mono (HD1.out).size); have hrv1 : Below w.heap.size w v1 := (HD1R.out).trans (hlv1.mono (HD1R.out).size))
    try go_wp2_with fail
    refine hK.out _ _ (HCB.out _ (hbv1)) (fun hHeld => ?_)
    clear hK K
    try simp only [Act.put, List.setIfInBounds_toArray, List.set_cons_zero, List.set_cons_succ]
    refine tkH (i := 3) (oi := ⟨some 8, .move (.tmp 7), 4, "l12_store.go:26", #[⟨2, .data⟩, ⟨2, .chain⟩], none⟩) (v := ?v14) rfl ?y14 ?r14
    case y14 => (intro w hSw; (try dsimp only at hSw); go_simp; try with_reducible rfl)
    try simp only [Act.put, List.setIfInBounds_toArray, List.set_cons_zero, List.set_cons_succ]
    refine tkH (i := 4) (oi := ⟨some 9, .fieldAddr 50 (.tmp 2) 4, 0, "l12_store.go:26", #[⟨3, .guard⟩], some (3, true)⟩) (v := ?v15) rfl ?y15 ?r15
    case y15 => (intro w hSw; (try dsimp only at hSw); go_simp; try with_reducible rfl)
    try simp only [Act.put, List.setIfInBounds_toArray, List.set_cons_zero, List.set_cons_succ]
    refine tkH (i := 5) (oi := ⟨some 10, .load 39 (.tmp 9), 39, "l12_store.go:26", #[⟨4, .data⟩, ⟨3, .guard⟩], some (3, true)⟩) (v := ?v16) rfl ?y16 ?r16
    case y16 => (intro w hSw; (try dsimp only at hSw); go_simp; try with_reducible rfl)
    try simp only [Act.put, List.setIfInBounds_toArray, List.set_cons_zero, List.set_cons_succ]
    refine wpAnyH_ready (rs := [6]) (by kernel_rfl) (by simp) ?_
    refine AllReadyH.cons (o := ⟨some 11, .call { callee := .value (.func 40), args := #[.tmp 10], argTypes := #[39] }, 4, "l12_store.go:26", #[⟨5, .data⟩, ⟨3, .chain⟩, ⟨3, .guard⟩], some (3, true)⟩) rfl (fun K hK => ?_) AllReadyH.nil
    go_simp
    (go_at_call 40; refine (HTR.out _ (hrv1)).mono ?_; rintro e v2 ⟨rfl, hlv2⟩; have hbv2 : Below W1.heap.size W1 v2 := (hbv1).trans (hlv2.mono (hbv1).size); have hrv2 : Below w.heap.size w v2 := (hrv1).trans (hlv2.mono (hrv1).size))
    try go_wp2_with fail
    refine hK.out _ _ (HCB.out _ (hbv2)) (fun hHeld => ?_)
    clear hK K
    try simp only [Act.put, List.setIfInBounds_toArray, List.set_cons_zero, List.set_cons_succ]
    refine tkH (i := 7) (oi := ⟨some 12, .pick (.tmp 8) (.tmp 11) (.const (.bool false)), 4, "l12_store.go:26", #[⟨3, .data⟩, ⟨6, .data⟩], none⟩) (v := ?v17) rfl ?y17 ?r17
    case y17 => (intro w hSw; (try dsimp only at hSw); go_simp; try with_reducible rfl)
    try simp only [Act.put, List.setIfInBounds_toArray, List.set_cons_zero, List.set_cons_succ]
    refine tkH (i := 8) (oi := ⟨some 13, .move (.tmp 12), 4, "l12_store.go:26", #[⟨7, .data⟩, ⟨6, .chain⟩], none⟩) (v := ?v18) rfl ?y18 ?r18
    case y18 => (intro w hSw; (try dsimp only at hSw); go_simp; try with_reducible rfl)
    try simp only [Act.put, List.setIfInBounds_toArray, List.set_cons_zero, List.set_cons_succ]
    refine skH (i := 9) (oi := ⟨some 14, .fieldAddr 50 (.tmp 2) 1, 0, "l12_store.go:26", #[⟨8, .guard⟩], some (8, true)⟩) rfl ?_
    try simp only [Act.put, List.setIfInBounds_toArray, List.set_cons_zero, List.set_cons_succ]
    refine skH (i := 10) (oi := ⟨some 15, .load 9 (.tmp 14), 9, "l12_store.go:26", #[⟨9, .data⟩, ⟨8, .guard⟩], some (8, true)⟩) rfl ?_
    try simp only [Act.put, List.setIfInBounds_toArray, List.set_cons_zero, List.set_cons_succ]
    refine skH (i := 11) (oi := ⟨some 16, .fieldAddr 50 (.tmp 2) 4, 0, "l12_store.go:26", #[⟨8, .guard⟩], some (8, true)⟩) rfl ?_
    try simp only [Act.put, List.setIfInBounds_toArray, List.set_cons_zero, List.set_cons_succ]
    refine skH (i := 12) (oi := ⟨some 17, .load 39 (.tmp 16), 39, "l12_store.go:26", #[⟨11, .data⟩, ⟨8, .guard⟩], some (8, true)⟩) rfl ?_
    try simp only [Act.put, List.setIfInBounds_toArray, List.set_cons_zero, List.set_cons_succ]
    refine skH (i := 13) (oi := ⟨some 18, .call { callee := .value (.func 63), args := #[.tmp 17], argTypes := #[39] }, 9, "l12_store.go:26", #[⟨12, .data⟩, ⟨8, .chain⟩, ⟨8, .guard⟩], some (8, true)⟩) rfl ?_
    try simp only [Act.put, List.setIfInBounds_toArray, List.set_cons_zero, List.set_cons_succ]
    refine skH (i := 14) (oi := ⟨some 19, .binOp .eql 9 (.tmp 15) (.tmp 18) 9, 4, "l12_store.go:26", #[⟨10, .data⟩, ⟨13, .data⟩, ⟨8, .guard⟩], some (8, true)⟩) rfl ?_
    try simp only [Act.put, List.setIfInBounds_toArray, List.set_cons_zero, List.set_cons_succ]
    refine tkH (i := 15) (oi := ⟨some 20, .pick (.tmp 13) (.tmp 19) (.const (.bool false)), 4, "l12_store.go:26", #[⟨8, .data⟩, ⟨14, .data⟩], none⟩) (v := ?v19) rfl ?y19 ?r19
    case y19 => (intro w hSw; (try dsimp only at hSw); go_simp; try with_reducible rfl)
    try simp only [Act.put, List.setIfInBounds_toArray, List.set_cons_zero, List.set_cons_succ]
    refine tkH (i := 16) (oi := ⟨some 21, .move (.tmp 20), 4, "l12_store.go:26", #[⟨15, .data⟩, ⟨13, .chain⟩], none⟩) (v := ?v20) rfl ?y20 ?r20
    case y20 => (intro w hSw; (try dsimp only at hSw); go_simp; try with_reducible rfl)
    try simp only [Act.put, List.setIfInBounds_toArray, List.set_cons_zero, List.set_cons_succ]
    refine skH (i := 17) (oi := ⟨some 22, .fieldAddr 50 (.tmp 2) 3, 0, "l12_store.go:26", #[⟨16, .guard⟩], some (16, true)⟩) rfl ?_
    try simp only [Act.put, List.setIfInBounds_toArray, List.set_cons_zero, List.set_cons_succ]
    refine skH (i := 18) (oi := ⟨some 23, .load 9 (.tmp 22), 9, "l12_store.go:26", #[⟨17, .data⟩, ⟨16, .guard⟩], some (16, true)⟩) rfl ?_
    try simp only [Act.put, List.setIfInBounds_toArray, List.set_cons_zero, List.set_cons_succ]
    refine skH (i := 19) (oi := ⟨some 24, .binOp .eql 9 (.tmp 23) (.const (.string { data := #[] })) 9, 4, "l12_store.go:26", #[⟨18, .data⟩, ⟨16, .guard⟩], some (16, true)⟩) rfl ?_
    try simp only [Act.put, List.setIfInBounds_toArray, List.set_cons_zero, List.set_cons_succ]
    refine skH (i := 20) (oi := ⟨some 25, .move (.tmp 24), 4, "l12_store.go:26", #[⟨19, .data⟩, ⟨16, .chain⟩, ⟨16, .guard⟩], some (16, true)⟩) rfl ?_
    try simp only [Act.put, List.setIfInBounds_toArray, List.set_cons_zero, List.set_cons_succ]
    refine skH (i := 21) (oi := ⟨some 26, .fieldAddr 50 (.tmp 2) 3, 0, "l12_store.go:26", #[⟨20, .guard⟩], some (20, false)⟩) rfl ?_
    try simp only [Act.put, List.setIfInBounds_toArray, List.set_cons_zero, List.set_cons_succ]
    refine skH (i := 22) (oi := ⟨some 27, .load 9 (.tmp 26), 9, "l12_store.go:26", #[⟨21, .data⟩, ⟨20, .guard⟩], some (20, false)⟩) rfl ?_
    try simp only [Act.put, List.setIfInBounds_toArray, List.set_cons_zero, List.set_cons_succ]
    refine skH (i := 23) (oi := ⟨some 28, .call { callee := .value (.func 39), args := #[.tmp 27], argTypes := #[9] }, 4, "l12_store.go:26", #[⟨22, .data⟩, ⟨20, .chain⟩, ⟨20, .guard⟩], some (20, false)⟩) rfl ?_
    try simp only [Act.put, List.setIfInBounds_toArray, List.set_cons_zero, List.set_cons_succ]
    refine skH (i := 24) (oi := ⟨some 29, .pick (.tmp 25) (.const (.bool true)) (.tmp 28), 4, "l12_store.go:26", #[⟨20, .data⟩, ⟨23, .data⟩, ⟨16, .guard⟩], some (16, true)⟩) rfl ?_
    try simp only [Act.put, List.setIfInBounds_toArray, List.set_cons_zero, List.set_cons_succ]
    refine tkH (i := 25) (oi := ⟨some 30, .pick (.tmp 21) (.tmp 29) (.const (.bool false)), 4, "l12_store.go:26", #[⟨16, .data⟩, ⟨24, .data⟩], none⟩) (v := ?v21) rfl ?y21 ?r21
    case y21 => (intro w hSw; (try dsimp only at hSw); go_simp; try with_reducible rfl)
    try simp only [Act.put, List.setIfInBounds_toArray, List.set_cons_zero, List.set_cons_succ]
    refine tkH (i := 26) (oi := ⟨some 31, .move (.tmp 30), 4, "l12_store.go:26", #[⟨25, .data⟩, ⟨23, .chain⟩], none⟩) (v := ?v22) rfl ?y22 ?r22
    case y22 => (intro w hSw; (try dsimp only at hSw); go_simp; try with_reducible rfl)
    try simp only [Act.put, List.setIfInBounds_toArray, List.set_cons_zero, List.set_cons_succ]
    refine skH (i := 27) (oi := ⟨some 32, .fieldAddr 50 (.tmp 2) 2, 0, "l12_store.go:26", #[⟨26, .guard⟩], some (26, true)⟩) rfl ?_
    try simp only [Act.put, List.setIfInBounds_toArray, List.set_cons_zero, List.set_cons_succ]
    refine skH (i := 28) (oi := ⟨some 33, .load 23 (.tmp 32), 23, "l12_store.go:26", #[⟨27, .data⟩, ⟨26, .guard⟩], some (26, true)⟩) rfl ?_
    try simp only [Act.put, List.setIfInBounds_toArray, List.set_cons_zero, List.set_cons_succ]
    refine skH (i := 29) (oi := ⟨some 34, .fieldAddr 50 (.tmp 2) 4, 0, "l12_store.go:26", #[⟨26, .guard⟩], some (26, true)⟩) rfl ?_
    try simp only [Act.put, List.setIfInBounds_toArray, List.set_cons_zero, List.set_cons_succ]
    refine skH (i := 30) (oi := ⟨some 35, .load 39 (.tmp 34), 39, "l12_store.go:26", #[⟨29, .data⟩, ⟨26, .guard⟩], some (26, true)⟩) rfl ?_
    try simp only [Act.put, List.setIfInBounds_toArray, List.set_cons_zero, List.set_cons_succ]
    refine skH (i := 31) (oi := ⟨some 36, .move (.tmp 1), 23, "l12_store.go:26", #[⟨26, .guard⟩], some (26, true)⟩) rfl ?_
    try simp only [Act.put, List.setIfInBounds_toArray, List.set_cons_zero, List.set_cons_succ]
    refine skH (i := 32) (oi := ⟨some 37, .call { callee := .value (.func 65), args := #[.tmp 35, .tmp 36], argTypes := #[39, 23] }, 23, "l12_store.go:26", #[⟨30, .data⟩, ⟨31, .data⟩, ⟨26, .chain⟩, ⟨26, .guard⟩], some (26, true)⟩) rfl ?_
    try simp only [Act.put, List.setIfInBounds_toArray, List.set_cons_zero, List.set_cons_succ]
    refine skH (i := 33) (oi := ⟨some 38, .call { callee := .value (.func 76), args := #[.tmp 33, .tmp 37], argTypes := #[23, 23] }, 4, "l12_store.go:26", #[⟨28, .data⟩, ⟨32, .data⟩, ⟨32, .chain⟩, ⟨26, .guard⟩], some (26, true)⟩) rfl ?_
    try simp only [Act.put, List.setIfInBounds_toArray, List.set_cons_zero, List.set_cons_succ]
    refine tkH (i := 34) (oi := ⟨some 39, .pick (.tmp 31) (.tmp 38) (.const (.bool false)), 4, "l12_store.go:26", #[⟨26, .data⟩, ⟨33, .data⟩], none⟩) (v := ?v23) rfl ?y23 ?r23
    case y23 => (intro w hSw; (try dsimp only at hSw); go_simp; try with_reducible rfl)
    try simp only [Act.put, List.setIfInBounds_toArray, List.set_cons_zero, List.set_cons_succ]
    refine tkH (i := 35) (oi := ⟨some 4, .assign (.tmp 39), 4, "l12_store.go:26", #[⟨34, .data⟩, ⟨33, .chain⟩, ⟨0, .phase⟩, ⟨1, .phase⟩, ⟨2, .phase⟩, ⟨3, .phase⟩, ⟨4, .phase⟩, ⟨5, .phase⟩, ⟨6, .phase⟩, ⟨7, .phase⟩, ⟨8, .phase⟩, ⟨9, .phase⟩, ⟨10, .phase⟩, ⟨11, .phase⟩, ⟨12, .phase⟩, ⟨13, .phase⟩, ⟨14, .phase⟩, ⟨15, .phase⟩, ⟨16, .phase⟩, ⟨17, .phase⟩, ⟨18, .phase⟩, ⟨19, .phase⟩, ⟨20, .phase⟩, ⟨21, .phase⟩, ⟨22, .phase⟩, ⟨23, .phase⟩, ⟨24, .phase⟩, ⟨25, .phase⟩, ⟨26, .phase⟩, ⟨27, .phase⟩, ⟨28, .phase⟩, ⟨29, .phase⟩, ⟨30, .phase⟩, ⟨31, .phase⟩, ⟨32, .phase⟩, ⟨33, .phase⟩, ⟨34, .phase⟩], none⟩) (v := ?v24) rfl ?y24 ?r24
    case y24 => (intro w hSw; (try dsimp only at hSw); go_simp; try with_reducible rfl)
    try simp only [Act.put, List.setIfInBounds_toArray, List.set_cons_zero, List.set_cons_succ]
    refine wpAnyH_done (by kernel_rfl) ?_ _
    go_wp2_with fail
    go_ret
    exact ⟨ret_bool HV.out.symm, hrv2⟩
  | true =>
  cases b3 with
  | false =>
    have HV : Hid (V = false) := HE.out
    clear HE
    try go_wp2_with fail
    refine wp_region_held_drew (S := fun w' => w'.cell? ⟨w.heap.size, 0, none⟩ = some (.string pa) ∧ w'.cell? ⟨w.heap.size, 1, none⟩ = some (.string su) ∧ w'.cell? ⟨w.heap.size, 2, none⟩ = some (.slice a2 m2 c2) ∧ w'.cell? ⟨w.heap.size, 3, none⟩ = some (.string fr) ∧ w'.cell? ⟨w.heap.size, 4, none⟩ = some (.slice (some ⟨b, o, none⟩) n c4)) (by kernel_rfl) (HCB.out _ (HD1.out)) (fun hHeld => ?_)
    refine tkH (i := 0) (oi := ⟨some 5, .fieldAddr 50 (.tmp 2) 0, 0, "l12_store.go:26", #[], none⟩) (v := ?v25) rfl ?y25 ?r25
    case y25 => (intro w hSw; (try dsimp only at hSw); go_simp; try with_reducible rfl)
    try simp only [Act.put, List.setIfInBounds_toArray, List.set_cons_zero, List.set_cons_succ]
    refine tkH (i := 1) (oi := ⟨some 6, .load 9 (.tmp 5), 9, "l12_store.go:26", #[⟨0, .data⟩], none⟩) (v := ?v26) rfl ?y26 ?r26
    case y26 => (intro w hSw; (try dsimp only at hSw); go_simp; try with_reducible rfl)
    try simp only [Act.put, List.setIfInBounds_toArray, List.set_cons_zero, List.set_cons_succ]
    refine wpAnyH_ready (rs := [2]) (by kernel_rfl) (by simp) ?_
    refine AllReadyH.cons (o := ⟨some 7, .call { callee := .value (.func 39), args := #[.tmp 6], argTypes := #[9] }, 4, "l12_store.go:26", #[⟨1, .data⟩], none⟩) rfl (fun K hK => ?_) AllReadyH.nil
    go_simp
    (go_at_call 39; refine (HPA.out _ (HD1R.out)).mono ?_; rintro e v1 ⟨rfl, hlv1⟩; have hbv1 : Below W1.heap.size W1 v1 := (HD1.out).trans (hlv1.mono (HD1.out).size); have hrv1 : Below w.heap.size w v1 := (HD1R.out).trans (hlv1.mono (HD1R.out).size))
    try go_wp2_with fail
    refine hK.out _ _ (HCB.out _ (hbv1)) (fun hHeld => ?_)
    clear hK K
    try simp only [Act.put, List.setIfInBounds_toArray, List.set_cons_zero, List.set_cons_succ]
    refine tkH (i := 3) (oi := ⟨some 8, .move (.tmp 7), 4, "l12_store.go:26", #[⟨2, .data⟩, ⟨2, .chain⟩], none⟩) (v := ?v27) rfl ?y27 ?r27
    case y27 => (intro w hSw; (try dsimp only at hSw); go_simp; try with_reducible rfl)
    try simp only [Act.put, List.setIfInBounds_toArray, List.set_cons_zero, List.set_cons_succ]
    refine tkH (i := 4) (oi := ⟨some 9, .fieldAddr 50 (.tmp 2) 4, 0, "l12_store.go:26", #[⟨3, .guard⟩], some (3, true)⟩) (v := ?v28) rfl ?y28 ?r28
    case y28 => (intro w hSw; (try dsimp only at hSw); go_simp; try with_reducible rfl)
    try simp only [Act.put, List.setIfInBounds_toArray, List.set_cons_zero, List.set_cons_succ]
    refine tkH (i := 5) (oi := ⟨some 10, .load 39 (.tmp 9), 39, "l12_store.go:26", #[⟨4, .data⟩, ⟨3, .guard⟩], some (3, true)⟩) (v := ?v29) rfl ?y29 ?r29
    case y29 => (intro w hSw; (try dsimp only at hSw); go_simp; try with_reducible rfl)
    try simp only [Act.put, List.setIfInBounds_toArray, List.set_cons_zero, List.set_cons_succ]
    refine wpAnyH_ready (rs := [6]) (by kernel_rfl) (by simp) ?_
    refine AllReadyH.cons (o := ⟨some 11, .call { callee := .value (.func 40), args := #[.tmp 10], argTypes := #[39] }, 4, "l12_store.go:26", #[⟨5, .data⟩, ⟨3, .chain⟩, ⟨3, .guard⟩], some (3, true)⟩) rfl (fun K hK => ?_) AllReadyH.nil
    go_simp
    (go_at_call 40; refine (HTR.out _ (hrv1)).mono ?_; rintro e v2 ⟨rfl, hlv2⟩; have hbv2 : Below W1.heap.size W1 v2 := (hbv1).trans (hlv2.mono (hbv1).size); have hrv2 : Below w.heap.size w v2 := (hrv1).trans (hlv2.mono (hrv1).size))
    try go_wp2_with fail
    refine hK.out _ _ (HCB.out _ (hbv2)) (fun hHeld => ?_)
    clear hK K
    try simp only [Act.put, List.setIfInBounds_toArray, List.set_cons_zero, List.set_cons_succ]
    refine tkH (i := 7) (oi := ⟨some 12, .pick (.tmp 8) (.tmp 11) (.const (.bool false)), 4, "l12_store.go:26", #[⟨3, .data⟩, ⟨6, .data⟩], none⟩) (v := ?v30) rfl ?y30 ?r30
    case y30 => (intro w hSw; (try dsimp only at hSw); go_simp; try with_reducible rfl)
    try simp only [Act.put, List.setIfInBounds_toArray, List.set_cons_zero, List.set_cons_succ]
    refine tkH (i := 8) (oi := ⟨some 13, .move (.tmp 12), 4, "l12_store.go:26", #[⟨7, .data⟩, ⟨6, .chain⟩], none⟩) (v := ?v31) rfl ?y31 ?r31
    case y31 => (intro w hSw; (try dsimp only at hSw); go_simp; try with_reducible rfl)
    try simp only [Act.put, List.setIfInBounds_toArray, List.set_cons_zero, List.set_cons_succ]
    refine tkH (i := 9) (oi := ⟨some 14, .fieldAddr 50 (.tmp 2) 1, 0, "l12_store.go:26", #[⟨8, .guard⟩], some (8, true)⟩) (v := ?v32) rfl ?y32 ?r32
    case y32 => (intro w hSw; (try dsimp only at hSw); go_simp; try with_reducible rfl)
    try simp only [Act.put, List.setIfInBounds_toArray, List.set_cons_zero, List.set_cons_succ]
    refine tkH (i := 10) (oi := ⟨some 15, .load 9 (.tmp 14), 9, "l12_store.go:26", #[⟨9, .data⟩, ⟨8, .guard⟩], some (8, true)⟩) (v := ?v33) rfl ?y33 ?r33
    case y33 => (intro w hSw; (try dsimp only at hSw); go_simp; try with_reducible rfl)
    try simp only [Act.put, List.setIfInBounds_toArray, List.set_cons_zero, List.set_cons_succ]
    refine tkH (i := 11) (oi := ⟨some 16, .fieldAddr 50 (.tmp 2) 4, 0, "l12_store.go:26", #[⟨8, .guard⟩], some (8, true)⟩) (v := ?v34) rfl ?y34 ?r34
    case y34 => (intro w hSw; (try dsimp only at hSw); go_simp; try with_reducible rfl)
    try simp only [Act.put, List.setIfInBounds_toArray, List.set_cons_zero, List.set_cons_succ]
    refine tkH (i := 12) (oi := ⟨some 17, .load 39 (.tmp 16), 39, "l12_store.go:26", #[⟨11, .data⟩, ⟨8, .guard⟩], some (8, true)⟩) (v := ?v35) rfl ?y35 ?r35
    case y35 => (intro w hSw; (try dsimp only at hSw); go_simp; try with_reducible rfl)
    try simp only [Act.put, List.setIfInBounds_toArray, List.set_cons_zero, List.set_cons_succ]
    refine wpAnyH_ready (rs := [13]) (by kernel_rfl) (by simp) ?_
    refine AllReadyH.cons (o := ⟨some 18, .call { callee := .value (.func 63), args := #[.tmp 17], argTypes := #[39] }, 9, "l12_store.go:26", #[⟨12, .data⟩, ⟨8, .chain⟩, ⟨8, .guard⟩], some (8, true)⟩) rfl (fun K hK => ?_) AllReadyH.nil
    go_simp
    (go_at_call 63; refine (HTS.out _ (hrv2)).mono ?_; rintro e v3 ⟨rfl, hlv3⟩; have hbv3 : Below W1.heap.size W1 v3 := (hbv2).trans (hlv3.mono (hbv2).size); have hrv3 : Below w.heap.size w v3 := (hrv2).trans (hlv3.mono (hrv2).size))
    try go_wp2_with fail
    refine hK.out _ _ (HCB.out _ (hbv3)) (fun hHeld => ?_)
    clear hK K
    try simp only [Act.put, List.setIfInBounds_toArray, List.set_cons_zero, List.set_cons_succ]
    refine tkH (i := 14) (oi := ⟨some 19, .binOp .eql 9 (.tmp 15) (.tmp 18) 9, 4, "l12_store.go:26", #[⟨10, .data⟩, ⟨13, .data⟩, ⟨8, .guard⟩], some (8, true)⟩) (v := ?v36) rfl ?y36 ?r36
    case y36 => (intro w hSw; (try dsimp only at hSw); go_simp; try with_reducible rfl)
    try simp only [Act.put, List.setIfInBounds_toArray, List.set_cons_zero, List.set_cons_succ]
    refine tkH (i := 15) (oi := ⟨some 20, .pick (.tmp 13) (.tmp 19) (.const (.bool false)), 4, "l12_store.go:26", #[⟨8, .data⟩, ⟨14, .data⟩], none⟩) (v := ?v37) rfl ?y37 ?r37
    case y37 => (intro w hSw; (try dsimp only at hSw); go_simp; try with_reducible rfl)
    try simp only [Act.put, List.setIfInBounds_toArray, List.set_cons_zero, List.set_cons_succ]
    refine tkH (i := 16) (oi := ⟨some 21, .move (.tmp 20), 4, "l12_store.go:26", #[⟨15, .data⟩, ⟨13, .chain⟩], none⟩) (v := ?v38) rfl ?y38 ?r38
    case y38 => (intro w hSw; (try dsimp only at hSw); go_simp; try with_reducible rfl)
    try simp only [Act.put, List.setIfInBounds_toArray, List.set_cons_zero, List.set_cons_succ]
    refine skH (i := 17) (oi := ⟨some 22, .fieldAddr 50 (.tmp 2) 3, 0, "l12_store.go:26", #[⟨16, .guard⟩], some (16, true)⟩) rfl ?_
    try simp only [Act.put, List.setIfInBounds_toArray, List.set_cons_zero, List.set_cons_succ]
    refine skH (i := 18) (oi := ⟨some 23, .load 9 (.tmp 22), 9, "l12_store.go:26", #[⟨17, .data⟩, ⟨16, .guard⟩], some (16, true)⟩) rfl ?_
    try simp only [Act.put, List.setIfInBounds_toArray, List.set_cons_zero, List.set_cons_succ]
    refine skH (i := 19) (oi := ⟨some 24, .binOp .eql 9 (.tmp 23) (.const (.string { data := #[] })) 9, 4, "l12_store.go:26", #[⟨18, .data⟩, ⟨16, .guard⟩], some (16, true)⟩) rfl ?_
    try simp only [Act.put, List.setIfInBounds_toArray, List.set_cons_zero, List.set_cons_succ]
    refine skH (i := 20) (oi := ⟨some 25, .move (.tmp 24), 4, "l12_store.go:26", #[⟨19, .data⟩, ⟨16, .chain⟩, ⟨16, .guard⟩], some (16, true)⟩) rfl ?_
    try simp only [Act.put, List.setIfInBounds_toArray, List.set_cons_zero, List.set_cons_succ]
    refine skH (i := 21) (oi := ⟨some 26, .fieldAddr 50 (.tmp 2) 3, 0, "l12_store.go:26", #[⟨20, .guard⟩], some (20, false)⟩) rfl ?_
    try simp only [Act.put, List.setIfInBounds_toArray, List.set_cons_zero, List.set_cons_succ]
    refine skH (i := 22) (oi := ⟨some 27, .load 9 (.tmp 26), 9, "l12_store.go:26", #[⟨21, .data⟩, ⟨20, .guard⟩], some (20, false)⟩) rfl ?_
    try simp only [Act.put, List.setIfInBounds_toArray, List.set_cons_zero, List.set_cons_succ]
    refine skH (i := 23) (oi := ⟨some 28, .call { callee := .value (.func 39), args := #[.tmp 27], argTypes := #[9] }, 4, "l12_store.go:26", #[⟨22, .data⟩, ⟨20, .chain⟩, ⟨20, .guard⟩], some (20, false)⟩) rfl ?_
    try simp only [Act.put, List.setIfInBounds_toArray, List.set_cons_zero, List.set_cons_succ]
    refine skH (i := 24) (oi := ⟨some 29, .pick (.tmp 25) (.const (.bool true)) (.tmp 28), 4, "l12_store.go:26", #[⟨20, .data⟩, ⟨23, .data⟩, ⟨16, .guard⟩], some (16, true)⟩) rfl ?_
    try simp only [Act.put, List.setIfInBounds_toArray, List.set_cons_zero, List.set_cons_succ]
    refine tkH (i := 25) (oi := ⟨some 30, .pick (.tmp 21) (.tmp 29) (.const (.bool false)), 4, "l12_store.go:26", #[⟨16, .data⟩, ⟨24, .data⟩], none⟩) (v := ?v39) rfl ?y39 ?r39
    case y39 => (intro w hSw; (try dsimp only at hSw); go_simp; try with_reducible rfl)
    try simp only [Act.put, List.setIfInBounds_toArray, List.set_cons_zero, List.set_cons_succ]
    refine tkH (i := 26) (oi := ⟨some 31, .move (.tmp 30), 4, "l12_store.go:26", #[⟨25, .data⟩, ⟨23, .chain⟩], none⟩) (v := ?v40) rfl ?y40 ?r40
    case y40 => (intro w hSw; (try dsimp only at hSw); go_simp; try with_reducible rfl)
    try simp only [Act.put, List.setIfInBounds_toArray, List.set_cons_zero, List.set_cons_succ]
    refine skH (i := 27) (oi := ⟨some 32, .fieldAddr 50 (.tmp 2) 2, 0, "l12_store.go:26", #[⟨26, .guard⟩], some (26, true)⟩) rfl ?_
    try simp only [Act.put, List.setIfInBounds_toArray, List.set_cons_zero, List.set_cons_succ]
    refine skH (i := 28) (oi := ⟨some 33, .load 23 (.tmp 32), 23, "l12_store.go:26", #[⟨27, .data⟩, ⟨26, .guard⟩], some (26, true)⟩) rfl ?_
    try simp only [Act.put, List.setIfInBounds_toArray, List.set_cons_zero, List.set_cons_succ]
    refine skH (i := 29) (oi := ⟨some 34, .fieldAddr 50 (.tmp 2) 4, 0, "l12_store.go:26", #[⟨26, .guard⟩], some (26, true)⟩) rfl ?_
    try simp only [Act.put, List.setIfInBounds_toArray, List.set_cons_zero, List.set_cons_succ]
    refine skH (i := 30) (oi := ⟨some 35, .load 39 (.tmp 34), 39, "l12_store.go:26", #[⟨29, .data⟩, ⟨26, .guard⟩], some (26, true)⟩) rfl ?_
    try simp only [Act.put, List.setIfInBounds_toArray, List.set_cons_zero, List.set_cons_succ]
    refine skH (i := 31) (oi := ⟨some 36, .move (.tmp 1), 23, "l12_store.go:26", #[⟨26, .guard⟩], some (26, true)⟩) rfl ?_
    try simp only [Act.put, List.setIfInBounds_toArray, List.set_cons_zero, List.set_cons_succ]
    refine skH (i := 32) (oi := ⟨some 37, .call { callee := .value (.func 65), args := #[.tmp 35, .tmp 36], argTypes := #[39, 23] }, 23, "l12_store.go:26", #[⟨30, .data⟩, ⟨31, .data⟩, ⟨26, .chain⟩, ⟨26, .guard⟩], some (26, true)⟩) rfl ?_
    try simp only [Act.put, List.setIfInBounds_toArray, List.set_cons_zero, List.set_cons_succ]
    refine skH (i := 33) (oi := ⟨some 38, .call { callee := .value (.func 76), args := #[.tmp 33, .tmp 37], argTypes := #[23, 23] }, 4, "l12_store.go:26", #[⟨28, .data⟩, ⟨32, .data⟩, ⟨32, .chain⟩, ⟨26, .guard⟩], some (26, true)⟩) rfl ?_
    try simp only [Act.put, List.setIfInBounds_toArray, List.set_cons_zero, List.set_cons_succ]
    refine tkH (i := 34) (oi := ⟨some 39, .pick (.tmp 31) (.tmp 38) (.const (.bool false)), 4, "l12_store.go:26", #[⟨26, .data⟩, ⟨33, .data⟩], none⟩) (v := ?v41) rfl ?y41 ?r41
    case y41 => (intro w hSw; (try dsimp only at hSw); go_simp; try with_reducible rfl)
    try simp only [Act.put, List.setIfInBounds_toArray, List.set_cons_zero, List.set_cons_succ]
    refine tkH (i := 35) (oi := ⟨some 4, .assign (.tmp 39), 4, "l12_store.go:26", #[⟨34, .data⟩, ⟨33, .chain⟩, ⟨0, .phase⟩, ⟨1, .phase⟩, ⟨2, .phase⟩, ⟨3, .phase⟩, ⟨4, .phase⟩, ⟨5, .phase⟩, ⟨6, .phase⟩, ⟨7, .phase⟩, ⟨8, .phase⟩, ⟨9, .phase⟩, ⟨10, .phase⟩, ⟨11, .phase⟩, ⟨12, .phase⟩, ⟨13, .phase⟩, ⟨14, .phase⟩, ⟨15, .phase⟩, ⟨16, .phase⟩, ⟨17, .phase⟩, ⟨18, .phase⟩, ⟨19, .phase⟩, ⟨20, .phase⟩, ⟨21, .phase⟩, ⟨22, .phase⟩, ⟨23, .phase⟩, ⟨24, .phase⟩, ⟨25, .phase⟩, ⟨26, .phase⟩, ⟨27, .phase⟩, ⟨28, .phase⟩, ⟨29, .phase⟩, ⟨30, .phase⟩, ⟨31, .phase⟩, ⟨32, .phase⟩, ⟨33, .phase⟩, ⟨34, .phase⟩], none⟩) (v := ?v42) rfl ?y42 ?r42
    case y42 => (intro w hSw; (try dsimp only at hSw); go_simp; try with_reducible rfl)
    try simp only [Act.put, List.setIfInBounds_toArray, List.set_cons_zero, List.set_cons_succ]
    refine wpAnyH_done (by kernel_rfl) ?_ _
    go_wp2_with fail
    go_ret
    exact ⟨ret_bool HV.out.symm, hrv3⟩
  | true =>
  by_cases hfe : fr = ⟨#[]⟩
  · have HV : Hid (V = b5) := by show _ = _; rw [HE.out, hfe]; simp [frB]
    have hfk : fr.toList = [] := by rw [hfe, ByteArray.toList_eq]
    have hfi : fr.toList.isEmpty = true := by rw [hfk]; rfl
    have hfj : (fr.toList == []) = true := by rw [hfk]; rfl
    clear HE hfe
    try go_wp2_with fail
    refine wp_region_held_drew (S := fun w' => w'.cell? ⟨w.heap.size, 0, none⟩ = some (.string pa) ∧ w'.cell? ⟨w.heap.size, 1, none⟩ = some (.string su) ∧ w'.cell? ⟨w.heap.size, 2, none⟩ = some (.slice a2 m2 c2) ∧ w'.cell? ⟨w.heap.size, 3, none⟩ = some (.string fr) ∧ w'.cell? ⟨w.heap.size, 4, none⟩ = some (.slice (some ⟨b, o, none⟩) n c4)) (by kernel_rfl) (HCB.out _ (HD1.out)) (fun hHeld => ?_)
    refine tkH (i := 0) (oi := ⟨some 5, .fieldAddr 50 (.tmp 2) 0, 0, "l12_store.go:26", #[], none⟩) (v := ?v43) rfl ?y43 ?r43
    case y43 => (intro w hSw; (try dsimp only at hSw); go_simp; try with_reducible rfl)
    try simp only [Act.put, List.setIfInBounds_toArray, List.set_cons_zero, List.set_cons_succ]
    refine tkH (i := 1) (oi := ⟨some 6, .load 9 (.tmp 5), 9, "l12_store.go:26", #[⟨0, .data⟩], none⟩) (v := ?v44) rfl ?y44 ?r44
    case y44 => (intro w hSw; (try dsimp only at hSw); go_simp; try with_reducible rfl)
    try simp only [Act.put, List.setIfInBounds_toArray, List.set_cons_zero, List.set_cons_succ]
    refine wpAnyH_ready (rs := [2]) (by kernel_rfl) (by simp) ?_
    refine AllReadyH.cons (o := ⟨some 7, .call { callee := .value (.func 39), args := #[.tmp 6], argTypes := #[9] }, 4, "l12_store.go:26", #[⟨1, .data⟩], none⟩) rfl (fun K hK => ?_) AllReadyH.nil
    go_simp
    (go_at_call 39; refine (HPA.out _ (HD1R.out)).mono ?_; rintro e v1 ⟨rfl, hlv1⟩; have hbv1 : Below W1.heap.size W1 v1 := (HD1.out).trans (hlv1.mono (HD1.out).size); have hrv1 : Below w.heap.size w v1 := (HD1R.out).trans (hlv1.mono (HD1R.out).size))
    try go_wp2_with fail
    refine hK.out _ _ (HCB.out _ (hbv1)) (fun hHeld => ?_)
    clear hK K
    try simp only [Act.put, List.setIfInBounds_toArray, List.set_cons_zero, List.set_cons_succ]
    refine tkH (i := 3) (oi := ⟨some 8, .move (.tmp 7), 4, "l12_store.go:26", #[⟨2, .data⟩, ⟨2, .chain⟩], none⟩) (v := ?v45) rfl ?y45 ?r45
    case y45 => (intro w hSw; (try dsimp only at hSw); go_simp; try with_reducible rfl)
    try simp only [Act.put, List.setIfInBounds_toArray, List.set_cons_zero, List.set_cons_succ]
    refine tkH (i := 4) (oi := ⟨some 9, .fieldAddr 50 (.tmp 2) 4, 0, "l12_store.go:26", #[⟨3, .guard⟩], some (3, true)⟩) (v := ?v46) rfl ?y46 ?r46
    case y46 => (intro w hSw; (try dsimp only at hSw); go_simp; try with_reducible rfl)
    try simp only [Act.put, List.setIfInBounds_toArray, List.set_cons_zero, List.set_cons_succ]
    refine tkH (i := 5) (oi := ⟨some 10, .load 39 (.tmp 9), 39, "l12_store.go:26", #[⟨4, .data⟩, ⟨3, .guard⟩], some (3, true)⟩) (v := ?v47) rfl ?y47 ?r47
    case y47 => (intro w hSw; (try dsimp only at hSw); go_simp; try with_reducible rfl)
    try simp only [Act.put, List.setIfInBounds_toArray, List.set_cons_zero, List.set_cons_succ]
    refine wpAnyH_ready (rs := [6]) (by kernel_rfl) (by simp) ?_
    refine AllReadyH.cons (o := ⟨some 11, .call { callee := .value (.func 40), args := #[.tmp 10], argTypes := #[39] }, 4, "l12_store.go:26", #[⟨5, .data⟩, ⟨3, .chain⟩, ⟨3, .guard⟩], some (3, true)⟩) rfl (fun K hK => ?_) AllReadyH.nil
    go_simp
    (go_at_call 40; refine (HTR.out _ (hrv1)).mono ?_; rintro e v2 ⟨rfl, hlv2⟩; have hbv2 : Below W1.heap.size W1 v2 := (hbv1).trans (hlv2.mono (hbv1).size); have hrv2 : Below w.heap.size w v2 := (hrv1).trans (hlv2.mono (hrv1).size))
    try go_wp2_with fail
    refine hK.out _ _ (HCB.out _ (hbv2)) (fun hHeld => ?_)
    clear hK K
    try simp only [Act.put, List.setIfInBounds_toArray, List.set_cons_zero, List.set_cons_succ]
    refine tkH (i := 7) (oi := ⟨some 12, .pick (.tmp 8) (.tmp 11) (.const (.bool false)), 4, "l12_store.go:26", #[⟨3, .data⟩, ⟨6, .data⟩], none⟩) (v := ?v48) rfl ?y48 ?r48
    case y48 => (intro w hSw; (try dsimp only at hSw); go_simp; try with_reducible rfl)
    try simp only [Act.put, List.setIfInBounds_toArray, List.set_cons_zero, List.set_cons_succ]
    refine tkH (i := 8) (oi := ⟨some 13, .move (.tmp 12), 4, "l12_store.go:26", #[⟨7, .data⟩, ⟨6, .chain⟩], none⟩) (v := ?v49) rfl ?y49 ?r49
    case y49 => (intro w hSw; (try dsimp only at hSw); go_simp; try with_reducible rfl)
    try simp only [Act.put, List.setIfInBounds_toArray, List.set_cons_zero, List.set_cons_succ]
    refine tkH (i := 9) (oi := ⟨some 14, .fieldAddr 50 (.tmp 2) 1, 0, "l12_store.go:26", #[⟨8, .guard⟩], some (8, true)⟩) (v := ?v50) rfl ?y50 ?r50
    case y50 => (intro w hSw; (try dsimp only at hSw); go_simp; try with_reducible rfl)
    try simp only [Act.put, List.setIfInBounds_toArray, List.set_cons_zero, List.set_cons_succ]
    refine tkH (i := 10) (oi := ⟨some 15, .load 9 (.tmp 14), 9, "l12_store.go:26", #[⟨9, .data⟩, ⟨8, .guard⟩], some (8, true)⟩) (v := ?v51) rfl ?y51 ?r51
    case y51 => (intro w hSw; (try dsimp only at hSw); go_simp; try with_reducible rfl)
    try simp only [Act.put, List.setIfInBounds_toArray, List.set_cons_zero, List.set_cons_succ]
    refine tkH (i := 11) (oi := ⟨some 16, .fieldAddr 50 (.tmp 2) 4, 0, "l12_store.go:26", #[⟨8, .guard⟩], some (8, true)⟩) (v := ?v52) rfl ?y52 ?r52
    case y52 => (intro w hSw; (try dsimp only at hSw); go_simp; try with_reducible rfl)
    try simp only [Act.put, List.setIfInBounds_toArray, List.set_cons_zero, List.set_cons_succ]
    refine tkH (i := 12) (oi := ⟨some 17, .load 39 (.tmp 16), 39, "l12_store.go:26", #[⟨11, .data⟩, ⟨8, .guard⟩], some (8, true)⟩) (v := ?v53) rfl ?y53 ?r53
    case y53 => (intro w hSw; (try dsimp only at hSw); go_simp; try with_reducible rfl)
    try simp only [Act.put, List.setIfInBounds_toArray, List.set_cons_zero, List.set_cons_succ]
    refine wpAnyH_ready (rs := [13]) (by kernel_rfl) (by simp) ?_
    refine AllReadyH.cons (o := ⟨some 18, .call { callee := .value (.func 63), args := #[.tmp 17], argTypes := #[39] }, 9, "l12_store.go:26", #[⟨12, .data⟩, ⟨8, .chain⟩, ⟨8, .guard⟩], some (8, true)⟩) rfl (fun K hK => ?_) AllReadyH.nil
    go_simp
    (go_at_call 63; refine (HTS.out _ (hrv2)).mono ?_; rintro e v3 ⟨rfl, hlv3⟩; have hbv3 : Below W1.heap.size W1 v3 := (hbv2).trans (hlv3.mono (hbv2).size); have hrv3 : Below w.heap.size w v3 := (hrv2).trans (hlv3.mono (hrv2).size))
    try go_wp2_with fail
    refine hK.out _ _ (HCB.out _ (hbv3)) (fun hHeld => ?_)
    clear hK K
    try simp only [Act.put, List.setIfInBounds_toArray, List.set_cons_zero, List.set_cons_succ]
    refine tkH (i := 14) (oi := ⟨some 19, .binOp .eql 9 (.tmp 15) (.tmp 18) 9, 4, "l12_store.go:26", #[⟨10, .data⟩, ⟨13, .data⟩, ⟨8, .guard⟩], some (8, true)⟩) (v := ?v54) rfl ?y54 ?r54
    case y54 => (intro w hSw; (try dsimp only at hSw); go_simp; try with_reducible rfl)
    try simp only [Act.put, List.setIfInBounds_toArray, List.set_cons_zero, List.set_cons_succ]
    refine tkH (i := 15) (oi := ⟨some 20, .pick (.tmp 13) (.tmp 19) (.const (.bool false)), 4, "l12_store.go:26", #[⟨8, .data⟩, ⟨14, .data⟩], none⟩) (v := ?v55) rfl ?y55 ?r55
    case y55 => (intro w hSw; (try dsimp only at hSw); go_simp; try with_reducible rfl)
    try simp only [Act.put, List.setIfInBounds_toArray, List.set_cons_zero, List.set_cons_succ]
    refine tkH (i := 16) (oi := ⟨some 21, .move (.tmp 20), 4, "l12_store.go:26", #[⟨15, .data⟩, ⟨13, .chain⟩], none⟩) (v := ?v56) rfl ?y56 ?r56
    case y56 => (intro w hSw; (try dsimp only at hSw); go_simp; try with_reducible rfl)
    try simp only [Act.put, List.setIfInBounds_toArray, List.set_cons_zero, List.set_cons_succ]
    refine tkH (i := 17) (oi := ⟨some 22, .fieldAddr 50 (.tmp 2) 3, 0, "l12_store.go:26", #[⟨16, .guard⟩], some (16, true)⟩) (v := ?v57) rfl ?y57 ?r57
    case y57 => (intro w hSw; (try dsimp only at hSw); go_simp; try with_reducible rfl)
    try simp only [Act.put, List.setIfInBounds_toArray, List.set_cons_zero, List.set_cons_succ]
    refine tkH (i := 18) (oi := ⟨some 23, .load 9 (.tmp 22), 9, "l12_store.go:26", #[⟨17, .data⟩, ⟨16, .guard⟩], some (16, true)⟩) (v := ?v58) rfl ?y58 ?r58
    case y58 => (intro w hSw; (try dsimp only at hSw); go_simp; try with_reducible rfl)
    try simp only [Act.put, List.setIfInBounds_toArray, List.set_cons_zero, List.set_cons_succ]
    refine tkH (i := 19) (oi := ⟨some 24, .binOp .eql 9 (.tmp 23) (.const (.string { data := #[] })) 9, 4, "l12_store.go:26", #[⟨18, .data⟩, ⟨16, .guard⟩], some (16, true)⟩) (v := ?v59) rfl ?y59 ?r59
    case y59 => (intro w hSw; (try dsimp only at hSw); go_simp; try with_reducible rfl)
    try simp only [Act.put, List.setIfInBounds_toArray, List.set_cons_zero, List.set_cons_succ]
    refine tkH (i := 20) (oi := ⟨some 25, .move (.tmp 24), 4, "l12_store.go:26", #[⟨19, .data⟩, ⟨16, .chain⟩, ⟨16, .guard⟩], some (16, true)⟩) (v := ?v60) rfl ?y60 ?r60
    case y60 => (intro w hSw; (try dsimp only at hSw); go_simp; try with_reducible rfl)
    try simp only [Act.put, List.setIfInBounds_toArray, List.set_cons_zero, List.set_cons_succ]
    refine skH (i := 21) (oi := ⟨some 26, .fieldAddr 50 (.tmp 2) 3, 0, "l12_store.go:26", #[⟨20, .guard⟩], some (20, false)⟩) rfl ?_
    try simp only [Act.put, List.setIfInBounds_toArray, List.set_cons_zero, List.set_cons_succ]
    refine skH (i := 22) (oi := ⟨some 27, .load 9 (.tmp 26), 9, "l12_store.go:26", #[⟨21, .data⟩, ⟨20, .guard⟩], some (20, false)⟩) rfl ?_
    try simp only [Act.put, List.setIfInBounds_toArray, List.set_cons_zero, List.set_cons_succ]
    refine skH (i := 23) (oi := ⟨some 28, .call { callee := .value (.func 39), args := #[.tmp 27], argTypes := #[9] }, 4, "l12_store.go:26", #[⟨22, .data⟩, ⟨20, .chain⟩, ⟨20, .guard⟩], some (20, false)⟩) rfl ?_
    try simp only [Act.put, List.setIfInBounds_toArray, List.set_cons_zero, List.set_cons_succ]
    refine tkH (i := 24) (oi := ⟨some 29, .pick (.tmp 25) (.const (.bool true)) (.tmp 28), 4, "l12_store.go:26", #[⟨20, .data⟩, ⟨23, .data⟩, ⟨16, .guard⟩], some (16, true)⟩) (v := ?v61) rfl ?y61 ?r61
    case y61 => (intro w hSw; (try dsimp only at hSw); go_simp; try with_reducible rfl)
    try simp only [Act.put, List.setIfInBounds_toArray, List.set_cons_zero, List.set_cons_succ]
    refine tkH (i := 25) (oi := ⟨some 30, .pick (.tmp 21) (.tmp 29) (.const (.bool false)), 4, "l12_store.go:26", #[⟨16, .data⟩, ⟨24, .data⟩], none⟩) (v := ?v62) rfl ?y62 ?r62
    case y62 => (intro w hSw; (try dsimp only at hSw); go_simp; try with_reducible rfl)
    try simp only [Act.put, List.setIfInBounds_toArray, List.set_cons_zero, List.set_cons_succ]
    refine tkH (i := 26) (oi := ⟨some 31, .move (.tmp 30), 4, "l12_store.go:26", #[⟨25, .data⟩, ⟨23, .chain⟩], none⟩) (v := ?v63) rfl ?y63 ?r63
    case y63 => (intro w hSw; (try dsimp only at hSw); go_simp; try with_reducible rfl)
    try simp only [Act.put, List.setIfInBounds_toArray, List.set_cons_zero, List.set_cons_succ]
    refine tkH (i := 27) (oi := ⟨some 32, .fieldAddr 50 (.tmp 2) 2, 0, "l12_store.go:26", #[⟨26, .guard⟩], some (26, true)⟩) (v := ?v64) rfl ?y64 ?r64
    case y64 => (intro w hSw; (try dsimp only at hSw); go_simp; try with_reducible rfl)
    try simp only [Act.put, List.setIfInBounds_toArray, List.set_cons_zero, List.set_cons_succ]
    refine tkH (i := 28) (oi := ⟨some 33, .load 23 (.tmp 32), 23, "l12_store.go:26", #[⟨27, .data⟩, ⟨26, .guard⟩], some (26, true)⟩) (v := ?v65) rfl ?y65 ?r65
    case y65 => (intro w hSw; (try dsimp only at hSw); go_simp; try with_reducible rfl)
    try simp only [Act.put, List.setIfInBounds_toArray, List.set_cons_zero, List.set_cons_succ]
    refine tkH (i := 29) (oi := ⟨some 34, .fieldAddr 50 (.tmp 2) 4, 0, "l12_store.go:26", #[⟨26, .guard⟩], some (26, true)⟩) (v := ?v66) rfl ?y66 ?r66
    case y66 => (intro w hSw; (try dsimp only at hSw); go_simp; try with_reducible rfl)
    try simp only [Act.put, List.setIfInBounds_toArray, List.set_cons_zero, List.set_cons_succ]
    refine tkH (i := 30) (oi := ⟨some 35, .load 39 (.tmp 34), 39, "l12_store.go:26", #[⟨29, .data⟩, ⟨26, .guard⟩], some (26, true)⟩) (v := ?v67) rfl ?y67 ?r67
    case y67 => (intro w hSw; (try dsimp only at hSw); go_simp; try with_reducible rfl)
    try simp only [Act.put, List.setIfInBounds_toArray, List.set_cons_zero, List.set_cons_succ]
    refine tkH (i := 31) (oi := ⟨some 36, .move (.tmp 1), 23, "l12_store.go:26", #[⟨26, .guard⟩], some (26, true)⟩) (v := ?v68) rfl ?y68 ?r68
    case y68 => (intro w hSw; (try dsimp only at hSw); go_simp; try with_reducible rfl)
    try simp only [Act.put, List.setIfInBounds_toArray, List.set_cons_zero, List.set_cons_succ]
    refine wpAnyH_ready (rs := [32]) (by kernel_rfl) (by simp) ?_
    refine AllReadyH.cons (o := ⟨some 37, .call { callee := .value (.func 65), args := #[.tmp 35, .tmp 36], argTypes := #[39, 23] }, 23, "l12_store.go:26", #[⟨30, .data⟩, ⟨31, .data⟩, ⟨26, .chain⟩, ⟨26, .guard⟩], some (26, true)⟩) rfl (fun K hK => ?_) AllReadyH.nil
    go_simp
    (go_at_call 65; refine (HRF.out _ (hrv3)).mono ?_; rintro e v5 ⟨⟨vv, rfl, hvv⟩, hlv5⟩; have hbv5 : Below W1.heap.size W1 v5 := (hbv3).trans (hlv5.mono (hbv3).size); have hrv5 : Below w.heap.size w v5 := (hrv3).trans (hlv5.mono (hrv3).size))
    try go_wp2_with fail
    refine hK.out _ _ (HCB.out _ (hbv5)) (fun hHeld => ?_)
    clear hK K
    try simp only [Act.put, List.setIfInBounds_toArray, List.set_cons_zero, List.set_cons_succ]
    refine wpAnyH_ready (rs := [33]) (by kernel_rfl) (by simp) ?_
    refine AllReadyH.cons (o := ⟨some 38, .call { callee := .value (.func 76), args := #[.tmp 33, .tmp 37], argTypes := #[23, 23] }, 4, "l12_store.go:26", #[⟨28, .data⟩, ⟨32, .data⟩, ⟨32, .chain⟩, ⟨26, .guard⟩], some (26, true)⟩) rfl (fun K hK => ?_) AllReadyH.nil
    go_simp
    (go_at_call 76; refine (HST.out _ _ (hrv5) hvv).mono ?_; rintro e v6 ⟨rfl, hlv6⟩; have hbv6 : Below W1.heap.size W1 v6 := (hbv5).trans (hlv6.mono (hbv5).size); have hrv6 : Below w.heap.size w v6 := (hrv5).trans (hlv6.mono (hrv5).size))
    try go_wp2_with fail
    refine hK.out _ _ (HCB.out _ (hbv6)) (fun hHeld => ?_)
    clear hK K
    try simp only [Act.put, List.setIfInBounds_toArray, List.set_cons_zero, List.set_cons_succ]
    refine tkH (i := 34) (oi := ⟨some 39, .pick (.tmp 31) (.tmp 38) (.const (.bool false)), 4, "l12_store.go:26", #[⟨26, .data⟩, ⟨33, .data⟩], none⟩) (v := ?v69) rfl ?y69 ?r69
    case y69 => (intro w hSw; (try dsimp only at hSw); go_simp; try with_reducible rfl)
    try simp only [Act.put, List.setIfInBounds_toArray, List.set_cons_zero, List.set_cons_succ]
    refine tkH (i := 35) (oi := ⟨some 4, .assign (.tmp 39), 4, "l12_store.go:26", #[⟨34, .data⟩, ⟨33, .chain⟩, ⟨0, .phase⟩, ⟨1, .phase⟩, ⟨2, .phase⟩, ⟨3, .phase⟩, ⟨4, .phase⟩, ⟨5, .phase⟩, ⟨6, .phase⟩, ⟨7, .phase⟩, ⟨8, .phase⟩, ⟨9, .phase⟩, ⟨10, .phase⟩, ⟨11, .phase⟩, ⟨12, .phase⟩, ⟨13, .phase⟩, ⟨14, .phase⟩, ⟨15, .phase⟩, ⟨16, .phase⟩, ⟨17, .phase⟩, ⟨18, .phase⟩, ⟨19, .phase⟩, ⟨20, .phase⟩, ⟨21, .phase⟩, ⟨22, .phase⟩, ⟨23, .phase⟩, ⟨24, .phase⟩, ⟨25, .phase⟩, ⟨26, .phase⟩, ⟨27, .phase⟩, ⟨28, .phase⟩, ⟨29, .phase⟩, ⟨30, .phase⟩, ⟨31, .phase⟩, ⟨32, .phase⟩, ⟨33, .phase⟩, ⟨34, .phase⟩], none⟩) (v := ?v70) rfl ?y70 ?r70
    case y70 => (intro w hSw; (try dsimp only at hSw); go_simp; try with_reducible rfl)
    try simp only [Act.put, List.setIfInBounds_toArray, List.set_cons_zero, List.set_cons_succ]
    refine wpAnyH_done (by kernel_rfl) ?_ _
    go_wp2_with fail
    go_ret
    exact ⟨ret_bool HV.out.symm, hrv6⟩
  · have hfk : ¬ fr.toList = [] := fun e => hfe (by
      apply ByteArray.ext
      apply Array.ext'
      rw [ByteArray.toList_eq] at e
      exact e)
    have hfi : fr.toList.isEmpty = false := by simpa using hfk
    have hfj : (fr.toList == []) = false := by simpa using hfk
    have HV : Hid (V = (wd.aokB fr && b5)) := by show _ = _; rw [HE.out]; simp [frB, hfe]
    clear HE hfe
    obtain ⟨b4, hb4⟩ : ∃ z, wd.aokB fr = z := ⟨_, rfl⟩
    rw [hb4] at HFR HV
    clear hb4
    cases b4 with
    | false =>
      try go_wp2_with fail
      refine wp_region_held_drew (S := fun w' => w'.cell? ⟨w.heap.size, 0, none⟩ = some (.string pa) ∧ w'.cell? ⟨w.heap.size, 1, none⟩ = some (.string su) ∧ w'.cell? ⟨w.heap.size, 2, none⟩ = some (.slice a2 m2 c2) ∧ w'.cell? ⟨w.heap.size, 3, none⟩ = some (.string fr) ∧ w'.cell? ⟨w.heap.size, 4, none⟩ = some (.slice (some ⟨b, o, none⟩) n c4)) (by kernel_rfl) (HCB.out _ (HD1.out)) (fun hHeld => ?_)
      refine tkH (i := 0) (oi := ⟨some 5, .fieldAddr 50 (.tmp 2) 0, 0, "l12_store.go:26", #[], none⟩) (v := ?v71) rfl ?y71 ?r71
      case y71 => (intro w hSw; (try dsimp only at hSw); go_simp; try with_reducible rfl)
      try simp only [Act.put, List.setIfInBounds_toArray, List.set_cons_zero, List.set_cons_succ]
      refine tkH (i := 1) (oi := ⟨some 6, .load 9 (.tmp 5), 9, "l12_store.go:26", #[⟨0, .data⟩], none⟩) (v := ?v72) rfl ?y72 ?r72
      case y72 => (intro w hSw; (try dsimp only at hSw); go_simp; try with_reducible rfl)
      try simp only [Act.put, List.setIfInBounds_toArray, List.set_cons_zero, List.set_cons_succ]
      refine wpAnyH_ready (rs := [2]) (by kernel_rfl) (by simp) ?_
      refine AllReadyH.cons (o := ⟨some 7, .call { callee := .value (.func 39), args := #[.tmp 6], argTypes := #[9] }, 4, "l12_store.go:26", #[⟨1, .data⟩], none⟩) rfl (fun K hK => ?_) AllReadyH.nil
      go_simp
      (go_at_call 39; refine (HPA.out _ (HD1R.out)).mono ?_; rintro e v1 ⟨rfl, hlv1⟩; have hbv1 : Below W1.heap.size W1 v1 := (HD1.out).trans (hlv1.mono (HD1.out).size); have hrv1 : Below w.heap.size w v1 := (HD1R.out).trans (hlv1.mono (HD1R.out).size))
      try go_wp2_with fail
      refine hK.out _ _ (HCB.out _ (hbv1)) (fun hHeld => ?_)
      clear hK K
      try simp only [Act.put, List.setIfInBounds_toArray, List.set_cons_zero, List.set_cons_succ]
      refine tkH (i := 3) (oi := ⟨some 8, .move (.tmp 7), 4, "l12_store.go:26", #[⟨2, .data⟩, ⟨2, .chain⟩], none⟩) (v := ?v73) rfl ?y73 ?r73
      case y73 => (intro w hSw; (try dsimp only at hSw); go_simp; try with_reducible rfl)
      try simp only [Act.put, List.setIfInBounds_toArray, List.set_cons_zero, List.set_cons_succ]
      refine tkH (i := 4) (oi := ⟨some 9, .fieldAddr 50 (.tmp 2) 4, 0, "l12_store.go:26", #[⟨3, .guard⟩], some (3, true)⟩) (v := ?v74) rfl ?y74 ?r74
      case y74 => (intro w hSw; (try dsimp only at hSw); go_simp; try with_reducible rfl)
      try simp only [Act.put, List.setIfInBounds_toArray, List.set_cons_zero, List.set_cons_succ]
      refine tkH (i := 5) (oi := ⟨some 10, .load 39 (.tmp 9), 39, "l12_store.go:26", #[⟨4, .data⟩, ⟨3, .guard⟩], some (3, true)⟩) (v := ?v75) rfl ?y75 ?r75
      case y75 => (intro w hSw; (try dsimp only at hSw); go_simp; try with_reducible rfl)
      try simp only [Act.put, List.setIfInBounds_toArray, List.set_cons_zero, List.set_cons_succ]
      refine wpAnyH_ready (rs := [6]) (by kernel_rfl) (by simp) ?_
      refine AllReadyH.cons (o := ⟨some 11, .call { callee := .value (.func 40), args := #[.tmp 10], argTypes := #[39] }, 4, "l12_store.go:26", #[⟨5, .data⟩, ⟨3, .chain⟩, ⟨3, .guard⟩], some (3, true)⟩) rfl (fun K hK => ?_) AllReadyH.nil
      go_simp
      (go_at_call 40; refine (HTR.out _ (hrv1)).mono ?_; rintro e v2 ⟨rfl, hlv2⟩; have hbv2 : Below W1.heap.size W1 v2 := (hbv1).trans (hlv2.mono (hbv1).size); have hrv2 : Below w.heap.size w v2 := (hrv1).trans (hlv2.mono (hrv1).size))
      try go_wp2_with fail
      refine hK.out _ _ (HCB.out _ (hbv2)) (fun hHeld => ?_)
      clear hK K
      try simp only [Act.put, List.setIfInBounds_toArray, List.set_cons_zero, List.set_cons_succ]
      refine tkH (i := 7) (oi := ⟨some 12, .pick (.tmp 8) (.tmp 11) (.const (.bool false)), 4, "l12_store.go:26", #[⟨3, .data⟩, ⟨6, .data⟩], none⟩) (v := ?v76) rfl ?y76 ?r76
      case y76 => (intro w hSw; (try dsimp only at hSw); go_simp; try with_reducible rfl)
      try simp only [Act.put, List.setIfInBounds_toArray, List.set_cons_zero, List.set_cons_succ]
      refine tkH (i := 8) (oi := ⟨some 13, .move (.tmp 12), 4, "l12_store.go:26", #[⟨7, .data⟩, ⟨6, .chain⟩], none⟩) (v := ?v77) rfl ?y77 ?r77
      case y77 => (intro w hSw; (try dsimp only at hSw); go_simp; try with_reducible rfl)
      try simp only [Act.put, List.setIfInBounds_toArray, List.set_cons_zero, List.set_cons_succ]
      refine tkH (i := 9) (oi := ⟨some 14, .fieldAddr 50 (.tmp 2) 1, 0, "l12_store.go:26", #[⟨8, .guard⟩], some (8, true)⟩) (v := ?v78) rfl ?y78 ?r78
      case y78 => (intro w hSw; (try dsimp only at hSw); go_simp; try with_reducible rfl)
      try simp only [Act.put, List.setIfInBounds_toArray, List.set_cons_zero, List.set_cons_succ]
      refine tkH (i := 10) (oi := ⟨some 15, .load 9 (.tmp 14), 9, "l12_store.go:26", #[⟨9, .data⟩, ⟨8, .guard⟩], some (8, true)⟩) (v := ?v79) rfl ?y79 ?r79
      case y79 => (intro w hSw; (try dsimp only at hSw); go_simp; try with_reducible rfl)
      try simp only [Act.put, List.setIfInBounds_toArray, List.set_cons_zero, List.set_cons_succ]
      refine tkH (i := 11) (oi := ⟨some 16, .fieldAddr 50 (.tmp 2) 4, 0, "l12_store.go:26", #[⟨8, .guard⟩], some (8, true)⟩) (v := ?v80) rfl ?y80 ?r80
      case y80 => (intro w hSw; (try dsimp only at hSw); go_simp; try with_reducible rfl)
      try simp only [Act.put, List.setIfInBounds_toArray, List.set_cons_zero, List.set_cons_succ]
      refine tkH (i := 12) (oi := ⟨some 17, .load 39 (.tmp 16), 39, "l12_store.go:26", #[⟨11, .data⟩, ⟨8, .guard⟩], some (8, true)⟩) (v := ?v81) rfl ?y81 ?r81
      case y81 => (intro w hSw; (try dsimp only at hSw); go_simp; try with_reducible rfl)
      try simp only [Act.put, List.setIfInBounds_toArray, List.set_cons_zero, List.set_cons_succ]
      refine wpAnyH_ready (rs := [13]) (by kernel_rfl) (by simp) ?_
      refine AllReadyH.cons (o := ⟨some 18, .call { callee := .value (.func 63), args := #[.tmp 17], argTypes := #[39] }, 9, "l12_store.go:26", #[⟨12, .data⟩, ⟨8, .chain⟩, ⟨8, .guard⟩], some (8, true)⟩) rfl (fun K hK => ?_) AllReadyH.nil
      go_simp
      (go_at_call 63; refine (HTS.out _ (hrv2)).mono ?_; rintro e v3 ⟨rfl, hlv3⟩; have hbv3 : Below W1.heap.size W1 v3 := (hbv2).trans (hlv3.mono (hbv2).size); have hrv3 : Below w.heap.size w v3 := (hrv2).trans (hlv3.mono (hrv2).size))
      try go_wp2_with fail
      refine hK.out _ _ (HCB.out _ (hbv3)) (fun hHeld => ?_)
      clear hK K
      try simp only [Act.put, List.setIfInBounds_toArray, List.set_cons_zero, List.set_cons_succ]
      refine tkH (i := 14) (oi := ⟨some 19, .binOp .eql 9 (.tmp 15) (.tmp 18) 9, 4, "l12_store.go:26", #[⟨10, .data⟩, ⟨13, .data⟩, ⟨8, .guard⟩], some (8, true)⟩) (v := ?v82) rfl ?y82 ?r82
      case y82 => (intro w hSw; (try dsimp only at hSw); go_simp; try with_reducible rfl)
      try simp only [Act.put, List.setIfInBounds_toArray, List.set_cons_zero, List.set_cons_succ]
      refine tkH (i := 15) (oi := ⟨some 20, .pick (.tmp 13) (.tmp 19) (.const (.bool false)), 4, "l12_store.go:26", #[⟨8, .data⟩, ⟨14, .data⟩], none⟩) (v := ?v83) rfl ?y83 ?r83
      case y83 => (intro w hSw; (try dsimp only at hSw); go_simp; try with_reducible rfl)
      try simp only [Act.put, List.setIfInBounds_toArray, List.set_cons_zero, List.set_cons_succ]
      refine tkH (i := 16) (oi := ⟨some 21, .move (.tmp 20), 4, "l12_store.go:26", #[⟨15, .data⟩, ⟨13, .chain⟩], none⟩) (v := ?v84) rfl ?y84 ?r84
      case y84 => (intro w hSw; (try dsimp only at hSw); go_simp; try with_reducible rfl)
      try simp only [Act.put, List.setIfInBounds_toArray, List.set_cons_zero, List.set_cons_succ]
      refine tkH (i := 17) (oi := ⟨some 22, .fieldAddr 50 (.tmp 2) 3, 0, "l12_store.go:26", #[⟨16, .guard⟩], some (16, true)⟩) (v := ?v85) rfl ?y85 ?r85
      case y85 => (intro w hSw; (try dsimp only at hSw); go_simp; try with_reducible rfl)
      try simp only [Act.put, List.setIfInBounds_toArray, List.set_cons_zero, List.set_cons_succ]
      refine tkH (i := 18) (oi := ⟨some 23, .load 9 (.tmp 22), 9, "l12_store.go:26", #[⟨17, .data⟩, ⟨16, .guard⟩], some (16, true)⟩) (v := ?v86) rfl ?y86 ?r86
      case y86 => (intro w hSw; (try dsimp only at hSw); go_simp; try with_reducible rfl)
      try simp only [Act.put, List.setIfInBounds_toArray, List.set_cons_zero, List.set_cons_succ]
      refine tkH (i := 19) (oi := ⟨some 24, .binOp .eql 9 (.tmp 23) (.const (.string { data := #[] })) 9, 4, "l12_store.go:26", #[⟨18, .data⟩, ⟨16, .guard⟩], some (16, true)⟩) (v := ?v87) rfl ?y87 ?r87
      case y87 => (intro w hSw; (try dsimp only at hSw); go_simp; try with_reducible rfl)
      try simp only [Act.put, List.setIfInBounds_toArray, List.set_cons_zero, List.set_cons_succ]
      refine tkH (i := 20) (oi := ⟨some 25, .move (.tmp 24), 4, "l12_store.go:26", #[⟨19, .data⟩, ⟨16, .chain⟩, ⟨16, .guard⟩], some (16, true)⟩) (v := ?v88) rfl ?y88 ?r88
      case y88 => (intro w hSw; (try dsimp only at hSw); go_simp; try with_reducible rfl)
      try simp only [Act.put, List.setIfInBounds_toArray, List.set_cons_zero, List.set_cons_succ]
      refine tkH (i := 21) (oi := ⟨some 26, .fieldAddr 50 (.tmp 2) 3, 0, "l12_store.go:26", #[⟨20, .guard⟩], some (20, false)⟩) (v := ?v89) rfl ?y89 ?r89
      case y89 => (intro w hSw; (try dsimp only at hSw); go_simp; try with_reducible rfl)
      try simp only [Act.put, List.setIfInBounds_toArray, List.set_cons_zero, List.set_cons_succ]
      refine tkH (i := 22) (oi := ⟨some 27, .load 9 (.tmp 26), 9, "l12_store.go:26", #[⟨21, .data⟩, ⟨20, .guard⟩], some (20, false)⟩) (v := ?v90) rfl ?y90 ?r90
      case y90 => (intro w hSw; (try dsimp only at hSw); go_simp; try with_reducible rfl)
      try simp only [Act.put, List.setIfInBounds_toArray, List.set_cons_zero, List.set_cons_succ]
      refine wpAnyH_ready (rs := [23]) (by kernel_rfl) (by simp) ?_
      refine AllReadyH.cons (o := ⟨some 28, .call { callee := .value (.func 39), args := #[.tmp 27], argTypes := #[9] }, 4, "l12_store.go:26", #[⟨22, .data⟩, ⟨20, .chain⟩, ⟨20, .guard⟩], some (20, false)⟩) rfl (fun K hK => ?_) AllReadyH.nil
      go_simp
      (go_at_call 39; refine (HFR.out _ (hrv3)).mono ?_; rintro e v4 ⟨rfl, hlv4⟩; have hbv4 : Below W1.heap.size W1 v4 := (hbv3).trans (hlv4.mono (hbv3).size); have hrv4 : Below w.heap.size w v4 := (hrv3).trans (hlv4.mono (hrv3).size))
      try go_wp2_with fail
      refine hK.out _ _ (HCB.out _ (hbv4)) (fun hHeld => ?_)
      clear hK K
      try simp only [Act.put, List.setIfInBounds_toArray, List.set_cons_zero, List.set_cons_succ]
      refine tkH (i := 24) (oi := ⟨some 29, .pick (.tmp 25) (.const (.bool true)) (.tmp 28), 4, "l12_store.go:26", #[⟨20, .data⟩, ⟨23, .data⟩, ⟨16, .guard⟩], some (16, true)⟩) (v := ?v91) rfl ?y91 ?r91
      case y91 => (intro w hSw; (try dsimp only at hSw); go_simp; try with_reducible rfl)
      try simp only [Act.put, List.setIfInBounds_toArray, List.set_cons_zero, List.set_cons_succ]
      refine tkH (i := 25) (oi := ⟨some 30, .pick (.tmp 21) (.tmp 29) (.const (.bool false)), 4, "l12_store.go:26", #[⟨16, .data⟩, ⟨24, .data⟩], none⟩) (v := ?v92) rfl ?y92 ?r92
      case y92 => (intro w hSw; (try dsimp only at hSw); go_simp; try with_reducible rfl)
      try simp only [Act.put, List.setIfInBounds_toArray, List.set_cons_zero, List.set_cons_succ]
      refine tkH (i := 26) (oi := ⟨some 31, .move (.tmp 30), 4, "l12_store.go:26", #[⟨25, .data⟩, ⟨23, .chain⟩], none⟩) (v := ?v93) rfl ?y93 ?r93
      case y93 => (intro w hSw; (try dsimp only at hSw); go_simp; try with_reducible rfl)
      try simp only [Act.put, List.setIfInBounds_toArray, List.set_cons_zero, List.set_cons_succ]
      refine skH (i := 27) (oi := ⟨some 32, .fieldAddr 50 (.tmp 2) 2, 0, "l12_store.go:26", #[⟨26, .guard⟩], some (26, true)⟩) rfl ?_
      try simp only [Act.put, List.setIfInBounds_toArray, List.set_cons_zero, List.set_cons_succ]
      refine skH (i := 28) (oi := ⟨some 33, .load 23 (.tmp 32), 23, "l12_store.go:26", #[⟨27, .data⟩, ⟨26, .guard⟩], some (26, true)⟩) rfl ?_
      try simp only [Act.put, List.setIfInBounds_toArray, List.set_cons_zero, List.set_cons_succ]
      refine skH (i := 29) (oi := ⟨some 34, .fieldAddr 50 (.tmp 2) 4, 0, "l12_store.go:26", #[⟨26, .guard⟩], some (26, true)⟩) rfl ?_
      try simp only [Act.put, List.setIfInBounds_toArray, List.set_cons_zero, List.set_cons_succ]
      refine skH (i := 30) (oi := ⟨some 35, .load 39 (.tmp 34), 39, "l12_store.go:26", #[⟨29, .data⟩, ⟨26, .guard⟩], some (26, true)⟩) rfl ?_
      try simp only [Act.put, List.setIfInBounds_toArray, List.set_cons_zero, List.set_cons_succ]
      refine skH (i := 31) (oi := ⟨some 36, .move (.tmp 1), 23, "l12_store.go:26", #[⟨26, .guard⟩], some (26, true)⟩) rfl ?_
      try simp only [Act.put, List.setIfInBounds_toArray, List.set_cons_zero, List.set_cons_succ]
      refine skH (i := 32) (oi := ⟨some 37, .call { callee := .value (.func 65), args := #[.tmp 35, .tmp 36], argTypes := #[39, 23] }, 23, "l12_store.go:26", #[⟨30, .data⟩, ⟨31, .data⟩, ⟨26, .chain⟩, ⟨26, .guard⟩], some (26, true)⟩) rfl ?_
      try simp only [Act.put, List.setIfInBounds_toArray, List.set_cons_zero, List.set_cons_succ]
      refine skH (i := 33) (oi := ⟨some 38, .call { callee := .value (.func 76), args := #[.tmp 33, .tmp 37], argTypes := #[23, 23] }, 4, "l12_store.go:26", #[⟨28, .data⟩, ⟨32, .data⟩, ⟨32, .chain⟩, ⟨26, .guard⟩], some (26, true)⟩) rfl ?_
      try simp only [Act.put, List.setIfInBounds_toArray, List.set_cons_zero, List.set_cons_succ]
      refine tkH (i := 34) (oi := ⟨some 39, .pick (.tmp 31) (.tmp 38) (.const (.bool false)), 4, "l12_store.go:26", #[⟨26, .data⟩, ⟨33, .data⟩], none⟩) (v := ?v94) rfl ?y94 ?r94
      case y94 => (intro w hSw; (try dsimp only at hSw); go_simp; try with_reducible rfl)
      try simp only [Act.put, List.setIfInBounds_toArray, List.set_cons_zero, List.set_cons_succ]
      refine tkH (i := 35) (oi := ⟨some 4, .assign (.tmp 39), 4, "l12_store.go:26", #[⟨34, .data⟩, ⟨33, .chain⟩, ⟨0, .phase⟩, ⟨1, .phase⟩, ⟨2, .phase⟩, ⟨3, .phase⟩, ⟨4, .phase⟩, ⟨5, .phase⟩, ⟨6, .phase⟩, ⟨7, .phase⟩, ⟨8, .phase⟩, ⟨9, .phase⟩, ⟨10, .phase⟩, ⟨11, .phase⟩, ⟨12, .phase⟩, ⟨13, .phase⟩, ⟨14, .phase⟩, ⟨15, .phase⟩, ⟨16, .phase⟩, ⟨17, .phase⟩, ⟨18, .phase⟩, ⟨19, .phase⟩, ⟨20, .phase⟩, ⟨21, .phase⟩, ⟨22, .phase⟩, ⟨23, .phase⟩, ⟨24, .phase⟩, ⟨25, .phase⟩, ⟨26, .phase⟩, ⟨27, .phase⟩, ⟨28, .phase⟩, ⟨29, .phase⟩, ⟨30, .phase⟩, ⟨31, .phase⟩, ⟨32, .phase⟩, ⟨33, .phase⟩, ⟨34, .phase⟩], none⟩) (v := ?v95) rfl ?y95 ?r95
      case y95 => (intro w hSw; (try dsimp only at hSw); go_simp; try with_reducible rfl)
      try simp only [Act.put, List.setIfInBounds_toArray, List.set_cons_zero, List.set_cons_succ]
      refine wpAnyH_done (by kernel_rfl) ?_ _
      go_wp2_with fail
      go_ret
      exact ⟨ret_bool HV.out.symm, hrv4⟩
    | true =>
      try go_wp2_with fail
      refine wp_region_held_drew (S := fun w' => w'.cell? ⟨w.heap.size, 0, none⟩ = some (.string pa) ∧ w'.cell? ⟨w.heap.size, 1, none⟩ = some (.string su) ∧ w'.cell? ⟨w.heap.size, 2, none⟩ = some (.slice a2 m2 c2) ∧ w'.cell? ⟨w.heap.size, 3, none⟩ = some (.string fr) ∧ w'.cell? ⟨w.heap.size, 4, none⟩ = some (.slice (some ⟨b, o, none⟩) n c4)) (by kernel_rfl) (HCB.out _ (HD1.out)) (fun hHeld => ?_)
      refine tkH (i := 0) (oi := ⟨some 5, .fieldAddr 50 (.tmp 2) 0, 0, "l12_store.go:26", #[], none⟩) (v := ?v96) rfl ?y96 ?r96
      case y96 => (intro w hSw; (try dsimp only at hSw); go_simp; try with_reducible rfl)
      try simp only [Act.put, List.setIfInBounds_toArray, List.set_cons_zero, List.set_cons_succ]
      refine tkH (i := 1) (oi := ⟨some 6, .load 9 (.tmp 5), 9, "l12_store.go:26", #[⟨0, .data⟩], none⟩) (v := ?v97) rfl ?y97 ?r97
      case y97 => (intro w hSw; (try dsimp only at hSw); go_simp; try with_reducible rfl)
      try simp only [Act.put, List.setIfInBounds_toArray, List.set_cons_zero, List.set_cons_succ]
      refine wpAnyH_ready (rs := [2]) (by kernel_rfl) (by simp) ?_
      refine AllReadyH.cons (o := ⟨some 7, .call { callee := .value (.func 39), args := #[.tmp 6], argTypes := #[9] }, 4, "l12_store.go:26", #[⟨1, .data⟩], none⟩) rfl (fun K hK => ?_) AllReadyH.nil
      go_simp
      (go_at_call 39; refine (HPA.out _ (HD1R.out)).mono ?_; rintro e v1 ⟨rfl, hlv1⟩; have hbv1 : Below W1.heap.size W1 v1 := (HD1.out).trans (hlv1.mono (HD1.out).size); have hrv1 : Below w.heap.size w v1 := (HD1R.out).trans (hlv1.mono (HD1R.out).size))
      try go_wp2_with fail
      refine hK.out _ _ (HCB.out _ (hbv1)) (fun hHeld => ?_)
      clear hK K
      try simp only [Act.put, List.setIfInBounds_toArray, List.set_cons_zero, List.set_cons_succ]
      refine tkH (i := 3) (oi := ⟨some 8, .move (.tmp 7), 4, "l12_store.go:26", #[⟨2, .data⟩, ⟨2, .chain⟩], none⟩) (v := ?v98) rfl ?y98 ?r98
      case y98 => (intro w hSw; (try dsimp only at hSw); go_simp; try with_reducible rfl)
      try simp only [Act.put, List.setIfInBounds_toArray, List.set_cons_zero, List.set_cons_succ]
      refine tkH (i := 4) (oi := ⟨some 9, .fieldAddr 50 (.tmp 2) 4, 0, "l12_store.go:26", #[⟨3, .guard⟩], some (3, true)⟩) (v := ?v99) rfl ?y99 ?r99
      case y99 => (intro w hSw; (try dsimp only at hSw); go_simp; try with_reducible rfl)
      try simp only [Act.put, List.setIfInBounds_toArray, List.set_cons_zero, List.set_cons_succ]
      refine tkH (i := 5) (oi := ⟨some 10, .load 39 (.tmp 9), 39, "l12_store.go:26", #[⟨4, .data⟩, ⟨3, .guard⟩], some (3, true)⟩) (v := ?v100) rfl ?y100 ?r100
      case y100 => (intro w hSw; (try dsimp only at hSw); go_simp; try with_reducible rfl)
      try simp only [Act.put, List.setIfInBounds_toArray, List.set_cons_zero, List.set_cons_succ]
      refine wpAnyH_ready (rs := [6]) (by kernel_rfl) (by simp) ?_
      refine AllReadyH.cons (o := ⟨some 11, .call { callee := .value (.func 40), args := #[.tmp 10], argTypes := #[39] }, 4, "l12_store.go:26", #[⟨5, .data⟩, ⟨3, .chain⟩, ⟨3, .guard⟩], some (3, true)⟩) rfl (fun K hK => ?_) AllReadyH.nil
      go_simp
      (go_at_call 40; refine (HTR.out _ (hrv1)).mono ?_; rintro e v2 ⟨rfl, hlv2⟩; have hbv2 : Below W1.heap.size W1 v2 := (hbv1).trans (hlv2.mono (hbv1).size); have hrv2 : Below w.heap.size w v2 := (hrv1).trans (hlv2.mono (hrv1).size))
      try go_wp2_with fail
      refine hK.out _ _ (HCB.out _ (hbv2)) (fun hHeld => ?_)
      clear hK K
      try simp only [Act.put, List.setIfInBounds_toArray, List.set_cons_zero, List.set_cons_succ]
      refine tkH (i := 7) (oi := ⟨some 12, .pick (.tmp 8) (.tmp 11) (.const (.bool false)), 4, "l12_store.go:26", #[⟨3, .data⟩, ⟨6, .data⟩], none⟩) (v := ?v101) rfl ?y101 ?r101
      case y101 => (intro w hSw; (try dsimp only at hSw); go_simp; try with_reducible rfl)
      try simp only [Act.put, List.setIfInBounds_toArray, List.set_cons_zero, List.set_cons_succ]
      refine tkH (i := 8) (oi := ⟨some 13, .move (.tmp 12), 4, "l12_store.go:26", #[⟨7, .data⟩, ⟨6, .chain⟩], none⟩) (v := ?v102) rfl ?y102 ?r102
      case y102 => (intro w hSw; (try dsimp only at hSw); go_simp; try with_reducible rfl)
      try simp only [Act.put, List.setIfInBounds_toArray, List.set_cons_zero, List.set_cons_succ]
      refine tkH (i := 9) (oi := ⟨some 14, .fieldAddr 50 (.tmp 2) 1, 0, "l12_store.go:26", #[⟨8, .guard⟩], some (8, true)⟩) (v := ?v103) rfl ?y103 ?r103
      case y103 => (intro w hSw; (try dsimp only at hSw); go_simp; try with_reducible rfl)
      try simp only [Act.put, List.setIfInBounds_toArray, List.set_cons_zero, List.set_cons_succ]
      refine tkH (i := 10) (oi := ⟨some 15, .load 9 (.tmp 14), 9, "l12_store.go:26", #[⟨9, .data⟩, ⟨8, .guard⟩], some (8, true)⟩) (v := ?v104) rfl ?y104 ?r104
      case y104 => (intro w hSw; (try dsimp only at hSw); go_simp; try with_reducible rfl)
      try simp only [Act.put, List.setIfInBounds_toArray, List.set_cons_zero, List.set_cons_succ]
      refine tkH (i := 11) (oi := ⟨some 16, .fieldAddr 50 (.tmp 2) 4, 0, "l12_store.go:26", #[⟨8, .guard⟩], some (8, true)⟩) (v := ?v105) rfl ?y105 ?r105
      case y105 => (intro w hSw; (try dsimp only at hSw); go_simp; try with_reducible rfl)
      try simp only [Act.put, List.setIfInBounds_toArray, List.set_cons_zero, List.set_cons_succ]
      refine tkH (i := 12) (oi := ⟨some 17, .load 39 (.tmp 16), 39, "l12_store.go:26", #[⟨11, .data⟩, ⟨8, .guard⟩], some (8, true)⟩) (v := ?v106) rfl ?y106 ?r106
      case y106 => (intro w hSw; (try dsimp only at hSw); go_simp; try with_reducible rfl)
      try simp only [Act.put, List.setIfInBounds_toArray, List.set_cons_zero, List.set_cons_succ]
      refine wpAnyH_ready (rs := [13]) (by kernel_rfl) (by simp) ?_
      refine AllReadyH.cons (o := ⟨some 18, .call { callee := .value (.func 63), args := #[.tmp 17], argTypes := #[39] }, 9, "l12_store.go:26", #[⟨12, .data⟩, ⟨8, .chain⟩, ⟨8, .guard⟩], some (8, true)⟩) rfl (fun K hK => ?_) AllReadyH.nil
      go_simp
      (go_at_call 63; refine (HTS.out _ (hrv2)).mono ?_; rintro e v3 ⟨rfl, hlv3⟩; have hbv3 : Below W1.heap.size W1 v3 := (hbv2).trans (hlv3.mono (hbv2).size); have hrv3 : Below w.heap.size w v3 := (hrv2).trans (hlv3.mono (hrv2).size))
      try go_wp2_with fail
      refine hK.out _ _ (HCB.out _ (hbv3)) (fun hHeld => ?_)
      clear hK K
      try simp only [Act.put, List.setIfInBounds_toArray, List.set_cons_zero, List.set_cons_succ]
      refine tkH (i := 14) (oi := ⟨some 19, .binOp .eql 9 (.tmp 15) (.tmp 18) 9, 4, "l12_store.go:26", #[⟨10, .data⟩, ⟨13, .data⟩, ⟨8, .guard⟩], some (8, true)⟩) (v := ?v107) rfl ?y107 ?r107
      case y107 => (intro w hSw; (try dsimp only at hSw); go_simp; try with_reducible rfl)
      try simp only [Act.put, List.setIfInBounds_toArray, List.set_cons_zero, List.set_cons_succ]
      refine tkH (i := 15) (oi := ⟨some 20, .pick (.tmp 13) (.tmp 19) (.const (.bool false)), 4, "l12_store.go:26", #[⟨8, .data⟩, ⟨14, .data⟩], none⟩) (v := ?v108) rfl ?y108 ?r108
      case y108 => (intro w hSw; (try dsimp only at hSw); go_simp; try with_reducible rfl)
      try simp only [Act.put, List.setIfInBounds_toArray, List.set_cons_zero, List.set_cons_succ]
      refine tkH (i := 16) (oi := ⟨some 21, .move (.tmp 20), 4, "l12_store.go:26", #[⟨15, .data⟩, ⟨13, .chain⟩], none⟩) (v := ?v109) rfl ?y109 ?r109
      case y109 => (intro w hSw; (try dsimp only at hSw); go_simp; try with_reducible rfl)
      try simp only [Act.put, List.setIfInBounds_toArray, List.set_cons_zero, List.set_cons_succ]
      refine tkH (i := 17) (oi := ⟨some 22, .fieldAddr 50 (.tmp 2) 3, 0, "l12_store.go:26", #[⟨16, .guard⟩], some (16, true)⟩) (v := ?v110) rfl ?y110 ?r110
      case y110 => (intro w hSw; (try dsimp only at hSw); go_simp; try with_reducible rfl)
      try simp only [Act.put, List.setIfInBounds_toArray, List.set_cons_zero, List.set_cons_succ]
      refine tkH (i := 18) (oi := ⟨some 23, .load 9 (.tmp 22), 9, "l12_store.go:26", #[⟨17, .data⟩, ⟨16, .guard⟩], some (16, true)⟩) (v := ?v111) rfl ?y111 ?r111
      case y111 => (intro w hSw; (try dsimp only at hSw); go_simp; try with_reducible rfl)
      try simp only [Act.put, List.setIfInBounds_toArray, List.set_cons_zero, List.set_cons_succ]
      refine tkH (i := 19) (oi := ⟨some 24, .binOp .eql 9 (.tmp 23) (.const (.string { data := #[] })) 9, 4, "l12_store.go:26", #[⟨18, .data⟩, ⟨16, .guard⟩], some (16, true)⟩) (v := ?v112) rfl ?y112 ?r112
      case y112 => (intro w hSw; (try dsimp only at hSw); go_simp; try with_reducible rfl)
      try simp only [Act.put, List.setIfInBounds_toArray, List.set_cons_zero, List.set_cons_succ]
      refine tkH (i := 20) (oi := ⟨some 25, .move (.tmp 24), 4, "l12_store.go:26", #[⟨19, .data⟩, ⟨16, .chain⟩, ⟨16, .guard⟩], some (16, true)⟩) (v := ?v113) rfl ?y113 ?r113
      case y113 => (intro w hSw; (try dsimp only at hSw); go_simp; try with_reducible rfl)
      try simp only [Act.put, List.setIfInBounds_toArray, List.set_cons_zero, List.set_cons_succ]
      refine tkH (i := 21) (oi := ⟨some 26, .fieldAddr 50 (.tmp 2) 3, 0, "l12_store.go:26", #[⟨20, .guard⟩], some (20, false)⟩) (v := ?v114) rfl ?y114 ?r114
      case y114 => (intro w hSw; (try dsimp only at hSw); go_simp; try with_reducible rfl)
      try simp only [Act.put, List.setIfInBounds_toArray, List.set_cons_zero, List.set_cons_succ]
      refine tkH (i := 22) (oi := ⟨some 27, .load 9 (.tmp 26), 9, "l12_store.go:26", #[⟨21, .data⟩, ⟨20, .guard⟩], some (20, false)⟩) (v := ?v115) rfl ?y115 ?r115
      case y115 => (intro w hSw; (try dsimp only at hSw); go_simp; try with_reducible rfl)
      try simp only [Act.put, List.setIfInBounds_toArray, List.set_cons_zero, List.set_cons_succ]
      refine wpAnyH_ready (rs := [23]) (by kernel_rfl) (by simp) ?_
      refine AllReadyH.cons (o := ⟨some 28, .call { callee := .value (.func 39), args := #[.tmp 27], argTypes := #[9] }, 4, "l12_store.go:26", #[⟨22, .data⟩, ⟨20, .chain⟩, ⟨20, .guard⟩], some (20, false)⟩) rfl (fun K hK => ?_) AllReadyH.nil
      go_simp
      (go_at_call 39; refine (HFR.out _ (hrv3)).mono ?_; rintro e v4 ⟨rfl, hlv4⟩; have hbv4 : Below W1.heap.size W1 v4 := (hbv3).trans (hlv4.mono (hbv3).size); have hrv4 : Below w.heap.size w v4 := (hrv3).trans (hlv4.mono (hrv3).size))
      try go_wp2_with fail
      refine hK.out _ _ (HCB.out _ (hbv4)) (fun hHeld => ?_)
      clear hK K
      try simp only [Act.put, List.setIfInBounds_toArray, List.set_cons_zero, List.set_cons_succ]
      refine tkH (i := 24) (oi := ⟨some 29, .pick (.tmp 25) (.const (.bool true)) (.tmp 28), 4, "l12_store.go:26", #[⟨20, .data⟩, ⟨23, .data⟩, ⟨16, .guard⟩], some (16, true)⟩) (v := ?v116) rfl ?y116 ?r116
      case y116 => (intro w hSw; (try dsimp only at hSw); go_simp; try with_reducible rfl)
      try simp only [Act.put, List.setIfInBounds_toArray, List.set_cons_zero, List.set_cons_succ]
      refine tkH (i := 25) (oi := ⟨some 30, .pick (.tmp 21) (.tmp 29) (.const (.bool false)), 4, "l12_store.go:26", #[⟨16, .data⟩, ⟨24, .data⟩], none⟩) (v := ?v117) rfl ?y117 ?r117
      case y117 => (intro w hSw; (try dsimp only at hSw); go_simp; try with_reducible rfl)
      try simp only [Act.put, List.setIfInBounds_toArray, List.set_cons_zero, List.set_cons_succ]
      refine tkH (i := 26) (oi := ⟨some 31, .move (.tmp 30), 4, "l12_store.go:26", #[⟨25, .data⟩, ⟨23, .chain⟩], none⟩) (v := ?v118) rfl ?y118 ?r118
      case y118 => (intro w hSw; (try dsimp only at hSw); go_simp; try with_reducible rfl)
      try simp only [Act.put, List.setIfInBounds_toArray, List.set_cons_zero, List.set_cons_succ]
      refine tkH (i := 27) (oi := ⟨some 32, .fieldAddr 50 (.tmp 2) 2, 0, "l12_store.go:26", #[⟨26, .guard⟩], some (26, true)⟩) (v := ?v119) rfl ?y119 ?r119
      case y119 => (intro w hSw; (try dsimp only at hSw); go_simp; try with_reducible rfl)
      try simp only [Act.put, List.setIfInBounds_toArray, List.set_cons_zero, List.set_cons_succ]
      refine tkH (i := 28) (oi := ⟨some 33, .load 23 (.tmp 32), 23, "l12_store.go:26", #[⟨27, .data⟩, ⟨26, .guard⟩], some (26, true)⟩) (v := ?v120) rfl ?y120 ?r120
      case y120 => (intro w hSw; (try dsimp only at hSw); go_simp; try with_reducible rfl)
      try simp only [Act.put, List.setIfInBounds_toArray, List.set_cons_zero, List.set_cons_succ]
      refine tkH (i := 29) (oi := ⟨some 34, .fieldAddr 50 (.tmp 2) 4, 0, "l12_store.go:26", #[⟨26, .guard⟩], some (26, true)⟩) (v := ?v121) rfl ?y121 ?r121
      case y121 => (intro w hSw; (try dsimp only at hSw); go_simp; try with_reducible rfl)
      try simp only [Act.put, List.setIfInBounds_toArray, List.set_cons_zero, List.set_cons_succ]
      refine tkH (i := 30) (oi := ⟨some 35, .load 39 (.tmp 34), 39, "l12_store.go:26", #[⟨29, .data⟩, ⟨26, .guard⟩], some (26, true)⟩) (v := ?v122) rfl ?y122 ?r122
      case y122 => (intro w hSw; (try dsimp only at hSw); go_simp; try with_reducible rfl)
      try simp only [Act.put, List.setIfInBounds_toArray, List.set_cons_zero, List.set_cons_succ]
      refine tkH (i := 31) (oi := ⟨some 36, .move (.tmp 1), 23, "l12_store.go:26", #[⟨26, .guard⟩], some (26, true)⟩) (v := ?v123) rfl ?y123 ?r123
      case y123 => (intro w hSw; (try dsimp only at hSw); go_simp; try with_reducible rfl)
      try simp only [Act.put, List.setIfInBounds_toArray, List.set_cons_zero, List.set_cons_succ]
      refine wpAnyH_ready (rs := [32]) (by kernel_rfl) (by simp) ?_
      refine AllReadyH.cons (o := ⟨some 37, .call { callee := .value (.func 65), args := #[.tmp 35, .tmp 36], argTypes := #[39, 23] }, 23, "l12_store.go:26", #[⟨30, .data⟩, ⟨31, .data⟩, ⟨26, .chain⟩, ⟨26, .guard⟩], some (26, true)⟩) rfl (fun K hK => ?_) AllReadyH.nil
      go_simp
      (go_at_call 65; refine (HRF.out _ (hrv4)).mono ?_; rintro e v5 ⟨⟨vv, rfl, hvv⟩, hlv5⟩; have hbv5 : Below W1.heap.size W1 v5 := (hbv4).trans (hlv5.mono (hbv4).size); have hrv5 : Below w.heap.size w v5 := (hrv4).trans (hlv5.mono (hrv4).size))
      try go_wp2_with fail
      refine hK.out _ _ (HCB.out _ (hbv5)) (fun hHeld => ?_)
      clear hK K
      try simp only [Act.put, List.setIfInBounds_toArray, List.set_cons_zero, List.set_cons_succ]
      refine wpAnyH_ready (rs := [33]) (by kernel_rfl) (by simp) ?_
      refine AllReadyH.cons (o := ⟨some 38, .call { callee := .value (.func 76), args := #[.tmp 33, .tmp 37], argTypes := #[23, 23] }, 4, "l12_store.go:26", #[⟨28, .data⟩, ⟨32, .data⟩, ⟨32, .chain⟩, ⟨26, .guard⟩], some (26, true)⟩) rfl (fun K hK => ?_) AllReadyH.nil
      go_simp
      (go_at_call 76; refine (HST.out _ _ (hrv5) hvv).mono ?_; rintro e v6 ⟨rfl, hlv6⟩; have hbv6 : Below W1.heap.size W1 v6 := (hbv5).trans (hlv6.mono (hbv5).size); have hrv6 : Below w.heap.size w v6 := (hrv5).trans (hlv6.mono (hrv5).size))
      try go_wp2_with fail
      refine hK.out _ _ (HCB.out _ (hbv6)) (fun hHeld => ?_)
      clear hK K
      try simp only [Act.put, List.setIfInBounds_toArray, List.set_cons_zero, List.set_cons_succ]
      refine tkH (i := 34) (oi := ⟨some 39, .pick (.tmp 31) (.tmp 38) (.const (.bool false)), 4, "l12_store.go:26", #[⟨26, .data⟩, ⟨33, .data⟩], none⟩) (v := ?v124) rfl ?y124 ?r124
      case y124 => (intro w hSw; (try dsimp only at hSw); go_simp; try with_reducible rfl)
      try simp only [Act.put, List.setIfInBounds_toArray, List.set_cons_zero, List.set_cons_succ]
      refine tkH (i := 35) (oi := ⟨some 4, .assign (.tmp 39), 4, "l12_store.go:26", #[⟨34, .data⟩, ⟨33, .chain⟩, ⟨0, .phase⟩, ⟨1, .phase⟩, ⟨2, .phase⟩, ⟨3, .phase⟩, ⟨4, .phase⟩, ⟨5, .phase⟩, ⟨6, .phase⟩, ⟨7, .phase⟩, ⟨8, .phase⟩, ⟨9, .phase⟩, ⟨10, .phase⟩, ⟨11, .phase⟩, ⟨12, .phase⟩, ⟨13, .phase⟩, ⟨14, .phase⟩, ⟨15, .phase⟩, ⟨16, .phase⟩, ⟨17, .phase⟩, ⟨18, .phase⟩, ⟨19, .phase⟩, ⟨20, .phase⟩, ⟨21, .phase⟩, ⟨22, .phase⟩, ⟨23, .phase⟩, ⟨24, .phase⟩, ⟨25, .phase⟩, ⟨26, .phase⟩, ⟨27, .phase⟩, ⟨28, .phase⟩, ⟨29, .phase⟩, ⟨30, .phase⟩, ⟨31, .phase⟩, ⟨32, .phase⟩, ⟨33, .phase⟩, ⟨34, .phase⟩], none⟩) (v := ?v125) rfl ?y125 ?r125
      case y125 => (intro w hSw; (try dsimp only at hSw); go_simp; try with_reducible rfl)
      try simp only [Act.put, List.setIfInBounds_toArray, List.set_cons_zero, List.set_cons_succ]
      refine wpAnyH_done (by kernel_rfl) ?_ _
      go_wp2_with fail
      go_ret
      exact ⟨ret_bool (by rw [HV.out]; rfl), hrv6⟩

end Go.Proofs.YtakkmkeipfjapaaGreatDoor.so
