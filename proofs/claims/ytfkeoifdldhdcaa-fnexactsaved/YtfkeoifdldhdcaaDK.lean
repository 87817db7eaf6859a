import Derived.Test.YtfkeoifdldhdcaaDO
namespace Go.Proofs.Ytfkeoifdldhdcaa.dl
open Go.ChangeShapes Go.WideShapes Go.ChangeAt Go.RowKit Go.Deep
set_option linter.unusedVariables false
set_option linter.unusedSimpArgs false

/-! ### Marks of bytes and of steps -/

theorem grown_set {w w' : World} {b : Nat} (h : w.grownBy w' (some b)) (i : Nat) (x : Value) : w.grownBy (w'.setCell ⟨b, i, none⟩ x) (some b) :=
  ⟨h.os, h.tape, h.output, by simpa using h.size, fun k hk hne => by
    rw [← h.block k hk hne]
    simp only [World.setCell]
    rw [Array.getElem?_modify]
    split
    · next e => exact absurd (by simp [e]) hne
    · rfl⟩
theorem grown_below {w w' w'' : World} {b : Nat} (h : w.grownBy w' (some b)) (hb : Below w'.heap.size w' w'') : w.grownBy w'' (some b) :=
  ⟨hb.os.trans h.os, hb.tape.trans h.tape, hb.output.trans h.output, Nat.le_trans h.size hb.size, fun k hk hne => (hb.block k (Nat.lt_of_lt_of_le hk h.size)).trans (h.block k hk hne)⟩
theorem grown_refl (w : World) (r : Option Nat) : w.grownBy w r := ⟨rfl, rfl, rfl, Nat.le_refl _, fun _ _ _ => rfl⟩

/-- Bytes, marked up to there. -/
def MB (w : World) (g i k0 : Nat) : Prop := ∀ j, j < i → w.cell? ⟨g, j, none⟩ = some (.int .u8 (((k0 + j : Nat) : Int) % 256))
/-- Cells that may be written. -/
def WB (w : World) (g z : Nat) : Prop := ∀ j, j < z → (w.cell? ⟨g, j, none⟩).isSome = true ∧ w.frozen? ⟨g, j, none⟩ = false

theorem WB.set {w : World} {g z : Nat} (h : WB w g z) (i : Nat) (x : Value) : WB (w.setCell ⟨g, i, none⟩ x) g z := fun j hj => by
  obtain ⟨h1, h2⟩ := h j hj
  refine ⟨?_, by rw [← h2]; simp [go_sem]⟩
  by_cases hji : j = i
  · subst hji
    obtain ⟨u, hu⟩ := Option.isSome_iff_exists.1 h1
    rw [World.cell?_setCell_same _ _ _ hu]; rfl
  · rw [World.cell?_setCell_other _ _ _ _ (fun e => hji (by cases e; rfl))]; exact h1

theorem MB.set {w : World} {g z i k0 : Nat} (h : MB w g i k0) (hw : WB w g z) (hi : i < z) : MB (w.setCell ⟨g, i, none⟩ (.int .u8 (((k0 + i : Nat) : Int) % 256))) g (i + 1) k0 := fun j hj => by
  by_cases hji : j = i
  · subst hji
    obtain ⟨u, hu⟩ := Option.isSome_iff_exists.1 (hw j hi).1
    exact World.cell?_setCell_same _ _ _ hu
  · rw [World.cell?_setCell_other _ _ _ _ (fun e => hji (by cases e; rfl))]; exact h j (by omega)

set_option maxRecDepth 100000 in
theorem markB_any (a : Option Addr) (g z c k0 : Nat) (w : World) (ha : z = 0 ∨ a = some ⟨g, 0, none⟩) (hw : WB w g z) (hn : k0 + z ≤ 9000000000000) :
    Calls Try.prog 10 #[.slice a z c, .int .i64 (k0 : Int)] w fun e w' => e = .returned (.int .i64 ((k0 + z : Nat) : Int)) ∧ MB w' g z k0 ∧ WB w' g z ∧ w.grownBy w' (some g) := by
  go_enter Try.func10, Try.ntmps10
  go_wp2
  go_loopw [1, 5] (fun v x wr => ∃ (i : Nat), i ≤ z ∧ x = .int .i64 (i : Int) ∧ v = .int .i64 ((k0 + i : Nat) : Int) ∧ MB wr g i k0 ∧ WB wr g z ∧ w.grownBy wr (some g)) (fun _ x _ => z - (intOf x).toNat)
  case atStart => exact ⟨0, Nat.zero_le _, rfl, rfl, fun j hj => by omega, hw, grown_refl _ _⟩
  case round =>
    clear hw
    obtain ⟨i, hi, rfl, rfl, hM, hW, hg⟩ := hrel
    by_cases h : i < z
    · have h' : (i : Int) < (z : Int) := by omega
      obtain rfl := ha.resolve_left (by omega)
      obtain ⟨u, hu⟩ := Option.isSome_iff_exists.1 (hW i h).1
      have hf := (hW i h).2
      have HM1 : Hid (MB (wr.setCell ⟨g, i, none⟩ (.int .u8 (((k0 + i : Nat) : Int) % 256))) g (i + 1) k0) := hM.set hW h
      have HW1 : Hid (∀ v, WB (wr.setCell ⟨g, i, none⟩ v) g z) := fun v => hW.set _ _
      have HG1 : Hid (∀ v, w.grownBy (wr.setCell ⟨g, i, none⟩ v) (some g)) := fun v => grown_set hg _ _
      obtain ⟨K, hK⟩ : ∃ K : Nat, k0 + i = K := ⟨_, rfl⟩
      have HKK : Hid (k0 + i = K) := hK
      have hKb : K ≤ 9000000000000 := by omega
      rw [hK] at HM1 ⊢
      clear hK hM hW hg
      go_wp2
      go_roundw
      case rel => exact ⟨i + 1, by omega, by go_num, by rw [← Nat.add_assoc, HKK.out]; go_num, HM1.out, HW1.out _, HG1.out _⟩
      case measure => simp [intOf]; omega
    · have h' : ¬ (i : Int) < (z : Int) := by omega
      obtain rfl : i = z := by omega
      go_wp2
      go_ret
      exact ⟨rfl, hM, hW, hg⟩

set_option maxRecDepth 100000 in
theorem heldB_any (a : Option Addr) (g z c k0 : Nat) (w : World) (ha : z = 0 ∨ a = some ⟨g, 0, none⟩) (hM : MB w g z k0) (hn : k0 + z ≤ 9000000000000) :
    Calls Try.prog 20 #[.slice a z c, .int .i64 (k0 : Int)] w fun e w' => e = .returned (.int .i64 ((k0 + z : Nat) : Int)) ∧ w' = w := by
  go_enter Try.func20, Try.ntmps20
  go_wp2
  go_loopw [1, 5] (fun v x wr => ∃ (i : Nat), i ≤ z ∧ x = .int .i64 (i : Int) ∧ v = .int .i64 ((k0 + i : Nat) : Int) ∧ wr = w) (fun _ x _ => z - (intOf x).toNat)
  case atStart => exact ⟨0, Nat.zero_le _, rfl, rfl, rfl⟩
  case round =>
    obtain ⟨i, hi, rfl, rfl, hw⟩ := hrel
    by_cases h : i < z
    · have h' : (i : Int) < (z : Int) := by omega
      obtain rfl := ha.resolve_left (by omega)
      have ce := hM i h
      rw [← hw] at ce
      have HW : Hid (wr = w) := hw
      obtain ⟨K, hK⟩ : ∃ K : Nat, k0 + i = K := ⟨_, rfl⟩
      have HKK : Hid (k0 + i = K) := hK
      have hKb : K ≤ 9000000000000 := by omega
      rw [hK] at ce ⊢
      clear hK hM hw
      go_wp2
      go_roundw
      case rel => exact ⟨i + 1, by omega, by go_num, by rw [← Nat.add_assoc, HKK.out]; go_num, HW.out⟩
      case measure => simp [intOf]; omega
    · have h' : ¬ (i : Int) < (z : Int) := by omega
      obtain rfl : i = z := by omega
      go_wp2
      go_ret
      first | exact ⟨rfl, rfl⟩ | exact ⟨rfl, hw⟩

/-- What an entry is marked as. -/
theorem two_types {w : World} {b t t' N N' : Nat} {f f' : Nat → Value} (h : w.rowIs b t N f) (h' : w.rowIs b t' N' f') : t = t' := by
  obtain ⟨c, hc, _⟩ := h
  obtain ⟨c', hc', _⟩ := h'
  rw [hc] at hc'
  cases hc'
  rfl

theorem OwS.upd {lo hi : Nat} {w w' : World} {b : Nat} {gs : Nat → Nat} {ss : List Sp} {k c' : Nat} {a' : Option Addr} {x x' : Sp} (h : OwS lo hi w b gs ss) (hx : ss[k]? = some x) (hs' : w.heap.size ≤ w'.heap.size)
    (hoth : ∀ j, lo ≤ j → j < hi → j ≠ b → (x.d ≠ [] → j ≠ gs k) → w'.heap[j]? = w.heap[j]?) (hrow : ∃ N f, ss.length * 4 ≤ N ∧ w'.rowIs b 34 N f)
    (hcell : ∀ o, o / 4 ≠ k → w'.cell? ⟨b, o, none⟩ = w.cell? ⟨b, o, none⟩)
    (h0 : w'.cell? ⟨b, k * 4, none⟩ = some (.int .i64 x'.k)) (h1 : w'.cell? ⟨b, k * 4 + 1, none⟩ = some (.int .i64 x'.p)) (h2 : w'.cell? ⟨b, k * 4 + 2, none⟩ = some (.int .i64 x'.n)) (h3 : w'.cell? ⟨b, k * 4 + 3, none⟩ = some (.slice a' x'.d.length c'))
    (hl : x'.d = [] ↔ x.d = []) (hg : x'.d = [] ∨ a' = some ⟨gs k, 0, none⟩ ∧ OwB w' (gs k) x'.d) : OwS lo hi w' b gs (ss.set k x') := by
  have hk := (List.getElem?_eq_some_iff.1 hx).1
  have at_ : ∀ i y, (ss.set k x')[i]? = some y → (i = k ∧ y = x') ∨ (i ≠ k ∧ ss[i]? = some y) := fun i y hy => by
    rw [List.getElem?_set] at hy
    by_cases he : k = i
    · subst he
      rw [if_pos rfl, if_pos hk] at hy
      exact .inl ⟨rfl, (Option.some.inj hy).symm⟩
    · rw [if_neg he] at hy
      exact .inr ⟨fun e => he e.symm, hy⟩
  have old : ∀ (i : Nat) (y : Sp), (ss.set k x')[i]? = some y → y.d ≠ [] → ∃ y' : Sp, ss[i]? = some y' ∧ y'.d ≠ [] := fun i y hy hd => by
    rcases at_ i y hy with ⟨rfl, rfl⟩ | ⟨_, h'⟩
    · exact ⟨x, hx, fun e => hd (hl.2 e)⟩
    · exact ⟨y, h', hd⟩
  refine ⟨h.blo, h.bhi, Nat.le_trans h.hi_le hs', by rw [List.length_set]; exact hrow, fun i y hy => ?_, fun i y hy hd => ?_, fun i j y z hij hy hz hyd hzd => ?_⟩
  · rcases at_ i y hy with ⟨rfl, rfl⟩ | ⟨hne, hy'⟩
    · exact ⟨a', c', h0, h1, h2, h3, hg⟩
    · obtain ⟨a, c, q0, q1, q2, q3, q4⟩ := h.ent i y hy'
      refine ⟨a, c, ?_, ?_, ?_, ?_, ?_⟩
      · rw [hcell _ (by omega)]; exact q0
      · rw [hcell _ (by omega)]; exact q1
      · rw [hcell _ (by omega)]; exact q2
      · rw [hcell _ (by omega)]; exact q3
      · by_cases hd : y.d = []
        · exact .inl hd
        · obtain ⟨e1, e2⟩ := q4.resolve_left hd
          obtain ⟨r1, r2, r3⟩ := h.rng i y hy' hd
          refine .inr ⟨e1, e2.kept hs' (hoth _ r1 r2 r3 fun hxd => ?_)⟩
          rcases Nat.lt_or_ge i k with h' | h'
          · exact h.inj i k y x h' hy' hx hd hxd
          · exact fun e => h.inj k i x y (by omega) hx hy' hxd hd e.symm
  · obtain ⟨y', hy', hd'⟩ := old i y hy hd
    exact h.rng i y' hy' hd'
  · obtain ⟨y', hy', hd'⟩ := old i y hy hyd
    obtain ⟨z', hz', hzd'⟩ := old j z hz hzd
    exact h.inj i j y' z' hij hy' hz' hd' hzd'

/-- All blocks but those from lo on and below hi are as they were. -/
structure Mid (lo hi : Nat) (w w' : World) : Prop where
  os : w'.os = w.os
  tape : w'.tape = w.tape
  output : w'.output = w.output
  size : w.heap.size ≤ w'.heap.size
  block : ∀ k, k < w.heap.size → (k < lo ∨ hi ≤ k) → w'.heap[k]? = w.heap[k]?
theorem Mid.refl (lo hi : Nat) (w : World) : Mid lo hi w w := ⟨rfl, rfl, rfl, Nat.le_refl _, fun _ _ _ => rfl⟩
theorem Mid.trans {lo hi : Nat} {w w1 w2 : World} (h : Mid lo hi w w1) (g : Mid lo hi w1 w2) : Mid lo hi w w2 :=
  ⟨g.os.trans h.os, g.tape.trans h.tape, g.output.trans h.output, Nat.le_trans h.size g.size, fun k hk hl => (g.block k (Nat.lt_of_lt_of_le hk h.size) hl).trans (h.block k hk hl)⟩
theorem Mid.of_below {lo hi : Nat} {w w' : World} (hb : Below w.heap.size w w') : Mid lo hi w w' := ⟨hb.os, hb.tape, hb.output, hb.size, fun k hk _ => hb.block k hk⟩
theorem Mid.of_grown {lo hi b : Nat} {w w' : World} (hg : w.grownBy w' (some b)) (h1 : lo ≤ b) (h2 : b < hi) : Mid lo hi w w' := ⟨hg.os, hg.tape, hg.output, hg.size, fun k hk hl => hg.block k hk (fun e => by cases e; omega)⟩
theorem Mid.set {lo hi b i : Nat} {w w' : World} {v : Value} (h : Mid lo hi w w') (h1 : lo ≤ b) (h2 : b < hi) : Mid lo hi w (w'.setCell ⟨b, i, none⟩ v) :=
  ⟨h.os, h.tape, h.output, by simpa using h.size, fun k hk hl => by rw [blk_oth (by omega)]; exact h.block k hk hl⟩
theorem Mid.toBelow {lo hi B : Nat} {w w' : World} (h : Mid lo hi w w') (hB : B ≤ lo) (hs : B ≤ w.heap.size) : Below B w w' := ⟨h.os, h.tape, h.output, h.size, fun k hk => h.block k (by omega) (.inl (by omega))⟩


def mkB (k0 n : Nat) : List UInt8 := (List.range n).map fun j => UInt8.ofNat ((k0 + j) % 256)
theorem mkB_len (k0 n : Nat) : (mkB k0 n).length = n := by simp [mkB]
theorem mkB_at {k0 n j : Nat} (h : j < (mkB k0 n).length) : (((mkB k0 n)[j].toNat : Nat) : Int) = ((k0 + j : Nat) : Int) % 256 := by
  have e : (mkB k0 n)[j] = UInt8.ofNat ((k0 + j) % 256) := by simp [mkB]
  rw [e, UInt8.toNat_ofNat_of_lt' (by show _ < 256; omega)]
  omega
theorem mb_ow {w : World} {g z k0 : Nat} (hl : g < w.heap.size) (hM : MB w g z k0) (hW : WB w g z) : OwB w g (mkB k0 z) :=
  ⟨hl, fun j hj => by rw [mkB_at hj]; exact hM j (by rwa [mkB_len] at hj), fun j hj => (hW j (by rwa [mkB_len] at hj)).2⟩
theorem ow_mb {w : World} {g z k0 : Nat} (h : OwB w g (mkB k0 z)) : MB w g z k0 := fun j hj => by
  have hj' : j < (mkB k0 z).length := by rwa [mkB_len]
  rw [h.cells j hj', mkB_at hj']
theorem ow_wb {w : World} {g : Nat} {l : List UInt8} (h : OwB w g l) : WB w g l.length := fun j hj => ⟨by rw [h.cells j hj]; rfl, h.free j hj⟩

/-- The counter ahead of a step. -/
def kAt (k0 : Nat) (ss : List Sp) (i : Nat) : Nat := k0 + ((ss.take i).map fun x => 3 + x.d.length).sum
theorem kAt_succ {k0 : Nat} {ss : List Sp} {i : Nat} {x : Sp} (h : ss[i]? = some x) : kAt k0 ss (i + 1) = kAt k0 ss i + (3 + x.d.length) := by
  unfold kAt
  rw [List.take_add_one, h]
  simp
  omega
theorem kAt_le (k0 : Nat) (ss : List Sp) : ∀ i, kAt k0 ss i ≤ k0 + 3 * wt ss := by
  intro i
  have h1 : ∀ l : List Sp, ((l.map fun x => 3 + x.d.length).sum) ≤ 3 * (l.length + (l.map fun x => x.d.length).sum) := by
    intro l
    induction l with
    | nil => simp
    | cons x l ih =>
      simp only [List.map_cons, List.sum_cons, List.length_cons]
      omega
  have h2 := h1 (ss.take i)
  have h3 : ∀ (l : List Nat) (k : Nat), (l.take k).sum ≤ l.sum := by
    intro l
    induction l with
    | nil => intro k; simp
    | cons x l ih => intro k; cases k with
      | zero => simp
      | succ k => simp only [List.take_succ_cons, List.sum_cons]; have := ih k; omega
  have h4 := h3 (ss.map fun x => x.d.length) i
  rw [← List.map_take] at h4
  have h5 : (ss.take i).length ≤ ss.length := by simp; omega
  unfold kAt wt wtS
  rw [List.take_length]
  omega

def mS (k0 : Nat) (ss : List Sp) (i : Nat) (x : Sp) : Sp := ⟨((kAt k0 ss i : Nat) : Int), ((kAt k0 ss i + 1 : Nat) : Int), ((kAt k0 ss i + 2 : Nat) : Int), mkB (kAt k0 ss i + 3) x.d.length⟩
def mkTo (k0 : Nat) (ss : List Sp) (k : Nat) : List Sp := ss.mapIdx fun i x => if i < k then mS k0 ss i x else x
def mkS (k0 : Nat) (ss : List Sp) : List Sp := mkTo k0 ss ss.length
theorem mkTo_len (k0 : Nat) (ss : List Sp) (k : Nat) : (mkTo k0 ss k).length = ss.length := by simp [mkTo]
theorem mkTo_at (k0 : Nat) (ss : List Sp) (k i : Nat) : (mkTo k0 ss k)[i]? = (ss[i]?).map fun x => if i < k then mS k0 ss i x else x := by simp [mkTo]
theorem mkTo_zero (k0 : Nat) (ss : List Sp) : mkTo k0 ss 0 = ss := by
  apply List.ext_getElem?
  intro i
  rw [mkTo_at]
  cases ss[i]? <;> simp
theorem mkTo_succ {k0 : Nat} {ss : List Sp} {k : Nat} {x : Sp} (h : ss[k]? = some x) : (mkTo k0 ss k).set k (mS k0 ss k x) = mkTo k0 ss (k + 1) := by
  have hk := (List.getElem?_eq_some_iff.1 h).1
  apply List.ext_getElem?
  intro i
  rw [List.getElem?_set, mkTo_at, mkTo_at]
  by_cases he : k = i
  · subst he
    rw [if_pos rfl, mkTo_len, if_pos hk, h]
    simp
  · rw [if_neg he]
    have e : (i < k + 1) ↔ (i < k) := by omega
    cases ss[i]? <;> simp [e]

set_option maxRecDepth 100000 in
set_option maxHeartbeats 4000000 in
theorem markS_any (lo hi b c k0 : Nat) (gs : Nat → Nat) (ss : List Sp) (w : World) (ho : OwS lo hi w b gs ss) (hw : wt ss ≤ 1048576) (hk0 : k0 ≤ 2000000) :
    Calls Try.prog 11 #[.slice (some ⟨b, 0, none⟩) ss.length c, .int .i64 (k0 : Int)] w fun e w' => e = .returned (.int .i64 ((kAt k0 ss ss.length : Nat) : Int)) ∧ OwS lo hi w' b gs (mkS k0 ss) ∧ Mid lo hi w w' := by
  have hn : ss.length ≤ 1048576 := by have := wt_len ss; omega
  have HO : Hid (OwS lo hi w b gs ss) := ho
  have HW : Hid (wt ss ≤ 1048576) := hw
  have hblo := ho.blo
  have hbhi := ho.bhi
  clear ho hw
  obtain ⟨n, hnn⟩ : ∃ n, ss.length = n := ⟨_, rfl⟩
  have HNN : Hid (ss.length = n) := hnn
  rw [hnn] at hn ⊢
  clear hnn
  go_enter Try.func11, Try.ntmps11
  go_wp2
  go_loopw [1, 5] (fun a x wr => ∃ (i : Nat), i ≤ n ∧ x = .int .i64 (i : Int) ∧ a = .int .i64 ((kAt k0 ss i : Nat) : Int) ∧ OwS lo hi wr b gs (mkTo k0 ss i) ∧ Mid lo hi w wr) (fun _ x _ => n - (intOf x).toNat)
  case atStart => exact ⟨0, Nat.zero_le _, rfl, by simp [kAt], by rw [mkTo_zero]; exact HO.out, Mid.refl _ _ _⟩
  case round =>
    obtain ⟨i, hile, rfl, rfl, howr, hmid⟩ := hrel
    have HOW : Hid (OwS lo hi wr b gs (mkTo k0 ss i)) := howr
    have HMI : Hid (Mid lo hi w wr) := hmid
    clear howr hmid
    by_cases h : i < n
    · have h' : (i : Int) < (n : Int) := by omega
      obtain ⟨x, hx⟩ : ∃ x, ss[i]? = some x := ⟨_, List.getElem?_eq_getElem (by rw [HNN.out]; exact h)⟩
      have hxl : x.d.length ≤ 1048576 := by have := wt_d (List.mem_of_getElem? hx); have := HW.out; omega
      have hxi : (mkTo k0 ss i)[i]? = some x := by rw [mkTo_at, hx]; simp
      have HX : Hid (ss[i]? = some x) := hx
      have HXI : Hid ((mkTo k0 ss i)[i]? = some x) := hxi
      obtain ⟨ad, cc, e0, e1, e2, e3, e4⟩ := HOW.out.ent i x hxi
      obtain ⟨N, f, hN, hr⟩ := HOW.out.row
      rw [mkTo_len, HNN.out] at hN
      have HR : Hid (wr.rowIs b 34 N f) := hr
      have hlt1 : b < wr.heap.size := hr.lt
      have hNi : i * 4 + 3 < N := by omega
      have HMP : Hid (mS k0 ss i x = ⟨((kAt k0 ss i : Nat) : Int), ((kAt k0 ss i + 1 : Nat) : Int), ((kAt k0 ss i + 2 : Nat) : Int), mkB (kAt k0 ss i + 3) x.d.length⟩) := rfl
      have HKS : Hid (kAt k0 ss (i + 1) = kAt k0 ss i + (3 + x.d.length)) := kAt_succ hx
      have hKb0 : kAt k0 ss i ≤ 5145728 := by have := kAt_le k0 ss i; have := HW.out; omega
      have HRNG : Hid (x.d ≠ [] → lo ≤ gs i ∧ gs i < hi ∧ gs i ≠ b) := HOW.out.rng i x hxi
      obtain ⟨G, hGn, hGy⟩ : ∃ G, (x.d = [] → G = wr.heap.size) ∧ (x.d ≠ [] → G = gs i) := by
        by_cases hd : x.d = []
        · exact ⟨wr.heap.size, fun _ => rfl, fun h => absurd hd h⟩
        · exact ⟨gs i, fun h => absurd h hd, fun _ => rfl⟩
      have HGG : Hid ((x.d = [] → G = wr.heap.size) ∧ (x.d ≠ [] → G = gs i)) := ⟨hGn, hGy⟩
      have HE4 : Hid (x.d = [] ∨ ad = some ⟨gs i, 0, none⟩ ∧ OwB wr (gs i) x.d) := e4
      have HAD : Hid (x.d.length = 0 ∨ ad = some ⟨G, 0, none⟩) := by
        by_cases hd : x.d = []
        · exact .inl (by rw [hd]; rfl)
        · exact .inr (by rw [hGy hd]; exact (e4.resolve_left hd).1)
      have HNIL : Hid (∀ k, mkB k x.d.length = [] ↔ x.d = []) := fun k => by
        rw [← List.length_eq_zero_iff, mkB_len, List.length_eq_zero_iff]
      obtain ⟨K, hK⟩ : ∃ K : Nat, kAt k0 ss i = K := ⟨_, rfl⟩
      rw [hK] at HMP HKS hKb0 ⊢
      obtain ⟨m, hm⟩ : ∃ m, x.d.length = m := ⟨_, rfl⟩
      rw [hm] at e3 HMP HKS hxl HAD HNIL
      have HM : Hid (x.d.length = m) := hm
      have HMB : Hid (∀ W, WB W G m → Calls Try.prog 10 #[.slice ad m cc, .int .i64 ((K : Int) + 1 + 1 + 1)] W fun e w' => e = .returned (.int .i64 ((K + 3 + m : Nat) : Int)) ∧ MB w' G m (K + 3) ∧ WB w' G m ∧ W.grownBy w' (some G)) := fun W hW => by
        have := markB_any ad G m cc (K + 3) W HAD.out hW (by omega)
        rwa [show ((K + 3 : Nat) : Int) = (K : Int) + 1 + 1 + 1 by omega] at this
      have q0 := hr.cell (i := i * 4) (by omega)
      have q0f := hr.frozen (i * 4)
      have q1 := hr.cell (i := i * 4 + 1) (by omega)
      have q1f := hr.frozen (i * 4 + 1)
      have q2 := hr.cell (i := i * 4 + 2) (by omega)
      have q2f := hr.frozen (i * 4 + 2)
      obtain ⟨W3, hW3⟩ : ∃ W3, ((wr.setCell ⟨b, i * 4, none⟩ (.int .i64 (K : Int))).setCell ⟨b, i * 4 + 1, none⟩ (.int .i64 ((K : Int) + 1))).setCell ⟨b, i * 4 + 2, none⟩ (.int .i64 ((K : Int) + 1 + 1)) = W3 := ⟨_, rfl⟩
      have HW3 : Hid (((wr.setCell ⟨b, i * 4, none⟩ (.int .i64 (K : Int))).setCell ⟨b, i * 4 + 1, none⟩ (.int .i64 ((K : Int) + 1))).setCell ⟨b, i * 4 + 2, none⟩ (.int .i64 ((K : Int) + 1 + 1)) = W3) := hW3
      have HB3 : Hid (∀ k, k ≠ b → W3.heap[k]? = wr.heap[k]?) := fun k hk => by rw [← hW3, blk_oth hk, blk_oth hk, blk_oth hk]
      have HZ3 : Hid (W3.heap.size = wr.heap.size) := by show _ = _; rw [← hW3]; simp
      have HR3 : Hid (∃ f', W3.rowIs b 34 N f') := by
        show ∃ f', _
        rw [← hW3]
        exact ⟨_, ((hr.set (i * 4) _).set (i * 4 + 1) _).set (i * 4 + 2) _⟩
      have HC3 : Hid (∀ o, o / 4 ≠ i → W3.cell? ⟨b, o, none⟩ = wr.cell? ⟨b, o, none⟩) := fun o ho => by rw [← hW3, oth (by omega), oth (by omega), oth (by omega)]
      have HV0 : Hid (W3.cell? ⟨b, i * 4, none⟩ = some (.int .i64 (K : Int))) := by
        show _ = _
        rw [← hW3, oth (by omega), oth (by omega)]
        exact World.cell?_setCell_same _ _ _ e0
      have HV1 : Hid (W3.cell? ⟨b, i * 4 + 1, none⟩ = some (.int .i64 ((K : Int) + 1))) := by
        show _ = _
        rw [← hW3, oth (by omega)]
        exact World.cell?_setCell_same _ _ _ ((oth (by omega)).trans e1)
      have HV2 : Hid (W3.cell? ⟨b, i * 4 + 2, none⟩ = some (.int .i64 ((K : Int) + 1 + 1))) := by
        show _ = _
        rw [← hW3]
        exact World.cell?_setCell_same _ _ _ ((oth (by omega)).trans ((oth (by omega)).trans e2))
      have hv3 : W3.cell? ⟨b, i * 4 + 3, none⟩ = some (.slice ad m cc) := by
        rw [← hW3, oth (by omega), oth (by omega), oth (by omega)]
        exact e3
      have HV3 : Hid (W3.cell? ⟨b, i * 4 + 3, none⟩ = some (.slice ad m cc)) := hv3
      have HM3 : Hid (Mid lo hi w W3) := by show Mid _ _ _ _; rw [← hW3]; exact ((HMI.out.set hblo hbhi).set hblo hbhi).set hblo hbhi
      have HWB : Hid (WB W3 G m) := by
        intro j hj
        have hd : x.d ≠ [] := fun e => by rw [e] at hm; simp at hm; omega
        rw [hGy hd]
        have := ow_wb (HE4.out.resolve_left hd).2 j (by rw [hm]; exact hj)
        rw [World.cell?_of_block (a := ⟨gs i, j, none⟩) (HB3.out _ (HRNG.out hd).2.2), World.frozen?_of_block (a := ⟨gs i, j, none⟩) (HB3.out _ (HRNG.out hd).2.2)]
        exact this
      have u3 : (((wr.setCell ⟨b, i * 4, none⟩ (.int .i64 (K : Int))).setCell ⟨b, i * 4 + 1, none⟩ (.int .i64 ((K : Int) + 1))).setCell ⟨b, i * 4 + 2, none⟩ (.int .i64 ((K : Int) + 1 + 1))).cell? ⟨b, i * 4 + 3, none⟩ = some (.slice ad m cc) := by rw [hW3]; exact hv3
      clear hx hxi hr hK hm e4 hW3 hv3 hGn hGy
      go_wp2_with (go_at_call 10; rw [HW3.out]; refine (HMB.out _ HWB.out).mono ?_; rintro e w3 ⟨rfl, hmb3, hwb3, hg3⟩; refine Hid.out ?_)
      refine Lib.hid ?_
      have hbG : b ≠ G := fun e => by
        by_cases hd : x.d = []
        · have := HGG.out.1 hd; omega
        · have := HGG.out.2 hd; have := (HRNG.out hd).2.2; omega
      have hbk : w3.heap[b]? = W3.heap[b]? := hg3.block b (by rw [HZ3.out]; exact hlt1) (fun e => hbG (Option.some.inj e))
      have kc : ∀ o, w3.cell? ⟨b, o, none⟩ = W3.cell? ⟨b, o, none⟩ := fun o => World.cell?_of_block (a := ⟨b, o, none⟩) hbk
      have hsz3 : wr.heap.size ≤ w3.heap.size := by have := hg3.size; rw [HZ3.out] at this; exact this
      have HFIN : Hid (OwS lo hi w3 b gs (mkTo k0 ss (i + 1))) := by
        have hup := HOW.out.upd (w' := w3) (a' := ad) (c' := cc) (x' := mS k0 ss i x) HXI.out hsz3
          (fun j h1 h2 h3 h4 => (hg3.block j (by rw [HZ3.out]; exact Nat.lt_of_lt_of_le h2 HOW.out.hi_le) (fun e => by
            have e' := Option.some.inj e
            have hj := Nat.lt_of_lt_of_le h2 HOW.out.hi_le
            by_cases hd : x.d = []
            · have := HGG.out.1 hd; omega
            · have := HGG.out.2 hd; have := h4 hd; omega)).trans (HB3.out j h3))
          (by obtain ⟨f', hf'⟩ := HR3.out; exact ⟨N, f', by rw [mkTo_len, HNN.out]; omega, hf'.of_block hbk⟩)
          (fun o ho => (kc o).trans (HC3.out o ho))
          (by rw [HMP.out]; exact (kc _).trans HV0.out) (by rw [HMP.out]; exact (kc _).trans HV1.out) (by rw [HMP.out]; exact (kc _).trans HV2.out) (by rw [HMP.out]; simp only [mkB_len]; exact (kc _).trans HV3.out)
          (by rw [HMP.out]; exact HNIL.out _)
          (by
            rw [HMP.out]
            by_cases hd : x.d = []
            · exact .inl ((HNIL.out _).2 hd)
            · have hGg := HGG.out.2 hd
              refine .inr ⟨(HE4.out.resolve_left hd).1, ?_⟩
              rw [← hGg]
              exact mb_ow (Nat.lt_of_lt_of_le (by rw [hGg]; exact (HE4.out.resolve_left hd).2.lt) hsz3) hmb3 hwb3)
        rw [mkTo_succ HX.out] at hup
        exact hup
      have HM4 : Hid (Mid lo hi w w3) := by
        by_cases hd : x.d = []
        · refine HM3.out.trans (Mid.of_below ⟨hg3.os, hg3.tape, hg3.output, hg3.size, fun k hk => hg3.block k hk (fun e => ?_)⟩)
          have e' := Option.some.inj e
          have := HGG.out.1 hd
          have := HZ3.out
          omega
        · have hGg := HGG.out.2 hd
          rw [hGg] at hg3
          exact HM3.out.trans (Mid.of_grown hg3 (HRNG.out hd).1 (HRNG.out hd).2.1)
      clear hmb3 hwb3 hg3 hbk kc hbG hsz3 q0 q0f q1 q1f q2 q2f e0 e1 e2 e3
      go_wp2
      go_roundw
      case rel => exact ⟨i + 1, by omega, by go_num, by rw [HKS.out]; simp only [Value.int.injEq, true_and]; omega, HFIN.out, HM4.out⟩
      case measure => simp [intOf]; omega
    · have h' : ¬ (i : Int) < (n : Int) := by omega
      obtain rfl : i = n := by omega
      have HE : Hid (OwS lo hi wr b gs (mkS k0 ss)) := by
        have := HOW.out
        unfold mkS
        rw [HNN.out]
        exact this
      go_wp2
      go_ret
      exact ⟨rfl, HE.out, HMI.out⟩

/-! What is held of the marks. -/

set_option maxRecDepth 100000 in
set_option maxHeartbeats 4000000 in
theorem heldS_any (lo hi b c k0 : Nat) (gs : Nat → Nat) (ss : List Sp) (w : World) (ho : OwS lo hi w b gs (mkS k0 ss)) (hw : wt ss ≤ 1048576) (hk0 : k0 ≤ 2000000) :
    Calls Try.prog 12 #[.slice (some ⟨b, 0, none⟩) ss.length c, .int .i64 (k0 : Int)] w fun e w' => e = .returned (.int .i64 ((kAt k0 ss ss.length : Nat) : Int)) ∧ Below w.heap.size w w' := by
  have hn : ss.length ≤ 1048576 := by have := wt_len ss; omega
  have HO : Hid (OwS lo hi w b gs (mkS k0 ss)) := ho
  have HW : Hid (wt ss ≤ 1048576) := hw
  clear ho hw
  obtain ⟨n, hnn⟩ : ∃ n, ss.length = n := ⟨_, rfl⟩
  have HNN : Hid (ss.length = n) := hnn
  rw [hnn] at hn ⊢
  clear hnn
  go_enter Try.func12, Try.ntmps12
  go_wp2
  go_loopw [1, 5] (fun v x wr => ∃ (i : Nat), i ≤ n ∧ x = .int .i64 (i : Int) ∧ v = .int .i64 ((kAt k0 ss i : Nat) : Int) ∧ Below w.heap.size w wr) (fun _ x _ => n - (intOf x).toNat)
  case atStart => exact ⟨0, Nat.zero_le _, rfl, by simp [kAt], Below.refl _ _⟩
  case round =>
    obtain ⟨i, hi, rfl, rfl, hbel⟩ := hrel
    by_cases h : i < n
    · have h' : (i : Int) < (n : Int) := by omega
      have HBB : Hid (Below w.heap.size w wr) := hbel
      obtain ⟨x, hx⟩ : ∃ x, ss[i]? = some x := ⟨_, List.getElem?_eq_getElem (by rw [HNN.out]; exact h)⟩
      have hxl : x.d.length ≤ 1048576 := by have := wt_d (List.mem_of_getElem? hx); have := HW.out; omega
      have hxi : (mkS k0 ss)[i]? = some (mS k0 ss i x) := by unfold mkS; rw [mkTo_at, hx]; simp [HNN.out, h]
      obtain ⟨ad, cc, e0, e1, e2, e3, e4⟩ := (HO.out.below hbel).ent i _ hxi
      unfold mS at e0 e1 e2 e3 e4
      simp only [mkB_len] at e0 e1 e2 e3
      have HKS : Hid (kAt k0 ss (i + 1) = kAt k0 ss i + (3 + x.d.length)) := kAt_succ hx
      have hKb0 : kAt k0 ss i ≤ 5145728 := by have := kAt_le k0 ss i; have := HW.out; omega
      obtain ⟨K, hK⟩ : ∃ K : Nat, kAt k0 ss i = K := ⟨_, rfl⟩
      obtain ⟨m, hm⟩ : ∃ m, x.d.length = m := ⟨_, rfl⟩
      rw [hK] at e0 e1 e2 e4 HKS hKb0 ⊢
      rw [hm] at e3 e4 HKS hxl
      rw [show ((K + 1 : Nat) : Int) = (K : Int) + 1 by omega] at e1
      rw [show ((K + 2 : Nat) : Int) = (K : Int) + 1 + 1 by omega] at e2
      have HHH : Hid (∀ W, W = wr → Calls Try.prog 20 #[.slice ad m cc, .int .i64 ((K : Int) + 1 + 1 + 1)] W fun e w' => e = .returned (.int .i64 ((K + 3 + m : Nat) : Int)) ∧ w' = W) := fun W hW => by
        subst hW
        have := heldB_any ad (gs i) m cc (K + 3) W (by
          rcases e4 with e | e
          · left; have := congrArg List.length e; rw [mkB_len] at this; simpa using this
          · exact .inr e.1) (by
          rcases e4 with e | e
          · have := congrArg List.length e
            rw [mkB_len] at this
            intro j hj
            simp at this
            omega
          · exact ow_mb e.2) (by omega)
        rwa [show ((K + 3 : Nat) : Int) = (K : Int) + 1 + 1 + 1 by omega] at this
      obtain ⟨Z, hZ⟩ : ∃ Z : Nat, K + 3 + m = Z := ⟨_, rfl⟩
      have HZ : Hid (K + 3 + m = Z) := hZ
      rw [hZ] at HHH
      have hneg : ¬ (Z : Int) < 0 := by omega
      clear hx hxi hK hm hZ e4 hbel
      go_wp2_with (go_at_call 20; refine (HHH.out _ rfl).mono ?_; rintro e w2 ⟨rfl, hw2⟩; obtain rfl := hw2.symm)
      go_roundw
      case rel => exact ⟨i + 1, by omega, by go_num, by rw [HKS.out]; simp only [Value.int.injEq, true_and]; have := HZ.out; omega, HBB.out⟩
      case measure => simp [intOf]; omega
    · have h' : ¬ (i : Int) < (n : Int) := by omega
      obtain rfl : i = n := by omega
      go_wp2
      go_ret
      exact ⟨rfl, hbel⟩

end Go.Proofs.Ytfkeoifdldhdcaa.dl
