import Derived.Test.YtogakignaaoklaaNQ
namespace Go.Proofs.Ytogakignaaoklaa.dl
open Go.ChangeShapes Go.WideShapes Go.ChangeAt Go.RowKit Go.Deep
open Go.MapKept Go.ChangeMaps
open bf (Bf Ap num)
set_option linter.unusedVariables false
set_option linter.unusedSimpArgs false

/-! ### impl.longestCopy -/

def lcF (old rest : List UInt8) (q : Nat × Nat) (i : Nat) : Nat × Nat := if q.2 < ml old rest i then (i, ml old rest i) else q
theorem lc_fold {old rest : List UInt8} (h6 : 6 ≤ rest.length) : ∀ k, k + 6 ≤ old.length + 1 → (plc old k (rest.take 6)).foldl (lcF old rest) (0, 0) = fdP old rest k
  | 0, _ => rfl
  | k + 1, hk => by
    have ih := lc_fold (old := old) h6 k (by omega)
    unfold plc fdP
    by_cases e : rest.take 6 = (old.drop k).take 6
    · have ha : 6 ≤ ml old rest k := at6_iff.2 ⟨h6, by omega, e.symm⟩
      rw [if_pos e, List.foldl_append, ih]
      simp only [List.foldl_cons, List.foldl_nil, lcF]
      by_cases h : (fdP old rest k).2 < ml old rest k
      · rw [if_pos h, if_pos ⟨ha, h⟩]
      · rw [if_neg h, if_neg (fun x => h x.2)]
    · rw [if_neg e, ih, if_neg (fun x => e (at6_iff.1 x.1).2.2.symm)]
theorem fdP_stay {old rest : List UInt8} : ∀ d, fdP old rest (old.length + 1 - 6 + d) = fdP old rest (old.length + 1 - 6)
  | 0 => rfl
  | d + 1 => by
    rw [← Nat.add_assoc, fdP, if_neg (fun x => by have := (at6_iff.1 x.1).2.1; omega)]
    exact fdP_stay d
/-- All places of the six bytes: the longest copy. -/
theorem lc_all {old rest : List UInt8} (h6 : 6 ≤ rest.length) : (plc old (old.length + 1 - 6) (rest.take 6)).foldl (lcF old rest) (0, 0) = fdP old rest old.length := by
  by_cases h : 6 ≤ old.length + 1
  · rw [lc_fold h6 _ (by omega)]
    have := fdP_stay (old := old) (rest := rest) (old.length - (old.length + 1 - 6))
    rw [show old.length + 1 - 6 + (old.length - (old.length + 1 - 6)) = old.length by omega] at this
    exact this.symm
  · have e : old.length + 1 - 6 = 0 := by omega
    have := fdP_stay (old := old) (rest := rest) old.length
    rw [e, Nat.zero_add] at this
    rw [e, this]
    rfl
theorem ml_le (old rest : List UInt8) (i : Nat) : ml old rest i ≤ rest.length := by
  unfold ml
  have := ((cp_take (old.drop i) rest _).1 (Nat.le_refl _)).2.1
  omega
theorem fd_short {old rest : List UInt8} (h : rest.length < 6) : ∀ k, (fd old rest k).2 < 6
  | 0 => by simp [fd]
  | k + 1 => by
    have ih := fd_short (old := old) h k
    have hm := ml_le old rest k
    unfold fd
    split
    · show ml old rest k < 6
      omega
    · exact ih

def FourC (W : World) (b : Nat) (v0 v1 v2 v3 : Value) : Prop := W.cell? ⟨b, 0, none⟩ = some v0 ∧ W.cell? ⟨b, 1, none⟩ = some v1 ∧ W.cell? ⟨b, 2, none⟩ = some v2 ∧ W.cell? ⟨b, 3, none⟩ = some v3
theorem FourC.below {w w' : World} {b : Nat} {v0 v1 v2 v3 : Value} (h : FourC w b v0 v1 v2 v3) (hb : Below w.heap.size w w') : FourC w' b v0 v1 v2 v3 := by
  have hl : b < w.heap.size := World.block_lt_of_cell? _ _ h.1
  exact ⟨(hb.cell (p := ⟨b, 0, none⟩) hl).trans h.1, (hb.cell (p := ⟨b, 1, none⟩) hl).trans h.2.1, (hb.cell (p := ⟨b, 2, none⟩) hl).trans h.2.2.1, (hb.cell (p := ⟨b, 3, none⟩) hl).trans h.2.2.2⟩
theorem oth4 {X : World} {b i j : Nat} {v : Value} (h : i ≠ j) : (X.setCell ⟨b, i, none⟩ v).cell? ⟨b, j, none⟩ = X.cell? ⟨b, j, none⟩ := World.cell?_setCell_other X ⟨b, i, none⟩ ⟨b, j, none⟩ v (by simp [h])
theorem far4 {w : World} {b c i j : Nat} {v : Value} (h : b ≠ c) : (w.setCell ⟨b, i, none⟩ v).cell? ⟨c, j, none⟩ = w.cell? ⟨c, j, none⟩ := World.cell?_setCell_other w ⟨b, i, none⟩ ⟨c, j, none⟩ v (by simp [h])

theorem ret_lc {fn : Func} {i j : Tmp} (hf : fn.results = #[.cell i 41, .tmp j]) {tmps : Array Value} {W : World} {b : Nat} {v0 v1 v2 v3 u : Value} {R : Ending → World → Prop} (h4 : tmps.getD i undef = .pointer (some ⟨b, 0, none⟩)) (h5 : tmps.getD j undef = u)
    (k : FourC W b v0 v1 v2 v3) (hR : R (.returned (.tuple #[.agg #[v0, v1, v2, v3], u])) W) :
    bodyPost Try.prog fn R Exit.ret { tmps := tmps, defers := [] } W := by
  obtain ⟨k0, k1, k2, k3⟩ := k
  have h4' : tmps[i]?.getD undef = .pointer (some ⟨b, 0, none⟩) := by simpa using h4
  have h5' : tmps[j]?.getD undef = u := by simpa using h5
  exact bodyPost_ret (v := .tuple #[.agg #[v0, v1, v2, v3], u]) (by simp [results, hf, go_sem, h4', h5', k0, k1, k2, k3]) rfl hR
theorem take_six : ∀ (l : List UInt8) (h : 6 ≤ l.length), l.take 6 = [l[0], l[1], l[2], l[3], l[4], l[5]]
  | a :: b :: c :: d :: e :: f :: r, _ => rfl
theorem four_new (w : World) (v0 v1 v2 v3 : Value) (t : TypeId) : FourC (w.alloc (.cells #[v0, v1, v2, v3] t)) w.heap.size v0 v1 v2 v3 := by
  refine ⟨?_, ?_, ?_, ?_⟩ <;> (rw [World.cell?_alloc_new]; rfl)

/-- What it answers: found where six bytes or more are the same. -/
def LcR (w w' : World) (old rest : List UInt8) (e : Ending) : Prop := ∃ a0 a1 a2 : Int, e = .returned (.tuple #[.agg #[.int .i64 a0, .int .i64 a1, .int .i64 a2, .slice none 0 0], .bool (decide (6 ≤ (fd old rest old.length).2))]) ∧ (6 ≤ (fd old rest old.length).2 → a0 = 1 ∧ a1 = ((fd old rest old.length).1 : Int) ∧ a2 = ((fd old rest old.length).2 : Int)) ∧ Below w.heap.size w w'

/-- Behind i places. -/
def KR (old rest : List UInt8) (L : List Nat) (w : World) (i : Nat) (wr : World) : Prop :=
  FourC wr (w.heap.size + 1) (.int .i64 1) (.int .i64 ((((L.take i).foldl (lcF old rest) (0, 0)).1 : Nat) : Int)) (.int .i64 ((((L.take i).foldl (lcF old rest) (0, 0)).2 : Nat) : Int)) (.slice none 0 0) ∧ FourC wr w.heap.size (.int .i64 0) (.int .i64 0) (.int .i64 0) (.slice none 0 0) ∧ (∀ i, wr.frozen? ⟨w.heap.size, i, none⟩ = false ∧ wr.frozen? ⟨w.heap.size + 1, i, none⟩ = false) ∧ Below w.heap.size w wr

set_option maxRecDepth 100000 in
set_option maxHeartbeats 4000000 in
theorem longest_any {oc : Nat} (base ob on mb rb ro rn rc : Nat) (old rest : List UInt8) (hon : old.length = on) (hoc : on ≤ oc := by omega) (hrn : rest.length = rn) (hol : on ≤ 3000) (hrl : rn ≤ 3000) (hrc : rn ≤ rc) (w : World) (hO : By w ob old) (hob : ob < w.heap.size) (hR : ∀ j (h : j < rest.length), w.cell? ⟨rb, ro + j, none⟩ = some (.int .u8 (rest[j].toNat : Int))) (es : Array MapEntry) (clock : Nat) (hP : Pl base w mb (plc old (on + 1 - 6)) es clock) :
    Calls Try.prog 17 #[.slice (some ⟨ob, 0, none⟩) on oc, .map (some mb), .slice (some ⟨rb, ro, none⟩) rn rc] w fun e w' => LcR w w' old rest e := by
  by_cases h6 : rn < 6
  · have h6' : (rn : Int) < 6 := by omega
    have hf := fd_short (old := old) (rest := rest) (by omega) old.length
    have HF : Hid ((fd old rest old.length).2 < 6) := hf
    have HB : Hid (∀ o, Below w.heap.size w (w.alloc o)) := fun o => (Below.refl _ _).alloc (Nat.le_refl _) _
    clear hO hR hP hon hrn hf
    go_enter Try.func17, Try.ntmps17
    go_wp2
    refine ret_lc Try.results17 rfl rfl (four_new _ _ _ _ _ _) ⟨0, 0, 0, ?_, fun h => by have := HF.out; omega, HB.out _⟩
    rw [decide_eq_false (by have := HF.out; omega)]
    rfl
  have h6' : ¬ (rn : Int) < 6 := by omega
  obtain ⟨W0, hW0⟩ : ∃ W0 : World, W0 = (w.alloc (.cells #[.int .i64 0, .int .i64 0, .int .i64 0, .slice none 0 0] 41)).alloc (.cells #[.int .i64 1, .int .i64 0, .int .i64 0, .slice none 0 0] 41) := ⟨_, rfl⟩
  have hb0 : Below w.heap.size w W0 := by rw [hW0]; exact ((Below.refl _ _).alloc (Nat.le_refl _) _).alloc (by simp) _
  have hs0 : W0.heap.size = w.heap.size + 2 := by rw [hW0]; simp
  obtain ⟨b0, b1, b2, b3, b4, b5, hkk, hcells⟩ : ∃ b0 b1 b2 b3 b4 b5 : UInt8, rest.take 6 = [b0, b1, b2, b3, b4, b5] ∧ W0.cell? ⟨rb, ro, none⟩ = some (.int .u8 (b0.toNat : Int)) ∧ W0.cell? ⟨rb, ro + 1, none⟩ = some (.int .u8 (b1.toNat : Int)) ∧ W0.cell? ⟨rb, ro + 2, none⟩ = some (.int .u8 (b2.toNat : Int)) ∧ W0.cell? ⟨rb, ro + 3, none⟩ = some (.int .u8 (b3.toNat : Int)) ∧ W0.cell? ⟨rb, ro + 4, none⟩ = some (.int .u8 (b4.toNat : Int)) ∧ W0.cell? ⟨rb, ro + 5, none⟩ = some (.int .u8 (b5.toNat : Int)) := by
    have hc : ∀ j (h : j < rest.length), W0.cell? ⟨rb, ro + j, none⟩ = some (.int .u8 (rest[j].toNat : Int)) := fun j h => (hb0.cell (p := ⟨rb, ro + j, none⟩) (World.block_lt_of_cell? _ _ (hR j h))).trans (hR j h)
    exact ⟨rest[0], rest[1], rest[2], rest[3], rest[4], rest[5], take_six rest (by omega), hc 0 (by omega), hc 1 (by omega), hc 2 (by omega), hc 3 (by omega), hc 4 (by omega), hc 5 (by omega)⟩
  obtain ⟨c0, c1, c2, c3, c4, c5⟩ := hcells
  -- the row of the six bytes
  obtain ⟨kl, hkl⟩ := key_six (b := [b0, b1, b2, b3, b4, b5]) rfl
  have hP0 := hP.below (hb0.mono (Nat.le_refl _))
  obtain ⟨L, hL⟩ : ∃ L, plc old (on + 1 - 6) [b0, b1, b2, b3, b4, b5] = L := ⟨_, rfl⟩
  obtain ⟨va, cv, hlook, hrow⟩ : ∃ (va : Option Addr) (cv : Nat), (Instr.lookup mT (.map (some mb)) (.agg #[.int .u8 (b0.toNat : Int), .int .u8 (b1.toNat : Int), .int .u8 (b2.toNat : Int), .int .u8 (b3.toNat : Int), .int .u8 (b4.toNat : Int), .int .u8 (b5.toNat : Int)]) false).run Try.prog W0 = .ok (.slice va L.length cv) W0 ∧ ∀ (i n : Nat), L[i]? = some n → ∃ g, va = some ⟨g, 0, none⟩ ∧ g < W0.heap.size ∧ g < w.heap.size ∧ W0.cell? ⟨g, i, none⟩ = some (.int .i64 (n : Int)) := by
    rcases look_any hP0.blk hP0.keys hkl with ⟨hno, hrun⟩ | ⟨e0, he0, hek, hrun⟩
    · have hn : L = [] := by
        rw [← hL]
        exact Classical.byContradiction fun h => by
          obtain ⟨x, hx, hxk⟩ := hP0.all _ rfl h
          exact hno x hx hxk
      subst hn
      exact ⟨none, 0, hrun, fun i n h => by simp at h⟩
    · obtain ⟨k1, g, cap, a1, a2, a3, a4, a5, a6⟩ := hP0.ent e0 he0
      obtain ⟨k1', g', cap', a1', a2', a3', a4', a5', a6'⟩ := hP.ent e0 he0
      have e1 : k1 = [b0, b1, b2, b3, b4, b5] := kv_inj (by rw [← a2, hek])
      have e1' : k1' = [b0, b1, b2, b3, b4, b5] := kv_inj (by rw [← a2', hek])
      rw [e1, hL] at a4 a5
      rw [e1', hL] at a4'
      rw [a4] at a4'
      simp at a4'
      refine ⟨some ⟨g, 0, none⟩, cap, by rw [← a4]; exact hrun, fun i n h => ⟨g, rfl, a5.lt, by rw [a4'.1]; exact a5'.lt, a5.at h⟩⟩
  have hLall : L.foldl (lcF old rest) (0, 0) = fdP old rest old.length := by
    have := lc_all (old := old) (rest := rest) (by omega)
    rw [hkk, hon, hL] at this
    rw [hon]
    exact this
  have hLlen : L.length ≤ 3000 := by have := plc_len old [b0, b1, b2, b3, b4, b5] (on + 1 - 6); rw [hL] at this; omega
  have hLb : ∀ (i n : Nat), L[i]? = some n → n < on := fun i n h => by
    have hm : n ∈ plc old (on + 1 - 6) [b0, b1, b2, b3, b4, b5] := by rw [hL]; exact List.mem_of_getElem? h
    have : ∀ k, ∀ x ∈ plc old k [b0, b1, b2, b3, b4, b5], x < k := by
      intro k
      induction k with
      | zero => intro x hx; simp [plc] at hx
      | succ k ih =>
        intro x hx
        unfold plc at hx
        split at hx
        · rcases List.mem_append.1 hx with h | h
          · have := ih x h; omega
          · simp at h; omega
        · have := ih x hx; omega
    have := this _ _ hm
    omega
  -- the longest one so far
  obtain ⟨rm, hrm⟩ : ∃ rm, rm = min rn 1000 := ⟨_, rfl⟩
  have HSF : Hid (∀ W at_, Below w.heap.size w W → at_ ≤ on → Calls Try.prog 34 #[.slice (some ⟨ob, at_, none⟩) (on - at_) (oc - at_), .slice (some ⟨rb, ro, none⟩) rm rc] W fun e w' => e = .returned (.int .i64 ((ml old rest at_ : Nat) : Int)) ∧ Below W.heap.size W w') := fun W at_ hW hat => by
    have h1 : (old.drop at_).length = on - at_ := by rw [List.length_drop, hon]
    have h2 : (rest.take 1000).length = rm := by rw [List.length_take, hrn, hrm]; omega
    have := same_first ob at_ (on - at_) (oc - at_) rb ro rm rc (old.drop at_) (rest.take 1000) h1 h2 (by omega) (by omega) W (fun W' hW' j hj => by
      have hj' : at_ + j < old.length := by rw [List.length_drop] at hj; omega
      have hBO := (hO.below hob hW).below (Nat.lt_of_lt_of_le hob hW.size) hW'
      rw [hBO (at_ + j) hj', List.getElem_drop]) (fun W' hW' j hj => by
      have hj' : j < rest.length := by rw [List.length_take] at hj; omega
      have hlt := World.block_lt_of_cell? _ _ (hR j hj')
      rw [(hW'.cell (p := ⟨rb, ro + j, none⟩) (Nat.lt_of_lt_of_le hlt hW.size)), (hW.cell (p := ⟨rb, ro + j, none⟩) hlt), hR j hj', List.getElem_take])
    rw [ml_cut] at this
    exact this
  have HF4 : Hid (FourC W0 (w.heap.size + 1) (.int .i64 1) (.int .i64 0) (.int .i64 0) (.slice none 0 0)) := by
    rw [hW0]
    have := four_new (w.alloc (.cells #[.int .i64 0, .int .i64 0, .int .i64 0, .slice none 0 0] 41)) (.int .i64 1) (.int .i64 0) (.int .i64 0) (.slice none 0 0) 41
    rw [World.size_alloc] at this
    exact this
  have HZ4 : Hid (FourC W0 w.heap.size (.int .i64 0) (.int .i64 0) (.int .i64 0) (.slice none 0 0)) := by
    rw [hW0]
    exact (four_new w (.int .i64 0) (.int .i64 0) (.int .i64 0) (.slice none 0 0) 41).below ((Below.refl _ _).alloc (Nat.le_refl _) _)
  have HFZ : Hid (∀ i, W0.frozen? ⟨w.heap.size, i, none⟩ = false ∧ W0.frozen? ⟨w.heap.size + 1, i, none⟩ = false) := fun i => by
    rw [hW0]
    constructor <;> simp [go_sem]
  have harr : ∀ X : World, (Instr.arrayAt 71 (.slice (some ⟨rb, ro, none⟩) rm rc)).run Try.prog X = .ok (.pointer (some ⟨rb, ro, none⟩)) X := fun X => run_arrayAt X 71 5 6 _ _ _ Try.underlying71 (by omega)
  have HLA : Hid (L.foldl (lcF old rest) (0, 0) = fdP old rest old.length) := hLall
  have HRW : Hid (∀ (i n : Nat), L[i]? = some n → ∃ g, va = some ⟨g, 0, none⟩ ∧ g < W0.heap.size ∧ g < w.heap.size ∧ W0.cell? ⟨g, i, none⟩ = some (.int .i64 (n : Int))) := hrow
  have HLB : Hid (∀ (i n : Nat), L[i]? = some n → n < on) := hLb
  have HB0 : Hid (Below w.heap.size w W0) := hb0
  have HS0 : Hid (W0.heap.size = w.heap.size + 2) := hs0
  have hrmi : (if (rn : Int) ≤ 1000 then (rn : Int) else 1000) = (rm : Int) := by split <;> omega
  have hmin : min (rn : Int) 1000 = (rm : Int) := by omega
  have hmin2 : min 1000 (rn : Int) = (rm : Int) := by omega
  have hrr : rm ≤ rc := by omega
  obtain ⟨ll, hll⟩ : ∃ ll, L.length = ll := ⟨_, rfl⟩
  have HLL : Hid (L.length = ll) := hll
  rw [hll] at hlook hLlen
  rw [hW0] at hlook c0 c1 c2 c3 c4 c5
  have HW0 : Hid (W0 = (w.alloc (.cells #[.int .i64 0, .int .i64 0, .int .i64 0, .slice none 0 0] 41)).alloc (.cells #[.int .i64 1, .int .i64 0, .int .i64 0, .slice none 0 0] 41)) := hW0
  clear hb0 hs0 hP0 hkl hO hR hP hrow hLall hLb hW0 hll hkk hL hrm
  go_enter Try.func17, Try.ntmps17
  go_wp2
  clear hlook harr c0 c1 c2 c3 c4 c5 hmin hmin2 hrmi
  rw [← HW0.out]
  go_loopw [10, 11, 28] (fun _ _ x wr => ∃ i : Nat, i ≤ ll ∧ x = .int .i64 (i : Int) ∧ KR old rest L w i wr) (fun _ _ x _ => ll - (intOf x).toNat)
  case atStart => exact ⟨0, Nat.zero_le _, rfl, HF4.out, HZ4.out, HFZ.out, HB0.out⟩
  case round =>
    obtain ⟨i, hi, rfl, hkr⟩ := hrel
    obtain ⟨⟨d0, d1, d2, d3⟩, z4, fz, hbel⟩ := hkr
    obtain ⟨q, hq⟩ : ∃ q, (L.take i).foldl (lcF old rest) (0, 0) = q := ⟨_, rfl⟩
    rw [hq] at d1 d2
    have HQ : Hid ((L.take i).foldl (lcF old rest) (0, 0) = q) := hq
    have HZ : Hid (FourC wr w.heap.size (.int .i64 0) (.int .i64 0) (.int .i64 0) (.slice none 0 0)) := z4
    have HFR : Hid (∀ i, wr.frozen? ⟨w.heap.size, i, none⟩ = false ∧ wr.frozen? ⟨w.heap.size + 1, i, none⟩ = false) := fz
    have HBE : Hid (Below w.heap.size w wr) := hbel
    clear z4 fz hbel hq HF4 HZ4 HFZ
    by_cases hil : i < ll
    · have hil' : (i : Int) < (ll : Int) := by omega
      have hi0' : (0 : Int) ≤ (i : Int) := by omega
      obtain ⟨n, hn⟩ : ∃ n, L[i]? = some n := ⟨_, List.getElem?_eq_getElem (by rw [HLL.out]; exact hil)⟩
      obtain ⟨g, rfl, hg0, hgw, hgc⟩ := HRW.out i n hn
      have hnb := HLB.out i n hn
      have cg : wr.cell? ⟨g, i, none⟩ = some (.int .i64 (n : Int)) := (HBE.out.cell (p := ⟨g, i, none⟩) hgw).trans ((HB0.out.cell (p := ⟨g, i, none⟩) hgw).symm.trans hgc)
      have HSF1 := HSF.out wr n HBE.out (by omega)
      obtain ⟨m, hm⟩ : ∃ m, ml old rest n = m := ⟨_, rfl⟩
      rw [hm] at HSF1
      have HSF2 : Hid (Calls Try.prog 34 #[.slice (some ⟨ob, n, none⟩) (on - n) (oc - n), .slice (some ⟨rb, ro, none⟩) rm rc] wr fun e w' => e = .returned (.int .i64 (m : Int)) ∧ Below wr.heap.size wr w') := HSF1
      have HNX : Hid ((L.take (i + 1)).foldl (lcF old rest) (0, 0) = if q.2 < m then (n, m) else q) := by
        show _ = _
        rw [List.take_add_one, hn, Option.toList_some, List.foldl_append, HQ.out]
        simp only [List.foldl_cons, List.foldl_nil, lcF, hm]
      have hn0 : (0 : Int) ≤ (n : Int) := by omega
      have hnon : (n : Int) ≤ (on : Int) := by omega
      have hnon2 : (n : Int) < (on : Int) := by omega
      have hnon3 : ¬ on = n := by omega
      have hnon4 : ¬ n = on := by omega
      have hnon5 : ¬ on - n = 0 := by omega
      clear HSF1 hm hn hgc hg0
      go_wp2_with (first | (go_at_call 34; refine HSF2.out.mono ?_; rintro e w1 ⟨rfl, hb1⟩; refine Hid.out ?_) | go_in)
      refine Lib.hid ?_
      have hlt8 : w.heap.size + 1 < wr.heap.size := World.block_lt_of_cell? _ _ d0
      have k0 : w1.cell? ⟨w.heap.size + 1, 0, none⟩ = some (.int .i64 1) := (hb1.cell (p := ⟨w.heap.size + 1, 0, none⟩) hlt8).trans d0
      have k1 : w1.cell? ⟨w.heap.size + 1, 1, none⟩ = some (.int .i64 (q.1 : Int)) := (hb1.cell (p := ⟨w.heap.size + 1, 1, none⟩) hlt8).trans d1
      have k2 : w1.cell? ⟨w.heap.size + 1, 2, none⟩ = some (.int .i64 (q.2 : Int)) := (hb1.cell (p := ⟨w.heap.size + 1, 2, none⟩) hlt8).trans d2
      have k3 : w1.cell? ⟨w.heap.size + 1, 3, none⟩ = some (.slice none 0 0) := (hb1.cell (p := ⟨w.heap.size + 1, 3, none⟩) hlt8).trans d3
      have HZ1 : Hid (FourC w1 w.heap.size (.int .i64 0) (.int .i64 0) (.int .i64 0) (.slice none 0 0)) := HZ.out.below hb1
      have HFR1 : Hid (∀ i, w1.frozen? ⟨w.heap.size, i, none⟩ = false ∧ w1.frozen? ⟨w.heap.size + 1, i, none⟩ = false) := fun i => ⟨((bcell hb1).2 _ _ (by omega)).trans (HFR.out i).1, ((bcell hb1).2 _ _ hlt8).trans (HFR.out i).2⟩
      have HB1 : Hid (Below w.heap.size w w1) := HBE.out.trans (hb1.mono HBE.out.size)
      have f1 := (HFR1.out 1).2
      have f2 := (HFR1.out 2).2
      clear hb1 d0 d1 d2 d3 cg
      by_cases hqm : q.2 < m
      · have hqm' : (q.2 : Int) < (m : Int) := by omega
        have HE : Hid ((L.take (i + 1)).foldl (lcF old rest) (0, 0) = (n, m)) := by show _ = _; rw [HNX.out, if_pos hqm]
        go_wp2
        go_roundw
        case rel =>
          refine ⟨i + 1, by omega, by go_num, ?_, ?_, fun j => ?_, ?_⟩
          · rw [HE.out]
            exact ⟨(oth4 (by omega)).trans ((oth4 (by omega)).trans k0), (oth4 (by omega)).trans (World.cell?_setCell_same _ _ _ k1), World.cell?_setCell_same _ _ _ ((oth4 (by omega)).trans k2), (oth4 (by omega)).trans ((oth4 (by omega)).trans k3)⟩
          · obtain ⟨y0, y1, y2, y3⟩ := HZ1.out
            exact ⟨(far4 (by omega)).trans ((far4 (by omega)).trans y0), (far4 (by omega)).trans ((far4 (by omega)).trans y1), (far4 (by omega)).trans ((far4 (by omega)).trans y2), (far4 (by omega)).trans ((far4 (by omega)).trans y3)⟩
          · have := HFR1.out j
            simp only [World.frozen?_setCell]
            exact this
          · exact (HB1.out.setCell (p := ⟨w.heap.size + 1, 1, none⟩) (by show _ ≤ w.heap.size + 1; omega) _).setCell (p := ⟨w.heap.size + 1, 2, none⟩) (by show _ ≤ w.heap.size + 1; omega) _
        case measure => simp [intOf]; omega
      · have hqm' : ¬ (q.2 : Int) < (m : Int) := by omega
        have HE : Hid ((L.take (i + 1)).foldl (lcF old rest) (0, 0) = q) := by show _ = _; rw [HNX.out, if_neg hqm]
        go_wp2
        go_roundw
        case rel =>
          refine ⟨i + 1, by omega, by go_num, ?_, HZ1.out, HFR1.out, HB1.out⟩
          rw [HE.out]
          exact ⟨k0, k1, k2, k3⟩
        case measure => simp [intOf]; omega
    · have hil' : ¬ (i : Int) < (ll : Int) := by omega
      obtain rfl : i = ll := by omega
      have hq2 : q = fdP old rest old.length := by
        rw [← HQ.out, ← HLA.out, List.take_of_length_le (by rw [HLL.out]; exact Nat.le_refl _)]
      have hdec : decide (0 < q.2) = decide (6 ≤ (fd old rest old.length).2) := by
        rw [hq2, fdP_eq]
        by_cases h : 6 ≤ (fd old rest old.length).2
        · rw [if_pos h, decide_eq_true h, decide_eq_true (by omega)]
        · rw [if_neg h, decide_eq_false h, decide_eq_false (by simp)]
      have HQ2 : Hid (q = fdP old rest old.length) := hq2
      have HDC : Hid (decide (0 < q.2) = decide (6 ≤ (fd old rest old.length).2)) := hdec
      obtain ⟨y0, y1, y2, y3⟩ := HZ.out
      have f0 := fun j => (HFR.out j).1
      have f00 := f0 0
      clear hq2 hdec
      have HC8 : Hid (∀ X : World, (X = wr ∨ X = wr.drew ∨ ∃ v0 v1 v2 v3, X = ((((wr.drew).setCell ⟨w.heap.size, 0, none⟩ v0).setCell ⟨w.heap.size, 1, none⟩ v1).setCell ⟨w.heap.size, 2, none⟩ v2).setCell ⟨w.heap.size, 3, none⟩ v3) → X.cell? ⟨w.heap.size + 1, 0, none⟩ = some (.int .i64 1) ∧ X.cell? ⟨w.heap.size + 1, 1, none⟩ = some (.int .i64 (q.1 : Int)) ∧ X.cell? ⟨w.heap.size + 1, 2, none⟩ = some (.int .i64 (q.2 : Int)) ∧ X.cell? ⟨w.heap.size + 1, 3, none⟩ = some (.slice none 0 0)) := fun X hX => by
        rcases hX with rfl | rfl | ⟨v0, v1, v2, v3, rfl⟩
        · exact ⟨d0, d1, d2, d3⟩
        · exact ⟨d0, d1, d2, d3⟩
        · exact ⟨(far4 (by omega)).trans ((far4 (by omega)).trans ((far4 (by omega)).trans ((far4 (by omega)).trans d0))), (far4 (by omega)).trans ((far4 (by omega)).trans ((far4 (by omega)).trans ((far4 (by omega)).trans d1))), (far4 (by omega)).trans ((far4 (by omega)).trans ((far4 (by omega)).trans ((far4 (by omega)).trans d2))), (far4 (by omega)).trans ((far4 (by omega)).trans ((far4 (by omega)).trans ((far4 (by omega)).trans d3)))⟩
      go_wp2_with fail
      go_region_held3 (fun X => X.cell? ⟨w.heap.size + 1, 0, none⟩ = some (.int .i64 1) ∧ X.cell? ⟨w.heap.size + 1, 1, none⟩ = some (.int .i64 (q.1 : Int)) ∧ X.cell? ⟨w.heap.size + 1, 2, none⟩ = some (.int .i64 (q.2 : Int)) ∧ X.cell? ⟨w.heap.size + 1, 3, none⟩ = some (.slice none 0 0))
        (first | exact HC8.out _ (.inr (.inl rfl)) | exact HC8.out _ (.inr (.inr ⟨_, _, _, _, rfl⟩)) | go_keep)
        (fail)
      go_wp2_with fail
      refine ret_lc Try.results17 rfl rfl (b := w.heap.size) (v0 := .int .i64 1) (v1 := .int .i64 (q.1 : Int)) (v2 := .int .i64 (q.2 : Int)) (v3 := .slice none 0 0) ?_ ⟨1, (q.1 : Int), (q.2 : Int), ?_, fun h => ⟨rfl, by rw [HQ2.out, fdP_eq, if_pos h], by rw [HQ2.out, fdP_eq, if_pos h]⟩, ?_⟩
      · refine ⟨?_, ?_, ?_, ?_⟩
        · exact (oth4 (by omega)).trans ((oth4 (by omega)).trans ((oth4 (by omega)).trans (World.cell?_setCell_same _ _ _ y0)))
        · exact (oth4 (by omega)).trans ((oth4 (by omega)).trans (World.cell?_setCell_same _ _ _ ((oth4 (by omega)).trans y1)))
        · exact (oth4 (by omega)).trans (World.cell?_setCell_same _ _ _ ((oth4 (by omega)).trans ((oth4 (by omega)).trans y2)))
        · exact World.cell?_setCell_same _ _ _ ((oth4 (by omega)).trans ((oth4 (by omega)).trans ((oth4 (by omega)).trans y3)))
      · rw [← HDC.out]
        rfl
      · exact ((((HBE.out.setCell (p := ⟨w.heap.size, 0, none⟩) (Nat.le_refl _) _).setCell (p := ⟨w.heap.size, 1, none⟩) (Nat.le_refl _) _).setCell (p := ⟨w.heap.size, 2, none⟩) (Nat.le_refl _) _).setCell (p := ⟨w.heap.size, 3, none⟩) (Nat.le_refl _) _).drew

end Go.Proofs.Ytogakignaaoklaa.dl
