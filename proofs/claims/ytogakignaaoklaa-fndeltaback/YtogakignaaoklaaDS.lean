import Derived.Test.YtogakignaaoklaaDE
import Derived.Test.YtogakignaaoklaaDO
namespace Go.Proofs.Ytogakignaaoklaa.dl
open Go.ChangeShapes Go.WideShapes Go.ChangeAt Go.RowKit Go.Deep
open bf (Bf Ap num)
set_option linter.unusedVariables false
set_option linter.unusedSimpArgs false

/-! ### Steps that are read: a row of steps that grows -/

/-- Own bytes, with what is spare behind them. -/
structure OwC (w : World) (g c : Nat) (l : List UInt8) : Prop extends OwB w g l where
  spare : ∀ j, j < c → (w.cell? ⟨g, j, none⟩).isSome = true ∧ w.frozen? ⟨g, j, none⟩ = false
  le : l.length ≤ c
  max : c ≤ maxLen
theorem OwC.of {base : Nat} {w : World} {g c : Nat} {l : List UInt8} (h : Bf base w g c l) : OwC w g c l := ⟨⟨h.lt, h.cells, fun j hj => (h.spare j (Nat.lt_of_lt_of_le hj h.le)).2⟩, h.spare, h.le, h.max⟩
theorem OwC.bf {base : Nat} {w : World} {g c : Nat} {l : List UInt8} (h : OwC w g c l) (hb : base ≤ g) : Bf base w g c l := ⟨hb, h.lt, h.cells, h.spare, h.le, h.max⟩
theorem OwC.kept {w w' : World} {g c : Nat} {l : List UInt8} (h : OwC w g c l) (hs : w.heap.size ≤ w'.heap.size) (hb : w'.heap[g]? = w.heap[g]?) : OwC w' g c l :=
  ⟨h.toOwB.kept hs hb, fun j hj => by rw [World.cell?_of_block (a := ⟨g, j, none⟩) hb, World.frozen?_of_block (a := ⟨g, j, none⟩) hb]; exact h.spare j hj, h.le, h.max⟩


structure Sz where
  x : Sp
  a : Option Addr
  c : Nat

def szV (z : Sz) : List Value := [.int .i64 z.x.k, .int .i64 z.x.p, .int .i64 z.x.n, .slice z.a z.x.d.length z.c]
def szC (zs : List Sz) : List Value := (zs.map szV).flatten
theorem szC_len : ∀ zs : List Sz, (szC zs).length = zs.length * 4
  | [] => rfl
  | z :: zs => by
    have := szC_len zs
    unfold szC at *
    simp only [List.map_cons, List.flatten_cons, List.length_append, List.length_cons, this]
    unfold szV
    simp
    omega
theorem szC_app (zs : List Sz) (z : Sz) : szC (zs ++ [z]) = szC zs ++ szV z := by unfold szC; simp
theorem szC_at : ∀ (zs : List Sz) (i j : Nat) (z : Sz), zs[i]? = some z → j < 4 → (szC zs)[i * 4 + j]? = (szV z)[j]?
  | [], i, j, z, h, _ => by simp at h
  | y :: zs, 0, j, z, h, hj => by
    simp at h
    subst h
    unfold szC
    rw [List.map_cons, List.flatten_cons, Nat.zero_mul, Nat.zero_add, List.getElem?_append_left (by unfold szV; simpa using hj)]
  | y :: zs, i + 1, j, z, h, hj => by
    have ih := szC_at zs i j z (by simpa using h) hj
    unfold szC at *
    rw [List.map_cons, List.flatten_cons, List.getElem?_append_right (by unfold szV; simp; omega)]
    rw [← ih]
    congr 1
    unfold szV
    simp
    omega

structure RowS (base : Nat) (w : World) (v : Value) (zs : List Sz) : Prop where
  own : w.ownsRow base 41 4 v zs.length (szC zs)
  shape : ∃ G cap, v = .slice (some ⟨G, 0, none⟩) zs.length cap ∧ (zs = [] → cap = 0)
  dat : ∀ (i : Nat) (z : Sz), zs[i]? = some z → z.x.d ≠ [] → ∃ g, z.a = some ⟨g, 0, none⟩ ∧ OwC w g z.c z.x.d ∧ base ≤ g
  inj : ∀ (i j : Nat) (z z' : Sz) (g : Nat), i < j → zs[i]? = some z → zs[j]? = some z' → z.x.d ≠ [] → z'.x.d ≠ [] → z.a = some ⟨g, 0, none⟩ → z'.a ≠ some ⟨g, 0, none⟩

theorem RowS.cell {base : Nat} {w : World} {G cap : Nat} {zs : List Sz} (h : RowS base w (.slice (some ⟨G, 0, none⟩) zs.length cap) zs) {i j : Nat} {z : Sz} (hz : zs[i]? = some z) (hj : j < 4) : w.cell? ⟨G, i * 4 + j, none⟩ = (szV z)[j]? := by
  have hi := (List.getElem?_eq_some_iff.1 hz).1
  have := h.own.cells (g := G) rfl (i * 4 + j) ((szV z)[j]'(by unfold szV; simpa using hj)) (by rw [szC_at zs i j z hz hj]; exact List.getElem?_eq_getElem _)
  rw [addr_add, Nat.zero_add] at this
  rw [this]
  exact (List.getElem?_eq_getElem _).symm

/-- No Data lies in the row's own block. -/
theorem RowS.apart {base : Nat} {w : World} {G cap : Nat} {zs : List Sz} (h : RowS base w (.slice (some ⟨G, 0, none⟩) zs.length cap) zs) {g cc : Nat} {d : List UInt8} (ho : OwC w g cc d) (hd : d ≠ []) : g ≠ G := fun e => by
  subst e
  have hl : 0 < d.length := List.length_pos_iff.2 hd
  have hc := ho.cells 0 hl
  cases hz : zs with
  | nil =>
    subst hz
    obtain ⟨G', cap', e, hcap⟩ := h.shape
    rcases h.own.2 with ⟨e1, _⟩ | ⟨g', cap2, cur, e1, _, hg, _, _, hs, _⟩
    · cases e1
    · have e2 := e
      cases e1
      cases e2
      rw [hcap rfl, Nat.zero_mul] at hs
      unfold World.cell? at hc
      simp only [hg] at hc
      rw [Array.getElem?_eq_none (by omega)] at hc
      simp at hc
  | cons z zs' =>
    have := h.cell (i := 0) (j := 0) (z := z) (by rw [hz]; rfl) (by omega)
    rw [Nat.zero_mul, Nat.zero_add, hc] at this
    unfold szV at this
    simp at this

theorem RowS.kept {base p : Nat} {w w' : World} {v : Value} {zs : List Sz} (h : RowS base w v zs) (hg : w.grownBy w' (some p)) (hp : p < base) : RowS base w' v zs :=
  ⟨h.own.kept hg (.inr fun e => by have := (h.own.lt p e).1; omega), h.shape, fun i z hz hd => by
    obtain ⟨g, e, ho, hb⟩ := h.dat i z hz hd
    exact ⟨g, e, ho.kept hg.size (hg.block g ho.lt (fun e => by have := Option.some.inj e; omega)), hb⟩, h.inj⟩
theorem RowS.below {base : Nat} {w w' : World} {v : Value} {zs : List Sz} (h : RowS base w v zs) (hb : Below w.heap.size w w') : RowS base w' v zs :=
  ⟨own_below h.own hb, h.shape, fun i z hz hd => by
    obtain ⟨g, e, ho, hbg⟩ := h.dat i z hz hd
    exact ⟨g, e, ho.kept hb.size (hb.block g ho.lt), hbg⟩, h.inj⟩

theorem RowS.nil (base : Nat) (w : World) (hb : base ≤ w.heap.size) : RowS base (w.alloc (.cells #[] 41)) (.slice (some ⟨w.heap.size, 0, none⟩) 0 0) [] :=
  ⟨World.ownsRow_made w #[] 0 hb (by unfold maxLen; omega) rfl, ⟨_, _, rfl, fun _ => rfl⟩, fun i z h => by simp at h, fun i j z z' g _ h => by simp at h⟩

/-- One step more. -/
theorem RowS.push {base : Nat} {w w' : World} {v v' : Value} {zs : List Sz} {z : Sz} (h : RowS base w v zs) (ho : w'.ownsRow base 41 4 v' (zs.length + 1) (szC zs ++ szV z)) (hg : w.grownBy w' v.ownBlock)
    (hz : z.x.d ≠ [] → ∃ g, z.a = some ⟨g, 0, none⟩ ∧ OwC w g z.c z.x.d ∧ base ≤ g ∧ ∀ (i : Nat) (y : Sz), zs[i]? = some y → y.x.d ≠ [] → y.a ≠ some ⟨g, 0, none⟩) : RowS base w' v' (zs ++ [z]) := by
  obtain ⟨G, cap, rfl, hcap⟩ := h.shape
  have at_ : ∀ (i : Nat) (y : Sz), (zs ++ [z])[i]? = some y → (i < zs.length ∧ zs[i]? = some y) ∨ (i = zs.length ∧ y = z) := fun i y hy => by
    rcases Nat.lt_or_ge i zs.length with hi | hi
    · rw [List.getElem?_append_left hi] at hy
      exact .inl ⟨hi, hy⟩
    · rw [List.getElem?_append_right hi] at hy
      have : i - zs.length = 0 := by have := (List.getElem?_eq_some_iff.1 hy).1; simp at this; omega
      rw [this] at hy
      exact .inr ⟨by omega, by simpa using hy.symm⟩
  have kp : ∀ {g cc : Nat} {d : List UInt8}, OwC w g cc d → d ≠ [] → OwC w' g cc d := fun {g cc d} hb hd => hb.kept hg.size (hg.block g hb.lt (fun e => h.apart hb hd (Option.some.inj e)))
  refine ⟨by rw [szC_app, List.length_append]; exact ho, ?_, fun i y hy hd => ?_, fun i j y y' g hij hy hy' hd hd' he => ?_⟩
  · rcases ho.2 with ⟨_, e⟩ | ⟨g', cap', cur, rfl, _⟩
    · omega
    · exact ⟨g', cap', by rw [List.length_append]; rfl, fun e => by simp at e⟩
  · rcases at_ i y hy with ⟨_, hy⟩ | ⟨_, rfl⟩
    · obtain ⟨g, e, hb, hbg⟩ := h.dat i y hy hd
      exact ⟨g, e, kp hb hd, hbg⟩
    · obtain ⟨g, e, hb, hbg, _⟩ := hz hd
      exact ⟨g, e, kp hb hd, hbg⟩
  · rcases at_ i y hy with ⟨hi, hy1⟩ | ⟨hi, rfl⟩
    · rcases at_ j y' hy' with ⟨_, hy2⟩ | ⟨_, rfl⟩
      · exact h.inj i j y y' g hij hy1 hy2 hd hd' he
      · obtain ⟨g', e, _, _, hne⟩ := hz hd'
        intro e2
        rw [e] at e2
        have := hne i y hy1 hd
        rw [he] at this
        exact this e2.symm
    · rcases at_ j y' hy' with ⟨hj, _⟩ | ⟨hj, _⟩ <;> omega

def xs (zs : List Sz) : List Sp := zs.map (·.x)
theorem xs_len (zs : List Sz) : (xs zs).length = zs.length := by simp [xs]
theorem xs_at {zs : List Sz} {i : Nat} {x : Sp} (h : (xs zs)[i]? = some x) : ∃ z, zs[i]? = some z ∧ z.x = x := by
  unfold xs at h
  rw [List.getElem?_map] at h
  cases hz : zs[i]? with
  | none => rw [hz] at h; simp at h
  | some z => rw [hz] at h; exact ⟨z, rfl, by simpa using h⟩
theorem xs_app (zs : List Sz) (z : Sz) : xs (zs ++ [z]) = xs zs ++ [z.x] := by simp [xs]

def gOf (a : Option Addr) : Nat := match a with | some ⟨g, _, _⟩ => g | none => 0

/-- As a list that can be written into. -/
theorem RowS.ow {base : Nat} {w : World} {v : Value} {zs : List Sz} (h : RowS base w v zs) : ∃ G cap gs, v = .slice (some ⟨G, 0, none⟩) (xs zs).length cap ∧ OwS base w.heap.size w G gs (xs zs) := by
  obtain ⟨G, cap, rfl, hcap⟩ := h.shape
  rcases h.own.2 with ⟨e1, _⟩ | ⟨g', cap2, cur, e1, hb, hg, hle, _, hs, _⟩
  · cases e1
  · cases e1
    have cl : ∀ {i j : Nat} {z : Sz}, zs[i]? = some z → j < 4 → w.cell? ⟨G, i * 4 + j, none⟩ = (szV z)[j]? := fun hz hj => h.cell hz hj
    refine ⟨G, cap, fun i => gOf ((zs[i]?.map (·.a)).getD none), by rw [xs_len], ⟨hb, (h.own.lt G rfl).2, Nat.le_refl _, ⟨cap * 4, fun i => (cur[i]?).getD undef, by rw [xs_len]; omega, cur, hg, hs, fun i hi => by simp [Array.getElem?_eq_getElem (show i < cur.size by omega)]⟩, fun i x hx => ?_, fun i x hx hd => ?_, fun i j x y hij hx hy hd hd' => ?_⟩⟩
    · obtain ⟨z, hz, rfl⟩ := xs_at hx
      refine ⟨z.a, z.c, cl (j := 0) hz (by omega), cl (j := 1) hz (by omega), cl (j := 2) hz (by omega), cl (j := 3) hz (by omega), ?_⟩
      by_cases hd : z.x.d = []
      · exact .inl hd
      · obtain ⟨g, e, ho, _⟩ := h.dat i z hz hd
        refine .inr ⟨?_, ?_⟩
        · simp only [hz, Option.map_some, Option.getD_some, e]; rfl
        · simp only [hz, Option.map_some, Option.getD_some, e]; exact ho.toOwB
    · obtain ⟨z, hz, rfl⟩ := xs_at hx
      obtain ⟨g, e, ho, hbg⟩ := h.dat i z hz hd
      simp only [hz, Option.map_some, Option.getD_some, e]
      exact ⟨hbg, ho.lt, h.apart ho hd⟩
    · obtain ⟨z, hz, rfl⟩ := xs_at hx
      obtain ⟨z', hz', rfl⟩ := xs_at hy
      obtain ⟨g, e, _, _⟩ := h.dat i z hz hd
      obtain ⟨g', e', _, _⟩ := h.dat j z' hz' hd'
      simp only [hz, hz', Option.map_some, Option.getD_some, e, e']
      intro hgg
      have hgg' : g = g' := hgg
      subst hgg'
      exact h.inj i j z z' g hij hz hz' hd hd' e e'

end Go.Proofs.Ytogakignaaoklaa.dl
