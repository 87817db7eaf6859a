import Derived.Test.YtnhddnfobcofcaaGreatDoorG02
import Derived.Maps.AppendAt
import Derived.Deep.Heap
import Derived.Deep.RegionHeld3
namespace Go.Proofs.YtnhddnfobcofcaaGreatDoor.cd
open Go.ChangeShapes Go.WideShapes Go.ChangeAt Go.RowKit Go.Deep
set_option linter.unusedVariables false
set_option linter.unusedSimpArgs false

/-! ### Nodes behind pointers -/

/-- A value is a tree, whose blocks are of a kind. -/
def Nd (w : World) (O : Nat → Prop) : Nat → Value → Tr → Prop
  | 0, _, _ => False
  | r + 1, v, .mk k t ps => ∃ (g : Nat) (a : Option Addr) (cap : Nat) (vs : List Value), v = .pointer (some ⟨g, 0, none⟩) ∧ O g ∧ w.heap[g]? = some (.cells #[.int .i64 k, .string t, .slice a vs.length cap] 67 (0, 0)) ∧ vs.length = ps.length ∧ PsO w O a vs ∧ ∀ (i : Nat) (x : Value) (y : Tr), vs[i]? = some x → ps[i]? = some y → Nd w O r x y

theorem Nd.kept {w w' : World} {O O' : Nat → Prop} (hk : ∀ bb, O bb → w'.heap[bb]? = w.heap[bb]?) (hO : ∀ bb, O bb → O' bb) : ∀ (r : Nat) {v : Value} {t : Tr}, Nd w O r v t → Nd w' O' r v t
  | 0, _, _, h => h.elim
  | r + 1, v, .mk k t ps, h => by
    obtain ⟨g, a, cap, vs, h1, h2, h3, h4, h5, h6⟩ := h
    exact ⟨g, a, cap, vs, h1, hO g h2, (hk g h2).trans h3, h4, (h5.kept hk).mono hO, fun i x y hx hy => Nd.kept hk hO r (h6 i x y hx hy)⟩

theorem Nd.ptr {w : World} {O : Nat → Prop} {r : Nat} {v : Value} {t : Tr} (h : Nd w O r v t) : ∃ g, v = .pointer (some ⟨g, 0, none⟩) := by
  cases r with
  | zero => exact h.elim
  | succ r => cases t; obtain ⟨g, a, cap, vs, h1, _⟩ := h; exact ⟨g, h1⟩

/-- The first parts are read. -/
def Got (w : World) (O : Nat → Prop) (E : Nat → Cn) (r : Nat) (ps : List Nat) (us : List Value) : Prop := ∀ (i : Nat) (x : Value) (q : Nat), us[i]? = some x → ps[i]? = some q → Nd w O r x (treeP E r q)
theorem Got.kept {w w' : World} {O O' : Nat → Prop} {E : Nat → Cn} {r : Nat} {ps : List Nat} {us : List Value} (h : Got w O E r ps us) (hk : ∀ bb, O bb → w'.heap[bb]? = w.heap[bb]?) (hO : ∀ bb, O bb → O' bb) : Got w' O' E r ps us := fun i x q hx hq => Nd.kept hk hO r (h i x q hx hq)
theorem Got.snoc {w : World} {O : Nat → Prop} {E : Nat → Cn} {r : Nat} {ps : List Nat} {us : List Value} {v : Value} (h : Got w O E r ps us) (hl : us.length < ps.length) (hv : Nd w O r v (treeP E r ps[us.length])) : Got w O E r ps (us ++ [v]) := by
  intro i x q hx hq
  rcases Nat.lt_or_ge i us.length with hi | hi
  · rw [List.getElem?_append_left hi] at hx
    exact h i x q hx hq
  · rw [List.getElem?_append_right hi] at hx
    have hi0 : i = us.length := by
      have := (List.getElem?_eq_some_iff.1 hx).1
      simp at this
      omega
    subst hi0
    simp at hx
    rw [List.getElem?_eq_getElem hl] at hq
    cases hq
    rw [← hx]
    exact hv

/-- The blocks made since, but for the row that grows. -/
def Og (B : Nat) (w : World) (v : Value) (bb : Nat) : Prop := B ≤ bb ∧ bb < w.heap.size ∧ some bb ≠ v.ownBlock

theorem app_at {P : Program} (w : World) {ops : Array Oper} {rest : List Oper} {o : Oper} {a : Act} {Q : Exit → Act → World → Prop} (hgd : o.guard = none) (s x : Operand) (t : TypeId)
    (ho : o.op = .call { callee := .builtin .append, args := #[s, x], argTypes := #[t, t] })
    (base : Nat) (e : TypeId) (z : Value) (bytes : Nat) (ht : P.underlying t = some (.slice e)) (hinfo : (P.info? e).map (fun i => (i.zero, i.size, i.bytes)) = some (some z, 1, bytes)) (hzs : z.cells.size = 1)
    (v : Value) (n : Nat) (xs : List Value) (hs : a.eval s = v) (hown : w.ownsRow base e 1 v n xs)
    (ad : Addr) (m c : Nat) (news : List Value) (hx : a.eval x = .slice (some ad) m c) (hl : news.length = m) (hnews : ∀ j u, news[j]? = some u → w.cell? (ad.add j) = some u) (h1 : ∀ u ∈ news, u.oneCell' = true)
    (h63 : n + m ≤ maxLen) (hbytes : (n + m) * bytes ≤ 140737488355328) (hbase : base ≤ w.heap.size)
    (h : ∀ v' w', w'.ownsRow base e 1 v' (n + m) (xs ++ news) → w.grownBy w' v.ownBlock → (v'.ownBlock = v.ownBlock ∨ v'.ownBlock = some w.heap.size) → wpList P ops Q rest (a.put o.dst v') w') : wpList P ops Q (o :: rest) a w := by
  obtain ⟨i, hi, hzz⟩ := Option.map_eq_some_iff.1 hinfo
  simp only [Prod.mk.injEq] at hzz
  obtain ⟨hz, hsz, hb⟩ := hzz
  exact wpList_append_own_at w hgd s x t ho base e i z 1 bytes ht hi hz hsz hb hzs (by decide) v n xs hs hown ad m c news hx (by simpa using hl) hnews h1 h63 hbytes hbase (fun v' w' a b _ c => h v' w' a b c)

theorem three_lit (w : World) (a b c : Value) (e : TypeId) : (w.alloc (.cells #[a, b, c] e)).cell? ⟨w.heap.size, 0, none⟩ = some a ∧ (w.alloc (.cells #[a, b, c] e)).cell? ⟨w.heap.size, 1, none⟩ = some b ∧ (w.alloc (.cells #[a, b, c] e)).cell? ⟨w.heap.size, 2, none⟩ = some c := by
  simp [go_sem]

theorem infoN : (Tryz.prog.info? 43).map (fun i => (i.zero, i.size, i.bytes)) = some (some (.pointer none), 1, 8) := by kernel_rfl

theorem heap_set2 {w : World} {g : Nat} {a b c d : Value} {T : TypeId} (h : w.heap[g]? = some (.cells #[a, b, c] T (0, 0))) : (w.setCell ⟨g, 2, none⟩ d).heap[g]? = some (.cells #[a, b, d] T (0, 0)) := by
  simp [World.setCell, Array.getElem?_modify, h]

theorem own_set {w : World} {base e n g o : Nat} {v d : Value} {xs : List Value} (h : w.ownsRow base e 1 v n xs) (hg : g < base) : (w.setCell ⟨g, o, none⟩ d).ownsRow base e 1 v n xs := by
  refine h.kept (row := some g) ⟨rfl, rfl, rfl, by simp [World.setCell], fun k hk hne => blk_setCell_other w ⟨g, o, none⟩ d k (fun e => hne (by rw [e]))⟩ ?_
  cases ho : v.ownBlock with
  | none => exact .inl rfl
  | some k =>
    right
    have := (h.lt k ho).1
    intro e
    cases e
    omega

/-- A part more, the row grown by it, and the node told. -/
theorem got_more {wr w4 w' : World} {B g : Nat} {E : Nat → Cn} {r : Nat} {ps : List Nat} {us : List Value} {v v' x d : Value} {o : Obj} {e : TypeId} (hB : B ≤ wr.heap.size) (hg0 : g < B) (hgot : Got wr (Og B wr v) E r ps us) (hown : wr.ownsRow B e 1 v us.length us) (hl4 : Below wr.heap.size wr w4) (hl : us.length < ps.length)
    (hnd : Nd w4 (Btw wr.heap.size w4.heap.size) r x (treeP E r ps[us.length])) (hg : (w4.alloc o).grownBy w' v.ownBlock) (hloc : v'.ownBlock = v.ownBlock ∨ v'.ownBlock = some (w4.heap.size + 1)) : Got (w'.setCell ⟨g, 2, none⟩ d) (Og B (w'.setCell ⟨g, 2, none⟩ d) v') E r ps (us ++ [x]) := by
  have hs4 := hl4.size
  have hal : (w4.alloc o).heap.size = w4.heap.size + 1 := by simp
  have hsc : (w'.setCell ⟨g, 2, none⟩ d).heap.size = w'.heap.size := by simp [World.setCell]
  have hown' : ∀ g, v.ownBlock = some g → g < wr.heap.size := fun g hgg => (hown.lt g hgg).2
  have k1 : Got w4 (Og B w4 v) E r ps us := hgot.kept (fun bb hbb => hl4.block bb hbb.2.1) (fun bb ⟨a, b, c⟩ => ⟨a, by omega, c⟩)
  have k2 : Nd w4 (Og B w4 v) r x (treeP E r ps[us.length]) := Nd.kept (fun bb _ => rfl) (fun bb ⟨a, b⟩ => ⟨by omega, b, fun hc => by have := hown' bb hc.symm; omega⟩) r hnd
  have hk : ∀ bb, Og B w4 v bb → (w'.setCell ⟨g, 2, none⟩ d).heap[bb]? = w4.heap[bb]? := fun bb ⟨a, b, c⟩ => by
    rw [blk_setCell_other w' ⟨g, 2, none⟩ d bb (by simp; omega), hg.block bb (by omega) c]
    exact Below.heap_alloc w4 o bb b
  refine (k1.snoc hl k2).kept hk (fun bb ⟨a, b, c⟩ => ⟨a, by rw [hsc]; have := hg.size; omega, ?_⟩)
  rcases hloc with h | h
  · rw [h]; exact c
  · rw [h]
    simp
    omega

theorem cells_of {w : World} {g : Nat} {a b c : Value} {T : TypeId} (h : w.heap[g]? = some (.cells #[a, b, c] T (0, 0))) : w.cell? ⟨g, 0, none⟩ = some a ∧ w.cell? ⟨g, 1, none⟩ = some b ∧ w.cell? ⟨g, 2, none⟩ = some c := by
  simp [World.cell?, h]

theorem all_false {E : Nat → Cn} {r : Nat} {ps : List Nat} {q : Nat} (hq : q ∈ ps) (h : ok E r q ((E q).size.toNat + 1) = false) : (ps.all fun q => ok E r q ((E q).size.toNat + 1)) = false := by
  rw [List.all_eq_false]
  exact ⟨q, hq, by simp [h]⟩

/-- What condNodeOf answers. -/
def NIs (E : Nat → Cn) (B : Nat) (r p len : Nat) (e : Ending) (w' : World) : Prop := (ok E r p len = false ∧ e = .returned (.pointer none)) ∨ (ok E r p len = true ∧ ∃ v, e = .returned v ∧ Nd w' (Btw B w'.heap.size) r v (treeP E r p))

set_option maxRecDepth 100000 in
set_option maxHeartbeats 4000000 in
theorem node_any (E : Nat → Cn) (b n : Nat) (hn : n ≤ 3000) (hs : ∀ i, i < n → (E i).name.size ≤ 1048576) : ∀ (r ar : Nat), ar + r = 61 → ∀ (p len cap : Nat) (w : World), XsB w b n E → 0 < len → p + len ≤ n → len ≤ cap → cap ≤ 9223372036854775807 →
    Calls Tryz.prog 36 #[.slice (some ⟨b, p * 3, none⟩) len cap, .int .i64 (ar : Int)] w fun e w' => NIs E w.heap.size r p len e w' ∧ Below w.heap.size w w' := by
  intro r
  induction r with
  | zero =>
    intro ar har p len cap w hX hl hp hc hcap
    obtain rfl : ar = 61 := by omega
    obtain ⟨g0, g1, g2⟩ := hX p (by omega)
    have hl' : (0 : Int) < (len : Int) := by omega
    clear hX
    go_enter Tryz.func36, Tryz.ntmps36
    go_wp2
    go_ret
    exact ⟨.inl ⟨rfl, rfl⟩, (Below.refl _ _).alloc (Nat.le_refl _) _⟩
  | succ r ih =>
    intro ar har p len cap w hX hl hp hc hcap
    obtain ⟨g0, g1, g2⟩ := hX p (by omega)
    have hl' : (0 : Int) < (len : Int) := by omega
    have har' : ¬ (60 : Int) < (ar : Int) := by omega
    by_cases hz : (E p).size = (len : Int) - 1
    · obtain ⟨a1, ha1⟩ : ∃ a1, (if cap = 1 then some (⟨b, p * 3, none⟩ : Addr) else some ⟨b, p * 3 + 3, none⟩) = a1 := ⟨_, rfl⟩
      have HA1 : Hid (len - 1 = 0 ∨ a1 = some ⟨b, (p + 1) * 3, none⟩) := by
        show _ ∨ _
        rw [← ha1, show (p + 1) * 3 = p * 3 + 3 by omega]
        split
        · left; omega
        · right; rfl
      have HZ : Hid ((E p).size = (len : Int) - 1) := hz
      rw [hz] at g2
      clear hz
      have hB1 : Below w.heap.size w (w.alloc (.cells #[.int .i64 (E p).kind, .string (E p).name, .int .i64 ((len : Int) - 1)] 31)) := (Below.refl _ _).alloc (Nat.le_refl _) _
      have hX1 : XsB (w.alloc (.cells #[.int .i64 (E p).kind, .string (E p).name, .int .i64 ((len : Int) - 1)] 31)) b n E := hX.below hB1
      cases hcp : cutP E (p + 1) (len - 1) with
      | none =>
        have HN : Hid (ok E (r + 1) p len = false) := ok_cut hcp
        have HC : Hid (cutP E (p + 1) (len - 1) = none) := hcp
        clear hcp ih
        go_enter Tryz.func36, Tryz.ntmps36
        go_wp2_with (go_at_call 54; refine (cut_no HC.out hX1 (by omega) hn (by omega) HA1.out).mono ?_; rintro e w2 ⟨rfl, hl2⟩)
        go_ret
        exact ⟨.inl ⟨HN.out, rfl⟩, hB1.trans (hl2.mono (by simp))⟩
      | some ps =>
        have HC : Hid (cutP E (p + 1) (len - 1) = some ps) := hcp
        obtain ⟨hfits, hpl⟩ := cut_fits _ _ _ hcp
        have HFT : Hid (∀ q ∈ ps, Fits E (p + 1) (p + 1 + (len - 1)) q) := hfits
        have HT : Hid (treeP E (r + 1) p = .mk (E p).kind (E p).name (ps.map (treeP E r))) := tree_eq HZ.out hcp
        have HOK : Hid (ok E (r + 1) p len = ((ps.all fun q => ok E r q ((E q).size.toNat + 1)) && fitB (E p) ps.length)) := ok_yes HZ.out hcp
        have hsp := hs p (by omega)
        clear hcp hfits
        go_enter Tryz.func36, Tryz.ntmps36
        go_wp2_with (go_at_call 54; refine (cut_yes HC.out hX1 (by omega) hn (by omega) HA1.out).mono ?_; rintro e w2 ⟨av2, cap2, rfl, hcap2, hP2, hl2⟩; have hX2 := hX1.below hl2; have d0 := (hl2.cell (p := ⟨w.heap.size, 0, none⟩) (by simp)).trans (three_lit w _ _ _ _).1; have d1 := (hl2.cell (p := ⟨w.heap.size, 1, none⟩) (by simp)).trans (three_lit w _ _ _ _).2.1)
        obtain ⟨bb, off, hav, hP3⟩ := hP2
        have hav' : ps.length = 0 ∨ av2 = some ⟨bb, off, none⟩ := by rcases hav with h | h; exact .inl (by simpa using h); exact .inr h.1
        have hcell : ∀ i (h : i < ps.length), w2.cell? ⟨bb, off + i, none⟩ = some (partV E b (p + 1 + (cap - 1)) ps[i]) := fun i h => hP3 i _ (by simp [h])
        have hs2 := hl2.size
        have hs2' : w.heap.size + 1 ≤ w2.heap.size := by simpa using hs2
        have B2 : Below w.heap.size w w2 := hB1.trans (hl2.mono (by simp))
        clear hP3 hav ha1 d0 d1 g0 g1 g2
        go_loopw [10, 11, 41] (fun _ _ x wr => ∃ (us : List Value) (v : Value), us.length ≤ ps.length ∧ x = .int .i64 (us.length : Int) ∧ Got wr (Og (w2.heap.size + 1) wr v) E r ps us ∧ wr.ownsRow (w2.heap.size + 1) 43 1 v us.length us ∧ wr.heap[w2.heap.size]? = some (.cells #[.int .i64 (E p).kind, .string (E p).name, v] 67 (0, 0)) ∧ (∀ i (h : i < us.length) (h' : i < ps.length), ok E r ps[i] ((E ps[i]).size.toNat + 1) = true) ∧ Below w2.heap.size w2 wr) (fun _ _ x _ => ps.length - (intOf x).toNat)
        case atStart => exact ⟨[], .slice none 0 0, Nat.zero_le _, rfl, fun i x q hx => by simp at hx, ⟨by simp, .inl ⟨rfl, rfl⟩⟩, blk_alloc_new _ _, fun i h => by simp at h, (Below.refl _ _).alloc (Nat.le_refl _) _⟩
        case round =>
          obtain ⟨us, v, hul, rfl, hgot, hown, hG, hall, hbel⟩ := hrel
          have HG : Hid (Got wr (Og (w2.heap.size + 1) wr v) E r ps us) := hgot
          have HAL : Hid (∀ i (h : i < us.length) (h' : i < ps.length), ok E r ps[i] ((E ps[i]).size.toNat + 1) = true) := hall
          clear hgot hall
          have hsb := hbel.size
          have hsb1 : w2.heap.size + 1 ≤ wr.heap.size := (Array.getElem?_eq_some_iff.1 hG).1
          by_cases hjl : us.length < ps.length
          · have hjl' : (us.length : Int) < (ps.length : Int) := by omega
            obtain rfl := hav'.resolve_left (by omega)
            have c0 := hcell us.length hjl
            have c0r : wr.cell? ⟨bb, off + us.length, none⟩ = some (partV E b (p + 1 + (cap - 1)) ps[us.length]) := (hbel.cell (p := ⟨bb, _, none⟩) (World.block_lt_of_cell? _ _ c0)).trans c0
            unfold partV at c0r
            obtain ⟨f1, f2, f3⟩ := HFT.out _ (List.getElem_mem hjl)
            have HI := ih (ar + 1) (by omega) ps[us.length] ((E ps[us.length]).size.toNat + 1) (p + 1 + (cap - 1) - ps[us.length]) wr (hX2.below hbel) (by omega) (by omega) (by omega) (by omega)
            cases hok : ok E r ps[us.length] ((E ps[us.length]).size.toNat + 1) with
            | false =>
              have HN : Hid (ok E (r + 1) p len = false) := by show _ = _; rw [HOK.out, all_false (List.getElem_mem hjl) hok]; rfl
              have HI1 : Calls Tryz.prog 36 #[.slice (some ⟨b, ps[us.length] * 3, none⟩) ((E ps[us.length]).size.toNat + 1) (p + 1 + (cap - 1) - ps[us.length]), .int .i64 ((ar : Int) + 1)] wr fun e w' => e = .returned (.pointer none) ∧ Below wr.heap.size wr w' := by
                refine Calls.mono (by simpa using HI) ?_
                rintro e w' ⟨⟨_, rfl⟩ | ⟨h, _⟩, hl⟩
                · exact ⟨rfl, hl⟩
                · rw [hok] at h; cases h
              obtain ⟨Z, hZ⟩ : ∃ Z, (E ps[us.length]).size.toNat + 1 = Z := ⟨_, rfl⟩
              obtain ⟨Y, hY⟩ : ∃ Y, p + 1 + (cap - 1) - ps[us.length] = Y := ⟨_, rfl⟩
              rw [hZ, hY] at c0r HI1
              have HI' : Hid (Calls Tryz.prog 36 #[.slice (some ⟨b, ps[us.length] * 3, none⟩) Z Y, .int .i64 ((ar : Int) + 1)] wr fun e w' => e = .returned (.pointer none) ∧ Below wr.heap.size wr w') := HI1
              clear HI HI1 c0 hZ hY hok ih
              go_wp2_with (go_at_call 36; refine HI'.out.mono ?_; rintro e w4 ⟨rfl, hl4⟩)
              go_ret
              exact ⟨.inl ⟨HN.out, rfl⟩, B2.trans ((hbel.trans (hl4.mono hsb)).mono B2.size)⟩
            | true =>
              have HOKT : Hid (ok E r ps[us.length] ((E ps[us.length]).size.toNat + 1) = true) := hok
              have HI1 : Calls Tryz.prog 36 #[.slice (some ⟨b, ps[us.length] * 3, none⟩) ((E ps[us.length]).size.toNat + 1) (p + 1 + (cap - 1) - ps[us.length]), .int .i64 ((ar : Int) + 1)] wr fun e w' => ∃ g, e = .returned (.pointer (some ⟨g, 0, none⟩)) ∧ Nd w' (Btw wr.heap.size w'.heap.size) r (.pointer (some ⟨g, 0, none⟩)) (treeP E r ps[us.length]) ∧ Below wr.heap.size wr w' := by
                refine Calls.mono (by simpa using HI) ?_
                rintro e w' ⟨⟨h, _⟩ | ⟨_, v, rfl, hnd⟩, hl⟩
                · rw [hok] at h; cases h
                · obtain ⟨g, rfl⟩ := hnd.ptr
                  exact ⟨g, rfl, hnd, hl⟩
              obtain ⟨Z, hZ⟩ : ∃ Z, (E ps[us.length]).size.toNat + 1 = Z := ⟨_, rfl⟩
              obtain ⟨Y, hY⟩ : ∃ Y, p + 1 + (cap - 1) - ps[us.length] = Y := ⟨_, rfl⟩
              rw [hZ, hY] at c0r HI1
              have HI' : Hid (Calls Tryz.prog 36 #[.slice (some ⟨b, ps[us.length] * 3, none⟩) Z Y, .int .i64 ((ar : Int) + 1)] wr fun e w' => ∃ g, e = .returned (.pointer (some ⟨g, 0, none⟩)) ∧ Nd w' (Btw wr.heap.size w'.heap.size) r (.pointer (some ⟨g, 0, none⟩)) (treeP E r ps[us.length]) ∧ Below wr.heap.size wr w') := HI1
              clear HI HI1 c0 hZ hY hok ih
              obtain ⟨va, vc, hve⟩ := own_shape hown
              subst hve
              go_wp2_with (first
                | (go_at_call 36; refine HI'.out.mono ?_; rintro e w4 ⟨g4, rfl, hnd4, hl4⟩; have hown4 := own_below hown hl4; have hs4 := hl4.size; have hG4 := (hl4.block w2.heap.size (by omega)).trans hG; obtain ⟨q0, q1, q2⟩ := cells_of hG4)
                | (at_builtin; refine app_at _ rfl _ _ 65 rfl (w2.heap.size + 1) 43 (.pointer none) 8 Tryz.underlying65 infoN rfl _ _ _ rfl (hown4.alloc _) ⟨w4.heap.size, 0, none⟩ 1 1 [.pointer (some ⟨g4, 0, none⟩)] rfl rfl (one_new _ _ _) ?c2 ?c3 ?c4 ?c5 ?_)
                | go_in)
              case c2 => intro u hu; simp at hu; subst hu; rfl
              case c3 => unfold maxLen; omega
              case c4 => omega
              case c5 => simp; omega
              intro v' w' hown' hg hloc
              have hGne : some w2.heap.size ≠ (Value.slice va us.length vc).ownBlock := by
                intro hc
                have := (hown.lt _ hc.symm).1
                omega
              have hG' : w'.heap[w2.heap.size]? = some (.cells #[.int .i64 (E p).kind, .string (E p).name, .slice va us.length vc] 67 (0, 0)) := by
                rw [hg.block _ (by simp; omega) hGne, Below.heap_alloc w4 _ _ (by omega)]
                exact hG4
              have B4 := hbel.trans (hl4.mono hsb)
              have hb' : Below w2.heap.size w2 w' := B4.grown (row := (Value.slice va us.length vc).ownBlock) ⟨hg.os, hg.tape, hg.output, Nat.le_trans (by simp) hg.size, fun k hk hne => (hg.block k (by simp; omega) hne).trans (Below.heap_alloc w4 _ k hk)⟩ B4.size (fun k hk => by have := (hown.lt k hk).1; omega)
              obtain ⟨t0, t1, t2⟩ := cells_of hG'
              have tf : w'.frozen? ⟨w2.heap.size, 2, none⟩ = false := by simp [World.frozen?, hG']
              have HG' : Hid (Got (w'.setCell ⟨w2.heap.size, 2, none⟩ v') (Og (w2.heap.size + 1) (w'.setCell ⟨w2.heap.size, 2, none⟩ v') v') E r ps (us ++ [.pointer (some ⟨g4, 0, none⟩)])) := got_more hsb1 (by omega) HG.out hown hl4 hjl hnd4 hg hloc
              have HO' : Hid ((w'.setCell ⟨w2.heap.size, 2, none⟩ v').ownsRow (w2.heap.size + 1) 43 1 v' (us.length + 1) (us ++ [.pointer (some ⟨g4, 0, none⟩)])) := own_set hown' (by omega)
              have HH' : Hid ((w'.setCell ⟨w2.heap.size, 2, none⟩ v').heap[w2.heap.size]? = some (.cells #[.int .i64 (E p).kind, .string (E p).name, v'] 67 (0, 0))) := heap_set2 hG'
              obtain ⟨va', vc', hve'⟩ := own_shape hown'
              subst hve'
              clear hown hown4 hown' hg hloc HG hnd4 hG4 q0 q1 q2 hG'
              go_wp2_with fail
              go_roundw
              case rel => exact ⟨us ++ [.pointer (some ⟨g4, 0, none⟩)], .slice va' (us.length + 1) vc', by simp; omega, by simp, HG'.out, by simpa using HO'.out, HH'.out, fun i h h' => by
                rcases Nat.lt_or_ge i us.length with hi | hi
                · exact HAL.out i hi h'
                · obtain rfl : i = us.length := by simp at h; omega
                  exact HOKT.out, hb'.setCell (Nat.le_refl _) _⟩
              case measure => simp [intOf]; omega
          · have hjl' : ¬ (us.length : Int) < (ps.length : Int) := by omega
            have hue : us.length = ps.length := by omega
            obtain ⟨_, av, cp, rfl, hcp, hcm, hPu⟩ := PsO.own hown
            obtain ⟨q0, q1, q2⟩ := cells_of hG
            have HALL : Hid ((ps.all fun q => ok E r q ((E q).size.toNat + 1)) = true) := by
              show _ = _
              rw [List.all_eq_true]
              intro q hq
              obtain ⟨i, hi, rfl⟩ := List.getElem_of_mem hq
              exact HAL.out i (by omega) hi
            have HFI : Hid (∀ W, W = wr → Calls Tryz.prog 56 #[.pointer (some ⟨w2.heap.size, 0, none⟩)] W fun e w' => e = .returned (.bool (fitB (E p) ps.length)) ∧ w' = W) := fun W hW => by
              subst hW
              have := fits_any (E p).kind (E p).size (E p).name us.length (by omega) hsp w2.heap.size av cp W q0 q1 q2
              rw [hue] at this
              exact this
            have HB : Below w.heap.size w wr := B2.trans (hbel.mono B2.size)
            clear hown q0 q1 q2
            cases hft : fitB (E p) ps.length with
            | false =>
              have HN : Hid (ok E (r + 1) p len = false) := by show _ = _; rw [HOK.out, hft]; simp
              rw [hft] at HFI
              go_wp2_with (go_at_call 56; refine (HFI.out _ rfl).mono ?_; rintro e wx ⟨rfl, hw⟩; obtain rfl := hw.symm; clear hw)
              go_ret
              exact ⟨.inl ⟨HN.out, rfl⟩, HB⟩
            | true =>
              have HY : Hid (ok E (r + 1) p len = true) := by show _ = _; rw [HOK.out, hft, HALL.out]; rfl
              rw [hft] at HFI
              have HND : Hid (Nd wr (Btw w.heap.size wr.heap.size) (r + 1) (.pointer (some ⟨w2.heap.size, 0, none⟩)) (treeP E (r + 1) p)) := by
                show Nd _ _ _ _ _
                rw [HT.out]
                refine ⟨w2.heap.size, av, cp, us, rfl, ⟨by omega, by omega⟩, hG, by simpa using hue, hPu.mono (fun bb ⟨a, b⟩ => ⟨by omega, b⟩), fun i x y hx hy => ?_⟩
                rw [List.getElem?_map, Option.map_eq_some_iff] at hy
                obtain ⟨q, hq, rfl⟩ := hy
                exact Nd.kept (fun _ _ => rfl) (fun bb ⟨a, b, _⟩ => ⟨by omega, b⟩) r (HG.out i x q hx hq)
              go_wp2_with (go_at_call 56; refine (HFI.out _ rfl).mono ?_; rintro e wx ⟨rfl, hw⟩; obtain rfl := hw.symm; clear hw)
              go_ret
              exact ⟨.inr ⟨HY.out, _, rfl, HND.out⟩, HB⟩
    · have HN : Hid (ok E (r + 1) p len = false) := ok_size hz
      clear hX
      go_enter Tryz.func36, Tryz.ntmps36
      go_wp2
      go_ret
      exact ⟨.inl ⟨HN.out, rfl⟩, (Below.refl _ _).alloc (Nat.le_refl _) _⟩

end Go.Proofs.YtnhddnfobcofcaaGreatDoor.cd

namespace Go.Proofs.YtnhddnfobcofcaaGreatDoor.cd
open Go.ChangeShapes Go.WideShapes Go.ChangeAt Go.RowKit Go.Deep
set_option linter.unusedVariables false
set_option linter.unusedSimpArgs false

/-! ### The specification's side -/

set_option maxRecDepth 100000 in
theorem part_any (E : Nat → Cn) (b n p len cap i z : Nat) (w : World) (hX : XsB w b n E) (hp : p + len ≤ n) (hn : n ≤ 3000) (hc : len ≤ cap ∧ cap ≤ 9223372036854775807) (hi : i < len) (hz : (E (p + i)).size = (z : Int)) (hf : i + (z + 1) ≤ len) :
    Calls Tryz.prog 39 #[.slice (some ⟨b, p * 3, none⟩) len cap, .int .i64 (i : Int)] w fun e w' => e = .returned (.slice (some ⟨b, (p + i) * 3, none⟩) (z + 1) (cap - i)) ∧ w' = w := by
  obtain ⟨g0, g1, g2⟩ := hX (p + i) (by omega)
  rw [hz, show (p + i) * 3 + 2 = p * 3 + i * 3 + 2 by omega] at g2
  have hi' : (i : Int) < (len : Int) := by omega
  have h1 : (i : Int) ≤ (i : Int) + 1 + (z : Int) := by omega
  have h2 : (i : Int) + 1 + (z : Int) ≤ (cap : Int) := by omega
  have HP : Hid ((p + i) * 3 = p * 3 + i * 3) := by show _ = _; omega
  have hne : ¬ cap = i := by omega
  clear g0 g1 hz hX
  go_enter Tryz.func39, Tryz.ntmps39
  go_wp2
  go_ret
  refine ⟨?_, rfl⟩
  rw [HP.out]
  simp [hne]
  omega

/-- What is left to be asked at a place, with so many parts counted. -/
def lft (E : Nat → Cn) (r p q left m : Nat) : Bool := match cutP E q left with
  | none => false
  | some qs => (qs.all fun q => ok E r q ((E q).size.toNat + 1)) && fitB (E p) (m + qs.length)

theorem lft_ok {E : Nat → Cn} {r p len : Nat} (hz : (E p).size = (len : Int) - 1) : ok E (r + 1) p len = lft E r p (p + 1) (len - 1) 0 := by
  unfold lft
  rw [ok]
  cases cutP E (p + 1) (len - 1) <;> simp [hz]
theorem lft_bad {E : Nat → Cn} {r p q left m : Nat} (h : 0 < left) (hb : (E q).size < 0 ∨ (left : Int) ≤ (E q).size) : lft E r p q left m = false := by unfold lft; rw [cut_bad h hb]
theorem lft_no {E : Nat → Cn} {r p q left m : Nat} (h : 0 < left) (hb : ¬ ((E q).size < 0 ∨ (left : Int) ≤ (E q).size)) (ho : ok E r q ((E q).size.toNat + 1) = false) : lft E r p q left m = false := by
  unfold lft; rw [cut_step h hb]
  cases cutP E (q + ((E q).size.toNat + 1)) (left - ((E q).size.toNat + 1)) <;> simp [ho]
theorem lft_yes {E : Nat → Cn} {r p q left m : Nat} (h : 0 < left) (hb : ¬ ((E q).size < 0 ∨ (left : Int) ≤ (E q).size)) (ho : ok E r q ((E q).size.toNat + 1) = true) : lft E r p q left m = lft E r p (q + ((E q).size.toNat + 1)) (left - ((E q).size.toNat + 1)) (m + 1) := by
  unfold lft; rw [cut_step h hb]
  cases cutP E (q + ((E q).size.toNat + 1)) (left - ((E q).size.toNat + 1)) with
  | none => rfl
  | some qs => simp [ho, Nat.add_assoc, Nat.add_comm 1]
theorem lft_end {E : Nat → Cn} {r p q m : Nat} : lft E r p q 0 m = fitB (E p) m := by unfold lft; rw [cut_zero]; simp

set_option maxRecDepth 100000 in
set_option maxHeartbeats 4000000 in
theorem l7Ok_any (E : Nat → Cn) (b n : Nat) (hn : n ≤ 3000) (hs : ∀ i, i < n → (E i).name.size ≤ 1048576) : ∀ (r ar : Nat), ar + r = 61 → ∀ (p len cap : Nat) (w : World), XsB w b n E → 0 < len → p + len ≤ n → len ≤ cap → cap ≤ 9223372036854775807 →
    Calls Tryz.prog 21 #[.slice (some ⟨b, p * 3, none⟩) len cap, .int .i64 (ar : Int)] w fun e w' => e = .returned (.bool (ok E r p len)) ∧ w' = w := by
  intro r
  induction r with
  | zero =>
    intro ar har p len cap w hX hl hp hc hcap
    obtain rfl : ar = 61 := by omega
    have hl' : ¬ (len : Int) = 0 := by omega
    clear hX
    go_enter Tryz.func21, Tryz.ntmps21
    go_wp2
    go_ret
    exact ⟨rfl, rfl⟩
  | succ r ih =>
    intro ar har p len cap w hX hl hp hc hcap
    obtain ⟨g0, g1, g2⟩ := hX p (by omega)
    have hl' : ¬ (len : Int) = 0 := by omega
    have hl0 : (0 : Int) < (len : Int) := by omega
    have har' : ¬ (60 : Int) < (ar : Int) := by omega
    have hsp := hs p (by omega)
    by_cases hz : (E p).size = (len : Int) - 1
    · have HK : Hid (ok E (r + 1) p len = lft E r p (p + 1) (len - 1) 0) := lft_ok hz
      rw [hz] at g2
      clear hz
      go_enter Tryz.func21, Tryz.ntmps21
      go_wp2
      go_loop [5, 6] (fun c i => ∃ (m j : Nat), c = .int .i64 (m : Int) ∧ i = .int .i64 (j : Int) ∧ 1 ≤ j ∧ j ≤ len ∧ m < j ∧ lft E r p (p + 1) (len - 1) 0 = lft E r p (p + j) (len - j) m) (fun _ i => len - (intOf i).toNat)
      case atStart => exact ⟨0, 1, rfl, rfl, by omega, by omega, by omega, rfl⟩
      case round =>
        obtain ⟨m, j, rfl, rfl, hj1, hjl, hmj, hlf⟩ := hrel
        have HL : Hid (lft E r p (p + 1) (len - 1) 0 = lft E r p (p + j) (len - j) m) := hlf
        clear hlf
        by_cases hjt : j < len
        · have hjt' : (j : Int) < (len : Int) := by omega
          obtain ⟨e0, e1, e2⟩ := hX (p + j) (by omega)
          rw [show (p + j) * 3 + 2 = p * 3 + j * 3 + 2 by omega] at e2
          clear e0 e1
          by_cases hb : (E (p + j)).size < 0 ∨ ((len - j : Nat) : Int) ≤ (E (p + j)).size
          · have HN : Hid (ok E (r + 1) p len = false) := by show _ = _; rw [HK.out, HL.out, lft_bad (by omega) hb]
            by_cases hb0 : (E (p + j)).size < 0
            · clear hb
              go_wp2
              go_ret
              exact ⟨ret_bool HN.out.symm, rfl⟩
            · have hb1 : (len : Int) - (j : Int) - 1 < (E (p + j)).size := by omega
              clear hb
              go_wp2
              go_ret
              exact ⟨ret_bool HN.out.symm, rfl⟩
          · have hb0 : ¬ (E (p + j)).size < 0 := by omega
            have hb1 : ¬ (len : Int) - (j : Int) - 1 < (E (p + j)).size := by omega
            obtain ⟨z, hz⟩ : ∃ z : Nat, (E (p + j)).size = z := ⟨(E (p + j)).size.toNat, by omega⟩
            have hzt : (E (p + j)).size.toNat = z := by omega
            have HNO : ok E r (p + j) (z + 1) = false → ok E (r + 1) p len = false := fun h => by rw [HK.out, HL.out, lft_no (by omega) hb (by rw [hzt]; exact h)]
            have HYE : ok E r (p + j) (z + 1) = true → lft E r p (p + 1) (len - 1) 0 = lft E r p (p + (j + (z + 1))) (len - (j + (z + 1))) (m + 1) := fun h => by
              rw [HL.out, lft_yes (by omega) hb (by rw [hzt]; exact h), hzt]
              rw [show p + j + (z + 1) = p + (j + (z + 1)) by omega, show len - j - (z + 1) = len - (j + (z + 1)) by omega]
            have HP : Hid (∀ W, W = w → Calls Tryz.prog 39 #[.slice (some ⟨b, p * 3, none⟩) len cap, .int .i64 (j : Int)] W fun e w' => e = .returned (.slice (some ⟨b, (p + j) * 3, none⟩) (z + 1) (cap - j)) ∧ w' = W) := fun W h => by subst h; exact part_any E b n p len cap j z W hX hp hn ⟨hc, hcap⟩ hjt hz (by omega)
            have HI := ih (ar + 1) (by omega) (p + j) (z + 1) (cap - j) w hX (by omega) (by omega) (by omega) (by omega)
            have HI1 : Calls Tryz.prog 21 #[.slice (some ⟨b, (p + j) * 3, none⟩) (z + 1) (cap - j), .int .i64 ((ar : Int) + 1)] w fun e w' => e = .returned (.bool (ok E r (p + j) (z + 1))) ∧ w' = w := by simpa using HI
            have hzl : j + (z + 1) ≤ len := by omega
            rw [hz] at e2 hb0 hb1
            clear hb hz hzt HI ih
            cases hok : ok E r (p + j) (z + 1) with
            | false =>
              have HN : Hid (ok E (r + 1) p len = false) := HNO hok
              have HI' : Hid (∀ W, W = w → Calls Tryz.prog 21 #[.slice (some ⟨b, (p + j) * 3, none⟩) (z + 1) (cap - j), .int .i64 ((ar : Int) + 1)] W fun e w' => e = .returned (.bool false) ∧ w' = W) := fun W h => by subst h; rw [hok] at HI1; exact HI1
              clear HI1 HNO HYE hok
              go_wp2_with (first
                | (go_at_call 39; refine (HP.out _ rfl).mono ?_; rintro e wx ⟨rfl, hw⟩; obtain rfl := hw.symm; clear hw)
                | (go_at_call 21; refine (HI'.out _ rfl).mono ?_; rintro e wx ⟨rfl, hw⟩; obtain rfl := hw.symm; clear hw))
              go_ret
              exact ⟨ret_bool HN.out.symm, rfl⟩
            | true =>
              have HY : Hid (lft E r p (p + 1) (len - 1) 0 = lft E r p (p + (j + (z + 1))) (len - (j + (z + 1))) (m + 1)) := HYE hok
              have HI' : Hid (∀ W, W = w → Calls Tryz.prog 21 #[.slice (some ⟨b, (p + j) * 3, none⟩) (z + 1) (cap - j), .int .i64 ((ar : Int) + 1)] W fun e w' => e = .returned (.bool true) ∧ w' = W) := fun W h => by subst h; rw [hok] at HI1; exact HI1
              clear HI1 HNO HYE hok
              go_wp2_with (first
                | (go_at_call 39; refine (HP.out _ rfl).mono ?_; rintro e wx ⟨rfl, hw⟩; obtain rfl := hw.symm; clear hw)
                | (go_at_call 21; refine (HI'.out _ rfl).mono ?_; rintro e wx ⟨rfl, hw⟩; obtain rfl := hw.symm; clear hw))
              go_round
              case rel => exact ⟨m + 1, j + (z + 1), by go_num, by congr 1; omega, by omega, by omega, by omega, HY.out⟩
              case measure => simp [intOf]; omega
        · have hjt' : ¬ (j : Int) < (len : Int) := by omega
          obtain rfl : j = len := by omega
          have HV : Hid (ok E (r + 1) p j = fitB (E p) m) := by show _ = _; rw [HK.out, HL.out, show j - j = 0 by omega, lft_end]
          have HV' : Hid (ok E (r + 1) p j = fitB ⟨(E p).kind, (E p).name, 0⟩ m) := HV.out
          clear ih HK HL HV
          generalize (E p).kind = K at *
          generalize (E p).name = T at *
          by_cases hk1 : K = 1
          · subst hk1
            have HF : Hid (ok E (r + 1) p j = (decide (m = 0) && (nm.nameB T && (!(T.toList == tw) && !(T.toList == fw))))) := by show _ = _; rw [HV'.out]; simp [fitB]
            clear HV'
            by_cases hm0 : m = 0
            · subst hm0
              cases hnb : nm.nameB T with
              | false =>
                go_wp2_with (go_at_call 40; refine (nm.spec_any _ hsp _).mono ?_; rw [hnb]; rintro e wx ⟨rfl, hw⟩; obtain rfl := hw.symm; clear hw)
                go_ret
                exact ⟨ret_bool (by rw [HF.out, hnb]; simp), rfl⟩
              | true =>
                cases ht : (T.toList == tw) with
                | true =>
                  have hte : T.toList = [116, 114, 117, 101] := by rw [beq_iff_eq] at ht; exact ht
                  go_wp2_with (go_at_call 40; refine (nm.spec_any _ hsp _).mono ?_; rw [hnb]; rintro e wx ⟨rfl, hw⟩; obtain rfl := hw.symm; clear hw)
                  all_goals first
                    | (go_ret; exact ⟨ret_bool (by rw [HF.out, ht]; simp [hte]), rfl⟩)
                    | (exfalso; simp_all)
                | false =>
                  have htn : ¬ T.toList = [116, 114, 117, 101] := by rw [beq_eq_false_iff_ne] at ht; exact ht
                  cases hf : (T.toList == fw) with
                  | true =>
                    have hfe : T.toList = [102, 97, 108, 115, 101] := by rw [beq_iff_eq] at hf; exact hf
                    go_wp2_with (go_at_call 40; refine (nm.spec_any _ hsp _).mono ?_; rw [hnb]; rintro e wx ⟨rfl, hw⟩; obtain rfl := hw.symm; clear hw)
                    all_goals first
                      | (go_ret; exact ⟨ret_bool (by rw [HF.out, hf]; simp [hfe]), rfl⟩)
                      | (exfalso; simp_all)
                  | false =>
                    have hfn : ¬ T.toList = [102, 97, 108, 115, 101] := by rw [beq_eq_false_iff_ne] at hf; exact hf
                    go_wp2_with (go_at_call 40; refine (nm.spec_any _ hsp _).mono ?_; rw [hnb]; rintro e wx ⟨rfl, hw⟩; obtain rfl := hw.symm; clear hw)
                    all_goals first
                      | (go_ret; exact ⟨ret_bool (by rw [HF.out, hf, ht, hnb]; simp [htn, hfn]), rfl⟩)
                      | (exfalso; simp_all)
            · have hm0' : ¬ (m : Int) = 0 := by omega
              go_wp2
              go_ret
              exact ⟨ret_bool (by rw [HF.out]; simp [hm0]), rfl⟩
          · have HF : Hid (ok E (r + 1) p j = (T.toList.isEmpty && (if K = 2 ∨ K = 3 then decide (m = 0) else if K = 4 then decide (m = 1) else decide (K = 5 ∨ K = 6) && decide (2 ≤ m)))) := by show _ = _; rw [HV'.out]; unfold fitB; rw [if_neg hk1]
            clear HV'
            by_cases h23 : K = 2 ∨ K = 3
            · have HV2 : Hid (ok E (r + 1) p j = (T.toList.isEmpty && decide (m = 0))) := by show _ = _; rw [HF.out, if_pos h23]
              clear HF
              rcases h23 with rfl | rfl
              · go_wp2
                all_goals (go_ret; exact ⟨ret_bool (by rw [HV2.out, Bool.eq_iff_iff]; simp [*] <;> omega), rfl⟩)
              · go_wp2
                all_goals (go_ret; exact ⟨ret_bool (by rw [HV2.out, Bool.eq_iff_iff]; simp [*] <;> omega), rfl⟩)
            · by_cases h4 : K = 4
              · subst h4
                have HV2 : Hid (ok E (r + 1) p j = (T.toList.isEmpty && decide (m = 1))) := by show _ = _; rw [HF.out]; simp
                clear h23 HF
                go_wp2
                all_goals (go_ret; exact ⟨ret_bool (by rw [HV2.out, Bool.eq_iff_iff]; simp [*] <;> omega), rfl⟩)
              · have HV2 : Hid (ok E (r + 1) p j = (T.toList.isEmpty && (decide (K = 5 ∨ K = 6) && decide (2 ≤ m)))) := by show _ = _; rw [HF.out, if_neg h23, if_neg h4]
                have h2' : ¬ K = 2 := by omega
                have h3' : ¬ K = 3 := by omega
                clear h23 HF
                by_cases h5 : K = 5
                · subst h5
                  go_wp2
                  all_goals (go_ret; exact ⟨ret_bool (by rw [HV2.out, Bool.eq_iff_iff]; simp [*] <;> omega), rfl⟩)
                · by_cases h6 : K = 6
                  · subst h6
                    go_wp2
                    all_goals (go_ret; exact ⟨ret_bool (by rw [HV2.out, Bool.eq_iff_iff]; simp [*] <;> omega), rfl⟩)
                  · go_wp2
                    all_goals (go_ret; exact ⟨ret_bool (by rw [HV2.out]; simp [*]), rfl⟩)
    · have HN : Hid (ok E (r + 1) p len = false) := ok_size hz
      have hzb : ((E p).size != (len : Int) - 1) = true := by simp [hz]
      have hlb : ((len : Int) == 0) = false := by simp; omega
      clear hX ih
      go_enter Tryz.func21, Tryz.ntmps21
      go_wp2
      go_ret
      exact ⟨ret_bool HN.out.symm, rfl⟩

end Go.Proofs.YtnhddnfobcofcaaGreatDoor.cd

namespace Go.Proofs.YtnhddnfobcofcaaGreatDoor.cd
open Go.ChangeShapes Go.WideShapes Go.ChangeAt Go.RowKit Go.Deep
set_option linter.unusedVariables false
set_option linter.unusedSimpArgs false

/-- What condTree answers. -/
def TIs (E : Nat → Cn) (B n : Nat) (e : Ending) (w' : World) : Prop := (okAll E n = false ∧ e = .returned (.pointer none)) ∨ (okAll E n = true ∧ ∃ g, e = .returned (.pointer (some ⟨g, 0, none⟩)) ∧ Nd w' (Btw B w'.heap.size) 61 (.pointer (some ⟨g, 0, none⟩)) (treeP E 61 0))

theorem okAll_no {E : Nat → Cn} {n : Nat} (h : n = 0 ∨ 300 < n) : okAll E n = false := by
  unfold okAll
  rw [decide_eq_false (by omega)]; rfl
theorem okAll_eq {E : Nat → Cn} {n : Nat} (h : 0 < n) (h2 : n ≤ 300) : okAll E n = ok E 61 0 n := by
  unfold okAll
  rw [decide_eq_true ⟨h, h2⟩]; rfl

set_option maxRecDepth 100000 in
set_option maxHeartbeats 1000000 in
theorem condTree_any (E : Nat → Cn) (b n cap : Nat) (hcap : n ≤ cap ∧ cap ≤ 9223372036854775807) (hn : n ≤ 1048576) (hs : ∀ i, i < n → (E i).name.size ≤ 1048576) (w : World) (hX : XsB w b n E) :
    Calls Tryz.prog 19 #[.slice (some ⟨b, 0, none⟩) n cap] w fun e w' => TIs E w.heap.size n e w' ∧ Below w.heap.size w w' := by
  by_cases h0 : n = 0
  · subst h0
    go_enter Tryz.func19, Tryz.ntmps19
    go_wp2
    go_ret
    exact ⟨.inl ⟨okAll_no (.inl rfl), rfl⟩, Below.refl _ _⟩
  by_cases h3 : 300 < n
  · have h0' : ¬ (n : Int) = 0 := by omega
    have h3' : (300 : Int) < (n : Int) := by omega
    go_enter Tryz.func19, Tryz.ntmps19
    go_wp2
    go_ret
    exact ⟨.inl ⟨okAll_no (.inr h3), rfl⟩, Below.refl _ _⟩
  have h0' : ¬ (n : Int) = 0 := by omega
  have h3' : ¬ (300 : Int) < (n : Int) := by omega
  have HO : Hid (okAll E n = ok E 61 0 n) := okAll_eq (by omega) (by omega)
  have HN0 := node_any E b n (by omega) hs 61 0 rfl 0 n cap w hX (by omega) (by omega) hcap.1 hcap.2
  rw [Nat.zero_mul] at HN0
  have HN : Hid (Calls Tryz.prog 36 #[.slice (some ⟨b, 0, none⟩) n cap, .int .i64 0] w fun e w' => NIs E w.heap.size 61 0 n e w' ∧ Below w.heap.size w w') := HN0
  clear HN0
  clear hX
  go_enter Tryz.func19, Tryz.ntmps19
  go_wp2_with (go_at_call 36; refine HN.out.mono ?_; rintro e w1 ⟨⟨hk, rfl⟩ | ⟨hk, v, rfl, hnd⟩, hl1⟩)
  · go_ret
    exact ⟨.inl ⟨by rw [HO.out]; exact hk, rfl⟩, hl1⟩
  · obtain ⟨g, rfl⟩ := hnd.ptr
    go_ret
    exact ⟨.inr ⟨by rw [HO.out]; exact hk, g, rfl, hnd⟩, hl1⟩

set_option maxRecDepth 100000 in
theorem iok_any (E : Nat → Cn) (b n cap : Nat) (hcap : n ≤ cap ∧ cap ≤ 9223372036854775807) (hn : n ≤ 1048576) (hs : ∀ i, i < n → (E i).name.size ≤ 1048576) (w : World) (hX : XsB w b n E) :
    Calls Tryz.prog 8 #[.slice (some ⟨b, 0, none⟩) n cap] w fun e w' => e = .returned (.bool (okAll E n)) ∧ Below w.heap.size w w' := by
  go_enter Tryz.func8, Tryz.ntmps8
  go_wp2_with (go_at_call 19; refine (condTree_any E b n cap hcap hn hs _ hX).mono ?_; rintro e w1 ⟨⟨hk, rfl⟩ | ⟨hk, g, rfl, hnd⟩, hl1⟩)
  · go_ret
    exact ⟨ret_bool hk.symm, hl1⟩
  · go_ret
    exact ⟨ret_bool hk.symm, hl1⟩

set_option maxRecDepth 100000 in
set_option maxHeartbeats 1000000 in
theorem sok_any (E : Nat → Cn) (b n cap : Nat) (hcap : n ≤ cap ∧ cap ≤ 9223372036854775807) (hn : n ≤ 1048576) (hs : ∀ i, i < n → (E i).name.size ≤ 1048576) (w : World) (hX : XsB w b n E) :
    Calls Tryz.prog 7 #[.slice (some ⟨b, 0, none⟩) n cap] w fun e w' => e = .returned (.bool (okAll E n)) ∧ w' = w := by
  by_cases h3 : 300 < n
  · have h3' : ¬ (n : Int) ≤ 300 := by omega
    go_enter Tryz.func7, Tryz.ntmps7
    go_wp2
    go_ret
    exact ⟨ret_bool (okAll_no (.inr h3)).symm, rfl⟩
  have h3' : (n : Int) ≤ 300 := by omega
  have HL : Hid (∀ W, W = w → Calls Tryz.prog 21 #[.slice (some ⟨b, 0, none⟩) n cap, .int .i64 0] W fun e w' => e = .returned (.bool (okAll E n)) ∧ w' = W) := fun W hW => by
    subst hW
    by_cases h0 : n = 0
    · subst h0
      rw [okAll_no (.inl rfl)]
      go_enter Tryz.func21, Tryz.ntmps21
      go_wp2
      go_ret
      exact ⟨rfl, rfl⟩
    · have := l7Ok_any E b n (by omega) hs 61 0 rfl 0 n cap W hX (by omega) (by omega) hcap.1 hcap.2
      rw [okAll_eq (by omega) (by omega)]
      simpa using this
  clear hX
  go_enter Tryz.func7, Tryz.ntmps7
  go_wp2_with (go_at_call 21; refine (HL.out _ rfl).mono ?_; rintro e w1 ⟨rfl, hw⟩; obtain rfl := hw.symm; clear hw)
  go_ret
  exact ⟨rfl, rfl⟩

end Go.Proofs.YtnhddnfobcofcaaGreatDoor.cd

namespace Go.Proofs.YtnhddnfobcofcaaGreatDoor
theorem tq {P : Program} {ops : Array Oper} {Q : Exit → Act → World → Prop} {md : Region.Mode} {S : World → Prop} {i : Nat} {oi : Oper} {v : Value} {fuel : Nat} {listed : Array Bool} {a : Act} {w : World} (hi : ops.toList[i]? = some oi)
    (hy : ∀ w, S w → (execOp a.eval oi).run P w = .ok (.value v) w) (h : wpAnyH P md ops Q S fuel (listed.setIfInBounds i true) (a.put oi.dst v) w)
    (hs : Region.noSelect ops = true := by kernel_rfl) (hf : Region.free md ops listed i = true := by kernel_rfl) (hr : (Region.ready md ops listed).contains i = true := by kernel_rfl)
    (hQ : ∀ c a w, Q (.panic c) (a.put oi.dst v) w → Q (.panic c) a w := by exact fun _ _ _ h => h) (hw : Region.wanted oi (yielded ops a.tmps) = true := by rfl) (hS : S w := by assumption) : wpAnyH P md ops Q S (fuel + 1) listed a w :=
  wpAnyH_take ((Array.getElem?_toList).symm.trans hi) hs hf hr hQ (Or.inl ⟨hw, hy⟩) hS h
theorem uq {P : Program} {ops : Array Oper} {Q : Exit → Act → World → Prop} {md : Region.Mode} {S : World → Prop} {i : Nat} {oi : Oper} {v : Value} {fuel : Nat} {listed : Array Bool} {a : Act} {w : World} (hi : ops.toList[i]? = some oi)
    (h : wpAnyH P md ops Q S fuel (listed.setIfInBounds i true) (a.put oi.dst v) w) (hy : ∀ w, S w → (execOp a.eval oi).run P w = .ok (.value v) w := by (intro w hSw; (try dsimp only at hSw); go_simp; try with_reducible rfl))
    (hs : Region.noSelect ops = true := by kernel_rfl) (hf : Region.free md ops listed i = true := by kernel_rfl) (hr : (Region.ready md ops listed).contains i = true := by kernel_rfl)
    (hQ : ∀ c a w, Q (.panic c) (a.put oi.dst v) w → Q (.panic c) a w := by exact fun _ _ _ h => h) (hw : Region.wanted oi (yielded ops a.tmps) = true := by rfl) (hS : S w := by assumption) : wpAnyH P md ops Q S (fuel + 1) listed a w :=
  wpAnyH_take ((Array.getElem?_toList).symm.trans hi) hs hf hr hQ (Or.inl ⟨hw, hy⟩) hS h
theorem sq {P : Program} {ops : Array Oper} {Q : Exit → Act → World → Prop} {md : Region.Mode} {S : World → Prop} {i : Nat} {oi : Oper} {fuel : Nat} {listed : Array Bool} {a : Act} {w : World} (hi : ops.toList[i]? = some oi)
    (h : wpAnyH P md ops Q S fuel (listed.setIfInBounds i true) (a.put oi.dst undef) w)
    (hs : Region.noSelect ops = true := by kernel_rfl) (hf : Region.free md ops listed i = true := by kernel_rfl) (hr : (Region.ready md ops listed).contains i = true := by kernel_rfl)
    (hQ : ∀ c a w, Q (.panic c) (a.put oi.dst undef) w → Q (.panic c) a w := by exact fun _ _ _ h => h) (hw : Region.wanted oi (yielded ops a.tmps) = false := by rfl) (hS : S w := by assumption) : wpAnyH P md ops Q S (fuel + 1) listed a w :=
  wpAnyH_take ((Array.getElem?_toList).symm.trans hi) hs hf hr hQ (Or.inr ⟨hw, rfl⟩) hS h
theorem cq {P : Program} {ops : Array Oper} {Q : Exit → Act → World → Prop} {md : Region.Mode} {S : World → Prop} {fuel : Nat} {listed : Array Bool} {a : Act} {w : World} {i : Nat} {o : Oper} {rs : List Nat} (ho : ops.toList[i]? = some o)
    (h : ∀ K' : Act → World → Prop, Shut (∀ a w, S w → (S w → wpAnyH P md ops Q S fuel (listed.setIfInBounds i true) a w) → K' a w) → if Region.wanted o (yielded ops a.tmps) = true then Oper.wp P o a w K' Q else K' (a.put o.dst undef) w)
    (hs : AllReadyH P md ops Q S fuel listed a w rs) : AllReadyH P md ops Q S fuel listed a w (i :: rs) := AllReadyH.cons ((Array.getElem?_toList).symm.trans ho) h hs
theorem aP : (∀ (a : Act) (i : Tmp) (v : Value), a.put (some i) v = { a with tmps := a.tmps.setIfInBounds i v }) ∧ (∀ (a : Act) (v : Value), a.put none v = a) ∧ (∀ {α : Type} (l : List α) (i : Nat) (x : α), l.toArray.setIfInBounds i x = (l.set i x).toArray) ∧ (∀ {α : Type} (x y : α) (l : List α), (x :: l).set 0 y = y :: l) ∧ (∀ {α : Type} (x : α) (l : List α) (i : Nat) (y : α), (x :: l).set (i + 1) y = x :: l.set i y) :=
  ⟨fun _ _ _ => rfl, fun _ _ => rfl, fun _ _ _ => by simp, fun _ _ _ => rfl, fun _ _ _ _ => rfl⟩
theorem wq {P : Program} {ops : Array Oper} {Q : Exit → Act → World → Prop} {S : World → Prop} {id : Nat} {a : Act} {w : World} (n : Nat) (hm : P.follows .mixedOrders = true) (hS : S w.drew)
    (h : S w.drew → wpAnyH P .any ops Q S n (Array.replicate n false) a w.drew) (hn : ops.size = n := by kernel_rfl) : (Code.region id ops true).wp P Q a w := by
  subst hn
  exact wp_region_held_drew hm hS h
theorem un {P : Program} {ops : Array Oper} {Q : Exit → Act → World → Prop} {md : Region.Mode} {S : World → Prop} (n : Nat) {oi : Oper} {v : Value} {fuel : Nat} {listed : Array Bool} {a : Act} {w : World} (hi : ops.toList[n - (fuel + 1)]? = some oi)
    (h : wpAnyH P md ops Q S fuel (listed.setIfInBounds (n - (fuel + 1)) true) (a.put oi.dst v) w) (hw : Region.wanted oi (yielded ops a.tmps) = true := by rfl) (hy : ∀ w, S w → (execOp a.eval oi).run P w = .ok (.value v) w := by (intro w hSw; (try dsimp only at hSw); go_simp; try with_reducible rfl))
    (hs : Region.noSelect ops = true := by kernel_rfl) (hf : Region.free md ops listed (n - (fuel + 1)) = true := by kernel_rfl) (hr : (Region.ready md ops listed).contains (n - (fuel + 1)) = true := by kernel_rfl)
    (hQ : ∀ c a w, Q (.panic c) (a.put oi.dst v) w → Q (.panic c) a w := by exact fun _ _ _ h => h) (hS : S w := by assumption) : wpAnyH P md ops Q S (fuel + 1) listed a w :=
  wpAnyH_take ((Array.getElem?_toList).symm.trans hi) hs hf hr hQ (Or.inl ⟨hw, hy⟩) hS h
theorem sn {P : Program} {ops : Array Oper} {Q : Exit → Act → World → Prop} {md : Region.Mode} {S : World → Prop} (n : Nat) {oi : Oper} {fuel : Nat} {listed : Array Bool} {a : Act} {w : World} (hi : ops.toList[n - (fuel + 1)]? = some oi)
    (h : wpAnyH P md ops Q S fuel (listed.setIfInBounds (n - (fuel + 1)) true) (a.put oi.dst undef) w) (hw : Region.wanted oi (yielded ops a.tmps) = false := by rfl)
    (hs : Region.noSelect ops = true := by kernel_rfl) (hf : Region.free md ops listed (n - (fuel + 1)) = true := by kernel_rfl) (hr : (Region.ready md ops listed).contains (n - (fuel + 1)) = true := by kernel_rfl)
    (hQ : ∀ c a w, Q (.panic c) (a.put oi.dst undef) w → Q (.panic c) a w := by exact fun _ _ _ h => h) (hS : S w := by assumption) : wpAnyH P md ops Q S (fuel + 1) listed a w :=
  wpAnyH_take ((Array.getElem?_toList).symm.trans hi) hs hf hr hQ (Or.inr ⟨hw, rfl⟩) hS h
theorem rq {P : Program} {ops : Array Oper} {Q : Exit → Act → World → Prop} {md : Region.Mode} {S : World → Prop} {fuel : Nat} {listed : Array Bool} {a : Act} {w : World} (i : Nat) {o : Oper} (ho : ops.toList[i]? = some o)
    (h : ∀ K' : Act → World → Prop, Shut (∀ a w, S w → (S w → wpAnyH P md ops Q S fuel (listed.setIfInBounds i true) a w) → K' a w) → if Region.wanted o (yielded ops a.tmps) = true then Oper.wp P o a w K' Q else K' (a.put o.dst undef) w)
    (hr : Region.ready md ops listed = [i] := by kernel_rfl) : wpAnyH P md ops Q S (fuel + 1) listed a w := wpAnyH_ready hr (by simp) (AllReadyH.cons ((Array.getElem?_toList).symm.trans ho) h AllReadyH.nil)
theorem dq {P : Program} {ops : Array Oper} {Q : Exit → Act → World → Prop} {md : Region.Mode} {S : World → Prop} {fuel : Nat} {listed : Array Bool} {a : Act} {w : World} (h : Q .normal a w) (hr : Region.ready md ops listed = [] := by kernel_rfl) : wpAnyH P md ops Q S fuel listed a w := wpAnyH_done hr h _
end Go.Proofs.YtnhddnfobcofcaaGreatDoor
