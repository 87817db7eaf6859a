import Derived.Test.YthklplfpnciodaaGreatDoorTB
import Derived.Maps.AppendAt
namespace Go.Proofs.YthklplfpnciodaaGreatDoor.ex
open Go.ChangeShapes Go.WideShapes Go.ChangeAt Go.RowKit Go.Deep
set_option linter.unusedVariables false
set_option linter.unusedSimpArgs false

theorem infoN : (Tryz.prog.info? 45).map (fun i => (i.zero, i.size, i.bytes)) = some (some .nilIface, 1, 16) := by kernel_rfl

theorem parts_of_ok {E : Nat → Ex} {r p len : Nat} (hl : len ≤ 3000) (h : ok E (r + 1) p len = true) : (E p).size = (len : Int) - 1 ∧ headB (E p) = true ∧ ∃ ps, cutP E (p + 1) (len - 1) = some ps ∧ partsOk (E p).kind ps.length ∧ sp (E p).kind (ps.map E) = true ∧ ∀ q ∈ ps, ok E r q ((E q).size.toNat + 1) = true := by
  have hk := ok_kind h
  have h0 := h
  rw [ok_spec hk hl] at h
  simp only [Bool.and_eq_true, decide_eq_true_eq] at h
  obtain ⟨h1, h2, h3⟩ := h
  refine ⟨h1, ?_, ?_⟩
  · rw [ok] at h0
    simp only [Bool.and_eq_true] at h0
    exact h0.2.1
  · cases hc : cutP E (p + 1) (len - 1) with
    | none => rw [hc] at h3; simp at h3
    | some ps =>
      rw [hc] at h3
      simp only [Bool.and_eq_true, List.all_eq_true] at h3
      refine ⟨ps, rfl, ?_, h3.1, h3.2⟩
      have hcnt := h3.1
      simp only [sp, Bool.and_eq_true, countB, Bool.or_eq_true, decide_eq_true_eq, List.length_map] at hcnt
      obtain ⟨⟨c1, c2⟩, _⟩ := hcnt
      generalize (E p).kind = k at c1 c2
      refine ⟨fun hk => ?_, fun hk => ?_, fun hk => ?_, fun hk => ?_, fun hk => ?_, fun hk => ?_, fun hk => ?_⟩
      · rcases hk with rfl | rfl | rfl | rfl <;> simp [lowS, highS] at c1 c2 <;> first | omega | simp [c2]
      · rcases hk with rfl | rfl | rfl | rfl | rfl <;> simp [lowS, highS] at c1 c2 <;> omega
      · rcases hk with rfl | rfl | rfl | rfl <;> simp [lowS, highS] at c1 c2 <;> omega
      · subst hk; simp [lowS, highS] at c1 c2; omega
      · subst hk; simp [lowS, highS] at c1 c2; omega
      · subst hk; simp [lowS, highS] at c1 c2; omega
      · rcases hk with rfl | rfl <;> simp [lowS, highS] at c1 c2 <;> omega

/-- The first parts are read. -/
def Got (w : World) (O : Nat → Prop) (E : Nat → Ex) (r : Nat) (ps : List Nat) (us : List Value) : Prop := ∀ (i : Nat) (x : Value) (q : Nat), us[i]? = some x → ps[i]? = some q → Nd w O r x (treeP E r q)
theorem Got.kept {w w' : World} {O O' : Nat → Prop} {E : Nat → Ex} {r : Nat} {ps : List Nat} {us : List Value} (h : Got w O E r ps us) (hk : ∀ bb, O bb → w'.heap[bb]? = w.heap[bb]?) (hO : ∀ bb, O bb → O' bb) : Got w' O' E r ps us := fun i x q hx hq => Nd.kept hk hO r (h i x q hx hq)
theorem Got.snoc {w : World} {O : Nat → Prop} {E : Nat → Ex} {r : Nat} {ps : List Nat} {us : List Value} {v : Value} (h : Got w O E r ps us) (hl : us.length < ps.length) (hv : Nd w O r v (treeP E r ps[us.length])) : Got w O E r ps (us ++ [v]) := by
  intro i x q hx hq
  rcases Nat.lt_or_ge i us.length with hi | hi
  · rw [List.getElem?_append_left hi] at hx
    exact h i x q hx hq
  · rw [List.getElem?_append_right hi] at hx
    have hi0 : i = us.length := by
      have := (List.getElem?_eq_some_iff.1 hx).1
      simp at this
      omega
    subst hi0
    simp at hx
    rw [List.getElem?_eq_getElem hl] at hq
    cases hq
    rw [← hx]
    exact hv

/-- The blocks made since, but for the row that grows. -/
def Og (B : Nat) (w : World) (v : Value) (bb : Nat) : Prop := B ≤ bb ∧ bb < w.heap.size ∧ some bb ≠ v.ownBlock
/-- The blocks made in between. -/
def Btw (A B : Nat) (bb : Nat) : Prop := A ≤ bb ∧ bb < B

theorem app_at {P : Program} (w : World) {ops : Array Oper} {rest : List Oper} {o : Oper} {a : Act} {Q : Exit → Act → World → Prop} (hgd : o.guard = none) (s x : Operand) (t : TypeId)
    (ho : o.op = .call { callee := .builtin .append, args := #[s, x], argTypes := #[t, t] })
    (base : Nat) (e : TypeId) (z : Value) (bytes : Nat) (ht : P.underlying t = some (.slice e)) (hinfo : (P.info? e).map (fun i => (i.zero, i.size, i.bytes)) = some (some z, 1, bytes)) (hzs : z.cells.size = 1)
    (v : Value) (n : Nat) (xs : List Value) (hs : a.eval s = v) (hown : w.ownsRow base e 1 v n xs)
    (ad : Addr) (m c : Nat) (news : List Value) (hx : a.eval x = .slice (some ad) m c) (hl : news.length = m) (hnews : ∀ j u, news[j]? = some u → w.cell? (ad.add j) = some u) (h1 : ∀ u ∈ news, u.oneCell' = true)
    (h63 : n + m ≤ maxLen) (hbytes : (n + m) * bytes ≤ 140737488355328) (hbase : base ≤ w.heap.size)
    (h : ∀ v' w', w'.ownsRow base e 1 v' (n + m) (xs ++ news) → w.grownBy w' v.ownBlock → (v'.ownBlock = v.ownBlock ∨ v'.ownBlock = some w.heap.size) → wpList P ops Q rest (a.put o.dst v') w') : wpList P ops Q (o :: rest) a w := by
  obtain ⟨i, hi, hzz⟩ := Option.map_eq_some_iff.1 hinfo
  simp only [Prod.mk.injEq] at hzz
  obtain ⟨hz, hsz, hb⟩ := hzz
  exact wpList_append_own_at w hgd s x t ho base e i z 1 bytes ht hi hz hsz hb hzs (by decide) v n xs hs hown ad m c news hx (by simpa using hl) hnews h1 h63 hbytes hbase (fun v' w' a b _ c => h v' w' a b c)

/-- A part more, and the row grown by it. -/
theorem got_more {w2 wr w4 w' : World} {E : Nat → Ex} {r : Nat} {ps : List Nat} {us : List Value} {v v' x : Value} {o : Obj} {e : TypeId} (hB : w2.heap.size ≤ wr.heap.size) (hgot : Got wr (Og w2.heap.size wr v) E r ps us) (hown : wr.ownsRow w2.heap.size e 1 v us.length us) (hl4 : Below wr.heap.size wr w4) (hl : us.length < ps.length)
    (hnd : Nd w4 (Btw wr.heap.size w4.heap.size) r x (treeP E r ps[us.length])) (hg : (w4.alloc o).grownBy w' v.ownBlock) (hloc : v'.ownBlock = v.ownBlock ∨ v'.ownBlock = some (w4.heap.size + 1)) : Got w' (Og w2.heap.size w' v') E r ps (us ++ [x]) := by
  have hs4 := hl4.size
  have hal : (w4.alloc o).heap.size = w4.heap.size + 1 := by simp
  have hown' : ∀ g, v.ownBlock = some g → g < wr.heap.size := fun g hgg => (hown.lt g hgg).2
  have k1 : Got w4 (Og w2.heap.size w4 v) E r ps us := hgot.kept (fun bb hbb => hl4.block bb hbb.2.1) (fun bb ⟨a, b, c⟩ => ⟨a, by omega, c⟩)
  have k2 : Nd w4 (Og w2.heap.size w4 v) r x (treeP E r ps[us.length]) := Nd.kept (fun bb _ => rfl) (fun bb ⟨a, b⟩ => ⟨by omega, b, fun hc => by have := hown' bb hc.symm; omega⟩) r hnd
  have hk : ∀ bb, Og w2.heap.size w4 v bb → w'.heap[bb]? = w4.heap[bb]? := fun bb ⟨a, b, c⟩ => by
    rw [hg.block bb (by omega) c]
    exact Below.heap_alloc w4 o bb b
  refine (k1.snoc hl k2).kept hk (fun bb ⟨a, b, c⟩ => ⟨a, by have := hg.size; omega, ?_⟩)
  rcases hloc with h | h
  · rw [h]; exact c
  · rw [h]
    simp
    omega

theorem PsO.own {w : World} {base e n : Nat} {v : Value} {l : List Value} (h : w.ownsRow base e 1 v n l) : l.length = n ∧ ∃ a cap, v = .slice a n cap ∧ n ≤ cap ∧ cap ≤ maxLen ∧ PsO w (Btw base w.heap.size) a l := by
  obtain ⟨hl, h⟩ := h
  rcases h with ⟨rfl, rfl⟩ | ⟨g, cap, cur, rfl, hb, hg, hc, hm, hz, ht⟩
  · have hl' : l = [] := List.length_eq_zero_iff.1 (by simpa using hl)
    subst hl'
    exact ⟨rfl, none, 0, rfl, Nat.le_refl _, by decide, 0, 0, .inl rfl, fun i x hx => by simp at hx⟩
  · refine ⟨by simpa using hl, _, cap, rfl, hc, hm, g, 0, .inr ⟨rfl, hb, (Array.getElem?_eq_some_iff.1 hg).1⟩, fun i x hx => ?_⟩
    have hi : i < l.length := (List.getElem?_eq_some_iff.1 hx).1
    rw [← ht, List.getElem?_take_of_lt (by omega)] at hx
    rw [Nat.zero_add]
    simp only [World.cell?, hg]
    have e2 : cur[i]? = some x := by simpa using hx
    show cur[i]? = _
    rw [e2]

/-- The whole of a node. -/
theorem nd_of {w w2 wr w' : World} {E : Nat → Ex} {r p : Nat} {ps : List Nat} {us : List Value} {v u : Value} (hT : treeP E (r + 1) p = .mk (E p).kind (E p).text (E p).n (ps.map (treeP E r))) (h2 : w.heap.size ≤ w2.heap.size) (hue : us.length = ps.length)
    (hgot : Got wr (Og w2.heap.size wr u) E r ps us) (hl : Below wr.heap.size wr w') (hn : NodeV w' (Btw w2.heap.size wr.heap.size) (E p).text (E p).n (E p).kind us v) : Nd w' (Btw w.heap.size w'.heap.size) (r + 1) v (treeP E (r + 1) p) := by
  have hs := hl.size
  rw [hT]
  refine ⟨hn.iface, us, by simpa using hue, fun i x y hx hy => ?_, hn.kept (fun _ _ => rfl) (fun bb ⟨a, b⟩ => ⟨by omega, by omega⟩)⟩
  rw [List.getElem?_map, Option.map_eq_some_iff] at hy
  obtain ⟨q, hq, rfl⟩ := hy
  exact Nd.kept (fun bb hbb => hl.block bb hbb.2.1) (fun bb ⟨a, b, _⟩ => ⟨by omega, by omega⟩) r (hgot i x q hx hq)

theorem got_ifaces {w : World} {O : Nat → Prop} {E : Nat → Ex} {r : Nat} {ps : List Nat} {us : List Value} (h : Got w O E r ps us) (hl : us.length = ps.length) : ∀ v ∈ us, ∃ (T : TypeId) (x : Value), v = .iface T x := by
  intro v hv
  obtain ⟨i, hi, rfl⟩ := List.getElem_of_mem hv
  exact (h i us[i] ps[i] (List.getElem?_eq_getElem hi) (List.getElem?_eq_getElem (by omega))).iface

set_option maxRecDepth 100000 in
set_option maxHeartbeats 2000000 in
theorem tree_any (E : Nat → Ex) (b n : Nat) (hn : n ≤ 3000) : ∀ (r : Nat) (p len cap : Nat) (w : World), ok E r p len = true → XsB w b n E → 0 < len → p + len ≤ n → len ≤ cap → cap ≤ 1099511627776 →
    Calls Tryz.prog 19 #[.slice (some ⟨b, p * 4, none⟩) len cap] w fun e w' => ∃ v, e = .returned v ∧ Nd w' (Btw w.heap.size w'.heap.size) r v (treeP E r p) ∧ Below w.heap.size w w' := by
  intro r
  induction r with
  | zero => intro p len cap w h; cases h
  | succ r ih =>
    intro p len cap w hok hX hl hp hc hcap
    obtain ⟨hsz, hh, ps, hcp, hpo, hspt, hall⟩ := parts_of_ok (by omega) hok
    have HC : Hid (cutP E (p + 1) (len - 1) = some ps) := hcp
    obtain ⟨hfits, hpl⟩ := cut_fits _ _ _ hcp
    have HFT : Hid (∀ q ∈ ps, Fits E (p + 1) (p + 1 + (len - 1)) q) := hfits
    have HAL : Hid (∀ q ∈ ps, ok E r q ((E q).size.toNat + 1) = true) := hall
    have HT : Hid (treeP E (r + 1) p = .mk (E p).kind (E p).text (E p).n (ps.map (treeP E r))) := by
      show _ = _
      rw [treeP, show (E p).size.toNat = len - 1 by omega, hcp]
      rfl
    have HPO : Hid (partsOk (E p).kind ps.length) := hpo
    have HKO : Hid (okKind (E p).kind = true) := ok_kind hok
    have hl' : (0 : Int) < (len : Int) := by omega
    obtain ⟨a1, ha1⟩ : ∃ a1, (if cap = 1 then some (⟨b, p * 4, none⟩ : Addr) else some ⟨b, p * 4 + 4, none⟩) = a1 := ⟨_, rfl⟩
    have HA1 : Hid (len - 1 = 0 ∨ a1 = some ⟨b, (p + 1) * 4, none⟩) := by
      show _ ∨ _
      rw [← ha1, show (p + 1) * 4 = p * 4 + 4 by omega]
      split
      · left; omega
      · right; rfl
    clear hcp hfits hsz hh hspt hall hok hpo
    go_enter Tryz.func19, Tryz.ntmps19
    go_wp2_with (go_at_call 40; refine (cut_yes HC.out hX (by omega) hn (by omega) HA1.out).mono ?_; rintro e w2 ⟨av2, cap2, rfl, hcap2, hP2, hl2⟩; have hX2 := hX.below hl2)
    obtain ⟨bb, off, hav, hP3⟩ := hP2
    have hav' : ps.length = 0 ∨ av2 = some ⟨bb, off, none⟩ := by simpa using hav
    have hcell : ∀ i (h : i < ps.length), w2.cell? ⟨bb, off + i, none⟩ = some (partV E b (p + 1 + (cap - 1)) ps[i]) := fun i h => hP3 i _ (by simp [h])
    have hs2 := hl2.size
    clear hP3 hav ha1
    go_loopw [5, 7, 17] (fun v _ x wr => ∃ (us : List Value), us.length ≤ ps.length ∧ x = .int .i64 (us.length : Int) ∧ Got wr (Og w2.heap.size wr v) E r ps us ∧ wr.ownsRow w2.heap.size 45 1 v us.length us ∧ Below w2.heap.size w2 wr) (fun _ _ x _ => ps.length - (intOf x).toNat)
    case atStart => exact ⟨[], Nat.zero_le _, rfl, fun i x q hx => by simp at hx, own_none w2 _, (Below.refl _ _).alloc (Nat.le_refl _) _⟩
    case round =>
      obtain ⟨us, hul, rfl, hgot, hown, hbel⟩ := hrel
      have HG : Hid (Got wr (Og w2.heap.size wr u5) E r ps us) := hgot
      clear hgot
      have hsb := hbel.size
      by_cases hjl : us.length < ps.length
      · have hjl' : (us.length : Int) < (ps.length : Int) := by omega
        obtain rfl := hav'.resolve_left (by omega)
        have c0 := hcell us.length hjl
        have c0r : wr.cell? ⟨bb, off + us.length, none⟩ = some (partV E b (p + 1 + (cap - 1)) ps[us.length]) := (hbel.cell (p := ⟨bb, _, none⟩) (World.block_lt_of_cell? _ _ c0)).trans c0
        unfold partV at c0r
        obtain ⟨f1, f2, f3⟩ := HFT.out _ (List.getElem_mem hjl)
        have HI := ih ps[us.length] ((E ps[us.length]).size.toNat + 1) (p + 1 + (cap - 1) - ps[us.length]) wr (HAL.out _ (List.getElem_mem hjl)) (hX2.below hbel) (by omega) (by omega) (by omega) (by omega)
        obtain ⟨Z, hZ⟩ : ∃ Z, (E ps[us.length]).size.toNat + 1 = Z := ⟨_, rfl⟩
        obtain ⟨Y, hY⟩ : ∃ Y, p + 1 + (cap - 1) - ps[us.length] = Y := ⟨_, rfl⟩
        rw [hZ, hY] at c0r HI
        have HI' : Hid (Calls Tryz.prog 19 #[.slice (some ⟨b, ps[us.length] * 4, none⟩) Z Y] wr fun e w' => ∃ v, e = .returned v ∧ Nd w' (Btw wr.heap.size w'.heap.size) r v (treeP E r ps[us.length]) ∧ Below wr.heap.size wr w') := HI
        clear HI c0 hZ hY
        go_wp2_with (first
          | (go_at_call 19; refine HI'.out.mono ?_; rintro e w4 ⟨v4, rfl, hnd4, hl4⟩; obtain ⟨T4, x4, rfl⟩ := hnd4.iface; have hown4 := own_below hown hl4; have hs4 := hl4.size)
          | (at_builtin; refine app_at _ rfl _ _ 66 rfl w2.heap.size 45 .nilIface 16 Tryz.underlying66 infoN rfl _ _ _ rfl (hown4.alloc _) ⟨w4.heap.size, 0, none⟩ 1 1 [.iface T4 x4] rfl rfl (one_new _ _ _) ?c2 ?c3 ?c4 ?c5 ?_)
          | go_in)
        case c2 => first | rfl | (intro u hu; simp at hu; subst hu; rfl)
        case c3 => unfold maxLen; omega
        case c4 => omega
        case c5 => first | omega | (simp; omega)
        intro v' w' hown' hg hloc
        have B4 := hbel.trans (hl4.mono hsb)
        have hb' := below_grown (B4.alloc B4.size _) (hown4.alloc _) hg (by simp; omega)
        have HG' : Hid (Got w' (Og w2.heap.size w' v') E r ps (us ++ [.iface T4 x4])) := got_more hsb HG.out hown hl4 hjl hnd4 hg hloc
        clear hown hown4 hg hloc HG hnd4
        go_wp2_with fail
        go_roundw
        case rel => exact ⟨us ++ [.iface T4 x4], by simp; omega, by simp, HG'.out, by simpa using hown', hb'⟩
        case measure => simp [intOf]; omega
      · have hjl' : ¬ (us.length : Int) < (ps.length : Int) := by omega
        have hue : us.length = ps.length := by omega
        obtain ⟨_, av, cp, rfl, hcp, hcm, hPu⟩ := PsO.own hown
        obtain ⟨g0, g1, g2, g3⟩ := (hX2.below hbel) p (by omega)
        have HNO := nodeOf_any (E p).kind (E p).n (E p).size (E p).text us HKO.out (by rw [hue]; exact HPO.out) (got_ifaces HG.out hue) (Btw w2.heap.size wr.heap.size) av cp wr (fun bb h => h.2) hPu ⟨hcp, hcm⟩ (by omega)
        have HNO' : Hid (Calls Tryz.prog 42 #[.agg #[.int .i64 (E p).kind, .string (E p).text, .int .i64 (E p).n, .int .i64 (E p).size], .slice av us.length cp] wr fun e w' => ∃ v, e = .returned v ∧ NodeV w' (Btw w2.heap.size wr.heap.size) (E p).text (E p).n (E p).kind us v ∧ Below wr.heap.size wr w') := HNO
        have HUE : Hid (us.length = ps.length) := hue
        clear HNO hue hown
        go_wp2_with (go_at_call 42; refine HNO'.out.mono ?_; rintro e w5 ⟨v5, rfl, hnv5, hl5⟩)
        go_ret
        exact ⟨_, rfl, nd_of HT.out hs2 HUE.out HG.out hl5 hnv5, hl2.trans ((hbel.trans (hl5.mono hsb)).mono hs2)⟩

end Go.Proofs.YthklplfpnciodaaGreatDoor.ex
