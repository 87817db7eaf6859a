import Derived.Test.YtifgaaemdojmpaaGreatDoorG08
import Derived.Stop.Asserts
namespace Go.Proofs.YtifgaaemdojmpaaGreatDoor.ex
open Go.ChangeShapes Go.WideShapes Go.ChangeAt Go.RowKit Go.Deep Go.Maps
set_option linter.unusedVariables false
set_option linter.unusedSimpArgs false

theorem as7_7 (x : Value) (w : World) : (Instr.typeAssert (.iface 53 x) 37 53 true).run Tryz.prog w = .ok (.tuple #[x, .bool true]) w := by kernel_rfl
theorem as6_7 (x : Value) (w : World) : (Instr.typeAssert (.iface 101 x) 37 53 true).run Tryz.prog w = .ok (.tuple #[.agg #[.string ⟨#[]⟩], .bool false]) w := by kernel_rfl

theorem nd7 {w : World} {O : Nat → Prop} {r : Nat} {v : Value} {q : Tr} (h : Nd w O r v q) (hk : q.kind = 7) : v = .iface 53 (.agg #[.string q.text]) := by
  cases r with
  | zero => exact h.elim
  | succ r =>
    obtain ⟨k, t, n, ps⟩ := q
    obtain ⟨_, vs, hl, hp, hv⟩ := h
    change k = 7 at hk
    subst hk
    cases hv
    rfl

theorem nd6 {w : World} {O : Nat → Prop} {r : Nat} {v : Value} {q : Tr} (h : Nd w O r v q) (hk : q.kind = 6) : ∃ T p, v = .iface 101 (.agg #[.string q.text, .iface T p]) := by
  cases r with
  | zero => exact h.elim
  | succ r =>
    obtain ⟨k, t, n, ps⟩ := q
    obtain ⟨_, vs, hl, hp, hv⟩ := h
    change k = 6 at hk
    subst hk
    cases hv with
    | bindN x =>
      have h1 : ps.length = 1 := by simpa using hl.symm
      obtain ⟨T, p, rfl⟩ := (hp 0 x ps[0] rfl (by simp)).iface
      exact ⟨T, p, rfl⟩

theorem Sq.drew {w : World} {mb mf N : Nat} {B : List (List UInt8)} {S : List UInt8 → Prop} (h : Sq w mb mf N B S) : Sq w.drew mb mf N B S := ⟨h.b.kept rfl, h.f.kept rfl⟩

/-- What the last call of lookAmong is handed. -/
def FinP (w W : World) (O : Nat → Prop) (mb mf N : Nat) (B : List (List UInt8)) (S : List UInt8 → Prop) (xs : List (List UInt8)) (ivs : List Value) (vN vP : Value) : Prop :=
  ∃ nb no nc ap cp, vN = .slice (some ⟨nb, no, none⟩) xs.length nc ∧ NmR W mb mf nb no xs ∧ vP = .slice ap ivs.length cp ∧ PsO W (fun bb => O bb ∨ (w.heap.size + 1 ≤ bb ∧ bb < W.heap.size)) ap ivs ∧ Sq W mb mf N B S ∧ Lk mb mf w W

theorem nm_own {W : World} {mb mf base : Nat} {xs : List (List UInt8)} {v : Value} (h : W.ownsRow base 9 1 v xs.length (xs.map strL)) (hv : v ≠ .slice none 0 0) (hb : mb < base) (hf : mf < base) (hsm : ∀ x ∈ xs, x.length ≤ 1048576) : ∃ nb no nc, v = .slice (some ⟨nb, no, none⟩) xs.length nc ∧ base ≤ nb ∧ nb < W.heap.size ∧ NmR W mb mf nb no xs := by
  have hlt := h.lt
  obtain ⟨bb, off, cap, rfl, h1, h2, hc⟩ := StrR.own' h hv
  obtain ⟨l1, l2⟩ := hlt bb rfl
  exact ⟨bb, off, cap, rfl, l1, l2, by omega, by omega, fun _ => l2, hc, hsm⟩

theorem ps_own {w W : World} {O : Nat → Prop} {base : Nat} {ivs : List Value} {v : Value} (h : W.ownsRow base 37 1 v ivs.length ivs) (hb : w.heap.size + 1 ≤ base) : ∃ ap cp, v = .slice ap ivs.length cp ∧ PsO W (fun bb => O bb ∨ (w.heap.size + 1 ≤ bb ∧ bb < W.heap.size)) ap ivs := by
  obtain ⟨_, ap, cp, rfl, _, _, hp⟩ := PsO.own h
  exact ⟨ap, cp, rfl, hp.mono fun bb hbb => .inr ⟨Nat.le_trans hb hbb.1, hbb.2⟩⟩

theorem fin1 {w wr w1 w2 : World} {O : Nat → Prop} {mb mf N : Nat} {B : List (List UInt8)} {S : List UInt8 → Prop} {xs : List (List UInt8)} {iv us : List Value} {u vN vP : Value} (hlk : Lk mb mf w wr) (hmb : mb < w.heap.size) (hmf : mf < w.heap.size) (hw : w.heap.size < wr.heap.size) (hown : wr.ownsRow (w.heap.size + 1) 37 1 u iv.length iv) (hsq : Sq wr mb mf N B S) (hsm : ∀ x ∈ xs, x.length ≤ 1048576)
    (b1 : Below wr.heap.size wr w1) (hN : w1.ownsRow wr.heap.size 9 1 vN xs.length (xs.map strL)) (hNn : vN ≠ .slice none 0 0) (hg : w1.grownBy w2 u.ownBlock) (hP : w2.ownsRow (w.heap.size + 1) 37 1 vP (iv ++ us).length (iv ++ us)) : FinP w w2 O mb mf N B S xs (iv ++ us) vN vP := by
  have hs1 := b1.size
  have hown1 : w1.ownsRow (w.heap.size + 1) 37 1 u iv.length iv := own_lk hown (Lk.of_below (mb := mb) (mf := mf) b1) (by omega) (by omega)
  obtain ⟨nb, no, nc, rfl, n1, n2, hnm⟩ := nm_own (mb := mb) (mf := mf) hN hNn (by omega) (by omega) hsm
  obtain ⟨ap, cp, rfl, hps⟩ := ps_own (w := w) (O := O) hP (Nat.le_refl _)
  have hk1 := hlk.trans (Lk.of_below b1)
  have hk2 := lk_own hk1 hown1 hg (by omega)
  have hnk : w2.heap[nb]? = w1.heap[nb]? := hg.block nb n2 (fun e => by have := (hown.lt nb e.symm).2; omega)
  have hmk : ∀ j, j < w.heap.size → w2.heap[j]? = wr.heap[j]? := fun j hj => (hg.block j (by omega) (fun e => by have := (hown.lt j e.symm).1; omega)).trans (b1.block j (by omega))
  refine ⟨nb, no, nc, ap, cp, rfl, ⟨hnm.b, hnm.f, fun _ => by have := hg.size; omega, fun i x hx => ?_, hsm⟩, rfl, hps, ⟨hsq.b.kept (hmk _ hmb), hsq.f.kept (hmk _ hmf)⟩, hk2⟩
  have := hnm.cell i x hx
  simp only [World.cell?] at this ⊢
  rw [hnk]
  exact this

theorem fin2 {w wr w1 w2 : World} {O : Nat → Prop} {mb mf N : Nat} {B : List (List UInt8)} {S : List UInt8 → Prop} {xs : List (List UInt8)} {iv us : List Value} {u vN vP : Value} (hlk : Lk mb mf w wr) (hmb : mb < w.heap.size) (hmf : mf < w.heap.size) (hw : w.heap.size < wr.heap.size) (hown : wr.ownsRow (w.heap.size + 1) 37 1 u iv.length iv) (hsq : Sq wr mb mf N B S) (hsm : ∀ x ∈ xs, x.length ≤ 1048576)
    (hg : wr.grownBy w1 u.ownBlock) (hP : w1.ownsRow (w.heap.size + 1) 37 1 vP (iv ++ us).length (iv ++ us)) (b2 : Below w1.heap.size w1 w2) (hN : w2.ownsRow w1.heap.size 9 1 vN xs.length (xs.map strL)) (hNn : vN ≠ .slice none 0 0) : FinP w w2 O mb mf N B S xs (iv ++ us) vN vP := by
  have hs1 := hg.size
  obtain ⟨nb, no, nc, rfl, n1, n2, hnm⟩ := nm_own (mb := mb) (mf := mf) hN hNn (by omega) (by omega) hsm
  have hP2 : w2.ownsRow (w.heap.size + 1) 37 1 vP (iv ++ us).length (iv ++ us) := own_lk hP (Lk.of_below (mb := mb) (mf := mf) b2) (by omega) (by omega)
  obtain ⟨ap, cp, rfl, hps⟩ := ps_own (w := w) (O := O) hP2 (Nat.le_refl _)
  have hk1 := lk_own hlk hown hg (by omega)
  have hmk : ∀ j, j < w.heap.size → w2.heap[j]? = wr.heap[j]? := fun j hj => (b2.block j (by omega)).trans (hg.block j (by omega) (fun e => by have := (hown.lt j e.symm).1; omega))
  exact ⟨nb, no, nc, ap, cp, rfl, hnm, rfl, hps, ⟨hsq.b.kept (hmk _ hmb), hsq.f.kept (hmk _ hmf)⟩, hk1.trans (Lk.of_below b2)⟩

set_option maxRecDepth 100000 in
set_option maxHeartbeats 1000000 in
theorem among_any {r : Nat} (HL : LkS r) (qs ps : List Tr) (vs us : List Value) (bv : Value) (a : Option Addr) (cap mb mf N : Nat) (B : List (List UInt8)) (S : List UInt8 → Prop) (w : World) (O : Nat → Prop) (hP : PsO w O a vs) (hV : NdL w O r vs qs) (hK : ∀ q ∈ qs, q.kind = 6 ∨ q.kind = 7) (hU : NdL w O r us ps) (hBh : BhV w O bv us) (hO : Of mb mf w O) (hs : Sq w mb mf N B S) (hne : mb ≠ mf) (hN : N + 2 * qs.length + wL r qs + wL r ps ≤ 1000000) (hB : B.length + qs.length + 3001 * r ≤ 1000000) (hlen : vs.length + us.length ≤ 1000000) :
    Calls Tryz.prog 24 #[.agg #[.map (some mb), .map (some mf)], .slice a vs.length cap, bv] w fun e w' => (∃ u, e = .returned u) ∧ Sq w' mb mf (N + 2 * qs.length + wL r qs + wL r ps) B (fun x => S x ∨ (x ∈ frL r (inhQ qs) B ∨ x ∈ frL r (insQ qs ++ ps) (B ++ qs.map txT))) ∧ Lk mb mf w w' := by
  have HP : Hid (PsO w O a vs) := hP
  obtain ⟨bb, off, ha, hc⟩ := hP
  have hbl := hs.b.lt
  have hfl := hs.f.lt
  have HV : Hid (NdL w O r vs qs) := hV
  have HU : Hid (NdL w O r us ps) := hU
  have HBH : Hid (BhV w O bv us) := hBh
  have HLQ : Hid (vs.length = qs.length) := hV.1
  have HO : Hid (Of mb mf w O) := hO
  have HS : Hid (Sq w mb mf N B S) := hs
  have HK : Hid (∀ q ∈ qs, q.kind = 6 ∨ q.kind = 7) := hK
  have HC : Hid (∀ i x, vs[i]? = some x → w.cell? ⟨bb, off + i, none⟩ = some x) := hc
  have ha' : vs.length = 0 ∨ a = some ⟨bb, off, none⟩ := ha.imp id (·.1)
  have HOB : Hid (0 < vs.length → O bb) := fun h => (ha.resolve_left (by omega)).2
  have HLL : Hid (LkS r) := HL
  clear hV hO hs hc ha hU hBh hK HL
  go_enter Tryz.func24, Tryz.ntmps24
  go_wp2
  go_loopw [6, 8, 9, 10, 14] (fun v _ _ _ x wr => ∃ (i : Nat), i ≤ vs.length ∧ x = .int .i64 (i : Int) ∧ wr.ownsRow (w.heap.size + 1) 37 1 v (insV (vs.take i) (qs.take i)).length (insV (vs.take i) (qs.take i)) ∧ Sq wr mb mf (N + wL r (inhQ (qs.take i))) B (fun x => S x ∨ x ∈ frL r (inhQ (qs.take i)) B) ∧ wr.heap[w.heap.size]? = some (.cells #[.map (some mb), .map (some mf)] 34) ∧ Lk mb mf w wr) (fun _ _ _ _ x _ => vs.length - (intOf x).toNat)
  case atStart =>
    have h1 := own_none (w.alloc (.cells #[.map (some mb), .map (some mf)] 34)) 37
    rw [World.size_alloc] at h1
    refine ⟨0, Nat.zero_le _, rfl, h1, ?_, ?_, ((Lk.refl _ _ _).alloc _).alloc _⟩
    · have := (HS.out.alloc (.cells #[.map (some mb), .map (some mf)] 34)).alloc (.cells #[] 37)
      simpa [inhQ, wL, frL] using this
    · exact (Below.heap_alloc _ _ _ (by simp)).trans (heap_alloc_new w _)
  case round =>
    obtain ⟨i, hi, rfl, hown, hsq, hbx, hlk⟩ := hrel
    have hszk := hlk.size
    have hbxl : w.heap.size < wr.heap.size := (Array.getElem?_eq_some_iff.1 hbx).1
    have bx0 : wr.cell? ⟨w.heap.size, 0, none⟩ = some (.map (some mb)) := by simp [World.cell?, hbx]
    have bx1 : wr.cell? ⟨w.heap.size, 1, none⟩ = some (.map (some mf)) := by simp [World.cell?, hbx]
    have HBX : Hid (wr.heap[w.heap.size]? = some (.cells #[.map (some mb), .map (some mf)] 34)) := hbx
    clear hbx
    by_cases h : i < vs.length
    · have h' : (i : Int) < (vs.length : Int) := by omega
      obtain rfl := ha'.resolve_left (by omega)
      have hiq : i < qs.length := by have := HLQ.out; omega
      have ci : wr.cell? ⟨bb, off + i, none⟩ = some vs[i] := by
        have := HC.out i vs[i] (by simp)
        simp only [World.cell?] at this ⊢
        rw [HO.out.kept hlk bb (HOB.out (by omega))]
        exact this
      obtain ⟨hnd, hok⟩ := HV.out.2 i vs[i] qs[i] (by simp) (by simp)
      have HIV : Hid (insV (vs.take (i + 1)) (qs.take (i + 1)) = insV (vs.take i) (qs.take i) ++ (if qs[i].kind = 7 then [] else [vs[i]])) := insV_take h hiq
      have HIH : Hid (inhQ (qs.take (i + 1)) = inhQ (qs.take i) ++ (if qs[i].kind = 7 then [qs[i]] else [])) := inh_take hiq
      have hwl : wL r (inhQ (qs.take (i + 1))) ≤ wL r qs := Nat.le_trans (wL_filter r _ _) (wL_take r qs _)
      by_cases h7 : qs[i].kind = 7
      · rw [if_pos h7, List.append_nil] at HIV
        rw [if_pos h7] at HIH
        have hv7 := nd7 hnd h7
        have hw1 : wL r (inhQ (qs.take i)) + wT r qs[i] ≤ wL r qs := by
          rw [HIH.out, wL_app] at hwl
          simpa [wL] using hwl
        have HCA : Hid (∀ W, Below wr.heap.size wr W → Calls Tryz.prog 11 #[.agg #[.map (some mb), .map (some mf)], vs[i]] W fun e w' => (∃ u, e = .returned u) ∧ Sq w' mb mf (N + wL r (inhQ (qs.take i)) + wT r qs[i]) B (fun x => (S x ∨ x ∈ frL r (inhQ (qs.take i)) B) ∨ x ∈ freesT r qs[i] B) ∧ Lk mb mf W w') := fun W hb => by
          have k := hlk.trans (Lk.of_below hb)
          exact HLL.out qs[i] vs[i] mb mf _ B _ W O (Nd.kept (HO.out.kept k) (fun _ h => h) r hnd) hok (HO.out.next k) (hsq.kept hb) hne (by omega) (by omega)
        have HFR : Hid (∀ x, (S x ∨ x ∈ frL r (inhQ (qs.take i)) B) ∨ x ∈ freesT r qs[i] B ↔ S x ∨ x ∈ frL r (inhQ (qs.take (i + 1))) B) := fun x => by
          rw [HIH.out, frL_app]
          simp [frL, or_assoc]
        have HWT : Hid (N + wL r (inhQ (qs.take i)) + wT r qs[i] = N + wL r (inhQ (qs.take (i + 1)))) := by
          show _ = _
          rw [HIH.out, wL_app]
          simp [wL]
          omega
        have HOW : Hid (wr.ownsRow (w.heap.size + 1) 37 1 u6 (insV (vs.take (i + 1)) (qs.take (i + 1))).length (insV (vs.take (i + 1)) (qs.take (i + 1)))) := by
          show World.ownsRow _ _ _ _ _ _ _
          rw [HIV.out]
          exact hown
        rw [hv7] at ci HCA
        generalize qs[i].text = t at ci HCA
        generalize qs[i] = Q at HCA HFR HWT
        clear hv7 hnd hok hown hsq hwl hw1 HIV HIH hiq h7
        have hta := as7_7
        go_wp2_with (go_at_call 11; refine (HCA.out _ ?_).mono ?_; (first | exact (Below.refl _ _).alloc (Nat.le_refl _) _); rintro e w1 ⟨⟨u1, rfl⟩, hs1, hl1⟩)
        have hl2 : Lk mb mf wr w1 := ((Lk.refl _ _ _).alloc _).trans hl1
        go_roundw
        case rel => exact ⟨i + 1, by omega, by go_num, own_lk HOW.out hl2 (by omega) (by omega), by rw [← HWT.out]; exact hs1.iff HFR.out, (hl2.block _ hbxl (by omega) (by omega)).trans HBX.out, hlk.trans hl2⟩
        case measure => simp [intOf]; omega
      · rw [if_neg h7] at HIV
        rw [if_neg h7, List.append_nil] at HIH
        obtain ⟨T, p, hv6⟩ := nd6 hnd ((HK.out _ (List.getElem_mem hiq)).resolve_right h7)
        have HSQ : Hid (Sq wr mb mf (N + wL r (inhQ (qs.take (i + 1)))) B (fun x => S x ∨ x ∈ frL r (inhQ (qs.take (i + 1))) B)) := by show Sq _ _ _ _ _ _; rw [HIH.out]; exact hsq
        have hil : (insV (vs.take i) (qs.take i)).length ≤ 999999 := by
          have := insV_len (vs.take i) (qs.take i)
          rw [List.length_take] at this
          omega
        rw [hv6] at ci HIV
        generalize qs[i].text = t at ci HIV
        clear hv6 hnd hok hsq hwl hiq h7 HIH
        have hta := as6_7
        go_wp2_with (first
          | (at_builtin; refine app_own _ rfl _ _ 54 rfl (w.heap.size + 1) 37 .nilIface 16 Tryz.underlying54 infoN rfl _ _ _ rfl (hown.alloc _) ⟨wr.heap.size, 0, none⟩ 1 1 [.iface 101 (.agg #[.string t, .iface T p])] rfl rfl (one_new _ _ _) ?c1 ?c2 ?c3 ?c4 ?_)
          | go_in)
        case c1 => rfl
        case c2 => unfold maxLen; omega
        case c3 => omega
        intro v' w' hown' hg
        have hown2 : w'.ownsRow (w.heap.size + 1) 37 1 v' (insV (vs.take (i + 1)) (qs.take (i + 1))).length (insV (vs.take (i + 1)) (qs.take (i + 1))) := by
          rw [HIV.out, List.length_append]
          exact hown'
        have hlkA := hlk.alloc (.cells #[.iface 101 (.agg #[.string t, .iface T p])] 37)
        have hl2 := lk_own hlkA (hown.alloc _) hg (by omega)
        have hbx2 : w'.heap[w.heap.size]? = some (.cells #[.map (some mb), .map (some mf)] 34) := (hg.block _ (by simp; omega) (fun e => by have := ((hown.alloc (.cells #[.iface 101 (.agg #[.string t, .iface T p])] 37)).lt _ e.symm).1; omega)).trans ((Below.heap_alloc wr _ _ hbxl).trans HBX.out)
        have hbk : ∀ j, j < wr.heap.size → j < w.heap.size + 1 → w'.heap[j]? = wr.heap[j]? := fun j hj hj2 => (hg.block _ (by simp; omega) (fun e => by have := ((hown.alloc (.cells #[.iface 101 (.agg #[.string t, .iface T p])] 37)).lt _ e.symm).1; omega)).trans (Below.heap_alloc wr _ _ hj)
        have HSQ2 : Hid (Sq w' mb mf (N + wL r (inhQ (qs.take (i + 1)))) B (fun x => S x ∨ x ∈ frL r (inhQ (qs.take (i + 1))) B)) := ⟨HSQ.out.b.kept (hbk _ HSQ.out.b.lt (by omega)), HSQ.out.f.kept (hbk _ HSQ.out.f.lt (by omega))⟩
        clear hown' hg hown HSQ hbk
        go_wp2
        go_roundw
        case rel => exact ⟨i + 1, by omega, by go_num, hown2, HSQ2.out, hbx2, hl2⟩
        case measure => simp [intOf]; omega
    · have h' : ¬ (i : Int) < (vs.length : Int) := by omega
      obtain rfl : i = vs.length := by omega
      obtain ⟨iv, hiv⟩ : ∃ iv, insV vs qs = iv := ⟨_, rfl⟩
      obtain ⟨xs, hxs⟩ : ∃ xs, qs.map txT = xs := ⟨_, rfl⟩
      have HXS : Hid (qs.map txT = xs) := hxs
      rw [HLQ.out, List.take_length] at hsq
      rw [List.take_length, HLQ.out, List.take_length, hiv] at hown
      have hil : iv.length ≤ vs.length := by rw [← hiv]; exact insV_len _ _
      have hxl : xs.length = qs.length := by rw [← hxs]; simp
      have HNI : Hid (NdL w O r (iv ++ us) (insQ qs ++ ps)) := by
        have := NdL.app HU.out (ins_nd HV.out)
        rwa [hiv] at this
      have HSM : Hid (∀ x ∈ xs, x.length ≤ 1048576) := by
        rw [← hxs]
        intro x hx
        obtain ⟨q, hq, rfl⟩ := List.mem_map.1 hx
        obtain ⟨j, hj, rfl⟩ := List.getElem_of_mem hq
        have hok := (HV.out.2 j (vs[j]'(by have := HLQ.out; omega)) qs[j] (by simp) (by simp)).2
        generalize qs[j] = q at hok
        cases r with
        | zero => exact hok.elim
        | succ r => obtain ⟨k, t, n, ps⟩ := q; simpa [txT, Tr.text] using hok.1
      have HT : Hid (∀ W, Lk mb mf w W → Calls Tryz.prog 27 #[.slice a vs.length cap] W fun e w' => ∃ v, e = .returned v ∧ w'.ownsRow W.heap.size 9 1 v xs.length (xs.map strL) ∧ v ≠ .slice none 0 0 ∧ Below W.heap.size W w') := fun W k => texts_any qs vs a cap W O (fun bb ho => ((HO.out.next k) bb ho).1) (HP.out.kept (HO.out.kept k)) (HV.out.kept (HO.out.kept k) (fun _ h => h)) (fun q hq => (HK.out q hq).imp id .inl) (by omega) xs HXS
      have HW : Hid (∀ W vN vP, FinP w W O mb mf (N + wL r (inhQ qs)) B (fun x => S x ∨ x ∈ frL r (inhQ qs) B) xs (iv ++ us) vN vP → Calls Tryz.prog 26 #[.agg #[.map (some mb), .map (some mf)], vN, vP] W fun e w' => (∃ u, e = .returned u) ∧ Sq w' mb mf (N + 2 * qs.length + wL r qs + wL r ps) B (fun x => S x ∨ (x ∈ frL r (inhQ qs) B ∨ x ∈ frL r (insQ qs ++ ps) (B ++ qs.map txT))) ∧ Lk mb mf w w' ∧ Lk mb mf W w') := by
        rintro W vN vP ⟨nb, no, nc, ap, cp, rfl, hnm, rfl, hps, hq, hk⟩
        have hO2 : Of mb mf W (fun bb => O bb ∨ (w.heap.size + 1 ≤ bb ∧ bb < W.heap.size)) := fun bb ho => ho.elim (fun h => (HO.out.next hk) bb h) (fun h => ⟨h.2, by omega, by omega⟩)
        have hwp := wL_part r qs
        have hwa := wL_app r (insQ qs) ps
        refine (within_any HLL.out xs nb no nc (insQ qs ++ ps) (iv ++ us) ap cp mb mf (N + wL r (inhQ qs)) B _ W _ hnm hps (HNI.out.kept (HO.out.kept hk) (fun _ h => .inl h)) hO2 hq hne (by omega) (by simp; omega) (by simp; omega)).mono ?_
        rintro e w' ⟨he, h1, h2⟩
        refine ⟨he, (h1.mono (by omega)).iff fun x => ?_, hk.trans h2, h2⟩
        rw [HXS.out, or_assoc]
      have HBW : Hid (∀ W, Lk mb mf w W → BhV W O bv us) := fun W k => HBH.out.kept (HO.out.kept k)
      have HU1 : Hid (∀ u ∈ us, u.oneCell' = true) := HU.out.one
      have HLK : Hid (Lk mb mf w wr.drew) := hlk.drew
      have HOW : Hid (wr.drew.ownsRow (w.heap.size + 1) 37 1 u6 iv.length iv) := hown
      have HSQ : Hid (Sq wr.drew mb mf (N + wL r (inhQ qs)) B (fun x => S x ∨ x ∈ frL r (inhQ qs) B)) := hsq.drew
      have HBX2 : Hid (∀ W : World, W.heap[w.heap.size]? = wr.heap[w.heap.size]? → W.cell? ⟨w.heap.size, 0, none⟩ = some (.map (some mb)) ∧ W.cell? ⟨w.heap.size, 1, none⟩ = some (.map (some mf))) := fun W hW => by simp [World.cell?, hW, HBX.out]
      have S0 := HBX2.out wr.drew rfl
      have hlenA : iv.length + us.length ≤ 1000000 := by omega
      have hbd : w.heap.size < wr.drew.heap.size := hbxl
      clear hown hsq hiv hxs HNI HBX HV HU HBH HLL HS HC HOB hil
      go_wp2_with fail
      go_region_held3 (fun w' => w'.cell? ⟨w.heap.size, 0, none⟩ = some (.map (some mb)) ∧ w'.cell? ⟨w.heap.size, 1, none⟩ = some (.map (some mf)))
        (first
          | exact S0
          | exact S1
          | exact S2
          | exact S5)
        (first
          | ((go_at_call 27; refine (HT.out _ HLK.out).mono ?_; rintro e w1 ⟨vN, rfl, hN1, hN2, b1⟩; have S1 := HBX2.out w1 (b1.block _ hbd); have HO1 : Hid (w1.ownsRow (w.heap.size + 1) 37 1 u6 iv.length iv) := own_lk HOW.out (Lk.of_below (mb := mb) (mf := mf) b1) (Nat.lt_succ_of_lt hbl) (Nat.lt_succ_of_lt hfl); have HB1 : Hid (w.heap.size + 1 ≤ w1.heap.size) := Nat.le_trans hbd b1.size; have HV1 : Hid (BhV w1 O bv us) := HBW.out _ (HLK.out.trans (Lk.of_below b1)); have HN1 : Hid (w1.ownsRow wr.drew.heap.size 9 1 vN xs.length (xs.map strL)) := hN1; have HN2 : Hid (vN ≠ .slice none 0 0) := hN2; have HBB : Hid (Below wr.drew.heap.size wr.drew w1) := b1; clear hN1 hN2 b1))
          | ((refine step_nodes (W := w1) (O := O) (base := w.heap.size + 1) (by rfl) (.tmp 34) (.tmp 35) (by rfl) u6 iv us (by rfl) HO1.out HB1.out bv (by rfl) HV1.out HU1.out hlenA ?_; intro vP w2 hP hg; have FIN := fin1 (O := O) HLK.out hbl hfl hbd HOW.out HSQ.out HSM.out HBB.out HN1.out HN2.out hg hP; have HQ2 := (hg.block _ (Nat.lt_of_lt_of_le (Nat.lt_succ_self _) HB1.out) (fun e => Nat.lt_irrefl _ (HOW.out.lt _ e.symm).1)).trans (HBB.out.block _ hbd); have HZ2 : w.heap.size < w2.heap.size := Nat.lt_of_lt_of_le HB1.out hg.size; have S2 := HBX2.out w2 HQ2))
          | ((go_at_call 26; refine (HW.out _ _ _ FIN).mono ?_; rintro e w9 ⟨⟨u9, rfl⟩, hs9, hl9, hk9⟩; have S5 := HBX2.out w9 ((hk9.block _ HZ2 (Nat.ne_of_gt hbl) (Nat.ne_of_gt hfl)).trans HQ2))))
      go_wp2
      go_returns
      exact ⟨⟨_, rfl⟩, hs9, hl9⟩

end Go.Proofs.YtifgaaemdojmpaaGreatDoor.ex
