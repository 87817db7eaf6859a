import Derived.Test.YtogakignaaoklaaDP
import Derived.Test.YtogakignaaoklaaDO
import Derived.Laws.CopyRow
namespace Go.Proofs.Ytogakignaaoklaa.dl
open Go.ChangeShapes Go.WideShapes Go.ChangeAt Go.RowKit Go.Deep
open bf (Bf Ap num)
set_option linter.unusedVariables false
set_option linter.unusedSimpArgs false

/-! ### impl.ApplyDelta: pieces -/

/-- A piece as a value: bytes that stand in w. -/
def PV (w : World) (v : Value) (l : List UInt8) : Prop := ∃ pb po pcap, v = .slice (some ⟨pb, po, none⟩) l.length pcap ∧ pb < w.heap.size ∧ ∀ j (h : j < l.length), w.cell? ⟨pb, po + j, none⟩ = some (.int .u8 (l[j].toNat : Int))

def PcA (w : World) (old : List UInt8) (x : Sp) (e : Ending) : Prop := (fits old x = false ∧ e = .returned (.tuple #[.slice none 0 0, .bool false])) ∨ (fits old x = true ∧ ∃ v, e = .returned (.tuple #[v, .bool true]) ∧ PV w v (pc old x))

set_option maxRecDepth 100000 in
theorem piece_any {oc : Nat} (ob on : Nat) (old : List UInt8) (x : Sp) (a' : Option Addr) (c' : Nat) (w0 w : World) (hold : By w0 ob old) (hob : ob < w0.heap.size) (hon : old.length = on) (hon2 : on ≤ 1048576) (hoc : on ≤ oc) (hok : okS x = true) (hp : I64 x.p) (hn : I64 x.n) (hd : SrcD w0 a' x.d) :
    Calls Try.prog 35 #[.agg #[.int .i64 x.k, .int .i64 x.p, .int .i64 x.n, .slice a' x.d.length c'], .slice (some ⟨ob, 0, none⟩) on oc] w fun e w' => PcA w0 old x e ∧ Below w.heap.size w w' := by
  rcases ok3_kind hok with hk | hk
  · obtain ⟨h0, h1, hm⟩ := ok3_one.1 (by have := hok; unfold okS at this; rwa [hk] at this)
    obtain ⟨pn, hpn⟩ : ∃ q : Nat, x.p = (q : Int) := ⟨x.p.toNat, by omega⟩
    obtain ⟨nn, hnn⟩ : ∃ q : Nat, x.n = (q : Int) := ⟨x.n.toNat, by omega⟩
    have HPC : Hid (pc old x = (old.drop pn).take nn) := by show _ = _; unfold pc; rw [if_pos hk, hpn, hnn]; rfl
    have HFX : Hid (fits old x = decide ((pn : Int) + (nn : Int) ≤ (on : Int))) := by show _ = _; unfold fits; rw [if_pos hk, hpn, hnn, hon]
    have hpb : (pn : Int) ≤ 9223372036854775807 := by have := hp.2; omega
    have hnb : (nn : Int) ≤ 9223372036854775807 := by have := hn.2; omega
    have hn1 : 1 ≤ nn := by omega
    rw [hk, hpn, hnn, hm]
    have HOLD : Hid (By w0 ob old) := hold
    have HON : Hid (old.length = on) := hon
    clear hok hk hpn hnn hm hp hn h0 h1 hd hold hon
    by_cases hf : pn + nn ≤ on
    · have hf' : ¬ (on : Int) - (pn : Int) < (nn : Int) := by omega
      have hf2 : (pn : Int) + (nn : Int) ≤ (on : Int) := by omega
      have hf3 : (pn : Int) + (nn : Int) ≤ (oc : Int) := by omega
      have hf4 : ¬ oc = pn := by omega
      have HF : Hid (fits old x = true) := by show _ = _; rw [HFX.out, decide_eq_true_iff]; exact hf2
      go_enter Try.func35, Try.ntmps35
      go_wp2
      go_ret2
      refine ⟨.inr ⟨HF.out, _, rfl, ob, pn, oc - pn, ?_, hob, fun j hj => ?_⟩, box_below _ _ _⟩
      · rw [HPC.out, part_len (by rw [HON.out]; exact hf)]; rfl
      · have hj2 : j < nn := by rw [HPC.out, part_len (by rw [HON.out]; exact hf)] at hj; exact hj
        have hz := HON.out
        rw [HOLD.out (pn + j) (by omega)]
        have e : (pc old x)[j]? = old[pn + j]? := by rw [HPC.out, List.getElem?_take_of_lt hj2, List.getElem?_drop]
        rw [List.getElem?_eq_getElem hj, List.getElem?_eq_getElem (by omega)] at e
        rw [Option.some.inj e]
    · have hf' : (on : Int) - (pn : Int) < (nn : Int) := by omega
      have HF : Hid (fits old x = false) := by show _ = _; rw [HFX.out, decide_eq_false_iff_not]; omega
      go_enter Try.func35, Try.ntmps35
      go_wp2
      go_ret2
      exact ⟨.inl ⟨HF.out, rfl⟩, box_below _ _ _⟩
  · have hk1 : ¬ x.k = 1 := by omega
    obtain ⟨_, h0, h1, hm⟩ := (ok3_two hk1).1 hok
    have HF : Hid (fits old x = true) := by show _ = _; unfold fits; rw [if_neg hk1]
    have HPC : Hid (pc old x = x.d) := by show _ = _; unfold pc; rw [if_neg hk1]
    obtain ⟨db, dof, rfl, hdc⟩ : ∃ b o, a' = some ⟨b, o, none⟩ ∧ ∀ i (hi : i < x.d.length), w0.cell? ⟨b, o + i, none⟩ = some (.int .u8 (x.d[i].toNat : Int)) := by
      rcases hd with h | ⟨b, o, e, h⟩
      · omega
      · exact ⟨b, o, e, fun i hi => by rw [h i hi, inB_at x.d i hi]⟩
    have HPV : Hid (PV w0 (.slice (some ⟨db, dof, none⟩) x.d.length c') (pc old x)) := by
      show PV _ _ _
      rw [HPC.out]
      exact ⟨db, dof, c', rfl, World.block_lt_of_cell? _ _ (hdc 0 (by omega)), hdc⟩
    rw [hk, h0, h1]
    generalize x.d.length = m at HPV ⊢
    clear hdc hok hp hn h0 h1 hold hon hd hk hk1 hm
    go_enter Try.func35, Try.ntmps35
    go_wp2
    go_ret2
    exact ⟨.inr ⟨HF.out, _, rfl, HPV.out⟩, box_below _ _ _⟩

theorem infoSl : (Try.prog.info? 22).map (fun i => (i.zero, i.size, i.bytes)) = some (some (.slice none 0 0), 1, 24) := by kernel_rfl

theorem make0 {P : Program} (t e : TypeId) (z : Value) (sz bytes : Nat) (ht : P.underlying t = some (.slice e)) (hinfo : (P.info? e).map (fun i => (i.zero, i.size, i.bytes)) = some (some z, sz, bytes))
    (kl kc : IntKind) (n : Nat) (hbytes : bytes * n ≤ 281474976710656) (h63 : n ≤ 9223372036854775807) (w : World) :
    (Instr.makeSlice t (.int kl 0) (.int kc (n : Int))).run P w = .ok (.slice (some ⟨w.heap.size, 0, none⟩) 0 n) (w.alloc (.cells (madeCells z.cells (n * sz)) e)) := by
  obtain ⟨i, hi, hzz⟩ := Option.map_eq_some_iff.1 hinfo
  simp only [Prod.mk.injEq] at hzz
  obtain ⟨hz, hs, hb⟩ := hzz
  have hb' : (i.bytes : Int) * (n : Int) ≤ 281474976710656 := by
    have h : ((i.bytes * n : Nat) : Int) ≤ 281474976710656 := by rw [hb]; omega
    rwa [Int.natCast_mul] at h
  have hr := run_make (P := P) w t e i z ht hi hz kl kc 0 n (by omega) (by omega) hb' (by omega)
  simp only [Int.toNat_natCast, hs] at hr
  exact hr

/-- The pieces so far. -/
def PVs (w : World) (old : List UInt8) (ss : List Sp) (vs : List Value) (k : Nat) : Prop := vs.length = k ∧ ∀ (i : Nat) (x : Sp), i < k → ss[i]? = some x → ∃ v, vs[i]? = some v ∧ PV w v (pc old x)

def PcR (w w' : World) (old : List UInt8) (ss : List Sp) (e : Ending) : Prop := (adOk old ss = false ∧ e = .returned (.tuple #[.slice none 0 0, .int .i64 0, .bool false])) ∨
  (adOk old ss = true ∧ ∃ v vs, e = .returned (.tuple #[v, .int .i64 ((pcL old ss ss.length).length : Int), .bool true]) ∧ w'.ownsRow w.heap.size 22 1 v ss.length vs ∧ PVs w old ss vs ss.length)

set_option maxHeartbeats 4000000 in
set_option maxRecDepth 100000 in
theorem pieces_any {oc : Nat} (ob b o c : Nat) (old : List UInt8) (ss : List Sp) (w : World) (hold : By w ob old) (hob : ob < w.heap.size) (hb : Rd w b o ss) (hw : wt ss ≤ 1048576) (hI : ∀ x ∈ ss, I64 x.p ∧ I64 x.n) (on : Nat) (hon : old.length = on) (hon2 : on ≤ 1048576) (hoc : on ≤ oc) :
    Calls Try.prog 19 #[.slice (some ⟨ob, 0, none⟩) on oc, .slice (some ⟨b, o, none⟩) ss.length c] w fun e w' => PcR w w' old ss e ∧ Below w.heap.size w w' := by
  have hn : ss.length ≤ 1048576 := Nat.le_trans (wt_len ss) hw
  have HT : Hid (Calls Try.prog 30 #[.slice (some ⟨b, o, none⟩) ss.length c] w fun e w' => e = .returned (.bool (okL ss)) ∧ Below w.heap.size w w') := oks_any b o c ss w hb hn
  have HB : Hid (Rd w b o ss) := hb
  have HOLD : Hid (By w ob old) := hold
  have HON : Hid (old.length = on) := hon
  have HI : Hid (∀ x ∈ ss, I64 x.p ∧ I64 x.n) := hI
  have HD : Hid (∀ x ∈ ss, x.d.length ≤ 1048576) := fun x hx => Nat.le_trans (wt_d hx) hw
  clear hb hw hold hon hI
  cases ht : okL ss with
  | false =>
    rw [ht] at HT
    have HE : Hid (adOk old ss = false) := by show _ = _; unfold adOk; rw [ht]; rfl
    clear ht
    go_enter Try.func19, Try.ntmps19
    go_wp2_with (go_at_call 30; refine HT.out.mono ?_; rintro e w1 ⟨rfl, hl1⟩)
    go_ret3
    exact ⟨.inl ⟨HE.out, rfl⟩, hl1⟩
  | true =>
    rw [ht] at HT
    have HOK : Hid (∀ x ∈ ss, okS x = true) := by unfold okL at ht; exact allOk_iff.1 ((Bool.and_eq_true _ _ ▸ ht).2)
    have hlen : ss.length ≤ 10000 := by unfold okL at ht; rw [Bool.and_eq_true, decide_eq_true_iff] at ht; exact ht.1
    clear ht
    have hmk := make0 (P := Try.prog) 45 22 (.slice none 0 0) 1 24 Try.underlying45 infoSl .i64 .i64 ss.length (by omega) (by omega)
    go_enter Try.func19, Try.ntmps19
    go_wp2_with (go_at_call 30; refine HT.out.mono ?_; rintro e w1 ⟨rfl, hl1⟩)
    have HO0 : Hid ((w1.alloc (.cells (madeCells #[.slice none 0 0] ss.length) 22)).ownsRow w.heap.size 22 1 (.slice (some ⟨w1.heap.size, 0, none⟩) 0 ss.length) 0 []) := World.ownsRow_made w1 _ _ hl1.size (by unfold maxLen; omega) (by rw [size_madeCells, Nat.mul_one])
    have HBE0 : Hid (Below w.heap.size w (w1.alloc (.cells (madeCells #[.slice none 0 0] ss.length) 22))) := hl1.alloc hl1.size _
    clear hmk hl1
    go_loopw [7, 8, 10, 11, 12, 21] (fun v sz _ _ _ x wr => ∃ (i : Nat) (vs : List Value) (va : Option Addr) (vc : Nat), i ≤ ss.length ∧ v = .slice va i vc ∧ x = .int .i64 (i : Int) ∧ sz = .int .i64 ((pcL old ss i).length : Int) ∧ wr.ownsRow w.heap.size 22 1 (.slice va i vc) i vs ∧ PVs w old ss vs i ∧ (∀ j y, j < i → ss[j]? = some y → fits old y = true) ∧ (pcL old ss i).length ≤ 1000000 ∧ Below w.heap.size w wr) (fun _ _ _ _ _ x _ => ss.length - (intOf x).toNat)
    case atStart => exact ⟨0, [], _, _, Nat.zero_le _, rfl, rfl, rfl, HO0.out, ⟨rfl, fun i x h => by omega⟩, fun j y h => by omega, Nat.zero_le _, HBE0.out⟩
    case round =>
      clear HO0 HBE0
      obtain ⟨i, vs, va, vc, hi, rfl, rfl, rfl, hown, hpv, hlow, hmax, hbel⟩ := hrel
      have HBE : Hid (Below w.heap.size w wr) := hbel
      have HLO : Hid (∀ j y, j < i → ss[j]? = some y → fits old y = true) := hlow
      have HOW : Hid (wr.ownsRow w.heap.size 22 1 (.slice va i vc) i vs) := hown
      have HPV : Hid (PVs w old ss vs i) := hpv
      clear hlow hpv
      by_cases hil : i < ss.length
      · have hil' : (i : Int) < (ss.length : Int) := by omega
        have hi0 : (0 : Int) ≤ (i : Int) := by omega
        obtain ⟨x, hx⟩ : ∃ x, ss[i]? = some x := ⟨_, List.getElem?_eq_getElem hil⟩
        have hxm := List.mem_of_getElem? hx
        obtain ⟨a', c', e0, e1, e2, e3, hsr0⟩ := HB.out i x hx
        have K : ∀ {p v}, w.cell? ⟨b, p, none⟩ = some v → wr.cell? ⟨b, p, none⟩ = some v := fun {p v} h => (hbel.cell (p := ⟨b, p, none⟩) (World.block_lt_of_cell? _ _ h)).trans h
        have y0 := K e0
        have y1 := K e1
        have y2 := K e2
        have y3 := K e3
        have HX : Hid (ss[i]? = some x) := hx
        have HNX : Hid ((pcL old ss (i + 1)).length = (pcL old ss i).length + (pc old x).length) := by show _ = _; rw [pcL_succ hx, List.length_append]
        have HPI : Hid (∀ W, Calls Try.prog 35 #[.agg #[.int .i64 x.k, .int .i64 x.p, .int .i64 x.n, .slice a' x.d.length c'], .slice (some ⟨ob, 0, none⟩) on oc] W fun e w' => PcA w old x e ∧ Below W.heap.size W w') := fun W => piece_any ob on old x a' c' w W HOLD.out hob HON.out hon2 hoc (HOK.out x hxm) (HI.out x hxm).1 (HI.out x hxm).2 hsr0
        obtain ⟨q, hq⟩ : ∃ q, (pcL old ss i).length = q := ⟨_, rfl⟩
        rw [hq] at hmax HNX ⊢
        obtain ⟨z0, hz0⟩ : ∃ z, x.k = z := ⟨_, rfl⟩
        obtain ⟨z1, hz1⟩ : ∃ z, x.p = z := ⟨_, rfl⟩
        obtain ⟨z2, hz2⟩ : ∃ z, x.n = z := ⟨_, rfl⟩
        obtain ⟨m, hm⟩ : ∃ z, x.d.length = z := ⟨_, rfl⟩
        rw [hz0, hz1, hz2, hm] at HPI
        rw [hz0] at y0
        rw [hz1] at y1
        rw [hz2] at y2
        rw [hm] at y3
        clear hbel hx hsr0 K e0 e1 e2 e3 hz0 hz1 hz2 hm hq hown
        cases hfx : fits old x with
        | false =>
          have HE : Hid (adOk old ss = false) := adOk_no fun ⟨_, h2, _⟩ => by rw [(h2 x hxm).2] at hfx; cases hfx
          have HP2 : Hid (∀ W, Calls Try.prog 35 #[.agg #[.int .i64 z0, .int .i64 z1, .int .i64 z2, .slice a' m c'], .slice (some ⟨ob, 0, none⟩) on oc] W fun e w' => e = .returned (.tuple #[.slice none 0 0, .bool false]) ∧ Below W.heap.size W w') := fun W => (HPI.out W).mono fun e w' ⟨h1, h2⟩ => ⟨(by
            rcases h1 with h | ⟨h, _⟩
            · exact h.2
            · rw [hfx] at h; cases h), h2⟩
          clear hfx HPI
          go_wp2_with (go_at_call 35; refine (HP2.out _).mono ?_; rintro e w1 ⟨rfl, hl1⟩; have hbw1 : Below wr.heap.size wr w1 := (box_below _ _ _).trans (hl1.mono (by rw [World.size_alloc]; omega)))
          go_ret3
          exact ⟨.inl ⟨HE.out, rfl⟩, HBE.out.trans (hbw1.mono HBE.out.size)⟩
        | true =>
          have HP2 : Hid (∀ W, Calls Try.prog 35 #[.agg #[.int .i64 z0, .int .i64 z1, .int .i64 z2, .slice a' m c'], .slice (some ⟨ob, 0, none⟩) on oc] W fun e w' => (∃ pb po pcap, e = .returned (.tuple #[.slice (some ⟨pb, po, none⟩) (pc old x).length pcap, .bool true]) ∧ PV w (.slice (some ⟨pb, po, none⟩) (pc old x).length pcap) (pc old x)) ∧ Below W.heap.size W w') := fun W => (HPI.out W).mono fun e w' ⟨h1, h2⟩ => ⟨(by
            rcases h1 with ⟨h, _⟩ | ⟨_, v, rfl, hv⟩
            · rw [hfx] at h; cases h
            · have hv' := hv
              obtain ⟨pb, po, pcap, rfl, _⟩ := hv
              exact ⟨pb, po, pcap, rfl, hv'⟩), h2⟩
          have HLN : Hid (∀ j y, j < i + 1 → ss[j]? = some y → fits old y = true) := fun j y hj hy => by
            rcases Nat.lt_or_ge j i with h | h
            · exact HLO.out j y h hy
            · obtain rfl : j = i := by omega
              rw [HX.out] at hy
              cases hy
              exact hfx
          obtain ⟨pl, hpl⟩ : ∃ n, (pc old x).length = n := ⟨_, rfl⟩
          have hplb : pl ≤ 1048576 := by
            rw [← hpl]
            unfold pc
            split
            · rw [List.length_take, List.length_drop, HON.out]; omega
            · exact HD.out x hxm
          rw [hpl] at HP2 HNX
          clear hfx HPI hpl
          by_cases hmx : q + pl ≤ 1000000
          · have hmx' : ¬ (1000000 : Int) < (q : Int) + (pl : Int) := by omega
            go_wp2_with (go_at_call 35; refine (HP2.out _).mono ?_; rintro e w1 ⟨⟨pb, po, pcap, rfl, hpv1⟩, hl1⟩; refine Hid.out ?_)
            refine Lib.hid ?_
            have hB1 : Below wr.heap.size wr w1 := (box_below _ _ _).trans (hl1.mono (by rw [World.size_alloc]; omega))
            have HOW1 : Hid (w1.ownsRow w.heap.size 22 1 (.slice va i vc) i vs) := own_below HOW.out hB1
            have HBW1 : Hid (Below w.heap.size w w1) := HBE.out.trans (hB1.mono HBE.out.size)
            have HPN : Hid (PVs w old ss (vs ++ [.slice (some ⟨pb, po, none⟩) pl pcap]) (i + 1)) := by
              obtain ⟨hl, hv⟩ := HPV.out
              refine ⟨by rw [List.length_append, hl]; rfl, fun j y hj hy => ?_⟩
              rcases Nat.lt_or_ge j i with h | h
              · obtain ⟨u, hu, hp⟩ := hv j y h hy
                exact ⟨u, by rw [List.getElem?_append_left (by omega)]; exact hu, hp⟩
              · obtain rfl : j = i := by omega
                rw [HX.out] at hy
                cases hy
                exact ⟨_, by rw [List.getElem?_append_right (by omega), hl, Nat.sub_self]; rfl, hpv1⟩
            have h1c : ∀ u ∈ [Value.slice (some ⟨pb, po, none⟩) pl pcap], u.oneCell' = true := fun u hu => by
              rw [List.mem_singleton] at hu
              subst hu
              rfl
            have H1C : Hid (∀ u ∈ [Value.slice (some ⟨pb, po, none⟩) pl pcap], u.oneCell' = true) := h1c
            have HB1' : Hid (w.heap.size ≤ (w1.alloc (.cells #[.slice (some ⟨pb, po, none⟩) pl pcap] 22)).heap.size) := by show _ ≤ _; rw [World.size_alloc]; have := HBW1.out.size; omega
            have hi1 : i + 1 ≤ maxLen := by unfold maxLen; omega
            have hi2 : (i + 1) * 24 ≤ 140737488355328 := by omega
            clear hpv1 hl1 hB1 h1c y0 y1 y2 y3
            go_wp2_with (first
              | (at_builtin; refine app_own _ rfl _ _ 45 rfl w.heap.size 22 (.slice none 0 0) 24 Try.underlying45 infoSl rfl (.slice va i vc) i vs rfl (HOW1.out.alloc _) ⟨w1.heap.size, 0, none⟩ 1 1 [.slice (some ⟨pb, po, none⟩) pl pcap] rfl rfl (one_new _ _ _) H1C.out hi1 hi2 HB1'.out ?_; intro v2 w2 hown2 hg2; refine Hid.out ?_)
              | go_in)
            refine Lib.hid ?_
            obtain ⟨va2, vc2, rfl⟩ := own_shape hown2
            have HO2 : Hid (w2.ownsRow w.heap.size 22 1 (.slice va2 (i + 1) vc2) (i + 1) (vs ++ [.slice (some ⟨pb, po, none⟩) pl pcap])) := hown2
            have HB2 : Hid (Below w.heap.size w w2) := below_grown (HBW1.out.alloc HBW1.out.size _) (HOW1.out.alloc _) hg2 HB1'.out
            have HQ : Hid ((pcL old ss (i + 1)).length ≤ 1000000) := by show _ ≤ _; rw [HNX.out]; exact hmx
            clear hown2 hg2
            go_wp2
            go_roundw
            case rel => exact ⟨i + 1, _, va2, vc2, by omega, rfl, by go_num, by rw [HNX.out]; go_num, HO2.out, HPN.out, HLN.out, HQ.out, HB2.out⟩
            case measure => simp [intOf] <;> omega
          · have hmx' : (1000000 : Int) < (q : Int) + (pl : Int) := by omega
            have HE : Hid (adOk old ss = false) := adOk_big (i := i + 1) (by omega) (by rw [HNX.out]; exact hmx)
            go_wp2_with (go_at_call 35; refine (HP2.out _).mono ?_; rintro e w1 ⟨⟨pb, po, pcap, rfl, hpv1⟩, hl1⟩; have hbw1 : Below wr.heap.size wr w1 := (box_below _ _ _).trans (hl1.mono (by rw [World.size_alloc]; omega)))
            go_ret3
            exact ⟨.inl ⟨HE.out, rfl⟩, HBE.out.trans (hbw1.mono HBE.out.size)⟩
      · have hil' : ¬ (i : Int) < (ss.length : Int) := by omega
        obtain rfl : i = ss.length := by omega
        have HE : Hid (adOk old ss = true) := adOk_iff.2 ⟨hlen, fun x hx => by
          obtain ⟨j, hj, rfl⟩ := List.getElem_of_mem hx
          exact ⟨HOK.out _ (List.getElem_mem hj), HLO.out j _ (by omega) (List.getElem?_eq_getElem hj)⟩, hmax⟩
        clear hbel hown hmax
        go_wp2
        go_ret3
        exact ⟨.inr ⟨HE.out, _, _, rfl, HOW.out, HPV.out⟩, HBE.out⟩

end Go.Proofs.Ytogakignaaoklaa.dl
