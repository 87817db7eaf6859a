import Derived.Test.YtccgoodmkanncaaDoorSG
import Derived.Test.YtccgoodmkanncaaDoorVF
namespace Go.Proofs.YtccgoodmkanncaaDoor.sv
open Go.ChangeShapes Go.WideShapes Go.ChangeAt Go.RowKit Go.Deep Go.Proofs.YtccgoodmkanncaaDoor.vr
set_option linter.unusedVariables false
set_option linter.unusedSimpArgs false

theorem tx_bytes (xs : List (List UInt8)) (i : Nat) : (⟨(tx xs i).toArray⟩ : ByteArray).data.toList = tx xs i := by simp

theorem vok_any {xs : List (List UInt8)} {i : Nat} (hs : (tx xs i).length ≤ 1048576) (W : World) : Calls Tryd.prog 25 #[.string ⟨(tx xs i).toArray⟩] W fun e w' => e = .returned (.bool (okP xs i)) ∧ Below W.heap.size W w' := by
  have := sok_any ⟨(tx xs i).toArray⟩ (by show (tx xs i).toArray.size ≤ _; simpa using hs) W
  rw [tx_bytes] at this
  exact this

theorem cmpX_any {xs : List (List UInt8)} {i j : Nat} (hi : okP xs i = true) (hj : okP xs j = true) (hs : (tx xs i).length ≤ 1048576) (hs2 : (tx xs j).length ≤ 1048576) (W : World) : Calls Tryd.prog 44 #[.string ⟨(tx xs i).toArray⟩, .string ⟨(tx xs j).toArray⟩] W fun e w' => e = .returned (.int .i64 (cmpP (pl xs i) (pl xs j))) ∧ Below W.heap.size W w' := by
  have := scmp_any ⟨(tx xs i).toArray⟩ ⟨(tx xs j).toArray⟩ (by show (tx xs i).toArray.size ≤ _; simpa using hs) (by show (tx xs j).toArray.size ≤ _; simpa using hs2) W
  rw [tx_bytes, tx_bytes, show cmpV (tx xs i) (tx xs j) = cmpP (pl xs i) (pl xs j) from cmpV_yes (pl_ver hi) (pl_ver hj)] at this
  exact this

theorem outS_eq {xs : List (List UInt8)} {o : List Nat} (hn : xs.length ≤ 2000) (hp : o.Perm (plc xs xs.length)) (ho : o.Pairwise (RR xs)) : o.map (tx xs) = outS xs := by
  have hp2 : (2 : Nat) ^ 11 = 2048 := by decide
  unfold outS nf
  rw [if_pos hn, sorted_one (f := 11) (by omega) hp ho]

/-- One append of texts at a step of a region that draws its order. -/
theorem step_row {base : Nat} {W : World} {ops : Array Oper} {o : Oper} {a : Act} {K : Act → World → Prop} {Q : Exit → Act → World → Prop} {E : Prop} (hgd : o.guard = none) (s x : Operand)
    (ho : o.op = .call { callee := .builtin .append, args := #[s, x], argTypes := #[34, 34] }) (v : Value) (l : List (List UInt8)) (hs : a.eval s = v) (hown : sr.OwnS base W v l) (hb : base ≤ W.heap.size) (ad : Addr) (m c : Nat) (news : List (List UInt8))
    (hx : a.eval x = .slice (some ad) m c) (hm : news.length = m) (hnews : ∀ j u, (news.map sr.strL)[j]? = some u → W.cell? (ad.add j) = some u) (hlen : l.length + m ≤ 1000000) (h : ∀ v' w', sr.OwnS base w' v' (l ++ news) → W.grownBy w' v.ownBlock → K (a.put o.dst v') w') :
    if Region.wanted o (yielded ops a.tmps) = true then Oper.wp Tryd.prog o a W K Q else E := by
  have hw : Region.wanted o (yielded ops a.tmps) = true := by simp [Region.wanted, hgd]
  rw [if_pos hw]
  obtain ⟨i0, hi, hz0, hz1, hz2⟩ := sr.info_parts sr.info9
  refine wp_append_own W s x 34 ho base 9 i0 _ 1 16 Tryd.underlying34 hi hz0 hz1 hz2 rfl (by omega) v l.length (l.map sr.strL) hs hown.1 ad m c (news.map sr.strL) hx (by simpa using hm) hnews (sr.strL_one _) (by unfold maxLen; omega) (by omega) hb ?_
  intro v' w' h1 h2 h3
  exact h _ _ ⟨by rw [List.length_append, List.map_append, hm]; exact h1, fun e => hown.2 (h3.1 e).1⟩ h2

theorem OwnSmono {B B' : Nat} {w : World} {v : Value} {xs : List (List UInt8)} (h : sr.OwnS B w v xs) (hb : B' ≤ B) : sr.OwnS B' w v xs := h.mono hb

theorem own_at1 (w : World) (o : Obj) : ((w.alloc o).alloc (.cells #[] 9)).ownsRow (w.alloc o).heap.size 9 1 (.slice (some ⟨w.heap.size + 1, 0, none⟩) 0 0) ([] : List (List UInt8)).length (([] : List (List UInt8)).map sr.strL) := by
  have := (own_zeroS (w.alloc o)).1
  rwa [show (w.alloc o).heap.size = w.heap.size + 1 by simp] at this ⊢

theorem row_take {w : World} {bb off : Nat} {xs l m : List (List UInt8)} (h : xs = l ++ m) (hc : ∀ j y, xs[j]? = some y → w.cell? ⟨bb, off + j, none⟩ = some (sr.strL y)) : ∀ j u, (l.map sr.strL)[j]? = some u → w.cell? ((⟨bb, off, none⟩ : Addr).add j) = some u := by
  intro j u hu
  rw [List.getElem?_map, Option.map_eq_some_iff] at hu
  obtain ⟨y, hy, rfl⟩ := hu
  rw [addr_add]
  refine hc j y ?_
  rw [h, List.getElem?_append_left (List.getElem?_eq_some_iff.1 hy).1]
  exact hy

theorem row_drop {w : World} {bb off k cap n : Nat} {xs l m : List (List UInt8)} (h : xs = l ++ m) (hl : l.length = k) (hcap : n ≤ cap) {a1 : Addr} (ha : (if cap = k then some (⟨bb, off, none⟩ : Addr) else some ⟨bb, off + k, none⟩) = some a1) (hc : ∀ j y, xs[j]? = some y → w.cell? ⟨bb, off + j, none⟩ = some (sr.strL y)) (hn : xs.length = n) : ∀ j u, (m.map sr.strL)[j]? = some u → w.cell? (a1.add j) = some u := by
  intro j u hu
  rw [List.getElem?_map, Option.map_eq_some_iff] at hu
  obtain ⟨y, hy, rfl⟩ := hu
  have hlt := (List.getElem?_eq_some_iff.1 hy).1
  have hlen : xs.length = k + m.length := by rw [h, List.length_append, hl]
  rw [if_neg (by omega)] at ha
  obtain rfl := Option.some.inj ha
  rw [addr_add, Nat.add_assoc]
  refine hc (k + j) y ?_
  rw [h, List.getElem?_append_right (by omega), hl, Nat.add_sub_cancel_left]
  exact hy

set_option maxRecDepth 100000 in
set_option maxHeartbeats 4000000 in
theorem ssort_any (xs : List (List UInt8)) (v : Value) (w : World) (hR : sr.StrR w v xs) (hs : ∀ i, i < xs.length → (tx xs i).length ≤ 1048576) (hbig : xs.length ≤ 1048576) :
    Calls Tryd.prog 19 #[v] w fun e w' => ∃ v', e = .returned v' ∧ sr.OwnS w.heap.size w' v' (outS xs) ∧ Below w.heap.size w w' := by
  obtain ⟨bb, off, cap, rfl, h1, h2, hc⟩ := hR
  have HC : Hid (∀ i, i < xs.length → w.cell? ⟨bb, off + i, none⟩ = some (.string ⟨(tx xs i).toArray⟩)) := fun i hi => hc i _ (by simp [tx, hi])
  have HSZ : Hid (∀ i, i < xs.length → (tx xs i).length ≤ 1048576) := hs
  have HO0 : Hid (sr.OwnS w.heap.size (w.alloc (.cells #[] 9)) (.slice (some ⟨w.heap.size, 0, none⟩) 0 0) []) := own_zeroS w
  clear hc hs
  go_enter Tryd.func19, Tryd.ntmps19
  go_wp2
  go_loopw [3, 4] (fun r x wr => ∃ (i : Nat) (o : List Nat), i ≤ xs.length ∧ (2000 < xs.length → i = 0) ∧ x = .int .i64 (i : Int) ∧ sr.OwnS w.heap.size wr r (o.map (tx xs)) ∧ o.Perm (plc xs i) ∧ o.Pairwise (RR xs) ∧ Below w.heap.size w wr) (fun _ x _ => xs.length - (intOf x).toNat)
  case atStart => exact ⟨0, [], Nat.zero_le _, fun _ => rfl, rfl, HO0.out, List.Perm.refl _, List.Pairwise.nil, (Below.refl _ _).alloc (Nat.le_refl _) _⟩
  case round =>
    obtain ⟨i, o, hi, hi0, rfl, hown, hperm, hpair, hbel⟩ := hrel
    have HOW : Hid (sr.OwnS w.heap.size wr u3 (o.map (tx xs))) := hown
    have HBE : Hid (Below w.heap.size w wr) := hbel
    have HPM : Hid (o.Perm (plc xs i)) := hperm
    have HPW : Hid (o.Pairwise (RR xs)) := hpair
    have hol : o.length ≤ i := by rw [hperm.length_eq]; exact plc_len xs i
    clear hown hperm hpair
    by_cases hbg : 2000 < xs.length
    · have hbg' : ¬ (xs.length : Int) ≤ 2000 := by omega
      obtain rfl : i = 0 := hi0 hbg
      have hpos : (0 : Int) < (xs.length : Int) := by omega
      have HE : Hid (o.map (tx xs) = outS xs) := by
        show _ = _
        have : o = [] := List.eq_nil_of_length_eq_zero (by omega)
        subst this
        unfold outS
        rw [if_neg (by omega)]
        rfl
      go_wp2
      go_ret
      exact ⟨_, rfl, by rw [← HE.out]; exact HOW.out, HBE.out⟩
    have hbg' : (xs.length : Int) ≤ 2000 := by omega
    by_cases hil : i < xs.length
    · have hil' : (i : Int) < (xs.length : Int) := by omega
      have ct : wr.cell? ⟨bb, off + i, none⟩ = some (.string ⟨(tx xs i).toArray⟩) := (hbel.cell (p := ⟨bb, _, none⟩) (World.block_lt_of_cell? _ _ (HC.out i hil))).trans (HC.out i hil)
      have hsi := HSZ.out i hil
      have HVO : Hid (∀ W, Calls Tryd.prog 25 #[.string ⟨(tx xs i).toArray⟩] W fun e w' => e = .returned (.bool (okP xs i)) ∧ Below W.heap.size W w') := fun W => vok_any hsi W
      obtain ⟨S, hS⟩ : ∃ S : ByteArray, (⟨(tx xs i).toArray⟩ : ByteArray) = S := ⟨_, rfl⟩
      rw [hS] at HVO ct
      have HS : Hid ((⟨(tx xs i).toArray⟩ : ByteArray) = S) := hS
      clear hS hbel
      cases hok : okP xs i with
      | false =>
        rw [hok] at HVO
        have HPN : Hid (plc xs (i + 1) = plc xs i) := plc_no hok
        clear hok
        go_wp2_with (go_at_call 25; refine (HVO.out _).mono ?_; rintro e w1 ⟨rfl, hl1⟩)
        go_roundw
        case rel => exact ⟨i + 1, o, by omega, fun h => by omega, by go_num, OwnS.bel HOW.out hl1, by rw [HPN.out]; exact HPM.out, HPW.out, HBE.out.trans (hl1.mono HBE.out.size)⟩
        case measure => simp [intOf]; omega
      | true =>
        rw [hok] at HVO
        have HOK : Hid (okP xs i = true) := hok
        obtain ⟨ra, rc, hu3⟩ : ∃ ra rc, u3 = .slice ra (o.map (tx xs)).length rc := own_shape HOW.out.1
        rw [List.length_map] at hu3
        subst hu3
        clear hok
        go_wp2_with (go_at_call 25; refine (HVO.out _).mono ?_; rintro e w1 ⟨rfl, hl1⟩; have HO1 : Hid (sr.OwnS w.heap.size w1 (.slice ra o.length rc) (o.map (tx xs))) := OwnS.bel HOW.out hl1; have HB1 : Hid (Below w.heap.size w w1) := HBE.out.trans (hl1.mono HBE.out.size))
        obtain ⟨rb, ro, rcap, he, q1, q2, hrc⟩ := HO1.out.row
        obtain ⟨rfl, -, rfl⟩ : ra = some ⟨rb, ro, none⟩ ∧ o.length = (o.map (tx xs)).length ∧ rc = rcap := by simpa using he
        have HRC : Hid (∀ j z, o[j]? = some z → w1.cell? ⟨rb, ro + j, none⟩ = some (.string ⟨(tx xs z).toArray⟩)) := fun j z hz => hrc j _ (by simp [hz])
        rw [List.length_map] at q1
        unfold maxLen at q2
        have HCT : Hid (w1.cell? ⟨bb, off + i, none⟩ = some (.string S)) := (hl1.cell (p := ⟨bb, _, none⟩) (World.block_lt_of_cell? _ _ ct)).trans ct
        clear hrc he ct HOW HBE hl1
        go_loopw [5] (fun y wq => ∃ (k : Nat), k ≤ o.length ∧ y = .int .i64 (k : Int) ∧ (∀ j z, k ≤ j → o[j]? = some z → cmpP (pl xs z) (pl xs i) < 0) ∧ Below w1.heap.size w1 wq) (fun y _ => (intOf y).toNat)
        case atStart => exact ⟨o.length, Nat.le_refl _, rfl, fun j z hj hz => by have := (List.getElem?_eq_some_iff.1 hz).1; omega, Below.refl _ _⟩
        case round =>
          obtain ⟨k, hk, rfl, hlow, hbq⟩ := hrel
          have HLOW : Hid (∀ j z, k ≤ j → o[j]? = some z → cmpP (pl xs z) (pl xs i) < 0) := hlow
          have HBQ : Hid (Below w1.heap.size w1 wr) := hbq
          clear hlow
          by_cases hk0 : k = 0
          · have HK0 : Hid (k = 0) := hk0
            have hz1 : decide (0 < k) = false := by simp [hk0]
            have hz2 : decide ((0 : Int) < (k : Int)) = false := by simp [hk0]
            have HCT9 : Hid (∀ w', Below w1.heap.size w1 w' → w'.cell? ⟨bb, off + i, none⟩ = some (.string S)) := fun w' h => (h.cell (p := ⟨bb, _, none⟩) (World.block_lt_of_cell? _ _ HCT.out)).trans HCT.out
            clear hk0
            go_wp2_with fail
            go_quiet (fail)
            go_wp2_with fail
            clear hz1 hz2
            try rw [show (Value.int IntKind.i64 0) = Value.int IntKind.i64 ((k : Nat) : Int) from by rw [HK0.out]; rfl]
            generalize hW9 : wr.drewN nq = W9
            have HB9 : Hid (Below w1.heap.size w1 W9) := by show Below _ _ _; rw [← hW9]; exact Go.below_drewN HBQ.out _
            clear hW9
            have HX : Hid ((o.take k ++ [i] ++ o.drop k).Pairwise (RR xs)) := put_pair HPW.out (fun j hj => by have := plc_lt (HPM.out.mem_iff.1 hj); exact this.1) hk HLOW.out (.inl HK0.out)
            have hs9 := HB9.out.size
            have hs1 := HB1.out.size
            obtain ⟨a1, ha1⟩ : ∃ a1 : Addr, (if rc = k then some (⟨rb, ro, none⟩ : Addr) else some ⟨rb, ro + k, none⟩) = some a1 := by split <;> exact ⟨_, rfl⟩
            have k1 : (k : Int) ≤ (rc : Int) := by omega
            have k2 : (k : Int) ≤ (o.length : Int) := by omega
            have k00 : (0 : Int) ≤ (k : Int) := by omega
            have HA1 : Hid ((if rc = k then some (⟨rb, ro, none⟩ : Addr) else some ⟨rb, ro + k, none⟩) = some a1) := ha1
            have HCB : Hid (∀ w', Below w1.heap.size w1 w' → ∀ j y, (o.map (tx xs))[j]? = some y → w'.cell? ⟨rb, ro + j, none⟩ = some (sr.strL y)) := fun w' hb j y hy => by
              rw [List.getElem?_map, Option.map_eq_some_iff] at hy
              obtain ⟨z, hz, rfl⟩ := hy
              exact (hb.cell (p := ⟨rb, _, none⟩) (World.block_lt_of_cell? _ _ (HRC.out j z hz))).trans (HRC.out j z hz)
            have HO9 : Hid (sr.OwnS W9.heap.size ((W9.alloc (.cells #[] 9)).alloc (.cells #[.string S] 9)).drew (.slice (some ⟨W9.heap.size, 0, none⟩) 0 0) []) := ⟨((own_zeroS W9).1.alloc _).drew, not_nil _ _ _⟩
            have HOD : Hid (sr.OwnS W9.heap.size (W9.alloc (.cells #[] 9)).drew (.slice (some ⟨W9.heap.size, 0, none⟩) 0 0) []) := ⟨(own_zeroS W9).1.drew, not_nil _ _ _⟩
            have HOY : Hid (sr.OwnS W9.heap.size ((W9.alloc (.cells #[.string S] 9)).alloc (.cells #[] 9)).drew (.slice (some ⟨W9.heap.size + 1, 0, none⟩) 0 0) []) := OwnSmono ⟨(own_at1 W9 _).drew, not_nil _ _ _⟩ (by simp)
            have HBD : Hid (Below W9.heap.size W9 (W9.alloc (.cells #[] 9)).drew) := ((Below.refl W9.heap.size W9).alloc (Nat.le_refl _) _).drew
            have HBZ : Hid (Below W9.heap.size W9 ((W9.alloc (.cells #[] 9)).alloc (.cells #[.string S] 9)).drew) := (((Below.refl W9.heap.size W9).alloc (Nat.le_refl _) _).alloc (by simp) _).drew
            have HBY : Hid (Below W9.heap.size W9 ((W9.alloc (.cells #[.string S] 9)).alloc (.cells #[] 9)).drew) := (((Below.refl W9.heap.size W9).alloc (Nat.le_refl _) _).alloc (by simp) _).drew
            have HBX : Hid (Below W9.heap.size W9 (W9.alloc (.cells #[.string S] 9)).drew) := ((Below.refl W9.heap.size W9).alloc (Nat.le_refl _) _).drew
            have HNY : Hid (∀ w', (((W9.alloc (.cells #[.string S] 9)).alloc (.cells #[] 9)).drew).grownBy w' (some (W9.heap.size + 1)) → ∀ j u, ([tx xs i].map sr.strL)[j]? = some u → w'.cell? ((⟨W9.heap.size, 0, none⟩ : Addr).add j) = some u) := fun w' hg j u h => by
              have e := one_str W9 (l := tx xs i) (u := S) (by rw [← HS.out]; rfl) j u h
              rw [addr_add] at e ⊢
              exact hg.cell ((((Below.refl _ (W9.alloc (.cells #[.string S] 9))).alloc (Nat.le_refl _) _).cell (p := ⟨W9.heap.size, 0 + j, none⟩) (by simp)).trans e) (fun he => by have := Option.some.inj he; simp at this)
            have HNW : Hid (∀ w', (((W9.alloc (.cells #[] 9)).alloc (.cells #[.string S] 9)).drew).grownBy w' (some W9.heap.size) → ∀ j u, ([tx xs i].map sr.strL)[j]? = some u → w'.cell? ((⟨W9.heap.size + 1, 0, none⟩ : Addr).add j) = some u) := fun w' hg j u h => by
              have e := one_str (W9.alloc (.cells #[] 9)) (l := tx xs i) (u := S) (by rw [← HS.out]; rfl) j u h
              have hsz : (W9.alloc (.cells #[] 9)).heap.size = W9.heap.size + 1 := by simp
              rw [hsz] at e
              rw [addr_add] at e ⊢
              exact hg.cell e (fun he => by have := Option.some.inj he; simp at this)
            have HUP : Hid (∀ w', Below W9.heap.size W9 w' → Below w1.heap.size w1 w') := fun w' h => HB9.out.trans (h.mono HB9.out.size)
            have HU : Hid (sr.strL (tx xs i) = .string S) := by show _ = _; rw [← HS.out]; rfl
            have htk : ((o.take k).map (tx xs)).length = k := by simp; omega
            have hdk : ((o.drop k).map (tx xs)).length = o.length - k := by simp
            have HMT : Hid (o.map (tx xs) = (o.take k).map (tx xs) ++ (o.drop k).map (tx xs)) := by show _ = _; rw [← List.map_append, List.take_append_drop]
            go_region_held3 (fun w' => w'.cell? ⟨bb, off + i, none⟩ = some (.string S))
              (first | exact HCT9.out _ HB9.out.drew | exact HCT9.out _ (HUP.out _ HBD.out) | exact HCT9.out _ (HUP.out _ HBZ.out) | exact HCT9.out _ (HUP.out _ HBY.out) | exact HCT9.out _ (HUP.out _ HBX.out) | exact HCT9.out _ (HUP.out _ (B2.alloc B2.size _)) | exact HCT9.out _ (HUP.out _ B4) | exact HCT9.out _ (HUP.out _ B3) | exact HCT9.out _ (HUP.out _ B2) | go_keep)
              (first
                | ((refine step_row (by rfl) _ _ (by rfl) (.slice (some ⟨W9.heap.size, 0, none⟩) 0 0) [] (by rfl) HO9.out HBZ.out.size ⟨rb, ro, none⟩ k rc ((o.take k).map (tx xs)) (by rfl) htk (row_take HMT.out (HCB.out _ (HUP.out _ HBZ.out))) (by simp; omega) ?_; intro v2 w2 hown2 hg2; have B2 := below_grown HBZ.out HO9.out.1 hg2 HBZ.out.size))
                | ((refine step_row (by rfl) _ _ (by rfl) (.slice (some ⟨W9.heap.size + 1, 0, none⟩) 0 0) [] (by rfl) HOY.out HBY.out.size ⟨rb, ro, none⟩ k rc ((o.take k).map (tx xs)) (by rfl) htk (row_take HMT.out (HCB.out _ (HUP.out _ HBY.out))) (by simp; omega) ?_; intro v2 w2 hown2 hg2; have B2 := below_grown HBY.out HOY.out.1 hg2 HBY.out.size))
                | ((refine step_row (by rfl) _ _ (by rfl) (.slice (some ⟨W9.heap.size, 0, none⟩) 0 0) [] (by rfl) HOD.out HBD.out.size ⟨rb, ro, none⟩ k rc ((o.take k).map (tx xs)) (by rfl) htk (row_take HMT.out (HCB.out _ (HUP.out _ HBD.out))) (by simp; omega) ?_; intro v2 w2 hown2 hg2; have B2 := below_grown HBD.out HOD.out.1 hg2 HBD.out.size))
                | ((refine step_row (by rfl) _ _ (by rfl) v2 ((o.take k).map (tx xs)) (by rfl) hown2 B2.size ⟨W9.heap.size + 1, 0, none⟩ 1 1 [tx xs i] (by rfl) (by rfl) (HNW.out _ hg2) (by rw [htk]; omega) ?_; intro v3 w3 hown3 hg3; have B3 := below_grown B2 hown2.1 hg3 B2.size))
                | ((refine step_row (by rfl) _ _ (by rfl) v2 ((o.take k).map (tx xs)) (by rfl) hown2 B2.size ⟨W9.heap.size, 0, none⟩ 1 1 [tx xs i] (by rfl) (by rfl) (HNY.out _ hg2) (by rw [htk]; omega) ?_; intro v3 w3 hown3 hg3; have B3 := below_grown B2 hown2.1 hg3 B2.size))
                | ((refine step_row (by rfl) _ _ (by rfl) v2 ((o.take k).map (tx xs)) (by rfl) ⟨hown2.1.alloc _, hown2.2⟩ (B2.alloc B2.size _).size ⟨w2.heap.size, 0, none⟩ 1 1 [tx xs i] (by rfl) (by rfl) (one_str w2 HU.out) (by rw [htk]; omega) ?_; intro v3 w3 hown3 hg3; have B3 := below_grown (B2.alloc B2.size _) (hown2.1.alloc _) hg3 (B2.alloc B2.size _).size))
                | ((refine step_row (by rfl) _ _ (by rfl) v3 ((o.take k).map (tx xs) ++ [tx xs i]) (by rfl) hown3 B3.size a1 (o.length - k) (rc - k) ((o.drop k).map (tx xs)) (by rfl) hdk (row_drop HMT.out htk q1 HA1.out (HCB.out _ (HUP.out _ B3)) (List.length_map _)) (by rw [List.length_append, htk]; simp; omega) ?_; intro v4 w4 hown4 hg4; have B4 := below_grown B3 hown3.1 hg4 B3.size)))
            go_wp2_with fail
            all_goals
              go_roundw
              case rel =>
                refine ⟨i + 1, o.take k ++ [i] ++ o.drop k, by omega, fun h => by omega, by go_num, ?_, ?_, HX.out, HB1.out.trans ((HUP.out _ B4).mono HB1.out.size)⟩
                · have := OwnSmono hown4 (Nat.le_trans HB1.out.size HB9.out.size)
                  simpa using this
                · rw [plc_yes HOK.out]
                  exact put_perm HPM.out
              case measure => simp [intOf]; omega
          · obtain ⟨K, hKk⟩ : ∃ K, k = K + 1 := ⟨k - 1, by omega⟩
            have HKk : Hid (k = K + 1) := hKk
            have hpos : decide ((0 : Int) < (k : Int)) = true := by simp; omega
            have hpos2 : decide (0 < k) = true := by simp; omega
            have hK1 : (k : Int) - 1 = (K : Int) := by omega
            have hK2 : (K : Int) < (o.length : Int) := by omega
            have hK0 : (0 : Int) ≤ (K : Int) := by omega
            have hK3 : IntKind.i64.wrap ((k : Int) - 1) = (K : Int) := by rw [IntKind.wrap_i64]; omega
            have hK4 : IntKind.i64.wrap (K : Int) = (K : Int) := by rw [IntKind.wrap_i64]; omega
            obtain ⟨z, hz⟩ : ∃ z, o[K]? = some z := ⟨_, List.getElem?_eq_getElem (by omega)⟩
            have hzz := plc_lt (HPM.out.mem_iff.1 (List.mem_of_getElem? hz))
            have hcz := HRC.out K z hz
            have HCM : Hid (∀ W, Calls Tryd.prog 44 #[.string ⟨(tx xs z).toArray⟩, .string ⟨(tx xs i).toArray⟩] W fun e w' => e = .returned (.int .i64 (cmpP (pl xs z) (pl xs i))) ∧ Below W.heap.size W w') := fun W => cmpX_any hzz.2 HOK.out (HSZ.out z (by omega)) hsi W
            obtain ⟨q, hq⟩ : ∃ q, cmpP (pl xs z) (pl xs i) = q := ⟨_, rfl⟩
            obtain ⟨Z, hZ⟩ : ∃ Z : ByteArray, (⟨(tx xs z).toArray⟩ : ByteArray) = Z := ⟨_, rfl⟩
            rw [hq, HS.out, hZ] at HCM
            rw [hZ] at hcz
            have HSS : Hid (∀ w', Below w1.heap.size w1 w' → w'.cell? ⟨rb, ro + K, none⟩ = some (.string Z) ∧ w'.cell? ⟨bb, off + i, none⟩ = some (.string S)) := fun w' h => ⟨(h.cell (p := ⟨rb, _, none⟩) (World.block_lt_of_cell? _ _ hcz)).trans hcz, (h.cell (p := ⟨bb, _, none⟩) (World.block_lt_of_cell? _ _ HCT.out)).trans HCT.out⟩
            have HQ : Hid (cmpP (pl xs z) (pl xs i) = q) := hq
            have HZZ : Hid (o[K]? = some z) := hz
            clear hcz hzz hq hZ hz
            clear hKk hk0
            by_cases hlt : q < 0
            · go_wp2_with fail
              go_region_held3 (fun w' => w'.cell? ⟨rb, ro + K, none⟩ = some (.string Z) ∧ w'.cell? ⟨bb, off + i, none⟩ = some (.string S))
                (first | exact HSS.out _ HBQ.out | exact HSS.out _ HBQ.out.drew | exact HSS.out _ hb2 | go_keep)
                (((go_at_call 44; refine (HCM.out _).mono ?_; rintro e w2 ⟨rfl, hl2⟩; have hb2 : Below w1.heap.size w1 w2 := HBQ.out.drew.trans (hl2.mono HBQ.out.size))))
              go_wp2_with fail
              go_roundw
              case rel => exact ⟨K, by have := HKk.out; omega, by go_num, fun j y hj hy => by
                rcases Nat.lt_or_ge K j with h | h
                · exact HLOW.out j y (by have := HKk.out; omega) hy
                · obtain rfl : j = K := by omega
                  rw [HZZ.out] at hy
                  obtain rfl := Option.some.inj hy
                  rw [HQ.out]; exact hlt, hb2⟩
              case measure => have := HKk.out; simp [intOf]; omega
            · have HCT9 : Hid (∀ w', Below w1.heap.size w1 w' → w'.cell? ⟨bb, off + i, none⟩ = some (.string S)) := fun w' h => (h.cell (p := ⟨bb, _, none⟩) (World.block_lt_of_cell? _ _ HCT.out)).trans HCT.out
              go_wp2_with fail
              go_region_held3 (fun w' => w'.cell? ⟨rb, ro + K, none⟩ = some (.string Z) ∧ w'.cell? ⟨bb, off + i, none⟩ = some (.string S))
                (first | exact HSS.out _ HBQ.out | exact HSS.out _ HBQ.out.drew | exact HSS.out _ hb2 | go_keep)
                (((go_at_call 44; refine (HCM.out _).mono ?_; rintro e W9 ⟨rfl, hl2⟩; have hb2 : Below w1.heap.size w1 W9 := HBQ.out.drew.trans (hl2.mono HBQ.out.size))))
              go_wp2_with fail
              have HB9 : Hid (Below w1.heap.size w1 W9) := hb2
              have HX : Hid ((o.take k ++ [i] ++ o.drop k).Pairwise (RR xs)) := put_pair HPW.out (fun j hj => by have := plc_lt (HPM.out.mem_iff.1 hj); exact this.1) hk HLOW.out (.inr ⟨z, by rw [show k - 1 = K from by have := HKk.out; omega]; exact HZZ.out, by rw [HQ.out]; omega⟩)
              clear hK1 hK2 hK0 hK3 hK4 hpos hpos2
              have hs9 := HB9.out.size
              have hs1 := HB1.out.size
              obtain ⟨a1, ha1⟩ : ∃ a1 : Addr, (if rc = k then some (⟨rb, ro, none⟩ : Addr) else some ⟨rb, ro + k, none⟩) = some a1 := by split <;> exact ⟨_, rfl⟩
              have k1 : (k : Int) ≤ (rc : Int) := by omega
              have k2 : (k : Int) ≤ (o.length : Int) := by omega
              have k00 : (0 : Int) ≤ (k : Int) := by omega
              have HA1 : Hid ((if rc = k then some (⟨rb, ro, none⟩ : Addr) else some ⟨rb, ro + k, none⟩) = some a1) := ha1
              have HCB : Hid (∀ w', Below w1.heap.size w1 w' → ∀ j y, (o.map (tx xs))[j]? = some y → w'.cell? ⟨rb, ro + j, none⟩ = some (sr.strL y)) := fun w' hb j y hy => by
                rw [List.getElem?_map, Option.map_eq_some_iff] at hy
                obtain ⟨z, hz, rfl⟩ := hy
                exact (hb.cell (p := ⟨rb, _, none⟩) (World.block_lt_of_cell? _ _ (HRC.out j z hz))).trans (HRC.out j z hz)
              have HO9 : Hid (sr.OwnS W9.heap.size ((W9.alloc (.cells #[] 9)).alloc (.cells #[.string S] 9)).drew (.slice (some ⟨W9.heap.size, 0, none⟩) 0 0) []) := ⟨((own_zeroS W9).1.alloc _).drew, not_nil _ _ _⟩
              have HOD : Hid (sr.OwnS W9.heap.size (W9.alloc (.cells #[] 9)).drew (.slice (some ⟨W9.heap.size, 0, none⟩) 0 0) []) := ⟨(own_zeroS W9).1.drew, not_nil _ _ _⟩
              have HOY : Hid (sr.OwnS W9.heap.size ((W9.alloc (.cells #[.string S] 9)).alloc (.cells #[] 9)).drew (.slice (some ⟨W9.heap.size + 1, 0, none⟩) 0 0) []) := OwnSmono ⟨(own_at1 W9 _).drew, not_nil _ _ _⟩ (by simp)
              have HBD : Hid (Below W9.heap.size W9 (W9.alloc (.cells #[] 9)).drew) := ((Below.refl W9.heap.size W9).alloc (Nat.le_refl _) _).drew
              have HBZ : Hid (Below W9.heap.size W9 ((W9.alloc (.cells #[] 9)).alloc (.cells #[.string S] 9)).drew) := (((Below.refl W9.heap.size W9).alloc (Nat.le_refl _) _).alloc (by simp) _).drew
              have HBY : Hid (Below W9.heap.size W9 ((W9.alloc (.cells #[.string S] 9)).alloc (.cells #[] 9)).drew) := (((Below.refl W9.heap.size W9).alloc (Nat.le_refl _) _).alloc (by simp) _).drew
              have HBX : Hid (Below W9.heap.size W9 (W9.alloc (.cells #[.string S] 9)).drew) := ((Below.refl W9.heap.size W9).alloc (Nat.le_refl _) _).drew
              have HNY : Hid (∀ w', (((W9.alloc (.cells #[.string S] 9)).alloc (.cells #[] 9)).drew).grownBy w' (some (W9.heap.size + 1)) → ∀ j u, ([tx xs i].map sr.strL)[j]? = some u → w'.cell? ((⟨W9.heap.size, 0, none⟩ : Addr).add j) = some u) := fun w' hg j u h => by
                have e := one_str W9 (l := tx xs i) (u := S) (by rw [← HS.out]; rfl) j u h
                rw [addr_add] at e ⊢
                exact hg.cell ((((Below.refl _ (W9.alloc (.cells #[.string S] 9))).alloc (Nat.le_refl _) _).cell (p := ⟨W9.heap.size, 0 + j, none⟩) (by simp)).trans e) (fun he => by have := Option.some.inj he; simp at this)
              have HNW : Hid (∀ w', (((W9.alloc (.cells #[] 9)).alloc (.cells #[.string S] 9)).drew).grownBy w' (some W9.heap.size) → ∀ j u, ([tx xs i].map sr.strL)[j]? = some u → w'.cell? ((⟨W9.heap.size + 1, 0, none⟩ : Addr).add j) = some u) := fun w' hg j u h => by
                have e := one_str (W9.alloc (.cells #[] 9)) (l := tx xs i) (u := S) (by rw [← HS.out]; rfl) j u h
                have hsz : (W9.alloc (.cells #[] 9)).heap.size = W9.heap.size + 1 := by simp
                rw [hsz] at e
                rw [addr_add] at e ⊢
                exact hg.cell e (fun he => by have := Option.some.inj he; simp at this)
              have HUP : Hid (∀ w', Below W9.heap.size W9 w' → Below w1.heap.size w1 w') := fun w' h => HB9.out.trans (h.mono HB9.out.size)
              have HU : Hid (sr.strL (tx xs i) = .string S) := by show _ = _; rw [← HS.out]; rfl
              have htk : ((o.take k).map (tx xs)).length = k := by simp; omega
              have hdk : ((o.drop k).map (tx xs)).length = o.length - k := by simp
              have HMT : Hid (o.map (tx xs) = (o.take k).map (tx xs) ++ (o.drop k).map (tx xs)) := by show _ = _; rw [← List.map_append, List.take_append_drop]
              go_region_held3 (fun w' => w'.cell? ⟨bb, off + i, none⟩ = some (.string S))
                (first | exact HCT9.out _ HB9.out.drew | exact HCT9.out _ (HUP.out _ HBD.out) | exact HCT9.out _ (HUP.out _ HBZ.out) | exact HCT9.out _ (HUP.out _ HBY.out) | exact HCT9.out _ (HUP.out _ HBX.out) | exact HCT9.out _ (HUP.out _ (B2.alloc B2.size _)) | exact HCT9.out _ (HUP.out _ B4) | exact HCT9.out _ (HUP.out _ B3) | exact HCT9.out _ (HUP.out _ B2) | go_keep)
                (first
                  | ((refine step_row (by rfl) _ _ (by rfl) (.slice (some ⟨W9.heap.size, 0, none⟩) 0 0) [] (by rfl) HO9.out HBZ.out.size ⟨rb, ro, none⟩ k rc ((o.take k).map (tx xs)) (by rfl) htk (row_take HMT.out (HCB.out _ (HUP.out _ HBZ.out))) (by simp; omega) ?_; intro v2 w2 hown2 hg2; have B2 := below_grown HBZ.out HO9.out.1 hg2 HBZ.out.size))
                  | ((refine step_row (by rfl) _ _ (by rfl) (.slice (some ⟨W9.heap.size + 1, 0, none⟩) 0 0) [] (by rfl) HOY.out HBY.out.size ⟨rb, ro, none⟩ k rc ((o.take k).map (tx xs)) (by rfl) htk (row_take HMT.out (HCB.out _ (HUP.out _ HBY.out))) (by simp; omega) ?_; intro v2 w2 hown2 hg2; have B2 := below_grown HBY.out HOY.out.1 hg2 HBY.out.size))
                  | ((refine step_row (by rfl) _ _ (by rfl) (.slice (some ⟨W9.heap.size, 0, none⟩) 0 0) [] (by rfl) HOD.out HBD.out.size ⟨rb, ro, none⟩ k rc ((o.take k).map (tx xs)) (by rfl) htk (row_take HMT.out (HCB.out _ (HUP.out _ HBD.out))) (by simp; omega) ?_; intro v2 w2 hown2 hg2; have B2 := below_grown HBD.out HOD.out.1 hg2 HBD.out.size))
                  | ((refine step_row (by rfl) _ _ (by rfl) v2 ((o.take k).map (tx xs)) (by rfl) hown2 B2.size ⟨W9.heap.size + 1, 0, none⟩ 1 1 [tx xs i] (by rfl) (by rfl) (HNW.out _ hg2) (by rw [htk]; omega) ?_; intro v3 w3 hown3 hg3; have B3 := below_grown B2 hown2.1 hg3 B2.size))
                  | ((refine step_row (by rfl) _ _ (by rfl) v2 ((o.take k).map (tx xs)) (by rfl) hown2 B2.size ⟨W9.heap.size, 0, none⟩ 1 1 [tx xs i] (by rfl) (by rfl) (HNY.out _ hg2) (by rw [htk]; omega) ?_; intro v3 w3 hown3 hg3; have B3 := below_grown B2 hown2.1 hg3 B2.size))
                  | ((refine step_row (by rfl) _ _ (by rfl) v2 ((o.take k).map (tx xs)) (by rfl) ⟨hown2.1.alloc _, hown2.2⟩ (B2.alloc B2.size _).size ⟨w2.heap.size, 0, none⟩ 1 1 [tx xs i] (by rfl) (by rfl) (one_str w2 HU.out) (by rw [htk]; omega) ?_; intro v3 w3 hown3 hg3; have B3 := below_grown (B2.alloc B2.size _) (hown2.1.alloc _) hg3 (B2.alloc B2.size _).size))
                  | ((refine step_row (by rfl) _ _ (by rfl) v3 ((o.take k).map (tx xs) ++ [tx xs i]) (by rfl) hown3 B3.size a1 (o.length - k) (rc - k) ((o.drop k).map (tx xs)) (by rfl) hdk (row_drop HMT.out htk q1 HA1.out (HCB.out _ (HUP.out _ B3)) (List.length_map _)) (by rw [List.length_append, htk]; simp; omega) ?_; intro v4 w4 hown4 hg4; have B4 := below_grown B3 hown3.1 hg4 B3.size)))
              go_wp2_with fail
              all_goals
                go_roundw
                case rel =>
                  refine ⟨i + 1, o.take k ++ [i] ++ o.drop k, by omega, fun h => by omega, by go_num, ?_, ?_, HX.out, HB1.out.trans ((HUP.out _ B4).mono HB1.out.size)⟩
                  · have := OwnSmono hown4 (Nat.le_trans HB1.out.size HB9.out.size)
                    simpa using this
                  · rw [plc_yes HOK.out]
                    exact put_perm HPM.out
                case measure => simp [intOf]; omega
    · have hil' : ¬ (i : Int) < (xs.length : Int) := by omega
      obtain rfl : i = xs.length := by omega
      have HE : Hid (o.map (tx xs) = outS xs) := outS_eq (by omega) HPM.out HPW.out
      go_wp2
      go_ret
      exact ⟨_, rfl, by rw [← HE.out]; exact HOW.out, HBE.out⟩

end Go.Proofs.YtccgoodmkanncaaDoor.sv
