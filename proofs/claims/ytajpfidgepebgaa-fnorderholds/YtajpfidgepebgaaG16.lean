import Derived.Test.YtajpfidgepebgaaG08
import Derived.Test.YtajpfidgepebgaaG15
namespace Go.Proofs.Ytajpfidgepebgaa.cy
open Go.ChangeShapes Go.WideShapes Go.ChangeAt Go.RowKit Go.Deep Go.Maps
open fa (Us uNo nmL nds aw aws aw_mem aw_len aw_le aw_asc nAt nAt_some uNo_yes uNo_get uNo_le app_one new_one nodup_lenN)
open fw (Ua ua_of)
set_option linter.unusedVariables false
set_option linter.unusedSimpArgs false

/-! ### spec.l18Steps -/

def oI (r : Option Nat) : Int := (r.map fun m => (m : Int)).getD (-1)
theorem oI_some (m : Nat) : oI (some m) = (m : Int) := rfl
theorem oI_none : oI none = -1 := rfl
/-- What lies about while the specification looks for ways. -/
structure SS (us : List ty.Un) (n G fr : Nat) (w W : World) (v : Value) (row : List Nat) (d : Nat → Option Nat) (k : Nat) : Prop where
  bq : Bq (Rf us) fr row d k
  lt : ∀ x ∈ row, x < n
  dr : W.rowIs G 3 n fun i => .int .i64 (oI (d i))
  ib : ∃ g o cap, v = .slice (some ⟨g, o, none⟩) row.length cap ∧ fi.Ib w.heap.size W g o cap row ∧ g ≠ G
  bel : Below w.heap.size w W
theorem SS.len {us : List ty.Un} {n G fr : Nat} {w W : World} {v : Value} {row : List Nat} {d : Nat → Option Nat} {k : Nat} (h : SS us n G fr w W v row d k) : row.length ≤ n := by
  have := nodup_lenN (L := List.range n) h.bq.nod fun x hx => List.mem_range.2 (h.lt x hx)
  rwa [List.length_range] at this
theorem SS.below {us : List ty.Un} {n G fr : Nat} {w W W' : World} {v : Value} {row : List Nat} {d : Nat → Option Nat} {k : Nat} (h : SS us n G fr w W v row d k) (hb : Below W.heap.size W W') : SS us n G fr w W' v row d k := by
  obtain ⟨g, o, cap, e, h1, h2⟩ := h.ib
  exact ⟨h.bq, h.lt, h.dr.of_block (hb.block _ h.dr.lt), ⟨g, o, cap, e, h1.below hb, h2⟩, h.bel.trans (hb.mono h.bel.size)⟩
theorem rd_one (w : World) (B x : Nat) (hB : B ≤ w.heap.size) (t : TypeId) : fi.Ib B (w.alloc (.cells #[.int .i64 (x : Int)] t)) w.heap.size 0 1 [x] := by
  refine ⟨hB, by simp, fun j hj => ?_, fun j hj => ?_, Nat.le_refl _, by unfold maxLen; omega⟩
  · obtain rfl : j = 0 := by simpa using hj
    simp [go_sem]
  · obtain rfl : j = 0 := by omega
    simp [go_sem]

set_option maxRecDepth 100000 in
set_option maxHeartbeats 16000000 in
theorem steps_any (a : Option Addr) (c : Nat) (us : List ty.Un) (fr tg : Nat) (w : World) (hb : ty.SrcUn none w a us) (hU : Ua us) (hf : fr < us.length) (ht : tg < us.length) :
    Calls Try.prog 28 #[.slice a us.length c, .int .i64 (fr : Int), .int .i64 (tg : Int)] w fun e w' => e = .returned (.int .i64 (oI (ds us fr tg))) ∧ Below w.heap.size w w' := by
  have hfew := hU.few
  have HIT : Hid (∀ (i : Nat) (u : ty.Un), us[i]? = some u → ∃ b o d1 e1 d2 e2, a = some ⟨b, o, none⟩ ∧ ∀ W, Below w.heap.size w W → (W.cell? ⟨b, o + i * 5, none⟩ = some (.string u.fName) ∧ W.cell? ⟨b, o + i * 5 + 1, none⟩ = some (.slice d1 u.fAfter.length e1) ∧ W.cell? ⟨b, o + i * 5 + 2, none⟩ = some (.slice d2 u.fNeeds.length e2) ∧ W.cell? ⟨b, o + i * 5 + 3, none⟩ = some (.string u.fExec) ∧ W.cell? ⟨b, o + i * 5 + 4, none⟩ = some (.bool u.fKeep)) ∧ ∀ t : ByteArray, Calls Try.prog 27 #[.slice a us.length c, .agg #[.string u.fName, .slice d1 u.fAfter.length e1, .slice d2 u.fNeeds.length e2, .string u.fExec, .bool u.fKeep], .string t] W fun e w' => e = .returned (.bool (wtB us u t.data.toList)) ∧ Below W.heap.size W w') := fun i u hu => by
    have hbb := hb
    rcases hb with h | ⟨b, o, e, _, hc⟩
    · rw [h.2] at hu; simp at hu
    obtain ⟨d1, e1, d2, e2, q0, q1, q2, q3, q4, s1, s2, _⟩ := hc i u hu
    refine ⟨b, o, d1, e1, d2, e2, e, fun W h => ?_⟩
    have k : ∀ {q r v}, w.cell? ⟨q, r, none⟩ = some v → W.cell? ⟨q, r, none⟩ = some v := fun {q r v} h' => (h.cell (p := ⟨q, r, none⟩) (World.block_lt_of_cell? _ _ h')).trans h'
    have sk : ∀ {d : Option Addr} {l : List ByteArray}, ty.SrcS none w d l → ty.SrcS none W d l := fun {d l} hs => hs.below h
    exact ⟨⟨k q0, k q1, k q2, k q3, k q4⟩, fun t => waits_any a c us u d1 e1 d2 e2 t W (hbb.below h) hU.toUs (sk s1) (sk s2) (hU.aft u (List.mem_of_getElem? hu)) (hU.nds u (List.mem_of_getElem? hu))⟩
  have HWT : Hid (∀ (u : ty.Un) (x i : Nat), us[x]? = some u → i < us.length → wtB us u (nAt us i) = decide (i ∈ ed us x)) := fun u x i hu hi => by rw [wtB_is hU.toUs hi, ed_some hu]
  have HDS : Hid (∀ (row : List Nat) (d : Nat → Option Nat), Bq (Rf us) fr row d row.length → row.length ≤ 200 → oI (d tg) = oI (ds us fr tg)) := fun row d h hr => by rw [h.fore (Nat.le_refl _) hr ht]
  obtain ⟨R, hR⟩ : ∃ R, oI (ds us fr tg) = R := ⟨_, rfl⟩
  rw [hR] at HDS ⊢
  have hmk := ty.makeN (P := Try.prog) 41 3 (.int .i64 0) 1 8 Try.underlying41 fi.infoI .i64 .i64 us.length (by omega) (by omega)
  rw [Nat.mul_one] at hmk
  obtain ⟨n, hn⟩ : ∃ n, us.length = n := ⟨_, rfl⟩
  have HN : Hid (us.length = n) := hn
  rw [hn] at hfew hf ht hmk HIT HWT ⊢
  obtain ⟨ML, hML⟩ : ∃ M, M = madeCells (Value.int .i64 0).cells n := ⟨_, rfl⟩
  rw [← hML] at hmk
  have HR0 : Hid ((w.alloc (.cells ML 3)).rowIs w.heap.size 3 n fun k => .int .i64 (if k < 0 then -1 else 0)) := ⟨_, fa.blk_new w _, by rw [hML]; simp [madeCells, Value.cells], fun i hi => by rw [hML]; simp [madeCells, hi, Nat.mod_one, Value.cells]⟩
  have HB0 : Hid (Below w.heap.size w (w.alloc (.cells ML 3))) := (Below.refl _ _).alloc (Nat.le_refl _) _
  have hf0 : (0 : Int) ≤ (fr : Int) := by omega
  have hf1 : (fr : Int) < (n : Int) := by omega
  have ht0 : (0 : Int) ≤ (tg : Int) := by omega
  have ht1 : (tg : Int) < (n : Int) := by omega
  clear hb hn hML hR
  go_enter Try.func28, Try.ntmps28
  go_wp2
  clear hmk
  go_loopw [8] (fun y wr => ∃ i : Nat, i ≤ n ∧ y = .int .i64 (i : Int) ∧ wr.rowIs w.heap.size 3 n (fun k => .int .i64 (if k < i then -1 else 0)) ∧ Below w.heap.size w wr) (fun y _ => n - (intOf y).toNat)
  case atStart => exact ⟨0, Nat.zero_le _, rfl, HR0.out, HB0.out⟩
  case round =>
    obtain ⟨i, hi, rfl, hrow, hbe⟩ := hrel
    have HRO := Lib.hid hrow
    have HBE := Lib.hid hbe
    clear hrow hbe HR0 HB0
    by_cases hil : i < n
    · have hil' : (i : Int) < (n : Int) := by omega
      have hi0 : (0 : Int) ≤ (i : Int) := by omega
      have hwi : IntKind.i64.wrap ((i : Int) + 1) = (i : Int) + 1 := by rw [IntKind.wrap_i64]; omega
      have cl : wr.cell? ⟨w.heap.size, i, none⟩ = some (.int .i64 0) := by have := HRO.out.cell hil; simpa using this
      have fl := HRO.out.frozen i
      have HR2 : Hid ((wr.setCell ⟨w.heap.size, i, none⟩ (.int .i64 (-1))).rowIs w.heap.size 3 n fun k => .int .i64 (if k < i + 1 then -1 else 0)) := (HRO.out.set i _).congr fun j hj => by
        by_cases e : j = i
        · rw [if_pos e, if_pos (by omega)]
        · rw [if_neg e]
          by_cases e2 : j < i
          · rw [if_pos e2, if_pos (by omega)]
          · rw [if_neg e2, if_neg (by omega)]
      have HB2 : Hid (Below w.heap.size w (wr.setCell ⟨w.heap.size, i, none⟩ (.int .i64 (-1)))) := HBE.out.setCell (p := ⟨w.heap.size, i, none⟩) (Nat.le_refl _) _
      go_wp2
      go_roundw
      case rel => exact ⟨i + 1, by omega, by go_num, HR2.out, HB2.out⟩
      case measure => (simp [intOf] <;> omega)
    · have hil' : ¬ (i : Int) < (n : Int) := by omega
      obtain rfl : n = i := by omega
      have cl : wr.cell? ⟨w.heap.size, fr, none⟩ = some (.int .i64 (-1)) := by have := HRO.out.cell hf; rw [if_pos hf] at this; exact this
      have fl := HRO.out.frozen fr
      have HR2 : Hid ((wr.setCell ⟨w.heap.size, fr, none⟩ (.int .i64 0)).rowIs w.heap.size 3 n fun k => .int .i64 (oI (upd (fun _ => none) fr 0 k))) := (HRO.out.set fr _).congr fun j hj => by
        by_cases e : j = fr
        · rw [if_pos e, e, upd_same]; rfl
        · rw [if_neg e, if_pos hj, upd_other _ e]; rfl
      have HB2 : Hid (Below w.heap.size w (wr.setCell ⟨w.heap.size, fr, none⟩ (.int .i64 0))) := HBE.out.setCell (p := ⟨w.heap.size, fr, none⟩) (Nat.le_refl _) _
      obtain ⟨W2, hW2⟩ : ∃ W, W = wr.setCell ⟨w.heap.size, fr, none⟩ (.int .i64 0) := ⟨_, rfl⟩
      rw [← hW2] at HR2 HB2
      have HS0 : Hid (SS us n w.heap.size fr w (W2.alloc (.cells #[.int .i64 (fr : Int)] 3)) (.slice (some ⟨W2.heap.size, 0, none⟩) 1 1) [fr] (upd (fun _ => none) fr 0) 0) := by
        refine ⟨Bq.zero _ fr, fun x hx => by rw [List.mem_singleton.1 hx]; exact hf, HR2.out.of_block (((Below.refl _ _).alloc (Nat.le_refl _) _ : Below W2.heap.size W2 _).block _ HR2.out.lt), ⟨W2.heap.size, 0, 1, rfl, rd_one W2 _ fr HB2.out.size _, ?_⟩, HB2.out.alloc HB2.out.size _⟩
        have := HR2.out.lt
        omega
      rw [hW2] at HS0
      clear HR2 HB2
      go_wp2
      clear cl fl hW2 HRO HBE
      go_loopw [9, 10, 11] (fun v y _ wr => ∃ (k : Nat) (row : List Nat) (d : Nat → Option Nat), k ≤ row.length ∧ y = .int .i64 (k : Int) ∧ SS us n w.heap.size fr w wr v row d k) (fun _ y _ _ => n - (intOf y).toNat)
      case atStart => exact ⟨0, [fr], upd (fun _ => none) fr 0, Nat.zero_le _, rfl, by have h := HS0.out; simp only [World.size_setCell] at h; exact h⟩
      case round =>
        obtain ⟨k, row, d, hk, rfl, hss⟩ := hrel
        have HSS := Lib.hid hss
        have hrl := hss.len
        obtain ⟨g, o, cap, rfl, hib, hgne⟩ := hss.ib
        have HIB := Lib.hid hib
        obtain ⟨rl, hrle⟩ : ∃ q, row.length = q := ⟨_, rfl⟩
        have HRL : Hid (row.length = rl) := hrle
        rw [hrle] at hk hrl ⊢
        clear hss hib HS0 hrle
        by_cases hkl : k < rl
        · have hkl' : (k : Int) < (rl : Int) := by omega
          have hk0 : (0 : Int) ≤ (k : Int) := by omega
          have hwk : IntKind.i64.wrap ((k : Int) + 1) = (k : Int) + 1 := by rw [IntKind.wrap_i64]; omega
          obtain ⟨x, hx⟩ : ∃ x, row[k]? = some x := ⟨_, List.getElem?_eq_getElem (by rw [HRL.out]; exact hkl)⟩
          obtain ⟨mx, hmx⟩ := (HSS.out.bq.iff x).1 (List.mem_of_getElem? hx)
          have hxn := HSS.out.lt x (List.mem_of_getElem? hx)
          have HX := Lib.hid hx
          have HMX := Lib.hid hmx
          obtain ⟨u, hu⟩ : ∃ u, us[x]? = some u := ⟨_, List.getElem?_eq_getElem (by rw [HN.out]; exact hxn)⟩
          obtain ⟨b, ob, d1, e1, d2, e2, rfl, hcu⟩ := HIT.out x u hu
          have HCU := Lib.hid hcu
          have HWU : Hid (∀ i, i < n → wtB us u (nAt us i) = decide (i ∈ ed us x)) := fun i hi => HWT.out u x i hu hi
          have hx0 : (0 : Int) ≤ (x : Int) := by omega
          have hxn' : (x : Int) < (n : Int) := by omega
          clear hx hmx hu hcu
          go_wp2
          go_loopw [9, 11] (fun v y wx => ∃ (i : Nat) (row : List Nat) (d : Nat → Option Nat), i ≤ n ∧ y = .int .i64 (i : Int) ∧ SS us n w.heap.size fr w wx v row d k ∧ row[k]? = some x ∧ d x = some mx ∧ ∀ z, z < i → z ∈ ed us x → ∃ m, d z = some m) (fun _ y _ => n - (intOf y).toNat)
          case atStart => exact ⟨0, row, d, Nat.zero_le _, rfl, by have h := HSS.out; exact ⟨h.bq, h.lt, h.dr, ⟨g, o, cap, by rw [HRL.out], HIB.out, hgne⟩, h.bel⟩, HX.out, HMX.out, fun z hz => absurd hz (Nat.not_lt_zero z)⟩
          case round =>
            obtain ⟨i, row, d, hi, rfl, hss, hx, hmx, hdn⟩ := hrel
            have HSS := Lib.hid hss
            have hrl := hss.len
            obtain ⟨g, o, cap, rfl, hib, hgne⟩ := hss.ib
            have HIB := Lib.hid hib
            have HX := Lib.hid hx
            have HMX := Lib.hid hmx
            have HDN := Lib.hid hdn
            have hkr : k < row.length := (List.getElem?_eq_some_iff.1 hx).1
            have ck : wr.cell? ⟨g, o + k, none⟩ = some (.int .i64 (x : Int)) := by
              have := hib.cells k hkr
              rw [(List.getElem?_eq_some_iff.1 hx).2] at this
              exact this
            have dx : wr.cell? ⟨w.heap.size, x, none⟩ = some (.int .i64 (mx : Int)) := by
              have := hss.dr.cell hxn
              simp only [hmx, oI_some] at this
              exact this
            obtain ⟨rl, hrle⟩ : ∃ q, row.length = q := ⟨_, rfl⟩
            have HRL2 : Hid (row.length = rl) := hrle
            rw [hrle] at hkr hrl ⊢
            have hkr' : (k : Int) < (rl : Int) := by omega
            have hmxr : mx < rl := by rw [← hrle]; exact hss.bq.le x mx hmx
            have HBE := Lib.hid hss.bel
            clear hss hib hx hmx hdn hrle
            by_cases hil : i < n
            · have hil' : (i : Int) < (n : Int) := by omega
              have hi0 : (0 : Int) ≤ (i : Int) := by omega
              have hwi : IntKind.i64.wrap ((i : Int) + 1) = (i : Int) + 1 := by rw [IntKind.wrap_i64]; omega
              have di : wr.cell? ⟨w.heap.size, i, none⟩ = some (.int .i64 (oI (d i))) := HSS.out.dr.cell hil
              cases hd : d i with
              | some m =>
                rw [hd, oI_some] at di
                have hm0 : ¬ (m : Int) < 0 := by omega
                have HS2 : Hid (SS us n w.heap.size fr w wr.drew (.slice (some ⟨g, o, none⟩) rl cap) row d k) := by
                  have h := HSS.out.below (Below.refl _ _).drew
                  rw [HRL2.out] at h
                  exact h
                have HD2 : Hid (∀ z, z < i + 1 → z ∈ ed us x → ∃ m, d z = some m) := fun z hz he => by
                  rcases Nat.lt_or_ge z i with h | h
                  · exact HDN.out z h he
                  · obtain rfl : z = i := by omega
                    exact ⟨m, hd⟩
                go_upto_region 14 with fail
                refine wp_region_held_drew (S := fun W => W.cell? ⟨w.heap.size, i, none⟩ = some (.int .i64 (m : Int))) (by kernel_rfl) di (fun hHeld => ?_)
                iterate 6 (refine un 21 rfl ?_; try simp only [aP, hm0])
                iterate 14 (refine sn 21 rfl ?_; try simp only [aP])
                iterate 1 (refine un 21 rfl ?_; try simp only [aP])
                refine dq ?_
                clear hHeld ck dx di
                go_wp2
                go_roundw
                case rel => exact ⟨i + 1, row, d, by omega, by go_num, HS2.out, HX.out, HMX.out, HD2.out⟩
                case measure => (simp [intOf] <;> omega)
              | none =>
                rw [hd, oI_none] at di
                obtain ⟨ui, hui⟩ : ∃ u, us[i]? = some u := ⟨_, List.getElem?_eq_getElem (by rw [HN.out]; exact hil)⟩
                obtain ⟨b', ob', _, _, _, _, hab, hci⟩ := HIT.out i ui hui
                cases hab
                have hBd : Below w.heap.size w wr.drew := HBE.out.drew
                obtain ⟨⟨q0, q1, q2, q3, q4⟩, hwc⟩ := HCU.out wr.drew hBd
                have qi := (hci wr.drew hBd).1.1
                have HWC := Lib.hid (hwc ui.fName)
                have hnm : ui.fName.data.toList = nAt us i := (nAt_some hui).symm
                rw [hnm, HWU.out i hil] at HWC
                have HSD : Hid (SS us n w.heap.size fr w wr.drew (.slice (some ⟨g, o, none⟩) rl cap) row d k) := by
                  have h := HSS.out.below (Below.refl _ _).drew
                  rw [HRL2.out] at h
                  exact h
                have HKP : Hid (∀ W, Below wr.drew.heap.size wr.drew W → W.cell? ⟨w.heap.size, i, none⟩ = some (.int .i64 (-1)) ∧ W.cell? ⟨g, o + k, none⟩ = some (.int .i64 (x : Int)) ∧ W.cell? ⟨b, ob + x * 5, none⟩ = some (.string u.fName) ∧ W.cell? ⟨b, ob + x * 5 + 1, none⟩ = some (.slice d1 u.fAfter.length e1) ∧ W.cell? ⟨b, ob + x * 5 + 2, none⟩ = some (.slice d2 u.fNeeds.length e2) ∧ W.cell? ⟨b, ob + x * 5 + 3, none⟩ = some (.string u.fExec) ∧ W.cell? ⟨b, ob + x * 5 + 4, none⟩ = some (.bool u.fKeep) ∧ W.cell? ⟨b, ob + i * 5, none⟩ = some (.string ui.fName)) := fun W h => by
                  have kk : ∀ {q r v}, wr.drew.cell? ⟨q, r, none⟩ = some v → W.cell? ⟨q, r, none⟩ = some v := fun {q r v} h' => (h.cell (p := ⟨q, r, none⟩) (World.block_lt_of_cell? _ _ h')).trans h'
                  exact ⟨kk di, kk ck, kk q0, kk q1, kk q2, kk q3, kk q4, kk qi⟩
                obtain ⟨P, hP⟩ : ∃ P, ui.fName = P := ⟨_, rfl⟩
                obtain ⟨pn, hpn⟩ : ∃ P, u.fName = P := ⟨_, rfl⟩
                obtain ⟨al, hal⟩ : ∃ q, u.fAfter.length = q := ⟨_, rfl⟩
                obtain ⟨nl, hnl⟩ : ∃ q, u.fNeeds.length = q := ⟨_, rfl⟩
                obtain ⟨xe, hxe⟩ : ∃ q, u.fExec = q := ⟨_, rfl⟩
                obtain ⟨kp, hkp⟩ : ∃ q, u.fKeep = q := ⟨_, rfl⟩
                rw [hP, hpn, hal, hnl, hxe, hkp] at HKP HWC
                have hS0 := HKP.out wr.drew (Below.refl _ _)
                have hwm : IntKind.i64.wrap ((mx : Int) + 1) = (mx : Int) + 1 := by rw [IntKind.wrap_i64]; omega
                have HD := Lib.hid hd
                clear q0 q1 q2 q3 q4 qi hwc hci hnm hP hpn hal hnl hxe hkp di ck dx hui hd hBd
                go_upto_region 14 with fail
                refine wp_region_held_drew (S := fun W => W.cell? ⟨w.heap.size, i, none⟩ = some (.int .i64 (-1)) ∧ W.cell? ⟨g, o + k, none⟩ = some (.int .i64 (x : Int)) ∧ W.cell? ⟨b, ob + x * 5, none⟩ = some (.string pn) ∧ W.cell? ⟨b, ob + x * 5 + 1, none⟩ = some (.slice d1 al e1) ∧ W.cell? ⟨b, ob + x * 5 + 2, none⟩ = some (.slice d2 nl e2) ∧ W.cell? ⟨b, ob + x * 5 + 3, none⟩ = some (.string xe) ∧ W.cell? ⟨b, ob + x * 5 + 4, none⟩ = some (.bool kp) ∧ W.cell? ⟨b, ob + i * 5, none⟩ = some (.string P)) (by kernel_rfl) hS0 (fun hHeld => ?_)
                clear hS0
                iterate 19 (refine un 21 rfl ?_; try simp only [aP])
                refine rq 19 rfl fun K hK => ?_
                go_simp
                (go_at_call 27; refine HWC.out.mono ?_; rintro e w2 ⟨rfl, hl2⟩)
                try go_wp2_with fail
                have HB2 := Lib.hid hl2
                refine hK.out _ _ (HKP.out w2 HB2.out) (fun hHeld2 => ?_)
                clear hK K hl2 hHeld
                try simp only [aP]
                have HS2 := Lib.hid (HSD.out.below HB2.out)
                cases he : decide (i ∈ ed us x) with
                | false =>
                  refine un 21 rfl ?_
                  try simp only [aP]
                  refine dq ?_
                  have HD2 : Hid (∀ z, z < i + 1 → z ∈ ed us x → ∃ m, d z = some m) := fun z hz hze => by
                    rcases Nat.lt_or_ge z i with h | h
                    · exact HDN.out z h hze
                    · obtain rfl : z = i := by omega
                      exact absurd hze (of_decide_eq_false he)
                  clear hHeld2
                  go_wp2
                  go_roundw
                  case rel => exact ⟨i + 1, row, d, by omega, by go_num, HS2.out, HX.out, HMX.out, HD2.out⟩
                  case measure => (simp [intOf] <;> omega)
                | true =>
                  refine un 21 rfl ?_
                  try simp only [aP]
                  refine dq ?_
                  have HIE := Lib.hid (of_decide_eq_true he)
                  have ck2 : w2.cell? ⟨g, o + k, none⟩ = some (.int .i64 (x : Int)) := hHeld2.2.1
                  have di2 : w2.cell? ⟨w.heap.size, i, none⟩ = some (.int .i64 (-1)) := hHeld2.1
                  have fi2 := HS2.out.dr.frozen i
                  have dx2 : w2.cell? ⟨w.heap.size, x, none⟩ = some (.int .i64 (mx : Int)) := by
                    have := HS2.out.dr.cell hxn
                    simp only [HMX.out, oI_some] at this
                    exact this
                  have HDR : Hid ((w2.setCell ⟨w.heap.size, i, none⟩ (.int .i64 ((mx : Int) + 1))).rowIs w.heap.size 3 n fun j => .int .i64 (oI (upd d i (mx + 1) j))) := (HS2.out.dr.set i _).congr fun j hj => by
                    by_cases e : j = i
                    · rw [if_pos e, e, upd_same, oI_some]; simp
                    · rw [if_neg e, upd_other _ e]
                  have HB3 : Hid (Below w.heap.size w (w2.setCell ⟨w.heap.size, i, none⟩ (.int .i64 ((mx : Int) + 1)))) := HS2.out.bel.setCell (p := ⟨w.heap.size, i, none⟩) (Nat.le_refl _) _
                  have HI3 : Hid (fi.Ib w.heap.size (w2.setCell ⟨w.heap.size, i, none⟩ (.int .i64 ((mx : Int) + 1))) g o cap row) := (HIB.out.below ((Below.refl _ _).drew.trans (HB2.out.mono (by simp)))).kept (by simp) (ty.blk_oth hgne)
                  have HNB : Hid (Bq (Rf us) fr (row ++ [i]) (upd d i (mx + 1)) k) := HSS.out.bq.add HX.out HMX.out ⟨HIE.out, by rw [HN.out]; exact hil⟩ HD.out
                  have HXN : Hid (x ≠ i) := fun e => by have h := HMX.out; rw [e, HD.out] at h; cases h
                  clear hHeld2 he
                  obtain ⟨W3, hW3⟩ : ∃ W, W = w2.setCell ⟨w.heap.size, i, none⟩ (.int .i64 ((mx : Int) + 1)) := ⟨_, rfl⟩
                  have HW3 := Lib.hid hW3
                  clear hW3
                  go_upto_region 16 with fail
                  rw [← HW3.out] at HDR HB3 HI3 ⊢
                  clear ck2 di2 fi2 dx2
                  have HA3 : Hid (Below W3.heap.size W3 (W3.alloc (.cells #[.int .i64 (i : Int)] 3))) := (Below.refl _ _).alloc (Nat.le_refl _) _
                  have HI4 := Lib.hid (HI3.out.below HA3.out)
                  have HB4 := Lib.hid (HB3.out.trans (HA3.out.mono HB3.out.size))
                  have HD4 : Hid ((W3.alloc (.cells #[.int .i64 (i : Int)] 3)).rowIs w.heap.size 3 n fun j => .int .i64 (oI (upd d i (mx + 1) j))) := HDR.out.of_block (HA3.out.block _ HDR.out.lt)
                  rw [← HRL2.out]
                  go_wp2_with (at_builtin; refine app_one (base := w.heap.size) (l := row) (m := [i]) (ad := ⟨W3.heap.size, 0, none⟩) (c := 1) (g := g) («of» := o) (cap := cap) rfl _ _ rfl rfl rfl HI4.out HB4.out.size (new_one W3 i) (by have := HRL2.out; simp; omega) ?_; intro g4 o4 cap4 w4 hA4; refine Hid.out ?_)
                  refine Lib.hid ?_
                  have hg4 : g4 ≠ w.heap.size := by
                    rcases hA4.here with e | e
                    · rw [e]; exact hgne
                    · have := HD4.out.lt; omega
                  have HS4 : Hid (SS us n w.heap.size fr w w4 (.slice (some ⟨g4, o4, none⟩) (row ++ [i]).length cap4) (row ++ [i]) (upd d i (mx + 1)) k) := ⟨HNB.out, fun z hz => by
                    rcases List.mem_append.1 hz with h | h
                    · exact HSS.out.lt z h
                    · rw [List.mem_singleton.1 h]; exact hil, HD4.out.of_block (hA4.grown.block _ HD4.out.lt fun e => hgne (Option.some.inj e).symm), ⟨g4, o4, cap4, rfl, hA4.ib, hg4⟩, HB4.out.trans (hA4.bel HI4.out.new HB4.out.size)⟩
                  have HX4 : Hid ((row ++ [i])[k]? = some x) := by show _ = _; rw [List.getElem?_append_left (by rw [HRL2.out]; exact hkr)]; exact HX.out
                  have HM4 : Hid (upd d i (mx + 1) x = some mx) := by show _ = _; rw [upd_other _ HXN.out]; exact HMX.out
                  have HD5 : Hid (∀ z, z < i + 1 → z ∈ ed us x → ∃ m, upd d i (mx + 1) z = some m) := fun z hz hze => by
                    by_cases e : z = i
                    · rw [e, upd_same]; exact ⟨_, rfl⟩
                    · rw [upd_other _ e]; exact HDN.out z (by omega) hze
                  clear hA4
                  go_wp2
                  go_roundw
                  case rel => exact ⟨i + 1, row ++ [i], upd d i (mx + 1), by omega, by go_num, by first | exact HS4.out | simpa using HS4.out, HX4.out, HM4.out, HD5.out⟩
                  case measure => (simp [intOf] <;> omega)
            · have hil' : ¬ (i : Int) < (n : Int) := by omega
              have HNX : Hid (SS us n w.heap.size fr w wr (.slice (some ⟨g, o, none⟩) rl cap) row d (k + 1)) := by
                have h := HSS.out
                refine ⟨h.bq.next HX.out fun y hy => HDN.out y ?_ hy.1, h.lt, h.dr, ⟨g, o, cap, by rw [HRL2.out], HIB.out, hgne⟩, h.bel⟩
                have := hy.2
                rw [HN.out] at this
                omega
              clear ck dx
              go_wp2
              go_roundw
              case rel => exact ⟨k + 1, row, d, by rw [HRL2.out]; omega, by go_num, HNX.out⟩
              case measure => (simp [intOf] <;> omega)
        · have hkl' : ¬ (k : Int) < (rl : Int) := by omega
          obtain rfl : rl = k := by omega
          have cl : wr.cell? ⟨w.heap.size, tg, none⟩ = some (.int .i64 (oI (d tg))) := HSS.out.dr.cell ht
          have HE : Hid (oI (d tg) = R) := by
            refine HDS.out row d ?_ (by have := HSS.out.len; have := HN.out; omega)
            rw [HRL.out]
            exact HSS.out.bq
          have HBE := Lib.hid HSS.out.bel
          rw [HE.out] at cl
          go_wp2
          go_ret
          exact ⟨rfl, HBE.out⟩
end Go.Proofs.Ytajpfidgepebgaa.cy

namespace Go.Proofs.Ytajpfidgepebgaa.cy
open Go.ChangeShapes Go.WideShapes Go.ChangeAt Go.RowKit Go.Deep Go.Maps
open fa (Us uNo nmL nds aw aws aw_mem aw_len aw_le aw_asc nAt nAt_some uNo_yes uNo_get uNo_le)
open fw (Ua ua_of)
set_option linter.unusedVariables false
set_option linter.unusedSimpArgs false

/-! ### spec.l18Round -/

/-- Of the first i, the shortest way back so far; 0: none. -/
def Bs (us : List ty.Un) (s i best : Nat) : Prop := (best = 0 ∧ ∀ j, j ∈ ed us s → j < i → ds us j s = none) ∨ ∃ q, best = q + 1 ∧ (∃ j, j ∈ ed us s ∧ j < i ∧ ds us j s = some q) ∧ ∀ j, j ∈ ed us s → j < i → ∀ q', ds us j s = some q' → q ≤ q'
theorem Bs.zero (us : List ty.Un) (s : Nat) : Bs us s 0 0 := .inl ⟨rfl, fun j _ h => absurd h (Nat.not_lt_zero j)⟩
theorem Bs.pass {us : List ty.Un} {s i best : Nat} (h : Bs us s i best) (hn : i ∈ ed us s → ds us i s = none ∨ ∃ q, ds us i s = some q ∧ 0 < best ∧ best ≤ q + 1) : Bs us s (i + 1) best := by
  rcases h with ⟨h1, h2⟩ | ⟨q, h1, ⟨j, j1, j2, j3⟩, h3⟩
  · refine .inl ⟨h1, fun j hj hl => ?_⟩
    rcases Nat.lt_or_ge j i with k | k
    · exact h2 j hj k
    · obtain rfl : j = i := by omega
      rcases hn hj with e | ⟨q, _, e, _⟩
      · exact e
      · omega
  · refine .inr ⟨q, h1, ⟨j, j1, by omega, j3⟩, fun j' hj hl q' hq => ?_⟩
    rcases Nat.lt_or_ge j' i with k | k
    · exact h3 j' hj k q' hq
    · obtain rfl : j' = i := by omega
      rcases hn hj with e | ⟨r, e, _, e2⟩
      · rw [e] at hq; cases hq
      · rw [e] at hq; cases hq; omega
theorem Bs.take {us : List ty.Un} {s i best q : Nat} (h : Bs us s i best) (hi : i ∈ ed us s) (hq : ds us i s = some q) (hb : best = 0 ∨ q + 1 < best) : Bs us s (i + 1) (q + 1) := by
  refine .inr ⟨q, rfl, ⟨i, hi, Nat.lt_succ_self i, hq⟩, fun j hj hl q' hq' => ?_⟩
  rcases Nat.lt_or_ge j i with k | k
  · rcases h with ⟨h1, h2⟩ | ⟨r, h1, _, h3⟩
    · rw [h2 j hj k] at hq'; cases hq'
    · have := h3 j hj k q' hq'
      omega
  · obtain rfl : j = i := by omega
    rw [hq] at hq'
    cases hq'
    exact Nat.le_refl _
theorem Bs.done {us : List ty.Un} {s best : Nat} (hs : s < us.length) (h : Bs us s us.length best) : best = rd us s := by
  rcases h with ⟨h1, h2⟩ | ⟨q, h1, ⟨j, j1, j2, j3⟩, h3⟩
  · rw [h1, rd_zero]
    intro j hj
    cases hd : ds us j s with
    | none => rfl
    | some q => rw [h2 j hj (ds_lt hd hs)] at hd; cases hd
  · rw [h1, rd_is]
    exact ⟨⟨j, j1, j3⟩, fun j' hj' q' hq' => h3 j' hj' (ds_lt hq' hs) q' hq'⟩
theorem Bs.le {us : List ty.Un} {s i best : Nat} (h : Bs us s i best) : best ≤ 200 := by
  rcases h with ⟨h1, _⟩ | ⟨q, h1, ⟨j, _, _, j3⟩, _⟩
  · omega
  · have := (ds_yes j3).2.2; omega

set_option maxRecDepth 100000 in
set_option maxHeartbeats 16000000 in
theorem round_any (a : Option Addr) (c : Nat) (us : List ty.Un) (s : Nat) (w : World) (hb : ty.SrcUn none w a us) (hU : Ua us) (hs : s < us.length) :
    Calls Try.prog 26 #[.slice a us.length c, .int .i64 (s : Int)] w fun e w' => e = .returned (.int .i64 (rd us s : Int)) ∧ Below w.heap.size w w' := by
  have hfew := hU.few
  obtain ⟨u, hu⟩ : ∃ u, us[s]? = some u := ⟨_, List.getElem?_eq_getElem hs⟩
  have HWT : Hid (∀ i, i < us.length → wtB us u (nAt us i) = decide (i ∈ ed us s)) := fun i hi => by rw [wtB_is hU.toUs hi, ed_some hu]
  have HST : Hid (∀ (i : Nat) (W : World), i < us.length → Below w.heap.size w W → Calls Try.prog 28 #[.slice a us.length c, .int .i64 (i : Int), .int .i64 (s : Int)] W fun e w' => e = .returned (.int .i64 (oI (ds us i s))) ∧ Below W.heap.size W w') := fun i W hi h => steps_any a c us i s W (hb.below h) hU hi hs
  have HDL : Hid (∀ i m, ds us i s = some m → m < 200) := fun i m h => (ds_yes h).2.2
  have HDO : Hid (∀ best, Bs us s us.length best → best = rd us s) := fun best h => h.done hs
  have HNM : Hid (∀ (i : Nat) (x : ty.Un), us[i]? = some x → nAt us i = x.fName.data.toList) := fun i x h => nAt_some h
  obtain ⟨b, o, d1, e1, d2, e2, rfl, hcu, hci⟩ : ∃ b o d1 e1 d2 e2, a = some ⟨b, o, none⟩ ∧ (∀ W, Below w.heap.size w W → (W.cell? ⟨b, o + s * 5, none⟩ = some (.string u.fName) ∧ W.cell? ⟨b, o + s * 5 + 1, none⟩ = some (.slice d1 u.fAfter.length e1) ∧ W.cell? ⟨b, o + s * 5 + 2, none⟩ = some (.slice d2 u.fNeeds.length e2) ∧ W.cell? ⟨b, o + s * 5 + 3, none⟩ = some (.string u.fExec) ∧ W.cell? ⟨b, o + s * 5 + 4, none⟩ = some (.bool u.fKeep)) ∧ ∀ t : ByteArray, Calls Try.prog 27 #[.slice a us.length c, .agg #[.string u.fName, .slice d1 u.fAfter.length e1, .slice d2 u.fNeeds.length e2, .string u.fExec, .bool u.fKeep], .string t] W fun e w' => e = .returned (.bool (wtB us u t.data.toList)) ∧ Below W.heap.size W w') ∧ ∀ (i : Nat) (x : ty.Un), us[i]? = some x → ∀ W, Below w.heap.size w W → W.cell? ⟨b, o + i * 5, none⟩ = some (.string x.fName) := by
    have hbb := hb
    rcases hb with h | ⟨b, o, e, _, hc⟩
    · rw [h.2] at hu; simp at hu
    obtain ⟨d1, e1, d2, e2, q0, q1, q2, q3, q4, s1, s2, _⟩ := hc s u hu
    refine ⟨b, o, d1, e1, d2, e2, e, fun W h => ?_, fun i x hx W h => ?_⟩
    · have k : ∀ {q r v}, w.cell? ⟨q, r, none⟩ = some v → W.cell? ⟨q, r, none⟩ = some v := fun {q r v} h' => (h.cell (p := ⟨q, r, none⟩) (World.block_lt_of_cell? _ _ h')).trans h'
      exact ⟨⟨k q0, k q1, k q2, k q3, k q4⟩, fun t => waits_any a c us u d1 e1 d2 e2 t W (hbb.below h) hU.toUs (s1.below h) (s2.below h) (hU.aft u (List.mem_of_getElem? hu)) (hU.nds u (List.mem_of_getElem? hu))⟩
    · obtain ⟨_, _, _, _, q0, _⟩ := hc i x hx
      exact (h.cell (p := ⟨b, o + i * 5, none⟩) (World.block_lt_of_cell? _ _ q0)).trans q0
  have HCU := Lib.hid hcu
  have HCI := Lib.hid hci
  obtain ⟨R, hR⟩ : ∃ R, rd us s = R := ⟨_, rfl⟩
  rw [hR] at HDO ⊢
  obtain ⟨n, hn⟩ : ∃ n, us.length = n := ⟨_, rfl⟩
  have HN : Hid (us.length = n) := hn
  rw [hn] at hfew hs HWT HST HDO HCU ⊢
  obtain ⟨pn, hpn⟩ : ∃ P, u.fName = P := ⟨_, rfl⟩
  obtain ⟨al, hal⟩ : ∃ q, u.fAfter.length = q := ⟨_, rfl⟩
  obtain ⟨nl, hnl⟩ : ∃ q, u.fNeeds.length = q := ⟨_, rfl⟩
  obtain ⟨xe, hxe⟩ : ∃ q, u.fExec = q := ⟨_, rfl⟩
  obtain ⟨kp, hkp⟩ : ∃ q, u.fKeep = q := ⟨_, rfl⟩
  rw [hpn, hal, hnl, hxe, hkp] at HCU
  have hs0 : (0 : Int) ≤ (s : Int) := by omega
  have hsn : (s : Int) < (n : Int) := by omega
  clear hb hu hcu hci hn hR hpn hal hnl hxe hkp
  go_enter Try.func26, Try.ntmps26
  go_wp2
  go_loopw [5, 6, 7] (fun v y _ wr => ∃ (i best : Nat), i ≤ n ∧ y = .int .i64 (i : Int) ∧ v = .int .i64 (best : Int) ∧ Bs us s i best ∧ Below w.heap.size w wr) (fun _ y _ _ => n - (intOf y).toNat)
  case atStart => exact ⟨0, 0, Nat.zero_le _, rfl, rfl, Bs.zero us s, Below.refl _ _⟩
  case round =>
    obtain ⟨i, best, hi, rfl, rfl, hbs, hbe⟩ := hrel
    have HBS := Lib.hid hbs
    have HBE := Lib.hid hbe
    have hbl := hbs.le
    clear hbs hbe
    by_cases hil : i < n
    · have hil' : (i : Int) < (n : Int) := by omega
      have hi0 : (0 : Int) ≤ (i : Int) := by omega
      have hwi : IntKind.i64.wrap ((i : Int) + 1) = (i : Int) + 1 := by rw [IntKind.wrap_i64]; omega
      obtain ⟨x, hx⟩ : ∃ x, us[i]? = some x := ⟨_, List.getElem?_eq_getElem (by rw [HN.out]; exact hil)⟩
      have hBd : Below w.heap.size w wr.drew := HBE.out.drew
      obtain ⟨⟨q0, q1, q2, q3, q4⟩, hwc⟩ := HCU.out wr.drew hBd
      have qi := HCI.out i x hx wr.drew hBd
      have HWC := Lib.hid (hwc x.fName)
      rw [← HNM.out i x hx, HWT.out i hil] at HWC
      obtain ⟨P, hP⟩ : ∃ P, x.fName = P := ⟨_, rfl⟩
      rw [hP] at qi HWC
      have HKP : Hid (∀ W, Below wr.drew.heap.size wr.drew W → W.cell? ⟨b, o + s * 5, none⟩ = some (.string pn) ∧ W.cell? ⟨b, o + s * 5 + 1, none⟩ = some (.slice d1 al e1) ∧ W.cell? ⟨b, o + s * 5 + 2, none⟩ = some (.slice d2 nl e2) ∧ W.cell? ⟨b, o + s * 5 + 3, none⟩ = some (.string xe) ∧ W.cell? ⟨b, o + s * 5 + 4, none⟩ = some (.bool kp) ∧ W.cell? ⟨b, o + i * 5, none⟩ = some (.string P)) := fun W h => by
        have kk : ∀ {q r v}, wr.drew.cell? ⟨q, r, none⟩ = some v → W.cell? ⟨q, r, none⟩ = some v := fun {q r v} h' => (h.cell (p := ⟨q, r, none⟩) (World.block_lt_of_cell? _ _ h')).trans h'
        exact ⟨kk q0, kk q1, kk q2, kk q3, kk q4, kk qi⟩
      have hS0 := HKP.out wr.drew (Below.refl _ _)
      have HBD := Lib.hid hBd
      clear q0 q1 q2 q3 q4 qi hwc hP hx hBd
      go_upto_region 5 with fail
      refine wp_region_held_drew (S := fun W => W.cell? ⟨b, o + s * 5, none⟩ = some (.string pn) ∧ W.cell? ⟨b, o + s * 5 + 1, none⟩ = some (.slice d1 al e1) ∧ W.cell? ⟨b, o + s * 5 + 2, none⟩ = some (.slice d2 nl e2) ∧ W.cell? ⟨b, o + s * 5 + 3, none⟩ = some (.string xe) ∧ W.cell? ⟨b, o + s * 5 + 4, none⟩ = some (.bool kp) ∧ W.cell? ⟨b, o + i * 5, none⟩ = some (.string P)) (by kernel_rfl) hS0 (fun hHeld => ?_)
      clear hS0
      iterate 10 (refine un 11 rfl ?_; try simp only [aP])
      refine rq 10 rfl fun K hK => ?_
      go_simp
      (go_at_call 27; refine HWC.out.mono ?_; rintro e w2 ⟨rfl, hl2⟩)
      try go_wp2_with fail
      have HB2 := Lib.hid (HBD.out.trans (hl2.mono HBD.out.size))
      refine hK.out _ _ (HKP.out w2 hl2) (fun hHeld2 => ?_)
      clear hK K hl2 hHeld
      try simp only [aP]
      refine dq ?_
      clear hHeld2
      cases he : decide (i ∈ ed us s) with
      | false =>
        have HB3 := Lib.hid (HBS.out.pass fun h => absurd h (of_decide_eq_false he))
        clear he
        go_wp2
        go_roundw
        case rel => exact ⟨i + 1, best, by omega, by go_num, rfl, HB3.out, HB2.out⟩
        case measure => (simp [intOf] <;> omega)
      | true =>
        have HIE := Lib.hid (of_decide_eq_true he)
        have HC3 := Lib.hid (HST.out i w2 hil HB2.out)
        clear he
        cases hd : ds us i s with
        | none =>
          rw [hd, oI_none] at HC3
          have HB3 := Lib.hid (HBS.out.pass fun _ => .inl hd)
          clear hd
          go_wp2_with (go_at_call 28; refine HC3.out.mono ?_; rintro e w3 ⟨rfl, hl3⟩)
          go_roundw
          case rel => exact ⟨i + 1, best, by omega, by go_num, rfl, HB3.out, HB2.out.trans (hl3.mono HB2.out.size)⟩
          case measure => (simp [intOf] <;> omega)
        | some q =>
          rw [hd, oI_some] at HC3
          have hq := HDL.out i q hd
          have hq0 : (0 : Int) ≤ (q : Int) := by omega
          have hwq : IntKind.i64.wrap ((q : Int) + 1) = (q : Int) + 1 := by rw [IntKind.wrap_i64]; omega
          by_cases hb0 : best = 0
          · have HB3 := Lib.hid (HBS.out.take HIE.out hd (.inl hb0))
            subst hb0
            clear hd
            go_wp2_with (go_at_call 28; refine HC3.out.mono ?_; rintro e w3 ⟨rfl, hl3⟩)
            go_roundw
            case rel => exact ⟨i + 1, q + 1, by omega, by go_num, by go_num, HB3.out, HB2.out.trans (hl3.mono HB2.out.size)⟩
            case measure => (simp [intOf] <;> omega)
          · have hbi : ¬ (best : Int) = 0 := by omega
            by_cases hlt : q + 1 < best
            · have hlt' : (q : Int) + 1 < (best : Int) := by omega
              have HB3 := Lib.hid (HBS.out.take HIE.out hd (.inr hlt))
              clear hd
              go_wp2_with (go_at_call 28; refine HC3.out.mono ?_; rintro e w3 ⟨rfl, hl3⟩)
              go_roundw
              case rel => exact ⟨i + 1, q + 1, by omega, by go_num, by go_num, HB3.out, HB2.out.trans (hl3.mono HB2.out.size)⟩
              case measure => (simp [intOf] <;> omega)
            · have hlt' : ¬ (q : Int) + 1 < (best : Int) := by omega
              have hlt2 : decide ((q : Int) + 1 < (best : Int)) = false := decide_eq_false hlt'
              have hbi2 : ((best : Int) == 0) = false := by simpa using hbi
              have HB3 := Lib.hid (HBS.out.pass fun _ => .inr ⟨q, hd, by omega, by omega⟩)
              clear hd
              go_wp2_with (go_at_call 28; refine HC3.out.mono ?_; rintro e w3 ⟨rfl, hl3⟩)
              go_roundw
              case rel => exact ⟨i + 1, best, by omega, by go_num, rfl, HB3.out, HB2.out.trans (hl3.mono HB2.out.size)⟩
              case measure => (simp [intOf] <;> omega)
    · have hil' : ¬ (i : Int) < (n : Int) := by omega
      obtain rfl : n = i := by omega
      have HE := Lib.hid (HDO.out best HBS.out)
      go_wp2
      go_ret
      exact ⟨by rw [HE.out]; rfl, HBE.out⟩
end Go.Proofs.Ytajpfidgepebgaa.cy

namespace Go.Proofs.Ytajpfidgepebgaa.cy
open Go.ChangeShapes Go.WideShapes Go.ChangeAt Go.RowKit Go.Deep Go.Maps
open fa (Us uNo nmL nds aw aws aw_mem aw_len aw_le aw_asc nAt nAt_some uNo_yes uNo_get uNo_le)
open fw (Ua ua_of)
open hp (ownS_below own_str bA)
set_option linter.unusedVariables false
set_option linter.unusedSimpArgs false

/-! ### spec.Cycle -/

def stV (us : List ty.Un) (k : Nat) : Int := if (sc us k).1 = 0 then -1 else ((sc us k).2 : Int)
theorem sc_yes {us : List ty.Un} {k : Nat} (h : 0 < rd us k ∧ ((sc us k).1 = 0 ∨ rd us k < (sc us k).1)) : (sc us (k + 1)).1 = rd us k ∧ stV us (k + 1) = (k : Int) := by
  have e : sc us (k + 1) = (rd us k, k) := by show (if _ then _ else _) = _; rw [if_pos h]
  unfold stV
  rw [e]
  exact ⟨rfl, if_neg (by show ¬ rd us k = 0; omega)⟩
theorem sc_no {us : List ty.Un} {k : Nat} (h : ¬ (0 < rd us k ∧ ((sc us k).1 = 0 ∨ rd us k < (sc us k).1))) : (sc us (k + 1)).1 = (sc us k).1 ∧ stV us (k + 1) = stV us k := by
  have e : sc us (k + 1) = sc us k := by show (if _ then _ else _) = _; rw [if_neg h]
  unfold stV
  rw [e]
  exact ⟨rfl, rfl⟩
theorem rd_le (us : List ty.Un) (s : Nat) : rd us s ≤ 200 := by
  cases h : rd us s with
  | zero => omega
  | succ r => have := (rd_some h).2; omega
theorem sc_le (us : List ty.Un) : ∀ k, (sc us k).1 ≤ 200
  | 0 => Nat.zero_le _
  | k + 1 => by
    have e : sc us (k + 1) = if 0 < rd us k ∧ ((sc us k).1 = 0 ∨ rd us k < (sc us k).1) then (rd us k, k) else sc us k := rfl
    rw [e]
    split
    · exact rd_le us k
    · exact sc_le us k
/-- Where the walk along the ring stands. -/
def At (us : List ty.Un) (s m c at' : Nat) : Prop := (chn us s m s).drop c = chn us s (m - c) at' ∧ Mn us s at' (m - c - 1) ∧ at' < us.length
theorem at_first {us : List ty.Un} {k : Nat} (hk : k ≤ us.length) (h : 0 < (sc us k).1) : At us (sc us k).2 (sc us k).1 0 (sc us k).2 := by
  rcases sc_is us k with e | ⟨h1, h2⟩
  · omega
  · refine ⟨rfl, ?_, by omega⟩
    cases hm : (sc us k).1 with
    | zero => omega
    | succ r => rw [hm] at h2; exact (rd_some h2).1
theorem at_get {us : List ty.Un} {s m c at' : Nat} (h : At us s m c at') (hc : c < m) : (chn us s m s)[c]? = some at' := by
  have h1 := h.1
  obtain ⟨r, hr⟩ : ∃ r, m - c = r + 1 := ⟨m - c - 1, by omega⟩
  rw [hr] at h1
  have := congrArg (fun l : List Nat => l[0]?) h1
  simp only [List.getElem?_drop] at this
  simpa [chn] using this
theorem at_next {us : List ty.Un} {s m c at' : Nat} (hs : s < us.length) (h : At us s m c at') (hc : c + 1 < m) : At us s m (c + 1) (nx us s at' (m - c - 1)) := by
  obtain ⟨h1, h2, h3⟩ := h
  obtain ⟨r, hr⟩ : ∃ r, m - c = r + 1 + 1 := ⟨m - c - 2, by omega⟩
  have e1 : m - c - 1 = r + 1 := by omega
  have e2 : m - (c + 1) = r + 1 := by omega
  rw [e1] at h2 ⊢
  obtain ⟨n1, n2⟩ := nx_is h2
  refine ⟨?_, ?_, ds_lt n2 hs⟩
  · rw [hr] at h1
    rw [e2, ← List.drop_drop, h1]
    rfl
  · rw [e2]
    exact mn_step n2

end Go.Proofs.Ytajpfidgepebgaa.cy
