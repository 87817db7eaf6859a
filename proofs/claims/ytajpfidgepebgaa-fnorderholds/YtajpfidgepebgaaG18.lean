import Derived.Test.YtajpfidgepebgaaG17
import Derived.Test.YtajpfidgepebgaaG13
import Derived.Deep.LoopGhost
import Derived.Test.YtajpfidgepebgaaG15
namespace Go.Proofs.Ytajpfidgepebgaa.cy
open Go.ChangeShapes Go.WideShapes Go.ChangeAt Go.RowKit Go.Deep Go.Maps
open fa (Us uNo nmL nds aw aw_le nodup_lenN BhV fX app_one new_one rdn_own RdN)
open fw (Ua ua_of bhL bhL_mem bhL_len)
set_option linter.unusedVariables false
set_option linter.unusedSimpArgs false

/-! ### (web).stepsTo -/

def sV (d : Nat → Option Nat) (i : Nat) : Value := .int .i64 (((d i).getD nw : Nat) : Int)
theorem sV_none {d : Nat → Option Nat} {i : Nat} (h : d i = none) : sV d i = .int .i64 9223372036854775807 := by unfold sV; rw [h]; rfl
theorem sV_some {d : Nat → Option Nat} {i m : Nat} (h : d i = some m) : sV d i = .int .i64 (m : Int) := by unfold sV; rw [h]; rfl
theorem bq_lt {us : List ty.Un} {t : Nat} {row : List Nat} {d : Nat → Option Nat} {k : Nat} (h : Bq (Rb us) t row d k) (ht : t < us.length) {x : Nat} (hx : x ∈ row) : x < us.length := by
  obtain ⟨m, hm⟩ := (h.iff x).1 hx
  have := h.snd x m hm
  cases m with
  | zero => rw [show x = t from this]; exact ht
  | succ m => obtain ⟨z, _, hz⟩ := this; exact ed_lt hz
theorem bq_len {us : List ty.Un} {t : Nat} {row : List Nat} {d : Nat → Option Nat} {k : Nat} (h : Bq (Rb us) t row d k) (ht : t < us.length) : row.length ≤ us.length := by
  have := nodup_lenN (L := List.range us.length) h.nod fun x hx => List.mem_range.2 (bq_lt h ht hx)
  rwa [List.length_range] at this

theorem two_newI (w : World) (n : Nat) : fi.Ib w.heap.size (w.alloc (.cells #[.int .i64 (n : Int)] 3)) w.heap.size 0 1 [n] :=
  ⟨Nat.le_refl _, by simp, fun j hj => by
    match j, hj with
    | 0, _ => simp [World.cell?_alloc_new], fun j hj => by
    match j, hj with
    | 0, _ => exact ⟨by simp [World.cell?_alloc_new], by simp [go_sem]⟩, Nat.le_refl _, by unfold maxLen; omega⟩

/-- What lies about while steps are counted. -/
structure SpS (us : List ty.Un) (n t : Nat) (w : World) (A U g : Nat) (W : World) (wg o cap : Nat) (Wk row : List Nat) (d : Nat → Option Nat) (k : Nat) : Prop where
  ib : fi.Ib w.heap.size W wg o cap Wk
  wk : row.drop k = Wk
  st : W.rowIs g 3 (n + 1) (sV d)
  bX : W.rowIs w.heap.size 46 2 (fX A U n)
  dg : wg ≠ g ∧ wg ≠ w.heap.size ∧ g ≠ w.heap.size
  gB : w.heap.size ≤ g
  bq : Bq (Rb us) t row d k
  bel : Below w.heap.size w W
theorem SpS.below {us : List ty.Un} {n t : Nat} {w : World} {A U g : Nat} {W W' : World} {wg o cap : Nat} {Wk row : List Nat} {d : Nat → Option Nat} {k : Nat} (h : SpS us n t w A U g W wg o cap Wk row d k) (hb : Below W.heap.size W W') : SpS us n t w A U g W' wg o cap Wk row d k :=
  ⟨h.ib.below hb, h.wk, h.st.of_block (hb.block _ h.st.lt), h.bX.of_block (hb.block _ h.bX.lt), h.dg, h.gB, h.bq, h.bel.trans (hb.mono h.bel.size)⟩
theorem SpS.at_ {us : List ty.Un} {n t : Nat} {w : World} {A U g : Nat} {W : World} {wg o cap : Nat} {x : Nat} {Wk row : List Nat} {d : Nat → Option Nat} {k : Nat} (h : SpS us n t w A U g W wg o cap (x :: Wk) row d k) : row[k]? = some x ∧ ∃ m, d x = some m := by
  have e : row[k]? = some x := by
    have := congrArg (·[0]?) h.wk
    simpa using this
  exact ⟨e, (h.bq.iff x).1 (List.mem_of_getElem? e)⟩
theorem SpS.tail {us : List ty.Un} {n t : Nat} {w : World} {A U g : Nat} {W : World} {wg o cap : Nat} {x : Nat} {Wk row : List Nat} {d : Nat → Option Nat} {k : Nat} (h : SpS us n t w A U g W wg o cap (x :: Wk) row d k) (hy : ∀ y, x ∈ ed us y → ∃ m, d y = some m) :
    ∃ o', (if cap = 1 then some (⟨wg, o, none⟩ : Addr) else some ⟨wg, o + 1, none⟩) = some ⟨wg, o', none⟩ ∧ SpS us n t w A U g W wg o' (cap - 1) Wk row d (k + 1) := by
  obtain ⟨o', e, hi⟩ := h.ib.tail
  refine ⟨o', e, hi, ?_, h.st, h.bX, h.dg, h.gB, h.bq.next h.at_.1 hy, h.bel⟩
  rw [← List.drop_drop, h.wk]
  rfl
theorem SpS.add {us : List ty.Un} {n t : Nat} {w : World} {A U g : Nat} {W W' : World} {wg o cap wg' o' cap' : Nat} {x y mx : Nat} {Wk row : List Nat} {d : Nat → Option Nat} {k : Nat} (h : SpS us n t w A U g W wg o cap (x :: Wk) row d k) (hd : d x = some mx) (hR : x ∈ ed us y) (hy : d y = none)
    (hA : fi.Ap w.heap.size ((W.setCell ⟨g, y, none⟩ (.int .i64 ((mx : Int) + 1))).alloc (.cells #[.int .i64 (y : Int)] 3)) wg W' wg' o' cap' (x :: Wk ++ [y])) : SpS us n t w A U g W' wg' o' cap' (x :: (Wk ++ [y])) (row ++ [y]) (upd d y (mx + 1)) k := by
  obtain ⟨d1, d2, d3⟩ := h.dg
  have hk : k < row.length := (List.getElem?_eq_some_iff.1 h.at_.1).1
  have hg := h.st.lt
  have hx := h.bX.lt
  have hw := h.ib.lt
  have hs : W.heap.size + 1 ≤ W'.heap.size := by have := hA.grown.size; simpa using this
  refine ⟨hA.ib, ?_, ?_, ?_, ?_, h.gB, h.bq.add h.at_.1 hd hR hy, ?_⟩
  · rw [List.drop_append_of_le_length (by omega), h.wk]; rfl
  · refine World.rowIs.congr (World.rowIs.of_block ((h.st.set y (.int .i64 ((mx : Int) + 1))).alloc (.cells #[.int .i64 (y : Int)] 3)) (hA.grown.block g (by simp; omega) fun e => d1 (Option.some.inj e).symm)) fun i hi => ?_
    show (if i = y then _ else sV d i) = _
    by_cases e : i = y
    · subst e
      rw [if_pos rfl, sV_some (upd_same d i (mx + 1))]
      simp
    · rw [if_neg e]
      unfold sV
      rw [upd_other d e]
  · exact ((h.bX.setOther (a := ⟨g, y, none⟩) (Ne.symm d3) _).alloc _).of_block (hA.grown.block _ (by simp; omega) fun e => d2 (Option.some.inj e).symm)
  · rcases hA.here with e | e
    · rw [e]; exact h.dg
    · have e : W.heap.size ≤ wg' := by simp at e; omega
      exact ⟨by omega, by omega, d3⟩
  · exact ((h.bel.setCell (p := ⟨g, y, none⟩) h.gB _).alloc (by have := h.bel.size; simp; omega) _).trans (hA.bel h.ib.new (by have := h.bel.size; simp; omega))

/-- What it answers. -/
def StpR (us : List ty.Un) (n t : Nat) (w w' : World) (e : Ending) : Prop := ∃ g, e = .returned (.slice (some ⟨g, 0, none⟩) (n + 1) (n + 1)) ∧ w.heap.size ≤ g ∧ w'.rowIs g 3 (n + 1) (sV fun i => ds us i t)

set_option maxRecDepth 100000 in
set_option maxHeartbeats 8000000 in
theorem sto_any (us : List ty.Un) (n t A U Bs : Nat) (V : Nat → Value) (w : World) (hU : Ua us) (hn : us.length = n) (ht : t < n) (hb : BhV Bs U (n + 1) (bhL us n) V w) :
    Calls Try.prog 45 #[.agg #[.slice (some ⟨A, 0, none⟩) n n, .slice (some ⟨U, 0, none⟩) (n + 1) (n + 1)], .int .i64 (t : Int)] w fun e w' => StpR us n t w w' e ∧ Below w.heap.size w w' := by
  have hn1 : n ≤ 100 := by have := hU.few; omega
  have HU := Lib.hid hU
  have HN : Hid (us.length = n) := hn
  have HBH := Lib.hid hb
  have HRP : Hid (Calls Try.prog 68 #[.slice (some ⟨w.heap.size + 1, 0, none⟩) 1 1, .int .i64 ((n : Int) + 1)] ((w.alloc (.cells #[.slice (some ⟨A, 0, none⟩) n n, .slice (some ⟨U, 0, none⟩) (n + 1) (n + 1)] 46)).alloc (.cells #[.int .i64 9223372036854775807] 3)) fun e w' => RepR (n + 1) ((w.alloc (.cells #[.slice (some ⟨A, 0, none⟩) n n, .slice (some ⟨U, 0, none⟩) (n + 1) (n + 1)] 46)).alloc (.cells #[.int .i64 9223372036854775807] 3)) w' e ∧ Below (w.heap.size + 2) ((w.alloc (.cells #[.slice (some ⟨A, 0, none⟩) n n, .slice (some ⟨U, 0, none⟩) (n + 1) (n + 1)] 46)).alloc (.cells #[.int .i64 9223372036854775807] 3)) w') := by
    have h := rep_any (n + 1) (w.heap.size + 1) ((w.alloc (.cells #[.slice (some ⟨A, 0, none⟩) n n, .slice (some ⟨U, 0, none⟩) (n + 1) (n + 1)] 46)).alloc (.cells #[.int .i64 9223372036854775807] 3)) (by omega) (by omega) (by
      simp [nV])
    rw [show ((n + 1 : Nat) : Int) = (n : Int) + 1 by omega, show ((w.alloc (.cells #[.slice (some ⟨A, 0, none⟩) n n, .slice (some ⟨U, 0, none⟩) (n + 1) (n + 1)] 46)).alloc (.cells #[.int .i64 9223372036854775807] 3)).heap.size = w.heap.size + 2 by simp] at h
    exact h
  have HB1 : Hid (Below w.heap.size w ((w.alloc (.cells #[.slice (some ⟨A, 0, none⟩) n n, .slice (some ⟨U, 0, none⟩) (n + 1) (n + 1)] 46)).alloc (.cells #[.int .i64 9223372036854775807] 3))) := ((Below.refl _ _).alloc (Nat.le_refl _) _).alloc (by simp) _
  have c1 : ((w.alloc (.cells #[.slice (some ⟨A, 0, none⟩) n n, .slice (some ⟨U, 0, none⟩) (n + 1) (n + 1)] 46)).alloc (.cells #[.int .i64 9223372036854775807] 3)).cell? ⟨w.heap.size, 1, none⟩ = some (.slice (some ⟨U, 0, none⟩) (n + 1) (n + 1)) := by simp
  have HX1 : Hid (((w.alloc (.cells #[.slice (some ⟨A, 0, none⟩) n n, .slice (some ⟨U, 0, none⟩) (n + 1) (n + 1)] 46)).alloc (.cells #[.int .i64 9223372036854775807] 3)).rowIs w.heap.size 46 2 (fX A U n)) :=
    World.rowIs.alloc ⟨_, fa.blk_new w _, rfl, fun i hi => by
      match i, hi with
      | 0, _ => rfl
      | 1, _ => rfl⟩ _
  clear hb hU hn
  go_enter Try.func45, Try.ntmps45
  go_wp2_with (go_at_call 68; refine HRP.out.mono ?_; rintro e w2 ⟨⟨g, rfl, hg, hrow⟩, hl2⟩; refine Hid.out ?_)
  refine Lib.hid ?_
  have hgB : w.heap.size + 2 ≤ g := by simpa using hg
  have HST : Hid (w2.rowIs g 3 (n + 1) (sV fun _ => none)) := ⟨_, hrow, by simp, fun i hi => by
    have : i < n + 1 := hi
    simp only [List.getElem?_toArray, List.getElem?_replicate, this, if_true]
    rfl⟩
  have HX2 : Hid (w2.rowIs w.heap.size 46 2 (fX A U n)) := HX1.out.of_block (hl2.block _ (by omega))
  have HB2 : Hid (Below w.heap.size w w2) := HB1.out.trans (hl2.mono (by omega))
  have c2 : w2.cell? ⟨g, t, none⟩ = some (.int .i64 9223372036854775807) := HST.out.cell (by omega)
  have f2 : w2.frozen? ⟨g, t, none⟩ = false := HST.out.frozen t
  have hti : (t : Int) < (n : Int) + 1 := by omega
  have ht0 : (0 : Int) ≤ (t : Int) := by omega
  have HSP : Hid (SpS us n t w A U g ((w2.setCell ⟨g, t, none⟩ (.int .i64 0)).alloc (.cells #[.int .i64 (t : Int)] 3)) w2.heap.size 0 1 [t] [t] (upd (fun _ => none) t 0) 0) := by
    have hgl := HST.out.lt
    have hz : (w2.setCell ⟨g, t, none⟩ (.int .i64 0)).heap.size = w2.heap.size := by simp
    have hnw := two_newI (w2.setCell ⟨g, t, none⟩ (.int .i64 0)) t
    rw [hz] at hnw
    refine ⟨hnw.mono HB2.out.size, rfl, ?_, (HX2.out.setOther (a := ⟨g, t, none⟩) (show w.heap.size ≠ g by omega) _).alloc _, ⟨by omega, by have := HX2.out.lt; omega, by omega⟩, by omega, Bq.zero _ _, (HB2.out.setCell (p := ⟨g, t, none⟩) (show w.heap.size ≤ g by omega) _).alloc (by rw [hz]; exact HB2.out.size) _⟩
    refine World.rowIs.congr ((HST.out.set t (.int .i64 0)).alloc _) fun i hi => ?_
    show (if i = t then _ else sV _ i) = _
    by_cases e : i = t
    · subst e
      rw [if_pos rfl, sV_some (upd_same _ i 0)]
      rfl
    · rw [if_neg e]
      unfold sV
      rw [upd_other _ e]
  clear hrow hl2 hg HRP HB1 HX1 c1
  go_wp2
  clear c2 f2 HST HX2
  go_loopg [6] (n + 1) (fun q v wr => ∃ (wg o cap : Nat) (Wk row : List Nat) (d : Nat → Option Nat) (k : Nat), v = .slice (some ⟨wg, o, none⟩) Wk.length cap ∧ SpS us n t w A U g wr wg o cap Wk row d k ∧ n + 1 - k ≤ q)
  case atStart => exact ⟨_, 0, 1, [t], [t], _, 0, rfl, HSP.out, by omega⟩
  case round =>
    obtain ⟨wg, o, cap, Wk, row, d, k, rfl, hsp, hq⟩ := hrel
    have HSP := Lib.hid hsp
    have hcl := hsp.ib.le
    have hcm : cap ≤ 9223372036854775807 := Nat.le_trans hsp.ib.max (by unfold maxLen; omega)
    have HQ : Hid (n + 1 - k ≤ gk) := hq
    clear hsp hq
    cases Wk with
    | nil =>
      have HE : Hid (StpR us n t w wr (.returned (.slice (some ⟨g, 0, none⟩) (n + 1) (n + 1))) ∧ Below w.heap.size w wr) := by
        have hbq := HSP.out.bq
        have hdr := List.drop_eq_nil_iff.1 HSP.out.wk
        have hlen := bq_len hbq (by rw [HN.out]; exact ht)
        exact ⟨⟨g, rfl, HSP.out.gB, HSP.out.st.congr fun i hi => by unfold sV; rw [hbq.back hdr (by rw [HN.out] at hlen; omega) i]⟩, HSP.out.bel⟩
      clear HSP HQ
      go_wp2
      go_ret
      exact HE.out
    | cons x Wk =>
      obtain ⟨hrk, mx, hmx⟩ := HSP.out.at_
      have hxu := bq_lt HSP.out.bq (by rw [HN.out]; exact ht) (List.mem_of_getElem? hrk)
      have hxn : x < n := by rw [HN.out] at hxu; exact hxu
      have HMX : Hid (d x = some mx) := hmx
      have cd1 : wr.drew.cell? ⟨w.heap.size, 1, none⟩ = some (.slice (some ⟨U, 0, none⟩) (n + 1) (n + 1)) := HSP.out.bX.cell (i := 1) (by omega)
      have cd2 : wr.drew.cell? ⟨wg, o, none⟩ = some (.int .i64 (x : Int)) := by
        have := HSP.out.ib.cells 0 (by simp)
        simpa using this
      have HBV := Lib.hid (HBH.out.below HSP.out.bel)
      obtain ⟨va, vc, hvx, hvc⟩ := rdn_own (HBH.out.own x (by omega))
      have cd3 : wr.drew.cell? ⟨U, x, none⟩ = some (.slice va (bhL us n x).length vc) := by rw [← hvx]; exact HBV.out.row.cell (i := x) (by omega)
      have HVC : Hid (∀ (i y : Nat), (bhL us n x)[i]? = some y → ∃ bb off, va = some ⟨bb, off, none⟩ ∧ ∀ W, Below w.heap.size w W → W.cell? ⟨bb, off + i, none⟩ = some (.int .i64 (y : Int))) := fun i y hy => by
        obtain ⟨bb, off, e, hc⟩ := hvc i y hy
        exact ⟨bb, off, e, fun W hW => (hW.cell (p := ⟨bb, off + i, none⟩) (World.block_lt_of_cell? _ _ hc)).trans hc⟩
      have HBM : Hid (∀ y, y ∈ bhL us n x ↔ x ∈ ed us y) := fun y => by
        rw [← HN.out, bhL_mem]
        constructor
        · rintro ⟨u, hu, h⟩
          rw [ed_some hu]
          exact h
        · intro h
          obtain ⟨u, hu⟩ : ∃ u, us[y]? = some u := ⟨_, List.getElem?_eq_getElem (ed_lt h)⟩
          rw [ed_some hu] at h
          exact ⟨u, hu, h⟩
      have HLL : Hid ((bhL us n x).length ≤ 4000) := by show _ ≤ _; have := bhL_len HU.out x n; omega
      obtain ⟨Lb, hLb⟩ : ∃ Lb, bhL us n x = Lb := ⟨_, rfl⟩
      obtain ⟨lb, hlb⟩ : ∃ lb, Lb.length = lb := ⟨_, rfl⟩
      rw [hLb] at HBM HLL HVC cd3
      rw [hlb] at cd3
      have HLB : Hid (Lb.length = lb) := hlb
      have hlb4 : lb ≤ 4000 := by have := HLL.out; omega
      obtain ⟨q, hq⟩ : ∃ q, Wk.length = q := ⟨_, rfl⟩
      have HWQ : Hid (Wk.length = q) := hq
      rw [List.length_cons, hq] at hcl ⊢
      have hq1 : (0 : Int) < (q : Int) + 1 := by omega
      have hxi : (x : Int) < (n : Int) + 1 := by omega
      have hx0 : (0 : Int) ≤ (x : Int) := by omega
      clear hrk hmx hxu hvx hvc hLb hlb hq HBV HLL
      go_upto_region 6 with fail
      refine wq 9 (S := fun w' => w'.cell? ⟨w.heap.size, 1, none⟩ = some (.slice (some ⟨U, 0, none⟩) (n + 1) (n + 1)) ∧ w'.cell? ⟨wg, o, none⟩ = some (.int .i64 (x : Int)) ∧ w'.cell? ⟨U, x, none⟩ = some (.slice va lb vc)) (by kernel_rfl) ⟨cd1, cd2, cd3⟩ fun hHeld => ?_
      iterate 9 (refine un 9 rfl ?_; try simp only [aP])
      refine dq ?_
      have HSD := Lib.hid (HSP.out.below (Below.refl _ _).drew)
      clear hHeld cd1 cd2 cd3 HSP
      obtain ⟨wo, hwo⟩ : ∃ wo, wo = wr.drew := ⟨_, rfl⟩
      rw [← hwo] at HSD ⊢
      clear hwo
      go_wp2
      go_loopw [6, 8, 32] (fun v6 _ v32 wi => ∃ (j wg o cap : Nat) (Wk row : List Nat) (d : Nat → Option Nat), j ≤ lb ∧ v32 = .int .i64 (j : Int) ∧ v6 = .slice (some ⟨wg, o, none⟩) (Wk.length + 1) cap ∧ SpS us n t w A U g wi wg o cap (x :: Wk) row d k ∧ d x = some mx ∧ ∀ (i y : Nat), i < j → Lb[i]? = some y → ∃ m, d y = some m) (fun _ _ v32 _ => lb - (intOf v32).toNat)
      case atStart => exact ⟨0, wg, o, cap, Wk, row, d, Nat.zero_le _, rfl, by rw [HWQ.out], HSD.out, HMX.out, fun i y hi => by omega⟩
      case round =>
        clear HSD HMX HWQ
        obtain ⟨j, wg, o, cap, Wk, row, d, hj, rfl, rfl, hsp, hmx, hall⟩ := hrel
        have HSP := Lib.hid hsp
        have HMX := Lib.hid hmx
        have HAL := Lib.hid hall
        have hcl := hsp.ib.le
        have hcm : cap ≤ 9223372036854775807 := Nat.le_trans hsp.ib.max (by unfold maxLen; omega)
        clear hsp hmx hall
        by_cases hjl : j < lb
        · have hjl' : (j : Int) < (lb : Int) := by omega
          have hj0 : (0 : Int) ≤ (j : Int) := by omega
          obtain ⟨y, hy⟩ : ∃ y, Lb[j]? = some y := ⟨_, List.getElem?_eq_getElem (by rw [HLB.out]; exact hjl)⟩
          have hxe := (HBM.out y).1 (List.mem_of_getElem? hy)
          have hyn : y < n := by have := ed_lt hxe; rw [HN.out] at this; exact this
          obtain ⟨bb, off, rfl, hcy⟩ := HVC.out j y hy
          have c0 := hcy wr HSP.out.bel
          have hyi : (y : Int) < (n : Int) + 1 := by omega
          have hy0 : (0 : Int) ≤ (y : Int) := by omega
          have HXE : Hid (x ∈ ed us y) := hxe
          have HY : Hid (Lb[j]? = some y) := hy
          have c1 : wr.cell? ⟨g, y, none⟩ = some (sV d y) := HSP.out.st.cell (by omega)
          clear hcy hxe hy
          cases hdy : d y with
          | some m =>
            have hm2 := HSP.out.bq.le y m hdy
            have hrl := bq_len HSP.out.bq (by rw [HN.out]; exact ht)
            rw [HN.out] at hrl
            rw [sV_some hdy] at c1
            have hne : ¬ (m : Int) = 9223372036854775807 := by omega
            have HNX : Hid (∀ (i y : Nat), i < j + 1 → Lb[i]? = some y → ∃ m, d y = some m) := fun i z hi hz => by
              rcases Nat.lt_or_ge i j with e | e
              · exact HAL.out i z e hz
              · obtain rfl : i = j := by omega
                rw [HY.out] at hz
                cases hz
                exact ⟨m, hdy⟩
            clear hdy hm2 hrl
            go_wp2
            go_roundw
            case rel => exact ⟨j + 1, wg, o, cap, Wk, row, d, by omega, by go_num, rfl, HSP.out, HMX.out, HNX.out⟩
            case measure => simp [intOf]; omega
          | none =>
            rw [sV_none hdy] at c1
            have c2 : wr.cell? ⟨wg, o, none⟩ = some (.int .i64 (x : Int)) := by
              have := HSP.out.ib.cells 0 (by simp)
              simpa using this
            have c3 : wr.cell? ⟨g, x, none⟩ = some (.int .i64 (mx : Int)) := by rw [← sV_some HMX.out]; exact HSP.out.st.cell (by omega)
            have f1 : wr.frozen? ⟨g, y, none⟩ = false := HSP.out.st.frozen y
            have hm2 := HSP.out.bq.le x mx HMX.out
            have hrl := bq_len HSP.out.bq (by rw [HN.out]; exact ht)
            rw [HN.out] at hrl
            have hwm : IntKind.i64.wrap ((mx : Int) + 1) = (mx : Int) + 1 := by rw [IntKind.wrap_i64]; omega
            have hws := HSP.out.bel.size
            have HIB : Hid (fi.Ib w.heap.size ((wr.setCell ⟨g, y, none⟩ (.int .i64 ((mx : Int) + 1))).alloc (.cells #[.int .i64 (y : Int)] 3)) wg o cap (x :: Wk)) := (HSP.out.ib.kept (by simp) (ty.blk_oth HSP.out.dg.1)).below ((Below.refl _ _).alloc (Nat.le_refl _) _)
            have HNW : Hid (∀ j u, (fi.nV [y])[j]? = some u → ((wr.setCell ⟨g, y, none⟩ (.int .i64 ((mx : Int) + 1))).alloc (.cells #[.int .i64 (y : Int)] 3)).cell? ((⟨wr.heap.size, 0, none⟩ : Addr).add j) = some u) := by
              have h := new_one (wr.setCell ⟨g, y, none⟩ (.int .i64 ((mx : Int) + 1))) y
              rw [show (wr.setCell ⟨g, y, none⟩ (.int .i64 ((mx : Int) + 1))).heap.size = wr.heap.size by simp] at h
              exact h
            have hWl : Wk.length ≤ 1000 := by
              have h := congrArg List.length HSP.out.wk
              rw [List.length_drop, List.length_cons] at h
              omega
            have hmi : ¬ (mx : Int) + 1 = 9223372036854775807 := by omega
            have HDY : Hid (d y = none) := hdy
            have HNX : Hid (∀ (i z : Nat), i < j + 1 → Lb[i]? = some z → ∃ m, upd d y (mx + 1) z = some m) := fun i z hi hz => by
              by_cases e : z = y
              · subst e; exact ⟨_, upd_same _ _ _⟩
              · rw [upd_other _ e]
                rcases Nat.lt_or_ge i j with e2 | e2
                · exact HAL.out i z e2 hz
                · obtain rfl : i = j := by omega
                  rw [HY.out] at hz
                  cases hz
                  exact absurd rfl e
            have HMX2 : Hid (upd d y (mx + 1) x = some mx) := by
              show _ = _
              rw [upd_other _ (fun e => by rw [e, HDY.out] at HMX; cases HMX.out)]
              exact HMX.out
            clear hdy hm2 hrl
            go_wp2_with (at_builtin; refine app_one (base := w.heap.size) (l := x :: Wk) (m := [y]) (ad := ⟨wr.heap.size, 0, none⟩) (c := 1) (g := wg) («of» := o) (cap := cap) rfl _ _ rfl rfl rfl HIB.out (by simp; omega) HNW.out (by simp; omega) ?_; intro g4 o4 cap4 w4 hA4; refine Hid.out ?_)
            refine Lib.hid ?_
            have HS4 := Lib.hid (HSP.out.add HMX.out HXE.out HDY.out hA4)
            clear hA4 HIB HNW
            go_wp2
            go_roundw
            case rel => exact ⟨j + 1, g4, o4, cap4, Wk ++ [y], row ++ [y], _, by omega, by go_num, by simp, HS4.out, HMX2.out, HNX.out⟩
            case measure => simp [intOf]; omega
        · have hjl' : ¬ (j : Int) < (lb : Int) := by omega
          obtain rfl : j = lb := by omega
          obtain ⟨o2, ho2, hs2⟩ := HSP.out.tail fun y hy => by
            obtain ⟨i, hi⟩ := List.getElem?_of_mem ((HBM.out y).2 hy)
            exact HAL.out i y (by rw [← HLB.out]; exact (List.getElem?_eq_some_iff.1 hi).1) hi
          have HS2 := Lib.hid hs2
          have hrl := bq_len HSP.out.bq (by rw [HN.out]; exact ht)
          rw [HN.out] at hrl
          have hkr := (List.getElem?_eq_some_iff.1 HSP.out.at_.1).1
          obtain ⟨q, hq⟩ : ∃ q, Wk.length = q := ⟨_, rfl⟩
          have HWQ : Hid (Wk.length = q) := hq
          rw [List.length_cons, hq] at hcl
          rw [hq]
          have hq1 : (1 : Int) ≤ (q : Int) + 1 := by omega
          have hq2 : (q : Int) + 1 ≤ (cap : Int) := by omega
          have hq3 : (1 : Int) ≤ (cap : Int) := by omega
          clear hs2 hq HSP HAL HMX
          go_wp2
          try rw [ho2]
          go_roundg (n + 1 - (k + 1))
          case measure => have := HQ.out; omega
          case rel => exact ⟨wg, o2, cap - 1, Wk, row, d, k + 1, by rw [HWQ.out] <;> first | rfl | simp, HS2.out, Nat.le_refl _⟩
end Go.Proofs.Ytajpfidgepebgaa.cy

namespace Go.Proofs.Ytajpfidgepebgaa.cy
open Go.ChangeShapes Go.WideShapes Go.ChangeAt Go.RowKit Go.Deep Go.Maps
open fa (Us uNo nmL nds aw aw_le nodup_lenN BhV fX app_one new_one rdn_own RdN)
open fw (Ua ua_of bhL bhL_mem bhL_len)
set_option linter.unusedVariables false
set_option linter.unusedSimpArgs false

/-! ### ringFrom's closure closer, and slices.MinFunc with it -/

theorem nanI (x : Int) (w : World) : Calls Try.prog 67 #[.int .i64 x] w fun e w' => e = .returned (.bool false) ∧ w' = w := by
  go_enter Try.func67, Try.ntmps67
  go_wp2
  go_ret
  exact ⟨ret_bool (by simp), rfl⟩

/-- How two numbers stand. -/
def CmZ (a b r : Int) : Prop := (r < 0 ↔ a < b) ∧ -1 ≤ r ∧ r ≤ 1

theorem cmpI_any (a b : Int) (w : World) : Calls Try.prog 47 #[.int .i64 a, .int .i64 b] w fun e w' => (∃ r, e = .returned (.int .i64 r) ∧ CmZ a b r) ∧ w' = w := by
  by_cases h1 : a < b
  · have HE : Hid (CmZ a b (-1)) := ⟨⟨fun _ => h1, fun _ => by decide⟩, by decide, by decide⟩
    go_enter Try.func47, Try.ntmps47
    go_wp2_with (go_at_call 67; refine (nanI _ _).mono ?_; rintro e w ⟨rfl, rfl⟩)
    go_ret
    exact ⟨⟨_, rfl, HE.out⟩, rfl⟩
  · by_cases h2 : b < a
    · have HE : Hid (CmZ a b 1) := ⟨⟨fun h => absurd h (by decide), fun h => absurd h h1⟩, by decide, by decide⟩
      go_enter Try.func47, Try.ntmps47
      go_wp2_with (go_at_call 67; refine (nanI _ _).mono ?_; rintro e w ⟨rfl, rfl⟩)
      go_ret
      exact ⟨⟨_, rfl, HE.out⟩, rfl⟩
    · have HE : Hid (CmZ a b 0) := ⟨⟨fun h => absurd h (by decide), fun h => absurd h h1⟩, by decide, by decide⟩
      go_enter Try.func47, Try.ntmps47
      go_wp2_with (go_at_call 67; refine (nanI _ _).mono ?_; rintro e w ⟨rfl, rfl⟩)
      go_ret
      exact ⟨⟨_, rfl, HE.out⟩, rfl⟩

def CmR (x y : Nat) (e : Ending) : Prop := ∃ r : Int, e = .returned (.int .i64 r) ∧ (r < 0 ↔ x < y) ∧ -1 ≤ r ∧ r ≤ 1

set_option maxRecDepth 100000 in
set_option maxHeartbeats 4000000 in
theorem closer_any (i j bx g N : Nat) (f : Nat → Nat) (w : World) (h : Sb w bx g N f) (hi : i < N) (hj : j < N) :
    Calls Try.prog 46 #[.int .i64 (i : Int), .int .i64 (j : Int), .pointer (some ⟨bx, 0, none⟩)] w fun e w' => CmR (f i) (f j) e ∧ Below w.heap.size w w' := by
  have c0 : w.drew.cell? ⟨bx, 0, none⟩ = some (.slice (some ⟨g, 0, none⟩) N N) := h.box
  have c1 : w.drew.cell? ⟨g, i, none⟩ = some (.int .i64 (f i : Int)) := h.row i hi
  have c2 : w.drew.cell? ⟨g, j, none⟩ = some (.int .i64 (f j : Int)) := h.row j hj
  have hi0 : (0 : Int) ≤ (i : Int) := by omega
  have hi1 : (i : Int) < (N : Int) := by omega
  have hj0 : (0 : Int) ≤ (j : Int) := by omega
  have hj1 : (j : Int) < (N : Int) := by omega
  have HC := Lib.hid (fun W : World => cmpI_any (f i : Int) (f j : Int) W)
  have HE : Hid (∀ r : Int, CmZ (f i : Int) (f j : Int) r → CmR (f i) (f j) (.returned (.int .i64 r))) := fun r h => ⟨r, rfl, ⟨fun k => by have := h.1.1 k; omega, fun k => h.1.2 (by omega)⟩, h.2⟩
  generalize f i = P at *
  generalize f j = R at *
  clear h hi hj
  go_enter Try.func46, Try.ntmps46
  go_upto_region 1 with fail
  refine wq 10 (S := fun w' => w'.cell? ⟨bx, 0, none⟩ = some (.slice (some ⟨g, 0, none⟩) N N) ∧ w'.cell? ⟨g, i, none⟩ = some (.int .i64 (P : Int)) ∧ w'.cell? ⟨g, j, none⟩ = some (.int .i64 (R : Int))) (by kernel_rfl) ⟨c0, c1, c2⟩ fun hHeld => ?_
  iterate 8 (refine un 10 rfl ?_; try simp only [aP])
  refine rq 8 rfl fun K hK => ?_
  go_simp
  (go_at_call 47; refine (HC.out _).mono ?_; rintro e w2 ⟨⟨r, rfl, hr⟩, hw2⟩; have hw3 := hw2.symm; subst hw3; clear hw2)
  try go_wp2_with fail
  have HF := Lib.hid (HE.out r hr)
  refine hK.out _ _ hHeld (fun hHeld2 => ?_)
  clear hK K hr HC HE
  try simp only [aP]
  refine un 10 rfl ?_
  try simp only [aP]
  refine dq ?_
  clear hHeld hHeld2 c0 c1 c2
  go_wp2
  go_ret
  exact ⟨HF.out, (Below.refl _ _).drew⟩

/-- What MinFunc answers. -/
def MinR (l : List Nat) (f : Nat → Nat) (e : Ending) : Prop := ∃ p j : Nat, e = .returned (.int .i64 (j : Int)) ∧ l[p]? = some j ∧ (∀ q x : Nat, l[q]? = some x → f j ≤ f x) ∧ ∀ q x : Nat, q < p → l[q]? = some x → f j < f x

set_option maxRecDepth 100000 in
set_option maxHeartbeats 4000000 in
theorem min_any (l : List Nat) (lg lo cap bx g N : Nat) (f : Nat → Nat) (w : World) (h : Sb w bx g N f) (hl : l.length ≤ 1000) (h0 : 0 < l.length) (hc : ∀ i x : Nat, l[i]? = some x → w.cell? ⟨lg, lo + i, none⟩ = some (.int .i64 (x : Int)) ∧ x < N) :
    Calls Try.prog 50 #[.slice (some ⟨lg, lo, none⟩) l.length cap, .func (.func 46) #[] #[.pointer (some ⟨bx, 0, none⟩)]] w fun e w' => MinR l f e ∧ Below w.heap.size w w' := by
  have HL : Hid (∀ (i j : Nat) (W : World), i < N → j < N → Below w.heap.size w W → Calls Try.prog 46 #[.int .i64 (i : Int), .int .i64 (j : Int), .pointer (some ⟨bx, 0, none⟩)] W fun e w' => CmR (f i) (f j) e ∧ Below W.heap.size W w') := fun i j W hi hj hW => closer_any i j bx g N f W (h.below hW) hi hj
  have HC : Hid (∀ (i x : Nat), l[i]? = some x → x < N ∧ ∀ W, Below w.heap.size w W → W.cell? ⟨lg, lo + i, none⟩ = some (.int .i64 (x : Int))) := fun i x hx => ⟨(hc i x hx).2, fun W hW => (hW.cell (p := ⟨lg, lo + i, none⟩) (World.block_lt_of_cell? _ _ (hc i x hx).1)).trans (hc i x hx).1⟩
  obtain ⟨n, hn⟩ : ∃ n, l.length = n := ⟨_, rfl⟩
  have HN : Hid (l.length = n) := hn
  rw [hn] at hl h0 ⊢
  obtain ⟨x0, hx0⟩ : ∃ x, l[0]? = some x := ⟨_, List.getElem?_eq_getElem (by rw [hn]; exact h0)⟩
  have cz : w.cell? ⟨lg, lo, none⟩ = some (.int .i64 (x0 : Int)) := by have := (hc 0 x0 hx0).1; rwa [Nat.add_zero] at this
  have HX0 : Hid (l[0]? = some x0) := hx0
  have hn1 : ¬ (n : Int) < 1 := by omega
  have hn2 : (0 : Int) < (n : Int) := by omega
  clear h hc hn hx0
  go_enter Try.func50, Try.ntmps50
  go_wp2
  go_loopw [5, 6] (fun v5 v6 wr => ∃ i p j : Nat, 1 ≤ i ∧ i ≤ n ∧ v6 = .int .i64 (i : Int) ∧ v5 = .int .i64 (j : Int) ∧ l[p]? = some j ∧ p < i ∧ (∀ q x : Nat, q < i → l[q]? = some x → f j ≤ f x) ∧ (∀ q x : Nat, q < p → l[q]? = some x → f j < f x) ∧ Below w.heap.size w wr) (fun _ v6 _ => n - (intOf v6).toNat)
  case atStart => exact ⟨1, 0, x0, Nat.le_refl _, h0, rfl, rfl, HX0.out, by omega, fun q x hq hx => by
    obtain rfl : q = 0 := by omega
    rw [HX0.out] at hx
    cases hx
    exact Nat.le_refl _, fun q x hq => by omega, Below.refl _ _⟩
  case round =>
    obtain ⟨i, p, j, hi1, hi, rfl, rfl, hp, hpi, hle, hlt, hbel⟩ := hrel
    have HP := Lib.hid hp
    have HLE := Lib.hid hle
    have HLT := Lib.hid hlt
    have HBE := Lib.hid hbel
    clear hp hle hlt cz
    by_cases hin : i < n
    · have hin' : (i : Int) < (n : Int) := by omega
      have hi0 : (0 : Int) ≤ (i : Int) := by omega
      obtain ⟨x, hx⟩ : ∃ x, l[i]? = some x := ⟨_, List.getElem?_eq_getElem (by rw [HN.out]; exact hin)⟩
      obtain ⟨hxN, hcx⟩ := HC.out i x hx
      have c0 := hcx wr hbel
      have hjN := (HC.out p j HP.out).1
      have HM := Lib.hid (HL.out x j wr hxN hjN hbel)
      have HX : Hid (l[i]? = some x) := hx
      have HCX := Lib.hid hcx
      have hNX : ∀ z, (∀ q y : Nat, q < i → l[q]? = some y → f z ≤ f y) → f z ≤ f x → ∀ q y : Nat, q < i + 1 → l[q]? = some y → f z ≤ f y := fun z h1 h2 q y hq hy => by
        rcases Nat.lt_or_ge q i with e | e
        · exact h1 q y e hy
        · obtain rfl : q = i := by omega
          rw [HX.out] at hy
          cases hy
          exact h2
      have HNX := Lib.hid hNX
      clear hcx hx hbel hNX
      go_wp2_with (go_at_call 46; refine HM.out.mono ?_; rintro e w1 ⟨⟨r, rfl, hr, hr1, hr2⟩, hl1⟩; refine Hid.out ?_)
      refine Lib.hid ?_
      have HB1 := Lib.hid (HBE.out.trans (hl1.mono HBE.out.size))
      have c1 := HCX.out w1 HB1.out
      clear hl1 HM c0
      by_cases hneg : r < 0
      · have hfx := hr.1 hneg
        have HR1 : Hid (∀ q y : Nat, q < i + 1 → l[q]? = some y → f x ≤ f y) := HNX.out x (fun q y hq hy => by have := HLE.out q y hq hy; omega) (Nat.le_refl _)
        have HR2 : Hid (∀ q y : Nat, q < i → l[q]? = some y → f x < f y) := fun q y hq hy => by have := HLE.out q y hq hy; omega
        clear hr hfx
        go_wp2
        go_roundw
        case rel => exact ⟨i + 1, i, x, by omega, by omega, by go_num, rfl, HX.out, by omega, HR1.out, HR2.out, HB1.out⟩
        case measure => simp [intOf]; omega
      · have hfx : ¬ f x < f j := fun e => hneg (hr.2 e)
        have HR1 : Hid (∀ q y : Nat, q < i + 1 → l[q]? = some y → f j ≤ f y) := HNX.out j HLE.out (by omega)
        clear hr hfx
        go_wp2
        go_roundw
        case rel => exact ⟨i + 1, p, j, by omega, by omega, by go_num, rfl, HP.out, by omega, HR1.out, HLT.out, HB1.out⟩
        case measure => simp [intOf]; omega
    · have hin' : ¬ (i : Int) < (n : Int) := by omega
      have HE : Hid (MinR l f (.returned (.int .i64 (j : Int)))) := ⟨p, j, rfl, HP.out, fun q x hx => HLE.out q x (by have := (List.getElem?_eq_some_iff.1 hx).1; rw [HN.out] at this; omega) hx, HLT.out⟩
      clear hbel
      go_wp2
      go_ret
      exact ⟨HE.out, HBE.out⟩
end Go.Proofs.Ytajpfidgepebgaa.cy

namespace Go.Proofs.Ytajpfidgepebgaa.cy
open Go.ChangeShapes Go.WideShapes Go.ChangeAt Go.RowKit Go.Deep Go.Maps
open fa (Us uNo nmL nds aw aw_le nodup_lenN BhV fX app_one new_one rdn_own RdN names_any nAt)
open fw (Ua ua_of bhL bhL_mem bhL_len Ah WebR2 web2_any)
open hp (rdn_ib ib_zero)
set_option linter.unusedVariables false
set_option linter.unusedSimpArgs false

/-! ### (web).ringFrom -/

def fS (us : List ty.Un) (s i : Nat) : Nat := (ds us i s).getD nw
theorem fS_lt {us : List ty.Un} {s i : Nat} : fS us s i < nw ↔ ∃ m, ds us i s = some m := by
  unfold fS
  cases h : ds us i s with
  | none => simp
  | some m => have := (ds_yes h).2.2; simp [nw]; omega
theorem fS_some {us : List ty.Un} {s i m : Nat} (h : ds us i s = some m) : fS us s i = m := by unfold fS; rw [h]; rfl
/-- The first of the nearest is the next one. -/
theorem min_nx {us : List ty.Un} {s at' r p j : Nat} (hm : Mn us s at' r) (hp : (ed us at')[p]? = some j) (h1 : ∀ q x : Nat, (ed us at')[q]? = some x → fS us s j ≤ fS us s x) (h2 : ∀ q x : Nat, q < p → (ed us at')[q]? = some x → fS us s j < fS us s x) : nx us s at' r = j ∧ ds us j s = some r := by
  obtain ⟨⟨z, hz, hd⟩, hmin⟩ := hm
  obtain ⟨q, hq⟩ := List.getElem?_of_mem hz
  have hr := (ds_yes hd).2.2
  have e1 := h1 q z hq
  rw [fS_some hd] at e1
  obtain ⟨m, hdj⟩ := fS_lt.1 (show fS us s j < nw by unfold nw; omega)
  have e2 := hmin j (List.mem_of_getElem? hp) m hdj
  rw [fS_some hdj] at e1
  obtain rfl : m = r := by omega
  refine ⟨nx_at hp hdj fun q x hq hx e => ?_, hdj⟩
  have := h2 q x hq hx
  rw [fS_some e, fS_some hdj] at this
  omega
/-- What it answers. -/
def RgR (us : List ty.Un) (s : Nat) (w w' : World) (e : Ending) : Prop := ∃ g o cap, e = .returned (.slice (some ⟨g, o, none⟩) (ring us s).length cap) ∧ fi.Ib w.heap.size w' g o cap (ring us s)
theorem Sb.grown {W W' : World} {bx g N k : Nat} {f : Nat → Nat} (h : Sb W bx g N f) (hg : W.grownBy W' (some k)) (h1 : k ≠ bx) (h2 : k ≠ g) : Sb W' bx g N f :=
  ⟨(World.cell?_of_block (a := ⟨bx, 0, none⟩) (hg.block bx (World.block_lt_of_cell? _ _ h.box) fun e => h1 (Option.some.inj e).symm)).trans h.box, fun i hi => (World.cell?_of_block (a := ⟨g, i, none⟩) (hg.block g (World.block_lt_of_cell? _ _ (h.row i hi)) fun e => h2 (Option.some.inj e).symm)).trans (h.row i hi)⟩
/-- What lies about while a ring is gone round. -/
structure RgS (us : List ty.Un) (n s : Nat) (w : World) (A U bs g : Nat) (wr : World) (g8 o8 c8 : Nat) (pre : List Nat) (at' q : Nat) : Prop where
  ib : fi.Ib w.heap.size wr g8 o8 c8 pre
  dq : ds us at' s = some q
  ri : pre ++ chn us s q at' = ring us s
  sb : Sb wr bs g (n + 1) (fS us s)
  bX : wr.rowIs w.heap.size 46 2 (fX A U n)
  bel : Below w.heap.size w wr
  ne : g8 ≠ g ∧ g8 ≠ bs ∧ g8 ≠ w.heap.size
theorem RgS.app {us : List ty.Un} {n s : Nat} {w : World} {A U bs g : Nat} {wr W' : World} {g8 o8 c8 g' o' c' : Nat} {pre : List Nat} {at' q : Nat} (h : RgS us n s w A U bs g wr g8 o8 c8 pre at' q) (ob : Obj) (hA : fi.Ap w.heap.size (wr.alloc ob) g8 W' g' o' c' (pre ++ [at'])) :
    fi.Ib w.heap.size W' g' o' c' (pre ++ [at']) ∧ Sb W' bs g (n + 1) (fS us s) ∧ W'.rowIs w.heap.size 46 2 (fX A U n) ∧ Below w.heap.size w W' ∧ (g' ≠ g ∧ g' ≠ bs ∧ g' ≠ w.heap.size) := by
  obtain ⟨n1, n2, n3⟩ := h.ne
  have hz := h.bel.size
  have hbl : Below wr.heap.size wr (wr.alloc ob) := (Below.refl _ _).alloc (Nat.le_refl _) _
  have hbs := World.block_lt_of_cell? _ _ h.sb.box
  have hgs := World.block_lt_of_cell? _ _ (h.sb.row 0 (by omega))
  have hxs := h.bX.lt
  refine ⟨hA.ib, (h.sb.below hbl).grown hA.grown n2 n1, (h.bX.alloc ob).of_block (hA.grown.block _ (by simp; omega) fun e => n3 (Option.some.inj e).symm), (h.bel.alloc hz ob).trans (hA.bel h.ib.new (by simp; omega)), ?_⟩
  rcases hA.here with e | e
  · rw [e]; exact h.ne
  · have e : wr.heap.size + 1 ≤ g' := by simpa using e
    simp only at hbs hgs
    exact ⟨by omega, by omega, by omega⟩

set_option maxRecDepth 100000 in
set_option maxHeartbeats 8000000 in
theorem ring_any (us : List ty.Un) (n s A U Bs : Nat) (V : Nat → Value) (w : World) (hU : Ua us) (hn : us.length = n) (hs : s < n) (hb : BhV Bs U (n + 1) (bhL us n) V w) (hA : Ah us n Bs A n V w) (hAl : A < w.heap.size) :
    Calls Try.prog 22 #[.agg #[.slice (some ⟨A, 0, none⟩) n n, .slice (some ⟨U, 0, none⟩) (n + 1) (n + 1)], .int .i64 (s : Int)] w fun e w' => RgR us s w w' e ∧ Below w.heap.size w w' := by
  have hn1 : n ≤ 100 := by have := hU.few; omega
  have HU := Lib.hid hU
  have HN : Hid (us.length = n) := hn
  have HB0 : Hid (Below w.heap.size w (w.alloc (.cells #[.slice (some ⟨A, 0, none⟩) n n, .slice (some ⟨U, 0, none⟩) (n + 1) (n + 1)] 46))) := (Below.refl _ _).alloc (Nat.le_refl _) _
  have HST := Lib.hid (sto_any us n s A U Bs V (w.alloc (.cells #[.slice (some ⟨A, 0, none⟩) n n, .slice (some ⟨U, 0, none⟩) (n + 1) (n + 1)] 46)) hU hn hs (hb.below HB0.out))
  have HX1 : Hid ((w.alloc (.cells #[.slice (some ⟨A, 0, none⟩) n n, .slice (some ⟨U, 0, none⟩) (n + 1) (n + 1)] 46)).rowIs w.heap.size 46 2 (fX A U n)) :=
    ⟨_, fa.blk_new w _, rfl, fun i hi => by
      match i, hi with
      | 0, _ => rfl
      | 1, _ => rfl⟩
  have HAH : Hid (∀ k, k < n → ∃ g o cap, (∀ W, Below w.heap.size w W → W.cell? ⟨A, k, none⟩ = some (.slice (some ⟨g, o, none⟩) (ed us k).length cap)) ∧ ∀ W, Below w.heap.size w W → ∀ i x : Nat, (ed us k)[i]? = some x → W.cell? ⟨g, o + i, none⟩ = some (.int .i64 (x : Int)) ∧ x < n + 1) := fun k hk => by
    obtain ⟨u, hu⟩ : ∃ u, us[k]? = some u := ⟨_, List.getElem?_eq_getElem (by rw [hn]; exact hk)⟩
    obtain ⟨g, o, cap, h1, h2, _⟩ := hA k u hk hu
    rw [← ed_some hu] at h1 h2
    refine ⟨g, o, cap, fun W hW => (hW.cell (p := ⟨A, k, none⟩) hAl).trans h1, fun W hW i x hx => ?_⟩
    obtain ⟨hi, rfl⟩ := List.getElem?_eq_some_iff.1 hx
    exact ⟨(h2.below hW).cells i hi, by have := ed_le (List.mem_of_getElem? hx); omega⟩
  have HEL : Hid (∀ k, (ed us k).length ≤ 1000) := fun k => by have := ed_len hU k; omega
  have hs0 : (0 : Int) ≤ (s : Int) := by omega
  have hsn : (s : Int) < (n : Int) := by omega
  clear hb hA hU hn
  go_enter Try.func22, Try.ntmps22
  go_wp2_with (go_at_call 45; refine HST.out.mono ?_; rintro e w1 ⟨⟨g, rfl, hg, hrow⟩, hl1⟩; refine Hid.out ?_)
  refine Lib.hid ?_
  have HB1 : Hid (Below w.heap.size w w1) := HB0.out.trans (hl1.mono HB0.out.size)
  have HB2 : Hid (Below w.heap.size w (w1.alloc (.cells #[.slice (some ⟨g, 0, none⟩) (n + 1) (n + 1)] 41))) := HB1.out.alloc HB1.out.size _
  have HSB : Hid (Sb (w1.alloc (.cells #[.slice (some ⟨g, 0, none⟩) (n + 1) (n + 1)] 41)) w1.heap.size g (n + 1) (fS us s)) := ⟨by simp, fun i hi => (World.rowIs.alloc hrow _).cell hi⟩
  have HX2 : Hid ((w1.alloc (.cells #[.slice (some ⟨g, 0, none⟩) (n + 1) (n + 1)] 41)).rowIs w.heap.size 46 2 (fX A U n)) := World.rowIs.alloc (HX1.out.of_block (hl1.block _ HX1.out.lt)) _
  clear hrow hl1 hg HST HX1 HB0
  have c0 : (w1.alloc (.cells #[.slice (some ⟨g, 0, none⟩) (n + 1) (n + 1)] 41)).cell? ⟨w.heap.size, 0, none⟩ = some (.slice (some ⟨A, 0, none⟩) n n) := HX2.out.cell (i := 0) (by omega)
  obtain ⟨ga, oa, ca, hca, hcc⟩ := HAH.out s hs
  have c1 := hca _ HB2.out
  have HCO := Lib.hid (conI_any (ed us s) ga oa ca w1.heap.size g (n + 1) (fS us s) _ HSB.out (HEL.out s) (hcc _ HB2.out))
  have HZ1 : Hid ((w1.alloc (.cells #[.slice (some ⟨g, 0, none⟩) (n + 1) (n + 1)] 41)).heap.size = w1.heap.size + 1) := by show _ = _; simp
  have HGL : Hid (g < w1.heap.size + 1 ∧ w.heap.size < w1.heap.size + 1) := ⟨by have := World.block_lt_of_cell? _ _ (HSB.out.row 0 (by omega)); rw [HZ1.out] at this; exact this, by have := HB1.out.size; omega⟩
  cases hany : (ed us s).any (fun x => decide (fS us s x < nw)) with
  | false =>
    rw [hany] at HCO
    have HRI : Hid (ring us s = []) := by
      show _ = _
      unfold ring
      rw [rd_zero fun j hj => ?_]
      · rfl
      · have h := List.any_eq_false.1 hany j hj
        cases hd : ds us j s with
        | none => rfl
        | some m => exact absurd (decide_eq_true (fS_lt.2 ⟨m, hd⟩)) h
    have HE : Hid (RgR us s w ((w1.alloc (.cells #[.slice (some ⟨g, 0, none⟩) (n + 1) (n + 1)] 41)).alloc (.cells #[] 3)) (.returned (.slice (some ⟨w1.heap.size + 1, 0, none⟩) 0 0)) ∧ Below w.heap.size w ((w1.alloc (.cells #[.slice (some ⟨g, 0, none⟩) (n + 1) (n + 1)] 41)).alloc (.cells #[] 3))) := by
      refine ⟨⟨w1.heap.size + 1, 0, 0, by rw [HRI.out]; rfl, ?_⟩, HB2.out.alloc HB2.out.size _⟩
      rw [HRI.out]
      have h := ib_zero (w1.alloc (.cells #[.slice (some ⟨g, 0, none⟩) (n + 1) (n + 1)] 41)) w.heap.size HB2.out.size 3
      rw [HZ1.out] at h
      exact h
    clear hany hca hcc HSB HX2 HB2 HAH HZ1
    go_wp2_with (go_at_call 49; refine HCO.out.mono ?_; rintro e w3 ⟨rfl, hw3⟩; have hw4 := hw3.symm; subst hw4; clear hw3)
    go_ret
    exact HE.out
  | true =>
    rw [hany] at HCO
    obtain ⟨r, hrd⟩ : ∃ r, rd us s = r + 1 := by
      obtain ⟨j, hj, hd⟩ := List.any_eq_true.1 hany
      obtain ⟨m, hm⟩ := fS_lt.1 (of_decide_eq_true hd)
      cases hr : rd us s with
      | zero => rw [rd_none hr j hj] at hm; cases hm
      | succ r => exact ⟨r, rfl⟩
    have HMN : Hid (Mn us s s r) := (rd_some hrd).1
    have HR200 : Hid (r < 200) := (rd_some hrd).2
    have HRI : Hid (ring us s = s :: chn us s r (nx us s s r)) := by show _ = _; unfold ring; rw [hrd]; rfl
    have hne0 : 0 < (ed us s).length := by
      obtain ⟨j, hj, _⟩ := List.any_eq_true.1 hany
      exact List.length_pos_of_mem hj
    have HB3 : Hid (Below w.heap.size w ((w1.alloc (.cells #[.slice (some ⟨g, 0, none⟩) (n + 1) (n + 1)] 41)).alloc (.cells #[.int .i64 (s : Int)] 3))) := HB2.out.alloc HB2.out.size _
    have HL3 : Hid (Below (w1.heap.size + 1) (w1.alloc (.cells #[.slice (some ⟨g, 0, none⟩) (n + 1) (n + 1)] 41)) ((w1.alloc (.cells #[.slice (some ⟨g, 0, none⟩) (n + 1) (n + 1)] 41)).alloc (.cells #[.int .i64 (s : Int)] 3))) := by rw [← HZ1.out]; exact (Below.refl _ _).alloc (Nat.le_refl _) _
    have HS3 : Hid (Sb ((w1.alloc (.cells #[.slice (some ⟨g, 0, none⟩) (n + 1) (n + 1)] 41)).alloc (.cells #[.int .i64 (s : Int)] 3)) w1.heap.size g (n + 1) (fS us s)) := HSB.out.below (by rw [HZ1.out]; exact HL3.out)
    have HX3 : Hid (((w1.alloc (.cells #[.slice (some ⟨g, 0, none⟩) (n + 1) (n + 1)] 41)).alloc (.cells #[.int .i64 (s : Int)] 3)).rowIs w.heap.size 46 2 (fX A U n)) := HX2.out.alloc _
    have HI3 : Hid (fi.Ib w.heap.size ((w1.alloc (.cells #[.slice (some ⟨g, 0, none⟩) (n + 1) (n + 1)] 41)).alloc (.cells #[.int .i64 (s : Int)] 3)) (w1.heap.size + 1) 0 1 [s]) := by
      have h := (two_newI (w1.alloc (.cells #[.slice (some ⟨g, 0, none⟩) (n + 1) (n + 1)] 41)) s).mono HB2.out.size
      rw [HZ1.out] at h
      exact h
    have c2 : ((w1.alloc (.cells #[.slice (some ⟨g, 0, none⟩) (n + 1) (n + 1)] 41)).alloc (.cells #[.int .i64 (s : Int)] 3)).cell? ⟨w.heap.size, 0, none⟩ = some (.slice (some ⟨A, 0, none⟩) n n) := HX3.out.cell (i := 0) (by omega)
    have c3 := hca _ HB3.out
    have HMI := Lib.hid (min_any (ed us s) ga oa ca w1.heap.size g (n + 1) (fS us s) _ HS3.out (HEL.out s) hne0 (hcc _ HB3.out))
    clear hany hca hcc HSB HX2 HB2 hne0 hrd HZ1 HL3
    go_wp2_with (go_at_call 49; refine HCO.out.mono ?_; rintro e w3 ⟨rfl, hw3⟩; have hw4 := hw3.symm; subst hw4; clear hw3; refine Hid.out ?_)
    refine Lib.hid ?_
    clear HCO c0 c1
    go_wp2_with (go_at_call 50; refine HMI.out.mono ?_; rintro e w4 ⟨⟨p, j, rfl, hp, h1, h2⟩, hl4⟩; refine Hid.out ?_)
    refine Lib.hid ?_
    obtain ⟨hnx, hdj⟩ := min_nx HMN.out hp h1 h2
    have HRS : Hid (RgS us n s w A U w1.heap.size g w4 (w1.heap.size + 1) 0 1 [s] j r) :=
      ⟨HI3.out.below hl4, hdj, by rw [HRI.out, hnx]; rfl, HS3.out.below hl4, HX3.out.of_block (hl4.block _ HX3.out.lt), HB3.out.trans (hl4.mono HB3.out.size), ⟨by have := HGL.out; omega, by omega, by have := HGL.out; omega⟩⟩
    clear hnx hdj hp h1 h2 hl4 HMI HI3 HS3 HX3 HB3 c2 c3 HB1 HMN HRI
    go_wp2
    go_loopg [8, 9] r (fun k v8 v9 wr => ∃ (q at' g8 o8 c8 : Nat) (pre : List Nat), v9 = .int .i64 (at' : Int) ∧ v8 = .slice (some ⟨g8, o8, none⟩) pre.length c8 ∧ RgS us n s w A U w1.heap.size g wr g8 o8 c8 pre at' q ∧ q ≤ k ∧ pre.length + q ≤ 1000)
    case atStart => exact ⟨r, j, _, 0, 1, [s], rfl, rfl, HRS.out, Nat.le_refl _, by have := HR200.out; simp; omega⟩
    case round =>
      clear HRS
      obtain ⟨q, at', g8, o8, c8, pre, rfl, rfl, hrs, hq, hpl⟩ := hrel
      have HRS := Lib.hid hrs
      have HQ : Hid (q ≤ gk) := hq
      clear hrs hq
      by_cases hse : at' = s
      · subst hse
        have HE : Hid (RgR us at' w wr (.returned (.slice (some ⟨g8, o8, none⟩) pre.length c8)) ∧ Below w.heap.size w wr) := by
          have h0 := HRS.out.dq
          rw [ds_self] at h0
          cases h0
          have hri := HRS.out.ri
          rw [show chn us at' 0 at' = [] from rfl, List.append_nil] at hri
          exact ⟨⟨g8, o8, c8, by rw [hri], by rw [← hri]; exact HRS.out.ib⟩, HRS.out.bel⟩
        clear HRS
        go_wp2
        go_ret
        exact HE.out
      · have hse' : ¬ (at' : Int) = (s : Int) := by omega
        obtain ⟨q1, rfl⟩ : ∃ q1, q = q1 + 1 := by
          cases q with
          | zero => exact absurd (ds_zero HRS.out.dq) hse
          | succ q1 => exact ⟨q1, rfl⟩
        have HAN : Hid (at' < n) := by have := ds_lt HRS.out.dq (by rw [HN.out]; exact hs); rw [HN.out] at this; exact this
        have HMN := Lib.hid (mn_step HRS.out.dq)
        have HIB : Hid (fi.Ib w.heap.size (wr.alloc (.cells #[.int .i64 (at' : Int)] 3)) g8 o8 c8 pre) := HRS.out.ib.below ((Below.refl _ _).alloc (Nat.le_refl _) _)
        have hws := HRS.out.bel.size
        have hai : (at' : Int) < (n : Int) := by have := HAN.out; omega
        have ha0 : (0 : Int) ≤ (at' : Int) := by omega
        clear hse
        go_wp2_with (at_builtin; refine app_one (base := w.heap.size) (l := pre) (m := [at']) (ad := ⟨wr.heap.size, 0, none⟩) (c := 1) (g := g8) («of» := o8) (cap := c8) rfl _ _ rfl rfl rfl HIB.out (by simp; omega) (new_one wr at') (by simp; omega) ?_; intro g4 o4 c4 w4 hA4; refine Hid.out ?_)
        refine Lib.hid ?_
        obtain ⟨k1, k2, k3, k4, k5⟩ := HRS.out.app _ hA4
        have HK1 := Lib.hid k1
        have HK2 := Lib.hid k2
        have HK3 := Lib.hid k3
        have HK4 := Lib.hid k4
        have HK5 := Lib.hid k5
        have HRI := Lib.hid HRS.out.ri
        obtain ⟨ga, oa, ca, hca, hcc⟩ := HAH.out at' HAN.out
        have c0 : w4.cell? ⟨w.heap.size, 0, none⟩ = some (.slice (some ⟨A, 0, none⟩) n n) := HK3.out.cell (i := 0) (by omega)
        have c1 := hca _ HK4.out
        have hne0 : 0 < (ed us at').length := by
          obtain ⟨⟨z, hz, _⟩, _⟩ := HMN.out
          exact List.length_pos_of_mem hz
        have HMI := Lib.hid (min_any (ed us at') ga oa ca w1.heap.size g (n + 1) (fS us s) _ HK2.out (HEL.out at') hne0 (hcc _ HK4.out))
        have HPL : Hid (pre.length + (q1 + 1) ≤ 1000) := hpl
        clear hA4 k1 k2 k3 k4 k5 hca hcc hne0 HIB HRS hpl
        go_wp2_with (go_at_call 50; refine HMI.out.mono ?_; rintro e w5 ⟨⟨p, j, rfl, hp, h1, h2⟩, hl5⟩; refine Hid.out ?_)
        refine Lib.hid ?_
        obtain ⟨hnx, hdj⟩ := min_nx HMN.out hp h1 h2
        have HRS : Hid (RgS us n s w A U w1.heap.size g w5 g4 o4 c4 (pre ++ [at']) j q1) :=
          ⟨HK1.out.below hl5, hdj, by rw [← HRI.out, ← hnx, List.append_assoc]; rfl, HK2.out.below hl5, HK3.out.of_block (hl5.block _ HK3.out.lt), HK4.out.trans (hl5.mono HK4.out.size), HK5.out⟩
        clear hnx hdj hp h1 h2 hl5 HMI
        go_wp2
        go_roundg q1
        case measure => have := HQ.out; omega
        case rel => exact ⟨q1, j, g4, o4, c4, pre ++ [at'], rfl, by first | rfl | simp, HRS.out, Nat.le_refl _, by have := HPL.out; simp; omega⟩
end Go.Proofs.Ytajpfidgepebgaa.cy

namespace Go.Proofs.Ytajpfidgepebgaa.cy
open Go.ChangeShapes Go.WideShapes Go.ChangeAt Go.RowKit Go.Deep Go.Maps
open fa (Us uNo nmL nds aw aw_le nodup_lenN BhV fX app_one new_one rdn_own RdN names_any nAt)
open fw (Ua ua_of bhL bhL_mem bhL_len Ah WebR2 web2_any)
open hp (rdn_ib ib_zero)
set_option linter.unusedVariables false
set_option linter.unusedSimpArgs false

/-! ### impl.Cycle -/

theorem cyN_lt {us : List ty.Un} : ∀ k, k ≤ us.length → ∀ x ∈ cyN us k, x < us.length
  | 0, _, x, hx => by simp [cyN, sc, chn] at hx
  | k + 1, hk, x, hx => by
    rw [cyN_step] at hx
    split at hx
    · exact ring_lt (by omega) x hx
    · exact cyN_lt k (by omega) x hx
theorem cyN_small (us : List ty.Un) (k : Nat) : (cyN us k).length ≤ 201 := by
  rw [cyN_len]
  rcases sc_is us k with h | ⟨_, h⟩
  · omega
  · cases hr : (sc us k).1 with
    | zero => omega
    | succ r => rw [hr] at h; have := (rd_some h).2; omega

set_option maxRecDepth 100000 in
set_option maxHeartbeats 8000000 in
theorem icy_any (md : Option Nat) (a : Option Addr) (c : Nat) (us : List ty.Un) (w : World) (hb : ty.SrcUn md w a us) (hw : ty.wtUn us ≤ 1048576) :
    Calls Try.prog 7 #[.slice a us.length c] w fun e w' => (∃ v, e = .returned v ∧ sr.OwnS w.heap.size w' v (cyA us)) ∧ Below w.heap.size w w' := by
  have HUO := Lib.hid (un.iunits_any a c us w hb.any hw)
  cases hu : un.usB us with
  | false =>
    rw [hu] at HUO
    have HA : Hid (cyA us = []) := by show _ = _; unfold cyA; rw [if_neg (by rw [hu]; decide)]
    rw [HA.out]
    go_enter Try.func7, Try.ntmps7
    go_wp2_with (go_at_call 17; refine HUO.out.mono ?_; rintro e w1 ⟨rfl, hl1⟩)
    go_ret
    exact ⟨⟨_, rfl, sr.OwnS.mono (base := w1.heap.size) ⟨sr.own_zero w1, sr.not_nil _ _ _⟩ hl1.size⟩, hl1.alloc hl1.size _⟩
  | true =>
    rw [hu] at HUO
    have hU := ua_of hu
    have HU := Lib.hid hU
    have HWB : Hid (∀ W, Below w.heap.size w W → Calls Try.prog 20 #[.slice a us.length c, .func (.func 21) #[] #[]] W fun e w' => WebR2 us us.length W w' e ∧ Below W.heap.size W w') := fun W h => web2_any md a c us W (hb.below h) hU
    have HNM : Hid (∀ (L : List Nat) (v : Value) (W : World), Below w.heap.size w W → RdN W v L → (∀ x ∈ L, x < us.length) → L.length ≤ 1000 → Calls Try.prog 19 #[.slice a us.length c, v] W fun e w' => (∃ v', e = .returned v' ∧ sr.OwnS W.heap.size w' v' (L.map (nAt us))) ∧ Below W.heap.size W w') := fun L v W h h1 h2 h3 => names_any md a c us L v W (hb.below h) hw hU.few h1 h2 h3
    have HA : Hid (cyA us = (cyN us us.length).map (nAt us)) := by show _ = _; unfold cyA; rw [if_pos hu]
    rw [HA.out]
    have HLT : Hid (∀ k, k ≤ us.length → ∀ x ∈ cyN us k, x < us.length) := cyN_lt
    have hn1 := hU.few
    obtain ⟨n, hnn⟩ : ∃ n, us.length = n := ⟨_, rfl⟩
    have HN : Hid (us.length = n) := hnn
    rw [hnn] at HUO HWB HNM HLT hn1 ⊢
    clear hb hw hu hU hnn HA
    go_enter Try.func7, Try.ntmps7
    go_wp2_with (go_at_call 17; refine HUO.out.mono ?_; rintro e w1 ⟨rfl, hl1⟩; refine Hid.out ?_)
    refine Lib.hid ?_
    have HW1 := Lib.hid (HWB.out w1 hl1)
    have HB1 := Lib.hid hl1
    clear hl1 HUO HWB
    go_wp2_with (go_at_call 20; refine HW1.out.mono ?_; rintro e w2 ⟨⟨A, U, Bs, V, rfl, hbh, hUB, hah, hA1, hA2, hA3⟩, hl2⟩; refine Hid.out ?_)
    refine Lib.hid ?_
    have HB2 := Lib.hid (HB1.out.trans (hl2.mono HB1.out.size))
    have hAl : A < w2.heap.size := by omega
    have hl3 : Below w2.heap.size w2 ((w2.alloc (.cells #[.slice (some ⟨A, 0, none⟩) n n, .slice (some ⟨U, 0, none⟩) (n + 1) (n + 1)] 46)).alloc (.cells #[] 3)) := ((Below.refl _ _).alloc (Nat.le_refl _) _).alloc (by simp) _
    have HWS : Hid (∀ W, Below w2.heap.size w2 W → BhV Bs U (n + 1) (bhL us n) V W ∧ Ah us n Bs A n V W ∧ A < W.heap.size) := fun W h => ⟨hbh.below h, hah.below hAl h, by have := h.size; omega⟩
    have HRG : Hid (∀ (s : Nat) (W : World), s < n → Below w2.heap.size w2 W → Calls Try.prog 22 #[.agg #[.slice (some ⟨A, 0, none⟩) n n, .slice (some ⟨U, 0, none⟩) (n + 1) (n + 1)], .int .i64 (s : Int)] W fun e w' => RgR us s W w' e ∧ Below W.heap.size W w') := fun s W hs h => by
      obtain ⟨k1, k2, k3⟩ := HWS.out W h
      exact ring_any us n s A U Bs V W HU.out HN.out hs k1 k2 k3
    have HX3 : Hid (∀ W, Below (w2.heap.size + 2) ((w2.alloc (.cells #[.slice (some ⟨A, 0, none⟩) n n, .slice (some ⟨U, 0, none⟩) (n + 1) (n + 1)] 46)).alloc (.cells #[] 3)) W → W.cell? ⟨w2.heap.size, 0, none⟩ = some (.slice (some ⟨A, 0, none⟩) n n) ∧ W.cell? ⟨w2.heap.size, 1, none⟩ = some (.slice (some ⟨U, 0, none⟩) (n + 1) (n + 1))) := fun W h =>
      ⟨(h.cell (p := ⟨w2.heap.size, 0, none⟩) (by show w2.heap.size < _; omega)).trans (by simp), (h.cell (p := ⟨w2.heap.size, 1, none⟩) (by show w2.heap.size < _; omega)).trans (by simp)⟩
    have HI3 : Hid (fi.Ib w2.heap.size ((w2.alloc (.cells #[.slice (some ⟨A, 0, none⟩) n n, .slice (some ⟨U, 0, none⟩) (n + 1) (n + 1)] 46)).alloc (.cells #[] 3)) (w2.heap.size + 1) 0 0 (cyN us 0)) := by
      have h := ib_zero (w2.alloc (.cells #[.slice (some ⟨A, 0, none⟩) n n, .slice (some ⟨U, 0, none⟩) (n + 1) (n + 1)] 46)) w2.heap.size (by simp) 3
      rw [show (w2.alloc (.cells #[.slice (some ⟨A, 0, none⟩) n n, .slice (some ⟨U, 0, none⟩) (n + 1) (n + 1)] 46)).heap.size = w2.heap.size + 1 by simp] at h
      exact h
    have HL3 := Lib.hid hl3
    clear hbh hah hl2 hl3 hUB HW1
    go_wp2
    go_loopw [4, 5, 6, 16] (fun v4 _ _ v16 wr => ∃ (k g o cap : Nat), k ≤ n ∧ v16 = .int .i64 (k : Int) ∧ v4 = .slice (some ⟨g, o, none⟩) (cyN us k).length cap ∧ fi.Ib w2.heap.size wr g o cap (cyN us k) ∧ Below (w2.heap.size + 2) ((w2.alloc (.cells #[.slice (some ⟨A, 0, none⟩) n n, .slice (some ⟨U, 0, none⟩) (n + 1) (n + 1)] 46)).alloc (.cells #[] 3)) wr) (fun _ _ _ v16 _ => n - (intOf v16).toNat)
    case atStart => exact ⟨0, _, 0, 0, Nat.zero_le _, rfl, rfl, HI3.out, Below.refl _ _⟩
    case round =>
      clear HI3
      obtain ⟨k, g, o, cap, hk, rfl, rfl, hib, hbel⟩ := hrel
      have HIB := Lib.hid hib
      have HBE := Lib.hid hbel
      have HBW : Hid (Below w2.heap.size w2 wr) := HL3.out.trans (hbel.mono (by omega))
      have HZW : Hid (w2.heap.size + 2 ≤ wr.heap.size) := by show _ ≤ _; have := hbel.size; simpa using this
      clear hib
      by_cases hkn : k < n
      · have hkn' : (k : Int) < (n : Int) := by omega
        obtain ⟨c0, c1⟩ := HX3.out wr hbel
        have HR := Lib.hid (HRG.out k wr hkn HBW.out)
        clear hbel
        go_wp2_with (go_at_call 22; refine HR.out.mono ?_; rintro e w3 ⟨⟨g3, o3, c3, rfl, hi3⟩, hl3⟩; refine Hid.out ?_)
        refine Lib.hid ?_
        have HI3 := Lib.hid (hi3.mono HBW.out.size)
        have HI4 := Lib.hid (HIB.out.below hl3)
        have HB3 : Hid (Below (w2.heap.size + 2) ((w2.alloc (.cells #[.slice (some ⟨A, 0, none⟩) n n, .slice (some ⟨U, 0, none⟩) (n + 1) (n + 1)] 46)).alloc (.cells #[] 3)) w3) := HBE.out.trans (hl3.mono HZW.out)
        have HST := Lib.hid (cyN_step us k)
        obtain ⟨rl, hrl⟩ : ∃ z, (ring us k).length = z := ⟨_, rfl⟩
        obtain ⟨cl, hcl⟩ : ∃ z, (cyN us k).length = z := ⟨_, rfl⟩
        have HRL : Hid ((ring us k).length = rl) := hrl
        have HCL : Hid ((cyN us k).length = cl) := hcl
        rw [hrl, hcl] at HST
        rw [hrl, hcl]
        clear hi3 hl3 HR c0 c1 hrl hcl
        by_cases hr0 : 0 < rl
        · have hr0' : (0 : Int) < (rl : Int) := by omega
          by_cases hc0 : cl = 0
          · have HE : Hid (cyN us (k + 1) = ring us k) := by show _ = _; rw [HST.out, if_pos ⟨hr0, .inl hc0⟩]
            have hc0' : (cl : Int) = 0 := by omega
            clear hc0 HST
            go_wp2
            go_roundw
            case rel => exact ⟨k + 1, g3, o3, c3, by omega, by go_num, by rw [HE.out, HRL.out], by rw [HE.out]; exact HI3.out, HB3.out⟩
            case measure => simp [intOf]; omega
          · have hc0' : ¬ (cl : Int) = 0 := by omega
            by_cases hlt : rl < cl
            · have HE : Hid (cyN us (k + 1) = ring us k) := by show _ = _; rw [HST.out, if_pos ⟨hr0, .inr hlt⟩]
              have hlt' : (rl : Int) < (cl : Int) := by omega
              clear HST
              go_wp2
              go_roundw
              case rel => exact ⟨k + 1, g3, o3, c3, by omega, by go_num, by rw [HE.out, HRL.out], by rw [HE.out]; exact HI3.out, HB3.out⟩
              case measure => simp [intOf]; omega
            · have HE : Hid (cyN us (k + 1) = cyN us k) := by show _ = _; rw [HST.out, if_neg (fun h => by omega)]
              have hlt' : ¬ (rl : Int) < (cl : Int) := by omega
              clear HST
              go_wp2
              go_roundw
              case rel => exact ⟨k + 1, g, o, cap, by omega, by go_num, by rw [HE.out, HCL.out], by rw [HE.out]; exact HI4.out, HB3.out⟩
              case measure => simp [intOf]; omega
        · have hr0' : ¬ (0 : Int) < (rl : Int) := by omega
          have HE : Hid (cyN us (k + 1) = cyN us k) := by show _ = _; rw [HST.out, if_neg (fun h => by omega)]
          clear HST
          go_wp2
          go_roundw
          case rel => exact ⟨k + 1, g, o, cap, by omega, by go_num, by rw [HE.out, HCL.out], by rw [HE.out]; exact HI4.out, HB3.out⟩
          case measure => simp [intOf]; omega
      · have hkn' : ¬ (k : Int) < (n : Int) := by omega
        obtain rfl : k = n := by omega
        have HBX : Hid (Below w.heap.size w wr) := HB2.out.trans (HBW.out.mono HB2.out.size)
        have HN2 := Lib.hid (HNM.out (cyN us k) _ wr HBX.out (rdn_ib HIB.out) (HLT.out k (Nat.le_refl _)) (by have := cyN_small us k; omega))
        clear hbel
        go_wp2_with (go_at_call 19; refine HN2.out.mono ?_; rintro e w3 ⟨⟨v3, rfl, ho3⟩, hl3⟩)
        go_ret
        exact ⟨⟨_, rfl, ho3.mono HBX.out.size⟩, HBX.out.trans (hl3.mono HBX.out.size)⟩

theorem cyA_small (us : List ty.Un) : (cyA us).length ≤ 1000000 := by
  unfold cyA
  split
  · rw [List.length_map]; have := cyN_small us us.length; omega
  · simp
end Go.Proofs.Ytajpfidgepebgaa.cy
