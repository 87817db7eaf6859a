import Derived.Test.YtnhddnfobcofcaaGreatDoorG06
import Derived.Deep.Cut
namespace Go.Proofs.YtnhddnfobcofcaaGreatDoor.cr
open Go.ChangeShapes Go.WideShapes Go.ChangeAt Go.RowKit Go.Deep
open cd (Tr Cn Nd PsO Btw Og app_at infoN heap_set2 own_set cells_of)
set_option linter.unusedVariables false
set_option linter.unusedSimpArgs false

/-! ### impl.Plain: rows made anew -/

/-- An older block, or one made since. -/
def Ob (O : Nat → Prop) (A B bb : Nat) : Prop := O bb ∨ Btw A B bb
def Oq (O : Nat → Prop) (B : Nat) (w : World) (v : Value) (bb : Nat) : Prop := O bb ∨ Og B w v bb
theorem GotT.many {w : World} {O : Nat → Prop} {r : Nat} {ts zs : List Tr} {us xs : List Value} (h : GotT w O r ts us) (k : GotT w O r zs xs) : GotT w O r (ts ++ zs) (us ++ xs) := by
  refine ⟨by simp [h.1, k.1], fun i x y hx hy => ?_⟩
  rcases Nat.lt_or_ge i us.length with hi | hi
  · rw [List.getElem?_append_left hi] at hx
    rw [List.getElem?_append_left (by rw [← h.1]; exact hi)] at hy
    exact h.2 i x y hx hy
  · rw [List.getElem?_append_right hi] at hx
    rw [List.getElem?_append_right (by rw [← h.1]; exact hi), ← h.1] at hy
    exact k.2 _ x y hx hy
theorem GotT.up {w : World} {O : Nat → Prop} {r : Nat} {ts : List Tr} {us : List Value} (h : GotT w O r ts us) : GotT w O (r + 1) ts us := ⟨h.1, fun i x y hx hy => Nd.up r (h.2 i x y hx hy)⟩
/-- Where a row stands while it is made. -/
structure Rp (O : Nat → Prop) (w : World) (d : Nat) (K : Int) (wr : World) (v : Value) (us : List Value) (ts : List Tr) : Prop where
  nd : wr.heap[w.heap.size]? = some (.cells #[.int .i64 K, .string ⟨#[]⟩, v] 67 (0, 0))
  own : wr.ownsRow (w.heap.size + 1) 43 1 v us.length us
  got : GotT wr (Oq O (w.heap.size + 1) wr v) d ts us
  bel : Below w.heap.size w wr
  old : ∀ bb, O bb → bb < w.heap.size
theorem Rp.sz {O : Nat → Prop} {w : World} {d : Nat} {K : Int} {wr : World} {v : Value} {us : List Value} {ts : List Tr} (h : Rp O w d K wr v us ts) : w.heap.size + 1 ≤ wr.heap.size := (Array.getElem?_eq_some_iff.1 h.nd).1
theorem Rp.vne {O : Nat → Prop} {w : World} {d : Nat} {K : Int} {wr : World} {v : Value} {us : List Value} {ts : List Tr} (h : Rp O w d K wr v us ts) {k : Nat} (hk : k < w.heap.size + 1) : v.ownBlock ≠ some k := fun e => by have := (h.own.lt k e).1; omega
theorem Rp.lt {O : Nat → Prop} {w : World} {d : Nat} {K : Int} {wr : World} {v : Value} {us : List Value} {ts : List Tr} (h : Rp O w d K wr v us ts) {bb : Nat} (hb : Oq O (w.heap.size + 1) wr v bb) : bb < wr.heap.size ∧ v.ownBlock ≠ some bb ∧ bb ≠ w.heap.size := by
  have := h.sz
  rcases hb with hb | ⟨a, b, c⟩
  · have := h.old bb hb
    exact ⟨by omega, h.vne (by omega), by omega⟩
  · exact ⟨b, fun e => c e.symm, by omega⟩
theorem Rp.moved {O : Nat → Prop} {w : World} {d : Nat} {K : Int} {wr w4 : World} {v : Value} {us : List Value} {ts : List Tr} (h : Rp O w d K wr v us ts) (hb : Below wr.heap.size wr w4) : Rp O w d K w4 v us ts := by
  have hz := h.sz
  refine ⟨(hb.block _ (by omega)).trans h.nd, own_below h.own hb, h.got.kept (fun bb hbb => hb.block bb (h.lt hbb).1) (fun bb hbb => ?_), h.bel.trans (hb.mono (by omega)), h.old⟩
  rcases hbb with hbb | ⟨a, b, c⟩
  · exact .inl hbb
  · exact .inr ⟨a, Nat.lt_of_lt_of_le b hb.size, c⟩
/-- Parts more. -/
theorem Rp.more {O : Nat → Prop} {w : World} {d : Nat} {K : Int} {wr w4 w5 w' : World} {v v' : Value} {us xs : List Value} {ts zs : List Tr} (h : Rp O w d K wr v us ts) (hb4 : Below wr.heap.size wr w4) (hb5 : Below w4.heap.size w4 w5) (hgot : GotT w4 (Ob O wr.heap.size w4.heap.size) d zs xs)
    (hown' : w'.ownsRow (w.heap.size + 1) 43 1 v' (us.length + xs.length) (us ++ xs)) (hg2 : w5.grownBy w' v.ownBlock) (hloc : v'.ownBlock = v.ownBlock ∨ v'.ownBlock = some w5.heap.size) : Rp O w d K (w'.setCell ⟨w.heap.size, 2, none⟩ v') v' (us ++ xs) (ts ++ zs) := by
  have hm := h.moved hb4
  have hz := h.sz
  have hz4 := hb4.size
  have hz5 := hb5.size
  have hz' := hg2.size
  have hsc : (w'.setCell ⟨w.heap.size, 2, none⟩ v').heap.size = w'.heap.size := by simp [World.setCell]
  have hk : ∀ bb, bb < w4.heap.size → some bb ≠ v.ownBlock → bb ≠ w.heap.size → (w'.setCell ⟨w.heap.size, 2, none⟩ v').heap[bb]? = w4.heap[bb]? := fun bb h1 h2 h3 => by
    rw [blk_setCell_other w' ⟨w.heap.size, 2, none⟩ v' bb (by simpa using h3), hg2.block bb (by omega) h2]
    exact hb5.block bb h1
  have hnd' : w'.heap[w.heap.size]? = some (.cells #[.int .i64 K, .string ⟨#[]⟩, v] 67 (0, 0)) := by
    rw [hg2.block _ (by omega) (fun e => h.vne (by omega) e.symm), hb5.block _ (by omega)]
    exact hm.nd
  refine ⟨heap_set2 hnd', by rw [List.length_append]; exact own_set hown' (by omega), ?_, ?_, h.old⟩
  · have k2 : GotT w4 (Oq O (w.heap.size + 1) w4 v) d zs xs := hgot.kept (fun _ _ => rfl) (fun bb hbb => by
      rcases hbb with hbb | ⟨a, b⟩
      · exact .inl hbb
      · exact .inr ⟨by omega, b, fun hc => by have := (h.own.lt bb hc.symm).2; omega⟩)
    refine (hm.got.many k2).kept (fun bb hbb => hk bb (hm.lt hbb).1 (fun e => (hm.lt hbb).2.1 e.symm) (hm.lt hbb).2.2) (fun bb hbb => ?_)
    rcases hbb with hbb | ⟨a, b, c⟩
    · exact .inl hbb
    · refine .inr ⟨a, by rw [hsc]; omega, ?_⟩
      rcases hloc with e | e
      · rw [e]; exact c
      · rw [e]; simp; omega
  · have hb' : Below w.heap.size w w' := (h.bel.trans ((hb4.trans (hb5.mono hz4)).mono (by omega))).grown hg2 (by omega) (fun k hk => by have := (h.own.lt k hk).1; omega)
    exact hb'.setCell (Nat.le_refl _) _
/-- The whole row. -/
theorem Rp.node {O : Nat → Prop} {w : World} {d : Nat} {K : Int} {wr : World} {v : Value} {us : List Value} {ts : List Tr} (h : Rp O w d K wr v us ts) : Nd wr (Ob O w.heap.size wr.heap.size) (d + 1) (.pointer (some ⟨w.heap.size, 0, none⟩)) (.mk K (bA []) ts) := by
  obtain ⟨_, av, cp, rfl, hcp, hcm, hPu⟩ := PsO.own h.own
  have hz := h.sz
  refine ⟨w.heap.size, av, cp, us, rfl, .inr ⟨Nat.le_refl _, by omega⟩, h.nd, h.got.1, hPu.mono (fun bb ⟨a, b⟩ => .inr ⟨by omega, b⟩), fun i x y hx hy => ?_⟩
  refine Nd.kept (fun _ _ => rfl) (fun bb hbb => ?_) d (h.got.2 i x y hx hy)
  rcases hbb with hbb | ⟨a, b, _⟩
  · exact .inl hbb
  · exact .inr ⟨by omega, b⟩
/-- What both answer: a tree of old and of new nodes. -/
def PlR (O : Nat → Prop) (w w' : World) (d : Nat) (t : Tr) (e : Ending) : Prop := ∃ g, e = .returned (.pointer (some ⟨g, 0, none⟩)) ∧ Nd w' (Ob O w.heap.size w'.heap.size) d (.pointer (some ⟨g, 0, none⟩)) t ∧ Below w.heap.size w w'
def PLc (O : Nat → Prop) (f : Nat) (b : Bool) (d : Nat) : Prop := ∀ (t : Tr) (nv : Value) (w : World), TOk t → lf t ≤ 10000 → Nd w O d nv t → (∀ bb, O bb → bb < w.heap.size) → Calls Tryz.prog f #[nv] w fun e w' => PlR O w w' (d + 1) (pt b t) e
theorem fl_parts_len (t : Tr) : t.parts.length + 1 ≤ (fl t).length := by
  obtain ⟨k, n, ps⟩ := t
  rw [fl_eq]
  simp only [List.length_cons]
  have h1 : ∀ qs : List Tr, qs.length ≤ (flL qs).length := fun qs => by
    induction qs with
    | nil => simp
    | cons q qs ih2 => rw [flL_cons, List.length_append, List.length_cons]; have := fl_pos q; omega
  exact Nat.succ_le_succ (h1 ps)
theorem rowJ_app (K : Int) (a b : List Tr) : rowJ K (a ++ b) = rowJ K a ++ rowJ K b := by unfold rowJ; rw [List.flatMap_append]
theorem rowJ_one (K : Int) (m : Tr) : rowJ K [m] = if m.kind = K then m.parts else [m] := by unfold rowJ; simp
theorem rowJ_take {K : Int} {ms : List Tr} {i : Nat} {m : Tr} (h : ms[i]? = some m) : rowJ K (ms.take (i + 1)) = rowJ K (ms.take i) ++ (if m.kind = K then m.parts else [m]) := by
  rw [List.take_add_one, h, Option.toList_some, rowJ_app, rowJ_one]
theorem rowJ_pre (K : Int) (ms : List Tr) (i : Nat) : (rowJ K (ms.take i)).length ≤ (rowJ K ms).length := by
  conv => rhs; rw [← List.take_append_drop i ms]
  rw [rowJ_app, List.length_append]
  omega
/-- A node's parts as they lie. -/
theorem Nd.open {w : World} {O : Nat → Prop} {d g : Nat} {t : Tr} (h : Nd w O (d + 1) (.pointer (some ⟨g, 0, none⟩)) t) : ∃ a cap vs, w.heap[g]? = some (.cells #[.int .i64 t.kind, .string t.name, .slice a vs.length cap] 67 (0, 0)) ∧ PsO w O a vs ∧ GotT w O d t.parts vs ∧ O g := by
  obtain ⟨k, n, ps⟩ := t
  obtain ⟨g', a, cap, vs, e, h2, h3, h4, h5, h6⟩ := h
  cases e
  exact ⟨a, cap, vs, h3, h5, ⟨h4, h6⟩, h2⟩

set_option maxRecDepth 100000 in
set_option maxHeartbeats 4000000 in
theorem rowP_any (O : Nat → Prop) (d : Nat) (hP : PLc O 25 false d) (K : Int) (hK : K = 5 ∨ K = 6) (ps : List Tr) (pa : Option Addr) (pcap : Nat) (vs : List Value) (w : World) (hps : PsO w O pa vs) (hgt : GotT w O d ps vs) (hok : ∀ x ∈ ps, TOk x) (hlf : ∀ x ∈ ps, lf x ≤ 10000) (hO : ∀ bb, O bb → bb < w.heap.size) (hlen : (rowJ K (ps.map (pt false))).length ≤ 100000) :
    Calls Tryz.prog 45 #[.int .i64 K, .slice pa vs.length pcap, .func (.func 25) #[] #[]] w fun e w' => PlR O w w' (d + 2) (.mk K (bA []) (rowJ K (ps.map (pt false)))) e := by
  have HP := Lib.hid hP
  have HPS := Lib.hid hps
  have HGT := Lib.hid hgt
  have HOK := Lib.hid hok
  have HLF := Lib.hid hlf
  have HO := Lib.hid hO
  have HLEN := Lib.hid hlen
  have HR0 : Hid (Rp O w (d + 1) K (w.alloc (.cells #[.int .i64 K, .string ⟨#[]⟩, .slice none 0 0] 67)) (.slice none 0 0) [] []) :=
    ⟨blk_alloc_new _ _, ⟨by simp, .inl ⟨rfl, rfl⟩⟩, ⟨rfl, fun i x y hx => by simp at hx⟩, (Below.refl _ _).alloc (Nat.le_refl _) _, hO⟩
  obtain ⟨m, hm⟩ : ∃ m, vs.length = m := ⟨_, rfl⟩
  have HM := Lib.hid hm
  rw [hm]
  have hml : m ≤ 100000 := by
    have h1 := rowJ_len hK (ps.map (pt false)) (fun x hx => by obtain ⟨y, hy, rfl⟩ := List.mem_map.1 hx; exact pt_ok y false (hok y hy))
    rw [List.length_map] at h1
    have := hgt.1
    omega
  clear hP hps hgt hok hlf hO hlen hm
  go_enter Tryz.func45, Tryz.ntmps45
  go_wp2
  go_loopw [9, 10, 16] (fun _ _ v16 wr => ∃ (i : Nat) (v : Value) (us : List Value), i ≤ m ∧ v16 = .int .i64 (i : Int) ∧ Rp O w (d + 1) K wr v us (rowJ K ((ps.map (pt false)).take i))) (fun _ _ v16 _ => m - (intOf v16).toNat)
  case atStart => exact ⟨0, .slice none 0 0, [], Nat.zero_le _, rfl, HR0.out⟩
  case round =>
    clear HR0
    obtain ⟨i, v, us, hi, rfl, hrp⟩ := hrel
    have HRP := Lib.hid hrp
    clear hrp
    by_cases him : i < m
    · have him' : (i : Int) < (m : Int) := by omega
      have hi0 : (0 : Int) ≤ (i : Int) := by omega
      obtain ⟨x, hx⟩ : ∃ x, vs[i]? = some x := ⟨_, List.getElem?_eq_getElem (by rw [HM.out]; exact him)⟩
      obtain ⟨y, hy⟩ : ∃ y, ps[i]? = some y := ⟨_, List.getElem?_eq_getElem (by rw [← HGT.out.1, HM.out]; exact him)⟩
      have HY0 := Lib.hid hy
      obtain ⟨bb, off, ho, hcell⟩ := HPS.out
      obtain ⟨rfl, hObb⟩ := ho.resolve_left (by rw [HM.out]; omega)
      have hnd := HGT.out.2 i x y hx hy
      obtain ⟨gx, rfl⟩ := Nd.ptr hnd
      have hkO : ∀ bb, O bb → wr.heap[bb]? = w.heap[bb]? := fun bb hb => HRP.out.bel.block bb (HO.out bb hb)
      have cx : wr.cell? ⟨bb, off + i, none⟩ = some (.pointer (some ⟨gx, 0, none⟩)) := (World.cell?_of_block (a := ⟨bb, off + i, none⟩) (hkO bb hObb)).trans (hcell i _ hx)
      have hzr := HRP.out.sz
      have HC := Lib.hid (HP.out y (.pointer (some ⟨gx, 0, none⟩)) wr (HOK.out y (List.mem_of_getElem? hy)) (HLF.out y (List.mem_of_getElem? hy)) (Nd.kept hkO (fun _ h => h) d hnd) (fun bb hb => by have := HO.out bb hb; omega))
      have HTK : Hid (rowJ K ((ps.map (pt false)).take (i + 1)) = rowJ K ((ps.map (pt false)).take i) ++ (if (pt false y).kind = K then (pt false y).parts else [pt false y])) := rowJ_take (by rw [List.getElem?_map, hy]; rfl)
      have HLE := Lib.hid (Nat.le_trans (rowJ_pre K (ps.map (pt false)) (i + 1)) HLEN.out)
      obtain ⟨va, vc, hve⟩ := own_shape HRP.out.own
      subst hve
      clear hx hy hcell ho hnd hkO
      go_wp2_with (go_at_call 25; refine HC.out.mono ?_; rintro e w4 ⟨g4, rfl, hnd4, hb4⟩; refine Hid.out ?_)
      refine Lib.hid ?_
      obtain ⟨T, hT⟩ : ∃ T, pt false y = T := ⟨_, rfl⟩
      rw [hT] at hnd4 HTK
      obtain ⟨a4, cap4, vs4, hG4, hps4, hgt4, hO4⟩ := Nd.open hnd4
      have HND4 := Lib.hid hnd4
      have HB4 := Lib.hid hb4
      have HM4 := Lib.hid (HRP.out.moved hb4)
      obtain ⟨q0, q1, q2⟩ := cells_of hG4
      obtain ⟨r0, r1, r2⟩ := cells_of HM4.out.nd
      have hlus := HRP.out.got.1
      have hle := HLE.out
      rw [HTK.out, List.length_append, ← hlus] at hle
      clear hlus
      have hsz4 := HM4.out.sz
      have hown4 := HM4.out.own
      have HNW : Hid (∀ w5 w' : World, Below w4.heap.size w4 w5 → w5.grownBy w' (Value.slice va us.length vc).ownBlock → w'.cell? ⟨w.heap.size, 2, none⟩ = some (.slice va us.length vc) ∧ w'.frozen? ⟨w.heap.size, 2, none⟩ = false) := fun w5 w' hb5 hg => by
        have hb : w'.heap[w.heap.size]? = _ := (hg.block _ (by have := hb5.size; omega) (fun e => HRP.out.vne (by omega) e.symm)).trans ((hb5.block _ (by omega)).trans HM4.out.nd)
        exact ⟨(cells_of hb).2.2, by simp [World.frozen?, hb]⟩
      have hfr4 : w4.frozen? ⟨w.heap.size, 2, none⟩ = false := by simp [World.frozen?, HM4.out.nd]
      by_cases hk : T.kind = K
      · rw [if_pos hk] at hle
        have HXL : Hid (vs4.length = T.parts.length) := hgt4.1
        have h40 : 0 < vs4.length := by
          rw [hgt4.1]
          have hto : TOk T := by rw [← hT]; exact pt_ok y false (HOK.out y (List.mem_of_getElem? HY0.out))
          obtain ⟨k', n', ps'⟩ := T
          have hk' : k' = K := hk
          rcases tok_cases hto with ⟨h1, _⟩ | ⟨_, _, h1⟩ | ⟨_, h1, _⟩ | ⟨_, _, h1, _⟩
          · omega
          · omega
          · omega
          · show 0 < ps'.length; omega
        obtain ⟨b4, o4, ho4, hc4⟩ := hps4
        obtain ⟨rfl, hOb4⟩ := ho4.resolve_left (by omega)
        have HGT4 := Lib.hid (GotT.up hgt4)
        have HNEW : Hid (∀ j u, vs4[j]? = some u → w4.cell? ((⟨b4, o4, none⟩ : Addr).add j) = some u) := fun j u hj => by rw [addr_add]; exact hc4 j u hj
        have HONE : Hid (∀ u ∈ vs4, u.oneCell' = true) := fun u hu => by
          obtain ⟨j, hj, rfl⟩ := List.getElem_of_mem hu
          obtain ⟨g5, e5⟩ := Nd.ptr (hgt4.2 j vs4[j] (T.parts[j]'(by rw [← hgt4.1]; exact hj)) (List.getElem?_eq_getElem hj) (List.getElem?_eq_getElem _))
          rw [e5]; rfl
        obtain ⟨m4, hm4⟩ : ∃ m4, vs4.length = m4 := ⟨_, rfl⟩
        have HM44 := Lib.hid hm4
        rw [hm4] at q2 h40
        rw [← HXL.out, hm4] at hle
        have HSM : Hid (∀ W : World, W.heap[g4]? = w4.heap[g4]? → W.cell? ⟨g4, 2, none⟩ = some (.slice (some ⟨b4, o4, none⟩) m4 cap4)) := fun W hW => by
          have := q2
          simp only [World.cell?] at this ⊢
          rw [hW]
          exact this
        have hg4 : g4 < w4.heap.size ∧ (Value.slice va us.length vc).ownBlock ≠ some g4 ∧ g4 ≠ w.heap.size := by
          have hsz := HRP.out.sz
          rcases hO4 with h | ⟨h1, h2⟩
          · have := HO.out g4 h
            exact ⟨by omega, HRP.out.vne (by omega), by omega⟩
          · exact ⟨h2, (fun e => by have := (HRP.out.own.lt g4 e).2; omega), by omega⟩
        obtain ⟨i8, hi8, hzz⟩ := Option.map_eq_some_iff.1 infoN
        simp only [Prod.mk.injEq] at hzz
        obtain ⟨hz0, hz1, hz2⟩ := hzz
        have hzl : us.length + m4 ≤ 100000 := hle
        obtain ⟨v6, W6, hr6, ho6, hg6, _, hl6⟩ := run_append_own_at (P := Tryz.prog) w4.drew (w.heap.size + 1) 65 65 43 i8 _ 1 8 Tryz.underlying65 hi8 hz0 hz1 hz2 rfl (by omega) (.slice va us.length vc) us.length us hown4 ⟨b4, o4, none⟩ m4 cap4 vs4 (by rw [HM44.out]; omega) HNEW.out HONE.out (by unfold maxLen; omega) (by omega) (by have := w4.heap.size; simp; omega)
        have HM6 : Hid (Rp O w (d + 1) K (W6.setCell ⟨w.heap.size, 2, none⟩ v6) v6 (us ++ vs4) (rowJ K ((ps.map (pt false)).take (i + 1)))) := by
          show Rp _ _ _ _ _ _ _ _
          rw [HTK.out]
          rw [if_pos (by assumption)]
          exact HRP.out.more HB4.out ((Below.refl _ _).drew) HGT4.out (by rw [HM44.out]; exact ho6) hg6 hl6
        obtain ⟨t2, tf⟩ := HNW.out w4.drew W6 ((Below.refl _ _).drew) hg6
        have HSW6 := Lib.hid (HSM.out W6 (hg6.block g4 (by simpa using hg4.1) (fun e => hg4.2.1 e.symm)))
        have HSW7 : Hid ((W6.setCell ⟨w.heap.size, 2, none⟩ v6).cell? ⟨g4, 2, none⟩ = some (.slice (some ⟨b4, o4, none⟩) m4 cap4)) := HSM.out _ ((blk_setCell_other W6 ⟨w.heap.size, 2, none⟩ v6 g4 (by simpa using hg4.2.2)).trans (hg6.block g4 (by simpa using hg4.1) (fun e => hg4.2.1 e.symm)))
        have HSW0 := Lib.hid (HSM.out w4 rfl)
        obtain ⟨va', vc', hve'⟩ := own_shape ho6
        subst hve'
        rw [hk] at q0
        obtain ⟨L6, hL6⟩ : ∃ L6, us.length + m4 = L6 := ⟨_, rfl⟩
        rw [hL6] at hr6 HM6 HSW7
        clear hgt4 hc4 hG4 hnd4 hb4 HC ho4 hm4 ho6 hg6 hl6 hown4 hL6 hi8 hz0 hz1 hz2 hk hg4
        try clear hO4
        go_wp2_with fail
        go_upto_region 7 with fail
        refine wq 13 (S := fun W => W.cell? ⟨g4, 2, none⟩ = some (.slice (some ⟨b4, o4, none⟩) m4 cap4)) (by kernel_rfl) HSW0.out fun hHeld => ?_
        iterate 4 (refine un 13 rfl ?_; try simp only [aP])
        refine uq (i := 5) rfl ?_; try simp only [aP]
        refine uq (i := 6) rfl ?_; try simp only [aP]
        refine uq (i := 7) rfl ?_; try simp only [aP]
        refine uq (i := 8) rfl ?_; try simp only [aP]
        refine rq 4 rfl fun K hK => ?_
        go_simp
        try go_wp2_with fail
        refine hK.out _ _ HSW0.out (fun hHeld => ?_)
        clear hK K
        try simp only [aP]
        refine rq 9 rfl fun K hK => ?_
        refine wp_appX _ _ _ _ rfl rfl rfl hr6 ?_
        refine hK.out _ _ HSW6.out (fun hHeld => ?_)
        clear hK K hr6
        try simp only [aP]
        iterate 2 (refine un 13 rfl ?_; try simp only [aP])
        refine rq 12 rfl fun K hK => ?_
        go_simp
        try go_wp2_with fail
        refine hK.out _ _ HSW7.out (fun hHeld => ?_)
        clear hK K
        try simp only [aP]
        refine dq ?_
        clear hHeld
        go_wp2
        go_roundw
        case rel => exact ⟨i + 1, _, us ++ vs4, by omega, by go_num, HM6.out⟩
        case measure => simp [intOf]; omega
      · rw [if_neg hk] at hle
        have HGT1 : Hid (GotT w4 (Ob O wr.heap.size w4.heap.size) (d + 1) [T] [.pointer (some ⟨g4, 0, none⟩)]) := ⟨rfl, fun i x y hx hy => by
          cases i with
          | zero => simp at hx hy; subst hx; subst hy; exact HND4.out
          | succ i => simp at hx⟩
        have HKN : Hid (¬ T.kind = K) := hk
        have hzl : us.length + 1 ≤ 100000 := by simpa using hle
        obtain ⟨tk, htk⟩ : ∃ tk, T.kind = tk := ⟨_, rfl⟩
        rw [htk] at q0 hk
        clear hgt4 hG4 hnd4 hb4 HC hO4 hps4 htk
        go_wp2_with (first
          | (at_builtin; refine app_at _ rfl _ _ 65 rfl (w.heap.size + 1) 43 (.pointer none) 8 Tryz.underlying65 infoN rfl _ _ _ rfl (hown4.alloc _) ⟨w4.heap.size, 0, none⟩ 1 1 [.pointer (some ⟨g4, 0, none⟩)] rfl rfl (one_new _ _ _) ?c2 ?c3 ?c4 ?c5 ?_)
          | go_in)
        case c2 => intro u hu; simp at hu; subst hu; rfl
        case c3 => unfold maxLen; omega
        case c4 => omega
        case c5 => simp; omega
        intro v' w' hown' hg hloc
        have HM6 : Hid (Rp O w (d + 1) K (w'.setCell ⟨w.heap.size, 2, none⟩ v') v' (us ++ [.pointer (some ⟨g4, 0, none⟩)]) (rowJ K ((ps.map (pt false)).take (i + 1)))) := by
          show Rp _ _ _ _ _ _ _ _
          rw [HTK.out, if_neg HKN.out]
          exact HRP.out.more HB4.out ((Below.refl _ _).alloc (Nat.le_refl _) _) HGT1.out hown' hg (by rw [World.size_alloc]; exact hloc)
        obtain ⟨t2, tf⟩ := HNW.out _ w' ((Below.refl _ _).alloc (Nat.le_refl _) _) hg
        obtain ⟨va', vc', hve'⟩ := own_shape hown'
        subst hve'
        clear hown' hg hloc hown4 q0 q1 q2 r0 r1 r2
        go_wp2_with fail
        go_roundw
        case rel => exact ⟨i + 1, _, us ++ [.pointer (some ⟨g4, 0, none⟩)], by omega, by go_num, HM6.out⟩
        case measure => simp [intOf]; omega
    · have him' : ¬ (i : Int) < (m : Int) := by omega
      have HT : Hid (rowJ K ((ps.map (pt false)).take i) = rowJ K (ps.map (pt false))) := by show _ = _; rw [List.take_of_length_le (by rw [List.length_map, ← HGT.out.1, HM.out]; omega)]
      have HF : Hid (PlR O w wr (d + 2) (.mk K (bA []) (rowJ K (ps.map (pt false)))) (.returned (.pointer (some ⟨w.heap.size, 0, none⟩)))) := ⟨_, rfl, by rw [← HT.out]; exact HRP.out.node, HRP.out.bel⟩
      clear HT HRP
      go_wp2
      go_ret
      exact HF.out


set_option maxRecDepth 100000 in
set_option maxHeartbeats 4000000 in
theorem rowT_any (O : Nat → Prop) (d : Nat) (hP : PLc O 44 true d) (K : Int) (hK : K = 5 ∨ K = 6) (ps : List Tr) (pa : Option Addr) (pcap : Nat) (vs : List Value) (w : World) (hps : PsO w O pa vs) (hgt : GotT w O d ps vs) (hok : ∀ x ∈ ps, TOk x) (hlf : ∀ x ∈ ps, lf x ≤ 10000) (hO : ∀ bb, O bb → bb < w.heap.size) (hlen : (rowJ K (ps.map (pt true))).length ≤ 100000) :
    Calls Tryz.prog 45 #[.int .i64 K, .slice pa vs.length pcap, .func (.func 44) #[] #[]] w fun e w' => PlR O w w' (d + 2) (.mk K (bA []) (rowJ K (ps.map (pt true)))) e := by
  have HP := Lib.hid hP
  have HPS := Lib.hid hps
  have HGT := Lib.hid hgt
  have HOK := Lib.hid hok
  have HLF := Lib.hid hlf
  have HO := Lib.hid hO
  have HLEN := Lib.hid hlen
  have HR0 : Hid (Rp O w (d + 1) K (w.alloc (.cells #[.int .i64 K, .string ⟨#[]⟩, .slice none 0 0] 67)) (.slice none 0 0) [] []) :=
    ⟨blk_alloc_new _ _, ⟨by simp, .inl ⟨rfl, rfl⟩⟩, ⟨rfl, fun i x y hx => by simp at hx⟩, (Below.refl _ _).alloc (Nat.le_refl _) _, hO⟩
  obtain ⟨m, hm⟩ : ∃ m, vs.length = m := ⟨_, rfl⟩
  have HM := Lib.hid hm
  rw [hm]
  have hml : m ≤ 100000 := by
    have h1 := rowJ_len hK (ps.map (pt true)) (fun x hx => by obtain ⟨y, hy, rfl⟩ := List.mem_map.1 hx; exact pt_ok y true (hok y hy))
    rw [List.length_map] at h1
    have := hgt.1
    omega
  clear hP hps hgt hok hlf hO hlen hm
  go_enter Tryz.func45, Tryz.ntmps45
  go_wp2
  go_loopw [9, 10, 16] (fun _ _ v16 wr => ∃ (i : Nat) (v : Value) (us : List Value), i ≤ m ∧ v16 = .int .i64 (i : Int) ∧ Rp O w (d + 1) K wr v us (rowJ K ((ps.map (pt true)).take i))) (fun _ _ v16 _ => m - (intOf v16).toNat)
  case atStart => exact ⟨0, .slice none 0 0, [], Nat.zero_le _, rfl, HR0.out⟩
  case round =>
    clear HR0
    obtain ⟨i, v, us, hi, rfl, hrp⟩ := hrel
    have HRP := Lib.hid hrp
    clear hrp
    by_cases him : i < m
    · have him' : (i : Int) < (m : Int) := by omega
      have hi0 : (0 : Int) ≤ (i : Int) := by omega
      obtain ⟨x, hx⟩ : ∃ x, vs[i]? = some x := ⟨_, List.getElem?_eq_getElem (by rw [HM.out]; exact him)⟩
      obtain ⟨y, hy⟩ : ∃ y, ps[i]? = some y := ⟨_, List.getElem?_eq_getElem (by rw [← HGT.out.1, HM.out]; exact him)⟩
      have HY0 := Lib.hid hy
      obtain ⟨bb, off, ho, hcell⟩ := HPS.out
      obtain ⟨rfl, hObb⟩ := ho.resolve_left (by rw [HM.out]; omega)
      have hnd := HGT.out.2 i x y hx hy
      obtain ⟨gx, rfl⟩ := Nd.ptr hnd
      have hkO : ∀ bb, O bb → wr.heap[bb]? = w.heap[bb]? := fun bb hb => HRP.out.bel.block bb (HO.out bb hb)
      have cx : wr.cell? ⟨bb, off + i, none⟩ = some (.pointer (some ⟨gx, 0, none⟩)) := (World.cell?_of_block (a := ⟨bb, off + i, none⟩) (hkO bb hObb)).trans (hcell i _ hx)
      have hzr := HRP.out.sz
      have HC := Lib.hid (HP.out y (.pointer (some ⟨gx, 0, none⟩)) wr (HOK.out y (List.mem_of_getElem? hy)) (HLF.out y (List.mem_of_getElem? hy)) (Nd.kept hkO (fun _ h => h) d hnd) (fun bb hb => by have := HO.out bb hb; omega))
      have HTK : Hid (rowJ K ((ps.map (pt true)).take (i + 1)) = rowJ K ((ps.map (pt true)).take i) ++ (if (pt true y).kind = K then (pt true y).parts else [pt true y])) := rowJ_take (by rw [List.getElem?_map, hy]; rfl)
      have HLE := Lib.hid (Nat.le_trans (rowJ_pre K (ps.map (pt true)) (i + 1)) HLEN.out)
      obtain ⟨va, vc, hve⟩ := own_shape HRP.out.own
      subst hve
      clear hx hy hcell ho hnd hkO
      go_wp2_with (go_at_call 44; refine HC.out.mono ?_; rintro e w4 ⟨g4, rfl, hnd4, hb4⟩; refine Hid.out ?_)
      refine Lib.hid ?_
      obtain ⟨T, hT⟩ : ∃ T, pt true y = T := ⟨_, rfl⟩
      rw [hT] at hnd4 HTK
      obtain ⟨a4, cap4, vs4, hG4, hps4, hgt4, hO4⟩ := Nd.open hnd4
      have HND4 := Lib.hid hnd4
      have HB4 := Lib.hid hb4
      have HM4 := Lib.hid (HRP.out.moved hb4)
      obtain ⟨q0, q1, q2⟩ := cells_of hG4
      obtain ⟨r0, r1, r2⟩ := cells_of HM4.out.nd
      have hlus := HRP.out.got.1
      have hle := HLE.out
      rw [HTK.out, List.length_append, ← hlus] at hle
      clear hlus
      have hsz4 := HM4.out.sz
      have hown4 := HM4.out.own
      have HNW : Hid (∀ w5 w' : World, Below w4.heap.size w4 w5 → w5.grownBy w' (Value.slice va us.length vc).ownBlock → w'.cell? ⟨w.heap.size, 2, none⟩ = some (.slice va us.length vc) ∧ w'.frozen? ⟨w.heap.size, 2, none⟩ = false) := fun w5 w' hb5 hg => by
        have hb : w'.heap[w.heap.size]? = _ := (hg.block _ (by have := hb5.size; omega) (fun e => HRP.out.vne (by omega) e.symm)).trans ((hb5.block _ (by omega)).trans HM4.out.nd)
        exact ⟨(cells_of hb).2.2, by simp [World.frozen?, hb]⟩
      have hfr4 : w4.frozen? ⟨w.heap.size, 2, none⟩ = false := by simp [World.frozen?, HM4.out.nd]
      by_cases hk : T.kind = K
      · rw [if_pos hk] at hle
        have HXL : Hid (vs4.length = T.parts.length) := hgt4.1
        have h40 : 0 < vs4.length := by
          rw [hgt4.1]
          have hto : TOk T := by rw [← hT]; exact pt_ok y true (HOK.out y (List.mem_of_getElem? HY0.out))
          obtain ⟨k', n', ps'⟩ := T
          have hk' : k' = K := hk
          rcases tok_cases hto with ⟨h1, _⟩ | ⟨_, _, h1⟩ | ⟨_, h1, _⟩ | ⟨_, _, h1, _⟩
          · omega
          · omega
          · omega
          · show 0 < ps'.length; omega
        obtain ⟨b4, o4, ho4, hc4⟩ := hps4
        obtain ⟨rfl, hOb4⟩ := ho4.resolve_left (by omega)
        have HGT4 := Lib.hid (GotT.up hgt4)
        have HNEW : Hid (∀ j u, vs4[j]? = some u → w4.cell? ((⟨b4, o4, none⟩ : Addr).add j) = some u) := fun j u hj => by rw [addr_add]; exact hc4 j u hj
        have HONE : Hid (∀ u ∈ vs4, u.oneCell' = true) := fun u hu => by
          obtain ⟨j, hj, rfl⟩ := List.getElem_of_mem hu
          obtain ⟨g5, e5⟩ := Nd.ptr (hgt4.2 j vs4[j] (T.parts[j]'(by rw [← hgt4.1]; exact hj)) (List.getElem?_eq_getElem hj) (List.getElem?_eq_getElem _))
          rw [e5]; rfl
        obtain ⟨m4, hm4⟩ : ∃ m4, vs4.length = m4 := ⟨_, rfl⟩
        have HM44 := Lib.hid hm4
        rw [hm4] at q2 h40
        rw [← HXL.out, hm4] at hle
        have HSM : Hid (∀ W : World, W.heap[g4]? = w4.heap[g4]? → W.cell? ⟨g4, 2, none⟩ = some (.slice (some ⟨b4, o4, none⟩) m4 cap4)) := fun W hW => by
          have := q2
          simp only [World.cell?] at this ⊢
          rw [hW]
          exact this
        have hg4 : g4 < w4.heap.size ∧ (Value.slice va us.length vc).ownBlock ≠ some g4 ∧ g4 ≠ w.heap.size := by
          have hsz := HRP.out.sz
          rcases hO4 with h | ⟨h1, h2⟩
          · have := HO.out g4 h
            exact ⟨by omega, HRP.out.vne (by omega), by omega⟩
          · exact ⟨h2, (fun e => by have := (HRP.out.own.lt g4 e).2; omega), by omega⟩
        obtain ⟨i8, hi8, hzz⟩ := Option.map_eq_some_iff.1 infoN
        simp only [Prod.mk.injEq] at hzz
        obtain ⟨hz0, hz1, hz2⟩ := hzz
        have hzl : us.length + m4 ≤ 100000 := hle
        obtain ⟨v6, W6, hr6, ho6, hg6, _, hl6⟩ := run_append_own_at (P := Tryz.prog) w4.drew (w.heap.size + 1) 65 65 43 i8 _ 1 8 Tryz.underlying65 hi8 hz0 hz1 hz2 rfl (by omega) (.slice va us.length vc) us.length us hown4 ⟨b4, o4, none⟩ m4 cap4 vs4 (by rw [HM44.out]; omega) HNEW.out HONE.out (by unfold maxLen; omega) (by omega) (by have := w4.heap.size; simp; omega)
        have HM6 : Hid (Rp O w (d + 1) K (W6.setCell ⟨w.heap.size, 2, none⟩ v6) v6 (us ++ vs4) (rowJ K ((ps.map (pt true)).take (i + 1)))) := by
          show Rp _ _ _ _ _ _ _ _
          rw [HTK.out]
          rw [if_pos (by assumption)]
          exact HRP.out.more HB4.out ((Below.refl _ _).drew) HGT4.out (by rw [HM44.out]; exact ho6) hg6 hl6
        obtain ⟨t2, tf⟩ := HNW.out w4.drew W6 ((Below.refl _ _).drew) hg6
        have HSW6 := Lib.hid (HSM.out W6 (hg6.block g4 (by simpa using hg4.1) (fun e => hg4.2.1 e.symm)))
        have HSW7 : Hid ((W6.setCell ⟨w.heap.size, 2, none⟩ v6).cell? ⟨g4, 2, none⟩ = some (.slice (some ⟨b4, o4, none⟩) m4 cap4)) := HSM.out _ ((blk_setCell_other W6 ⟨w.heap.size, 2, none⟩ v6 g4 (by simpa using hg4.2.2)).trans (hg6.block g4 (by simpa using hg4.1) (fun e => hg4.2.1 e.symm)))
        have HSW0 := Lib.hid (HSM.out w4 rfl)
        obtain ⟨va', vc', hve'⟩ := own_shape ho6
        subst hve'
        rw [hk] at q0
        obtain ⟨L6, hL6⟩ : ∃ L6, us.length + m4 = L6 := ⟨_, rfl⟩
        rw [hL6] at hr6 HM6 HSW7
        clear hgt4 hc4 hG4 hnd4 hb4 HC ho4 hm4 ho6 hg6 hl6 hown4 hL6 hi8 hz0 hz1 hz2 hk hg4
        try clear hO4
        go_wp2_with fail
        go_upto_region 7 with fail
        refine wq 13 (S := fun W => W.cell? ⟨g4, 2, none⟩ = some (.slice (some ⟨b4, o4, none⟩) m4 cap4)) (by kernel_rfl) HSW0.out fun hHeld => ?_
        iterate 4 (refine un 13 rfl ?_; try simp only [aP])
        refine uq (i := 5) rfl ?_; try simp only [aP]
        refine uq (i := 6) rfl ?_; try simp only [aP]
        refine uq (i := 7) rfl ?_; try simp only [aP]
        refine uq (i := 8) rfl ?_; try simp only [aP]
        refine rq 4 rfl fun K hK => ?_
        go_simp
        try go_wp2_with fail
        refine hK.out _ _ HSW0.out (fun hHeld => ?_)
        clear hK K
        try simp only [aP]
        refine rq 9 rfl fun K hK => ?_
        refine wp_appX _ _ _ _ rfl rfl rfl hr6 ?_
        refine hK.out _ _ HSW6.out (fun hHeld => ?_)
        clear hK K hr6
        try simp only [aP]
        iterate 2 (refine un 13 rfl ?_; try simp only [aP])
        refine rq 12 rfl fun K hK => ?_
        go_simp
        try go_wp2_with fail
        refine hK.out _ _ HSW7.out (fun hHeld => ?_)
        clear hK K
        try simp only [aP]
        refine dq ?_
        clear hHeld
        go_wp2
        go_roundw
        case rel => exact ⟨i + 1, _, us ++ vs4, by omega, by go_num, HM6.out⟩
        case measure => simp [intOf]; omega
      · rw [if_neg hk] at hle
        have HGT1 : Hid (GotT w4 (Ob O wr.heap.size w4.heap.size) (d + 1) [T] [.pointer (some ⟨g4, 0, none⟩)]) := ⟨rfl, fun i x y hx hy => by
          cases i with
          | zero => simp at hx hy; subst hx; subst hy; exact HND4.out
          | succ i => simp at hx⟩
        have HKN : Hid (¬ T.kind = K) := hk
        have hzl : us.length + 1 ≤ 100000 := by simpa using hle
        obtain ⟨tk, htk⟩ : ∃ tk, T.kind = tk := ⟨_, rfl⟩
        rw [htk] at q0 hk
        clear hgt4 hG4 hnd4 hb4 HC hO4 hps4 htk
        go_wp2_with (first
          | (at_builtin; refine app_at _ rfl _ _ 65 rfl (w.heap.size + 1) 43 (.pointer none) 8 Tryz.underlying65 infoN rfl _ _ _ rfl (hown4.alloc _) ⟨w4.heap.size, 0, none⟩ 1 1 [.pointer (some ⟨g4, 0, none⟩)] rfl rfl (one_new _ _ _) ?c2 ?c3 ?c4 ?c5 ?_)
          | go_in)
        case c2 => intro u hu; simp at hu; subst hu; rfl
        case c3 => unfold maxLen; omega
        case c4 => omega
        case c5 => simp; omega
        intro v' w' hown' hg hloc
        have HM6 : Hid (Rp O w (d + 1) K (w'.setCell ⟨w.heap.size, 2, none⟩ v') v' (us ++ [.pointer (some ⟨g4, 0, none⟩)]) (rowJ K ((ps.map (pt true)).take (i + 1)))) := by
          show Rp _ _ _ _ _ _ _ _
          rw [HTK.out, if_neg HKN.out]
          exact HRP.out.more HB4.out ((Below.refl _ _).alloc (Nat.le_refl _) _) HGT1.out hown' hg (by rw [World.size_alloc]; exact hloc)
        obtain ⟨t2, tf⟩ := HNW.out _ w' ((Below.refl _ _).alloc (Nat.le_refl _) _) hg
        obtain ⟨va', vc', hve'⟩ := own_shape hown'
        subst hve'
        clear hown' hg hloc hown4 q0 q1 q2 r0 r1 r2
        go_wp2_with fail
        go_roundw
        case rel => exact ⟨i + 1, _, us ++ [.pointer (some ⟨g4, 0, none⟩)], by omega, by go_num, HM6.out⟩
        case measure => simp [intOf]; omega
    · have him' : ¬ (i : Int) < (m : Int) := by omega
      have HT : Hid (rowJ K ((ps.map (pt true)).take i) = rowJ K (ps.map (pt true))) := by show _ = _; rw [List.take_of_length_le (by rw [List.length_map, ← HGT.out.1, HM.out]; omega)]
      have HF : Hid (PlR O w wr (d + 2) (.mk K (bA []) (rowJ K (ps.map (pt true)))) (.returned (.pointer (some ⟨w.heap.size, 0, none⟩)))) := ⟨_, rfl, by rw [← HT.out]; exact HRP.out.node, HRP.out.bel⟩
      clear HT HRP
      go_wp2
      go_ret
      exact HF.out


end Go.Proofs.YtnhddnfobcofcaaGreatDoor.cr

namespace Go.Proofs.YtnhddnfobcofcaaGreatDoor.cr
open Go.ChangeShapes Go.WideShapes Go.ChangeAt Go.RowKit Go.Deep
open cd (Tr Cn Nd PsO Btw Og app_at infoN heap_set2 own_set cells_of)
set_option linter.unusedVariables false
set_option linter.unusedSimpArgs false

/-! ### impl.Plain: plain and turned -/

theorem lf_part {k : Int} {n : ByteArray} {ps : List Tr} {x : Tr} (h : lf (.mk k n ps) ≤ 10000) (hx : x ∈ ps) : lf x ≤ 10000 := by
  rw [lf_eq, if_neg (List.ne_nil_of_mem hx)] at h
  refine Nat.le_trans ?_ h
  have : ∀ l : List Tr, x ∈ l → lf x ≤ (l.map lf).sum := fun l hl => by
    induction l with
    | nil => simp at hl
    | cons y l ih =>
      rw [List.map_cons, List.sum_cons]
      rcases List.mem_cons.1 hl with rfl | hl
      · omega
      · have := ih hl; omega
  exact this ps hx
theorem row_small {k : Int} {n : ByteArray} {ps : List Tr} (b : Bool) (hk : k = 5 ∨ k = 6) (ht : TOk (.mk k n ps)) (h : lf (.mk k n ps) ≤ 10000) : (rowJ (tK b k) (ps.map (pt b))).length ≤ 100000 := by
  have h1 := pt_len (.mk k n ps) b ht
  rw [pt_row hk] at h1
  have h2 := fl_parts_len (.mk (tK b k) (bA []) (rowJ (tK b k) (ps.map (pt b))))
  have h3 : (rowJ (tK b k) (ps.map (pt b))).length + 1 ≤ (fl (.mk (tK b k) (bA []) (rowJ (tK b k) (ps.map (pt b))))).length := h2
  have h4 : (fl (.mk (tK b k) (bA []) (rowJ (tK b k) (ps.map (pt b))))).length + 1 ≤ 3 * lf (.mk k n ps) := h1
  omega
theorem Nd.wide {w : World} {O O' : Nat → Prop} {r : Nat} {v : Value} {t : Tr} (h : Nd w O r v t) (hO : ∀ bb, O bb → O' bb) : Nd w O' r v t := Nd.kept (fun _ _ => rfl) hO r h

set_option maxRecDepth 100000 in
set_option maxHeartbeats 4000000 in
theorem plain_step (O : Nat → Prop) (d : Nat) (hP : PLc O 25 false d) (hT : PLc O 44 true d) : PLc O 25 false (d + 1) := by
  intro t nv w ht hlf hn hO
  obtain ⟨g, rfl⟩ := Nd.ptr hn
  obtain ⟨pa, pcap, vs, hG, hps, hgt, hOg⟩ := Nd.open hn
  obtain ⟨q0, q1, q2⟩ := cells_of hG
  have HN := Lib.hid hn
  obtain ⟨k, n, ps⟩ := t
  have q0' : w.cell? ⟨g, 0, none⟩ = some (.int .i64 k) := q0
  have hgt' : GotT w O d ps vs := hgt
  rcases tok_cases ht with ⟨rfl, rfl⟩ | ⟨rfl, rfl, hk⟩ | ⟨rfl, rfl, x, rfl, hx⟩ | ⟨rfl, hk, h2, hx⟩
  · have HF : Hid (PlR O w w (d + 2) (pt false (.mk 1 n [])) (.returned (.pointer (some ⟨g, 0, none⟩)))) := ⟨g, rfl, by rw [pt_leaf (by decide) (by decide)]; exact Nd.up _ (Nd.wide HN.out fun _ h => .inl h), Below.refl _ _⟩
    clear hP hT hn hG hps hgt q0 q1 q2 hgt'
    go_enter Tryz.func25, Tryz.ntmps25
    go_wp2
    go_ret
    exact HF.out
  · have HF : Hid (PlR O w w (d + 2) (pt false (.mk k (bA []) [])) (.returned (.pointer (some ⟨g, 0, none⟩)))) := ⟨g, rfl, by rw [pt_leaf (by omega) (by omega)]; exact Nd.up _ (Nd.wide HN.out fun _ h => .inl h), Below.refl _ _⟩
    clear hP hT hn hG hps hgt q0 q1 q2 hgt'
    have h4 : ¬ k = 4 := by omega
    have h5 : ¬ k = 5 := by omega
    have h6 : ¬ k = 6 := by omega
    go_enter Tryz.func25, Tryz.ntmps25
    go_wp2
    go_ret
    exact HF.out
  · obtain ⟨bb, off, ho, hcell⟩ := hps
    have hl1 : vs.length = 1 := hgt'.1
    obtain ⟨rfl, hObb⟩ := ho.resolve_left (by omega)
    have h0v : vs[0]? = some (vs[0]'(by omega)) := List.getElem?_eq_getElem (by omega)
    have hx0 := hgt'.2 0 _ x h0v rfl
    obtain ⟨gx, hgx⟩ := Nd.ptr hx0
    rw [hgx] at hx0
    have cx := hcell 0 _ h0v
    rw [hgx, Nat.add_zero] at cx
    have HC := Lib.hid (hT x _ w hx (lf_part hlf List.mem_cons_self) hx0 hO)
    rw [hl1] at q2
    clear hP hT hn hG hgt q0 q1 hgt' hcell ho h0v hx0 hgx
    rw [pt_not]
    obtain ⟨T, hTT⟩ : ∃ T, pt true x = T := ⟨_, rfl⟩
    rw [hTT] at HC
    rw [show (!false) = true from rfl, hTT]
    clear hTT
    go_enter Tryz.func25, Tryz.ntmps25
    go_wp2_with (go_at_call 44; refine HC.out.mono ?_; rintro e w4 ⟨g4, rfl, hnd4, hb4⟩; refine Hid.out ?_)
    refine Lib.hid ?_
    have HF : Hid (PlR O w w4 (d + 2) T (.returned (.pointer (some ⟨g4, 0, none⟩)))) := ⟨g4, rfl, Nd.up _ hnd4, hb4⟩
    clear hnd4 hb4
    go_wp2
    go_ret
    exact HF.out
  · have HC := Lib.hid (rowP_any O d hP k hk ps pa pcap vs w hps hgt' hx (fun y hy => lf_part hlf hy) hO (row_small false hk ht hlf))
    rw [pt_row hk]
    have HSK : Hid (w.cell? ⟨g, 0, none⟩ = some (.int .i64 k) ∧ w.cell? ⟨g, 2, none⟩ = some (.slice pa vs.length pcap)) := ⟨q0', q2⟩
    have HOo : Hid (w.drew.cell? ⟨g, 0, none⟩ = some (.int .i64 k) ∧ w.drew.cell? ⟨g, 2, none⟩ = some (.slice pa vs.length pcap)) := ⟨q0', q2⟩
    have HCd := Lib.hid (rowP_any O d hP k hk ps pa pcap vs w.drew (hps.kept fun _ _ => rfl) (hgt'.kept (fun _ _ => rfl) fun _ h => h) hx (fun y hy => lf_part hlf hy) hO (row_small false hk ht hlf))
    have hglt : g < w.heap.size := World.block_lt_of_cell? _ _ q0'
    have h4 : ¬ k = 4 := by omega
    obtain ⟨T, hTT⟩ : ∃ T, (Tr.mk k (bA []) (rowJ k (ps.map (pt false)))) = T := ⟨_, rfl⟩
    rw [hTT] at HC HCd
    rw [show (if false = true then 11 - k else k) = k from rfl, hTT]
    obtain ⟨m, hm⟩ : ∃ m, vs.length = m := ⟨_, rfl⟩
    rw [hm] at HC HCd HSK HOo
    clear hP hT hn hG hgt q0 q1 q2 hgt' hTT hps hm h2
    rcases hk with rfl | rfl
    · go_enter Tryz.func25, Tryz.ntmps25
      go_upto_region 6 with fail
      refine wq 10 (S := fun W => W.cell? ⟨g, 0, none⟩ = some (.int .i64 5) ∧ W.cell? ⟨g, 2, none⟩ = some (.slice pa m pcap)) (by kernel_rfl) HSK.out fun hHeld => ?_
      iterate 8 (refine un 10 rfl ?_; try simp only [aP])
      refine rq 8 rfl fun K hK => ?_
      go_simp
      (go_at_call 45; refine HCd.out.mono ?_; rintro e w4 ⟨g4, rfl, hnd4, hb4⟩)
      try go_wp2_with fail
      have HF : Hid (PlR O w w4 (d + 2) T (.returned (.pointer (some ⟨g4, 0, none⟩)))) := ⟨g4, rfl, hnd4, (Below.refl _ _).drew.trans hb4⟩
      have HS4 : Hid (w4.cell? ⟨g, 0, none⟩ = some (.int .i64 5) ∧ w4.cell? ⟨g, 2, none⟩ = some (.slice pa m pcap)) := ⟨(hb4.cell (p := ⟨g, 0, none⟩) hglt).trans HOo.out.1, (hb4.cell (p := ⟨g, 2, none⟩) hglt).trans HOo.out.2⟩
      refine hK.out _ _ HS4.out (fun hHeld => ?_)
      clear hK K hnd4 hb4 HS4 HCd HC
      try simp only [aP]
      refine un 10 rfl ?_
      try simp only [aP]
      refine dq ?_
      clear hHeld
      go_wp2
      go_ret
      exact HF.out
    · go_enter Tryz.func25, Tryz.ntmps25
      go_upto_region 6 with fail
      refine wq 10 (S := fun W => W.cell? ⟨g, 0, none⟩ = some (.int .i64 6) ∧ W.cell? ⟨g, 2, none⟩ = some (.slice pa m pcap)) (by kernel_rfl) HSK.out fun hHeld => ?_
      iterate 8 (refine un 10 rfl ?_; try simp only [aP])
      refine rq 8 rfl fun K hK => ?_
      go_simp
      (go_at_call 45; refine HCd.out.mono ?_; rintro e w4 ⟨g4, rfl, hnd4, hb4⟩)
      try go_wp2_with fail
      have HF : Hid (PlR O w w4 (d + 2) T (.returned (.pointer (some ⟨g4, 0, none⟩)))) := ⟨g4, rfl, hnd4, (Below.refl _ _).drew.trans hb4⟩
      have HS4 : Hid (w4.cell? ⟨g, 0, none⟩ = some (.int .i64 6) ∧ w4.cell? ⟨g, 2, none⟩ = some (.slice pa m pcap)) := ⟨(hb4.cell (p := ⟨g, 0, none⟩) hglt).trans HOo.out.1, (hb4.cell (p := ⟨g, 2, none⟩) hglt).trans HOo.out.2⟩
      refine hK.out _ _ HS4.out (fun hHeld => ?_)
      clear hK K hnd4 hb4 HS4 HCd HC
      try simp only [aP]
      refine un 10 rfl ?_
      try simp only [aP]
      refine dq ?_
      clear hHeld
      go_wp2
      go_ret
      exact HF.out

theorem leaf_new {O : Nat → Prop} {w : World} {d : Nat} {k : Int} : PlR O w (w.alloc (.cells #[.int .i64 k, .string ⟨#[]⟩, .slice none 0 0] 67)) (d + 1) (.mk k (bA []) []) (.returned (.pointer (some ⟨w.heap.size, 0, none⟩))) :=
  ⟨_, rfl, ⟨w.heap.size, none, 0, [], rfl, .inr ⟨Nat.le_refl _, by simp⟩, blk_alloc_new _ _, rfl, ⟨0, 0, .inl rfl, fun i x h => by simp at h⟩, fun i x y h => by simp at h⟩, (Below.refl _ _).alloc (Nat.le_refl _) _⟩
theorem not_new {O : Nat → Prop} {w : World} {d g : Nat} {t : Tr} (h : Nd w O d (.pointer (some ⟨g, 0, none⟩)) t) (hO : ∀ bb, O bb → bb < w.heap.size) : PlR O w ((w.alloc (.cells #[.pointer (some ⟨g, 0, none⟩)] 43)).alloc (.cells #[.int .i64 4, .string ⟨#[]⟩, .slice (some ⟨w.heap.size, 0, none⟩) 1 1] 67)) (d + 1) (.mk 4 (bA []) [t]) (.returned (.pointer (some ⟨w.heap.size + 1, 0, none⟩))) := by
  have hb1 : Below w.heap.size w (w.alloc (.cells #[.pointer (some ⟨g, 0, none⟩)] 43)) := (Below.refl _ _).alloc (Nat.le_refl _) _
  have hb2 := hb1.alloc hb1.size (.cells #[.int .i64 4, .string ⟨#[]⟩, .slice (some ⟨w.heap.size, 0, none⟩) 1 1] 67)
  refine ⟨_, rfl, ⟨w.heap.size + 1, some ⟨w.heap.size, 0, none⟩, 1, [.pointer (some ⟨g, 0, none⟩)], rfl, .inr ⟨by omega, by simp⟩, ?_, rfl, ⟨w.heap.size, 0, .inr ⟨rfl, .inr ⟨Nat.le_refl _, by simp; omega⟩⟩, fun i x hx => ?_⟩, fun i x y hx hy => ?_⟩, hb2⟩
  · have := blk_alloc_new (w.alloc (.cells #[.pointer (some ⟨g, 0, none⟩)] 43)) (.cells #[.int .i64 4, .string ⟨#[]⟩, .slice (some ⟨w.heap.size, 0, none⟩) 1 1] 67)
    rw [World.size_alloc] at this
    exact this
  · cases i with
    | zero =>
      simp at hx
      subst hx
      have e := Below.heap_alloc (w.alloc (.cells #[.pointer (some ⟨g, 0, none⟩)] 43)) (.cells #[.int .i64 4, .string ⟨#[]⟩, .slice (some ⟨w.heap.size, 0, none⟩) 1 1] 67) w.heap.size (by simp)
      simp only [World.cell?]
      rw [e, blk_alloc_new]
      rfl
    | succ i => simp at hx
  · cases i with
    | zero =>
      simp at hx hy
      subst hx
      subst hy
      exact Nd.kept (fun bb hbb => hb2.block bb (hO bb hbb)) (fun _ h => .inl h) _ h
    | succ i => simp at hx

set_option maxRecDepth 100000 in
set_option maxHeartbeats 4000000 in
theorem turned_step (O : Nat → Prop) (d : Nat) (hP : PLc O 25 false d) (hT : PLc O 44 true d) : PLc O 44 true (d + 1) := by
  intro t nv w ht hlf hn hO
  obtain ⟨g, rfl⟩ := Nd.ptr hn
  obtain ⟨pa, pcap, vs, hG, hps, hgt, hOg⟩ := Nd.open hn
  obtain ⟨q0, q1, q2⟩ := cells_of hG
  have HN := Lib.hid hn
  obtain ⟨k, n, ps⟩ := t
  have q0' : w.cell? ⟨g, 0, none⟩ = some (.int .i64 k) := q0
  have hgt' : GotT w O d ps vs := hgt
  have hglt : g < w.heap.size := World.block_lt_of_cell? _ _ q0'
  rcases tok_cases ht with ⟨rfl, rfl⟩ | ⟨rfl, rfl, hk⟩ | ⟨rfl, rfl, x, rfl, hx⟩ | ⟨rfl, hk, h2, hx⟩
  · have HF := Lib.hid (not_new HN.out hO)
    rw [show pt true (.mk 1 n []) = .mk 4 (bA []) [.mk 1 n []] from (by rw [pt_leaf (by decide) (by decide)]; rfl)]
    clear hP hT hn hG hps hgt q0 q1 q2 hgt'
    go_enter Tryz.func44, Tryz.ntmps44
    go_wp2
    go_ret
    exact HF.out
  · rw [show pt true (.mk k (bA []) []) = .mk (5 - k) (bA []) [] from (by rw [pt_leaf (by omega) (by omega), if_pos rfl, if_neg (by omega)])]
    rcases hk with rfl | rfl
    · have HF : Hid (PlR O w _ (d + 2) (.mk (5 - 2) (bA []) []) _) := leaf_new (k := 3)
      clear hP hT hn hG hps hgt q0 q1 q2 hgt'
      go_enter Tryz.func44, Tryz.ntmps44
      go_wp2
      go_ret
      exact HF.out
    · have HF : Hid (PlR O w _ (d + 2) (.mk (5 - 3) (bA []) []) _) := leaf_new (k := 2)
      clear hP hT hn hG hps hgt q0 q1 q2 hgt'
      go_enter Tryz.func44, Tryz.ntmps44
      go_wp2
      go_ret
      exact HF.out
  · obtain ⟨bb, off, ho, hcell⟩ := hps
    have hl1 : vs.length = 1 := hgt'.1
    obtain ⟨rfl, hObb⟩ := ho.resolve_left (by omega)
    have h0v : vs[0]? = some (vs[0]'(by omega)) := List.getElem?_eq_getElem (by omega)
    have hx0 := hgt'.2 0 _ x h0v rfl
    obtain ⟨gx, hgx⟩ := Nd.ptr hx0
    rw [hgx] at hx0
    have cx := hcell 0 _ h0v
    rw [hgx, Nat.add_zero] at cx
    have HC := Lib.hid (hP x _ w hx (lf_part hlf List.mem_cons_self) hx0 hO)
    rw [hl1] at q2
    clear hP hT hn hG hgt q0 q1 hgt' hcell ho h0v hx0 hgx
    rw [pt_not]
    obtain ⟨T, hTT⟩ : ∃ T, pt false x = T := ⟨_, rfl⟩
    rw [hTT] at HC
    rw [show (!true) = false from rfl, hTT]
    clear hTT
    go_enter Tryz.func44, Tryz.ntmps44
    go_wp2_with (go_at_call 25; refine HC.out.mono ?_; rintro e w4 ⟨g4, rfl, hnd4, hb4⟩; refine Hid.out ?_)
    refine Lib.hid ?_
    have HF : Hid (PlR O w w4 (d + 2) T (.returned (.pointer (some ⟨g4, 0, none⟩)))) := ⟨g4, rfl, Nd.up _ hnd4, hb4⟩
    clear hnd4 hb4
    go_wp2
    go_ret
    exact HF.out
  · have HC := Lib.hid (rowT_any O d hT (tK true k) (tK_row hk) ps pa pcap vs w hps hgt' hx (fun y hy => lf_part hlf hy) hO (row_small true hk ht hlf))
    rw [pt_row hk]
    obtain ⟨T, hTT⟩ : ∃ T, (Tr.mk (tK true k) (bA []) (rowJ (tK true k) (ps.map (pt true)))) = T := ⟨_, rfl⟩
    rw [hTT] at HC
    rw [show (if true = true then 11 - k else k) = tK true k from rfl, hTT]
    obtain ⟨m, hm⟩ : ∃ m, vs.length = m := ⟨_, rfl⟩
    rw [hm] at HC q2
    clear hP hT hn hG hgt q0 q1 hgt' hTT hps hm h2
    rcases hk with rfl | rfl
    · rw [show tK true 5 = 6 from rfl] at HC
      go_enter Tryz.func44, Tryz.ntmps44
      go_wp2_with (go_at_call 45; refine HC.out.mono ?_; rintro e w4 ⟨g4, rfl, hnd4, hb4⟩; refine Hid.out ?_)
      refine Lib.hid ?_
      have HF : Hid (PlR O w w4 (d + 2) T (.returned (.pointer (some ⟨g4, 0, none⟩)))) := ⟨g4, rfl, hnd4, hb4⟩
      clear hnd4 hb4
      go_wp2
      go_ret
      exact HF.out
    · rw [show tK true 6 = 5 from rfl] at HC
      go_enter Tryz.func44, Tryz.ntmps44
      go_wp2_with (go_at_call 45; refine HC.out.mono ?_; rintro e w4 ⟨g4, rfl, hnd4, hb4⟩; refine Hid.out ?_)
      refine Lib.hid ?_
      have HF : Hid (PlR O w w4 (d + 2) T (.returned (.pointer (some ⟨g4, 0, none⟩)))) := ⟨g4, rfl, hnd4, hb4⟩
      clear hnd4 hb4
      go_wp2
      go_ret
      exact HF.out
theorem plain_all (O : Nat → Prop) : ∀ d, PLc O 25 false d ∧ PLc O 44 true d
  | 0 => ⟨fun t nv w _ _ h => h.elim, fun t nv w _ _ h => h.elim⟩
  | d + 1 => by
    obtain ⟨h1, h2⟩ := plain_all O d
    exact ⟨plain_step O d h1 h2, turned_step O d h1 h2⟩
end Go.Proofs.YtnhddnfobcofcaaGreatDoor.cr
