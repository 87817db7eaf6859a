import Derived.Test.YtnhddnfobcofcaaGreatDoorG04
import Derived.Deep.LoopGhost
import Derived.Test.YtnhddnfobcofcaaGreatDoorRows
import Derived.Test.YtnhddnfobcofcaaGreatDoorG01
import Derived.Lib.Strings
import Derived.Lib.Walk
import Derived.Lib.BufferWrite
import Derived.Lib.UnsafeStr
import Derived.Lib.Hide
import Derived.Laws.MakeOwn
namespace Go.Proofs.YtnhddnfobcofcaaGreatDoor.cr
open Go.ChangeShapes Go.WideShapes Go.ChangeAt Go.RowKit Go.Deep
open cd (Tr Cn Nd PsO Btw Og app_at infoN heap_set2 own_set cells_of)
set_option linter.unusedVariables false
set_option linter.unusedSimpArgs false

/-! ### The program's reader: rows, brackets, nots -/

def GotT (w : World) (O : Nat → Prop) (r : Nat) (ts : List Tr) (us : List Value) : Prop := us.length = ts.length ∧ ∀ (i : Nat) (x : Value) (y : Tr), us[i]? = some x → ts[i]? = some y → Nd w O r x y
theorem GotT.kept {w w' : World} {O O' : Nat → Prop} {r : Nat} {ts : List Tr} {us : List Value} (h : GotT w O r ts us) (hk : ∀ bb, O bb → w'.heap[bb]? = w.heap[bb]?) (hO : ∀ bb, O bb → O' bb) : GotT w' O' r ts us := ⟨h.1, fun i x y hx hy => Nd.kept hk hO r (h.2 i x y hx hy)⟩
theorem GotT.snoc {w : World} {O : Nat → Prop} {r : Nat} {ts : List Tr} {us : List Value} {v : Value} {t : Tr} (h : GotT w O r ts us) (hv : Nd w O r v t) : GotT w O r (ts ++ [t]) (us ++ [v]) := by
  refine ⟨by simp [h.1], fun i x y hx hy => ?_⟩
  rcases Nat.lt_or_ge i us.length with hi | hi
  · rw [List.getElem?_append_left hi] at hx
    rw [List.getElem?_append_left (by rw [← h.1]; exact hi)] at hy
    exact h.2 i x y hx hy
  · rw [List.getElem?_append_right hi] at hx
    rw [List.getElem?_append_right (by rw [← h.1]; exact hi)] at hy
    have hi0 : i = us.length := by
      have := (List.getElem?_eq_some_iff.1 hx).1
      simp at this
      omega
    subst hi0
    rw [← h.1] at hy
    simp at hx hy
    rw [← hx, ← hy]
    exact hv
/-- Where a row stands while its parts are read. -/
structure Ro (w : World) (rb f : Nat) (kind : Int) (wr : World) (T : ByteArray) (v : Value) (us : List Value) (ts : List Tr) : Prop where
  rd : Rd wr rb T
  nd : wr.heap[w.heap.size]? = some (.cells #[.int .i64 kind, .string ⟨#[]⟩, v] 67 (0, 0))
  own : wr.ownsRow (w.heap.size + 1) 43 1 v us.length us
  got : GotT wr (Og (w.heap.size + 1) wr v) f ts us
  gr : w.grownBy wr (some rb)
  lt : rb < w.heap.size
theorem Ro.sz {w : World} {rb f : Nat} {kind : Int} {wr : World} {T : ByteArray} {v : Value} {us : List Value} {ts : List Tr} (h : Ro w rb f kind wr T v us ts) : w.heap.size + 1 ≤ wr.heap.size := (Array.getElem?_eq_some_iff.1 h.nd).1
theorem Ro.vne {w : World} {rb f : Nat} {kind : Int} {wr : World} {T : ByteArray} {v : Value} {us : List Value} {ts : List Tr} (h : Ro w rb f kind wr T v us ts) {k : Nat} (hk : k < w.heap.size + 1) : v.ownBlock ≠ some k := fun e => by have := (h.own.lt k e).1; omega
/-- Another world where only the reader has moved. -/
theorem Ro.moved {w : World} {rb f : Nat} {kind : Int} {wr w4 : World} {T T' : ByteArray} {v : Value} {us : List Value} {ts : List Tr} (h : Ro w rb f kind wr T v us ts) (hg : wr.grownBy w4 (some rb)) (hr : Rd w4 rb T') : Ro w rb f kind w4 T' v us ts := by
  have hl := h.lt
  have hz := h.sz
  exact ⟨hr, (hg.block _ (by omega) (fun e => by have := Option.some.inj e; omega)).trans h.nd, h.own.kept hg (.inr (h.vne (by omega))), h.got.kept (fun bb ⟨a, b, c⟩ => hg.block bb b (fun e => by have := Option.some.inj e; omega)) (fun bb ⟨a, b, c⟩ => ⟨a, Nat.lt_of_lt_of_le b hg.size, c⟩), gr_trans h.gr hg, hl⟩
/-- A part more. -/
theorem Ro.more {w : World} {rb f : Nat} {kind : Int} {wr w4 w' : World} {T T' : ByteArray} {v v' x : Value} {us : List Value} {ts : List Tr} {t : Tr} {o : Obj} (h : Ro w rb f kind wr T v us ts) (hg : wr.grownBy w4 (some rb)) (hr : Rd w4 rb T') (hnd : Nd w4 (Btw wr.heap.size w4.heap.size) f x t)
    (hown' : w'.ownsRow (w.heap.size + 1) 43 1 v' (us.length + 1) (us ++ [x])) (hg2 : (w4.alloc o).grownBy w' v.ownBlock) (hloc : v'.ownBlock = v.ownBlock ∨ v'.ownBlock = some (w4.alloc o).heap.size) : Ro w rb f kind (w'.setCell ⟨w.heap.size, 2, none⟩ v') T' v' (us ++ [x]) (ts ++ [t]) := by
  have hm := h.moved hg hr
  have hl := h.lt
  have hz := h.sz
  have hz4 := hg.size
  have hz' : w4.heap.size + 1 ≤ w'.heap.size := by have := hg2.size; simpa using this
  have hsc : (w'.setCell ⟨w.heap.size, 2, none⟩ v').heap.size = w'.heap.size := by simp [World.setCell]
  have hk : ∀ bb, bb < w4.heap.size → some bb ≠ v.ownBlock → bb ≠ w.heap.size → (w'.setCell ⟨w.heap.size, 2, none⟩ v').heap[bb]? = w4.heap[bb]? := fun bb h1 h2 h3 => by
    rw [blk_setCell_other w' ⟨w.heap.size, 2, none⟩ v' bb (by simpa using h3), hg2.block bb (by simp; omega) h2]
    exact Below.heap_alloc w4 o bb h1
  have hnd' : w'.heap[w.heap.size]? = some (.cells #[.int .i64 kind, .string ⟨#[]⟩, v] 67 (0, 0)) := by
    rw [hg2.block _ (by simp; omega) (fun e => h.vne (by omega) e.symm), Below.heap_alloc w4 o _ (by omega)]
    exact hm.nd
  refine ⟨hr.to (hk rb (by omega) (fun e => h.vne (by omega) e.symm) (by omega)), heap_set2 hnd', by rw [List.length_append]; exact own_set hown' (by omega), ?_, ?_, hl⟩
  · have k1 : GotT w4 (Og (w.heap.size + 1) w4 v) f ts us := hm.got
    have k2 : Nd w4 (Og (w.heap.size + 1) w4 v) f x t := Nd.kept (fun bb _ => rfl) (fun bb ⟨a, b⟩ => ⟨by omega, b, fun hc => by have := (h.own.lt bb hc.symm).2; omega⟩) f hnd
    refine (k1.snoc k2).kept (fun bb ⟨a, b, c⟩ => hk bb b c (by omega)) (fun bb ⟨a, b, c⟩ => ⟨a, by rw [hsc]; omega, ?_⟩)
    rcases hloc with e | e
    · rw [e]; exact c
    · rw [e]; simp; omega
  · exact ⟨hg2.os.trans hm.gr.os, hg2.tape.trans hm.gr.tape, hg2.output.trans hm.gr.output, by rw [hsc]; omega, fun j hj hne => (hk j (by omega) (fun e => h.vne (by omega) e.symm) (by omega)).trans (hm.gr.block j hj hne)⟩
/-- The whole row. -/
theorem Ro.node {w : World} {rb f : Nat} {kind : Int} {wr : World} {T : ByteArray} {v : Value} {us : List Value} {ts : List Tr} (h : Ro w rb f kind wr T v us ts) : Nd wr (Btw w.heap.size wr.heap.size) (f + 1) (.pointer (some ⟨w.heap.size, 0, none⟩)) (.mk kind (bA []) ts) := by
  obtain ⟨_, av, cp, rfl, hcp, hcm, hPu⟩ := PsO.own h.own
  have hz := h.sz
  refine ⟨w.heap.size, av, cp, us, rfl, ⟨Nat.le_refl _, by omega⟩, h.nd, h.got.1, hPu.mono (fun bb ⟨a, b⟩ => ⟨by omega, b⟩), fun i x y hx hy => ?_⟩
  exact Nd.kept (fun _ _ => rfl) (fun bb ⟨a, b, _⟩ => ⟨by omega, b⟩) f (h.got.2 i x y hx hy)
theorem tk_no {c : UInt8} {l : List UInt8} (h : tkB c l = false) : tkR c l = skip l ∧ ∀ (part : Pz) (k : Nat) (l0 : List UInt8) (t : Tr), part l0 = some (t, l) → rowL c part (k + 1) l0 = some ([t], skip l) := by
  unfold tkB at h
  unfold tkR
  cases hs : skip l with
  | nil =>
    refine ⟨rfl, fun part k l0 t hp => ?_⟩
    unfold rowL
    rw [hp]
    simp only [hs]
  | cons d q =>
    rw [hs] at h
    have hd : ¬ d = c := of_decide_eq_false h
    refine ⟨if_neg hd, fun part k l0 t hp => ?_⟩
    unfold rowL
    rw [hp]
    simp only [hs]
    rw [if_neg hd]
theorem tk_yes {c : UInt8} {l : List UInt8} (h : tkB c l = true) : (tkR c l).length < l.length ∧ ∀ (part : Pz) (k : Nat) (l0 : List UInt8) (t : Tr), part l0 = some (t, l) → rowL c part (k + 1) l0 = (rowL c part k (tkR c l)).map fun x => (t :: x.1, x.2) := by
  unfold tkB at h
  unfold tkR
  have hl := skip_len l
  cases hs : skip l with
  | nil => rw [hs] at h; cases h
  | cons d q =>
    rw [hs] at h hl
    have hd : d = c := of_decide_eq_true h
    simp only [if_pos hd]
    refine ⟨by simp at hl; omega, fun part k l0 t hp => ?_⟩
    conv => lhs; unfold rowL
    rw [hp]
    simp only [hs]
    rw [if_pos hd]
theorem row_none {c : UInt8} {part : Pz} {k : Nat} {l : List UInt8} (h : part l = none) : rowL c part (k + 1) l = none := by unfold rowL; rw [h]
/-- A contract of a part. -/
def PC (g f lv : Nat) : Prop := ∀ (S : ByteArray) (rb : Nat) (w : World), Rd w rb S → S.size ≤ 4000 → 3 * S.size + lv + 1 ≤ f → Calls Tryz.prog g #[.pointer (some ⟨rb, 0, none⟩)] w fun e w' => Res w w' rb f (P f lv S.data.toList) e
theorem sign_any (k : Int) (w : World) : Calls Tryz.prog 38 #[.int .i64 k] w fun e w' => e = .returned (.int .u8 (if k = 5 then 38 else 124)) ∧ w' = w := by
  by_cases h : k = 5
  · rw [if_pos h]
    subst h
    go_enter Tryz.func38, Tryz.ntmps38
    go_wp2
    go_ret
    exact ⟨rfl, rfl⟩
  · rw [if_neg h]
    go_enter Tryz.func38, Tryz.ntmps38
    go_wp2
    go_ret
    exact ⟨rfl, rfl⟩
theorem mkR_many {kind : Int} {ts : List Tr} (h : ¬ ts.length = 1) : mkR kind ts = .mk kind (bA []) ts := by
  match ts with
  | [] => rfl
  | [t] => exact absurd rfl h
  | _ :: _ :: _ => rfl

set_option maxRecDepth 100000 in
set_option maxHeartbeats 4000000 in
theorem rowAll_any (f : Nat) (hP : PC 61 f 0) (S : ByteArray) (rb : Nat) (w : World) (h : Rd w rb S) (hs : S.size ≤ 4000) (hf : 3 * S.size + 0 + 1 ≤ f) :
    Calls Tryz.prog 41 #[.pointer (some ⟨rb, 0, none⟩), .int .i64 5, .func (.func 61) #[] #[]] w fun e w' => Res w w' rb (f + 1) (rowP 5 38 (P f 0) S.data.toList) e := by
  have HP := Lib.hid hP
  have HRP : Hid (rowP 5 38 (P f 0) S.data.toList = (rowL 38 (P f 0) (S.size + 1) S.data.toList).map (fun x => (mkR 5 x.1, x.2))) := by show _ = _; unfold rowP; rw [lenS]
  have HR0 : Hid (Ro w rb f 5 (w.alloc (.cells #[.int .i64 5, .string ⟨#[]⟩, .slice none 0 0] 67)) S (.slice none 0 0) [] []) :=
    ⟨h.to (Below.heap_alloc w _ rb h.lt), blk_alloc_new _ _, ⟨by simp, .inl ⟨rfl, rfl⟩⟩, ⟨rfl, fun i x y hx => by simp at hx⟩, ⟨rfl, rfl, rfl, by simp, fun j hj _ => Below.heap_alloc w _ j hj⟩, h.lt⟩
  have HSG : Hid (∀ W, Calls Tryz.prog 38 #[.int .i64 5] W fun e w' => e = .returned (.int .u8 38) ∧ w' = W) := fun W => sign_any 5 W
  generalize rowP 5 38 (P f 0) S.data.toList = PR at *
  clear hP h
  go_enter Tryz.func41, Tryz.ntmps41
  go_wp2
  go_loopg [8] (S.size + 1) (fun q _ wr => ∃ (k : Nat) (T : ByteArray) (v : Value) (us : List Value) (ts : List Tr), k ≤ q ∧ T.size < k ∧ T.size ≤ S.size ∧ us.length ≤ 4000 ∧ us.length + T.size ≤ S.size ∧ Ro w rb f 5 wr T v us ts ∧ rowL 38 (P f 0) (S.size + 1) S.data.toList = (rowL 38 (P f 0) k T.data.toList).map (fun x => (ts ++ x.1, x.2)))
  case atStart => exact ⟨S.size + 1, S, .slice none 0 0, [], [], Nat.le_refl _, by omega, Nat.le_refl _, by simp, by simp, HR0.out, by simp⟩
  case round =>
    clear HR0
    obtain ⟨k, T, v, us, ts, hkq, hTk, hTS, hul, hut, hro, hrow⟩ := hrel
    obtain ⟨k1, rfl⟩ : ∃ k1, k = k1 + 1 := ⟨k - 1, by omega⟩
    have HRO := Lib.hid hro
    have HROW := Lib.hid hrow
    have HC := Lib.hid (HP.out T rb wr hro.rd (by omega) (by omega))
    have hnd := hro.nd
    clear hro hrow
    cases hp : P f 0 T.data.toList with
    | none =>
      rw [hp] at HC
      have HE : Hid (PR = none) := by show _ = _; rw [HRP.out, HROW.out, row_none hp]; rfl
      have HGR := Lib.hid HRO.out.gr
      clear hp hnd HRO HROW
      go_wp2_with (go_at_call 61; refine HC.out.mono ?_; rintro e w4 hres; obtain rfl := hres.no rfl; have HRS := Lib.hid hres; clear hres)
      go_ret
      obtain ⟨T4, hr4, _⟩ := HRS.out.rd
      rw [HE.out]
      exact res_none hr4 (gr_trans HGR.out HRS.out.gr)
    | some x =>
      obtain ⟨t, r⟩ := x
      rw [hp] at HC
      have hrl := P_lt f 0 _ t r hp
      rw [lenS] at hrl
      have HPT := Lib.hid hp
      clear hp
      obtain ⟨va, vc, hve⟩ := own_shape HRO.out.own
      subst hve
      go_wp2_with (go_at_call 61; refine HC.out.mono ?_; rintro e w4 hres; obtain ⟨g4, rfl, hnd4⟩ := hres.yes t r rfl; obtain ⟨T4, hr4, ht4⟩ := hres.rd; have hT4 := ht4 t r rfl; have hgr4 := hres.gr; clear hres ht4; refine Hid.out ?_)
      refine Lib.hid ?_
      have HM := Lib.hid (HRO.out.moved hgr4 hr4)
      obtain ⟨q0, q1, q2⟩ := cells_of HM.out.nd
      have hsz4 := HM.out.sz
      have hown4 := HM.out.own
      have HMO : Hid (∀ (w' : World) (v' : Value) (o : Obj), w'.ownsRow (w.heap.size + 1) 43 1 v' (us.length + 1) (us ++ [.pointer (some ⟨g4, 0, none⟩)]) → (w4.alloc o).grownBy w' (Value.slice va us.length vc).ownBlock → (v'.ownBlock = (Value.slice va us.length vc).ownBlock ∨ v'.ownBlock = some (w4.alloc o).heap.size) → Ro w rb f 5 (w'.setCell ⟨w.heap.size, 2, none⟩ v') T4 v' (us ++ [.pointer (some ⟨g4, 0, none⟩)]) (ts ++ [t])) := fun w' v' o h1 h2 h3 => HRO.out.more hgr4 hr4 hnd4 h1 h2 h3
      have HND4 := Lib.hid hnd4
      have HNW : Hid (∀ w' : World, (w4.alloc (.cells #[.pointer (some ⟨g4, 0, none⟩)] 43)).grownBy w' (Value.slice va us.length vc).ownBlock → w'.cell? ⟨w.heap.size, 2, none⟩ = some (.slice va us.length vc) ∧ w'.frozen? ⟨w.heap.size, 2, none⟩ = false) := fun w' hg => by
        have hb : w'.heap[w.heap.size]? = _ := (hg.block _ (by simp; omega) (fun e => HRO.out.vne (by omega) e.symm)).trans ((Below.heap_alloc w4 _ _ (by omega)).trans HM.out.nd)
        exact ⟨(cells_of hb).2.2, by simp [World.frozen?, hb]⟩
      have HGR4 := Lib.hid hgr4
      clear hnd4 hgr4 HC hnd
      go_wp2_with (first
        | (at_builtin; refine app_at _ rfl _ _ 65 rfl (w.heap.size + 1) 43 (.pointer none) 8 Tryz.underlying65 infoN rfl _ _ _ rfl (hown4.alloc _) ⟨w4.heap.size, 0, none⟩ 1 1 [.pointer (some ⟨g4, 0, none⟩)] rfl rfl (one_new _ _ _) ?c2 ?c3 ?c4 ?c5 ?_)
        | go_in)
      case c2 => intro u hu; simp at hu; subst hu; rfl
      case c3 => unfold maxLen; omega
      case c4 => omega
      case c5 => simp; omega
      intro v' w' hown' hg hloc
      have HM5 := Lib.hid (HMO.out w' v' _ hown' hg (by rw [World.size_alloc]; exact hloc))
      obtain ⟨t2, tf⟩ := HNW.out w' hg
      obtain ⟨va', vc', hve'⟩ := own_shape hown'
      subst hve'
      clear hown' hg hloc hown4 q0 q1 q2 HMO HNW
      refine Hid.out ?_
      refine Lib.hid ?_
      have hT4s : T4.size ≤ 4000 := by rw [← lenS, hT4]; omega
      have HTK := Lib.hid (takes_any 38 T4 rb _ HM5.out.rd hT4s)
      go_wp2_with (first
        | (go_at_call 38; refine (HSG.out _).mono ?_; rintro e w6 ⟨rfl, hw⟩; have hw2 := hw.symm; subst hw2; clear hw; refine Hid.out ?_))
      refine Lib.hid ?_
      obtain ⟨W5, hW5⟩ : ∃ W5, W5 = w'.setCell ⟨w.heap.size, 2, none⟩ (.slice va' (us.length + 1) vc') := ⟨_, rfl⟩
      rw [← hW5] at HM5 HTK ⊢
      have d2 : W5.cell? ⟨w.heap.size, 2, none⟩ = some (.slice va' (us.length + 1) vc') := (cells_of HM5.out.nd).2.2
      clear hW5 t2 tf
      rw [hT4] at HTK
      cases htk : tkB 38 r with
      | true =>
        rw [htk] at HTK
        obtain ⟨hsh, hrw⟩ := tk_yes htk
        have HRW : Hid (rowL 38 (P f 0) (S.size + 1) S.data.toList = (rowL 38 (P f 0) k1 (tkR 38 r)).map (fun x => ((ts ++ [t]) ++ x.1, x.2))) := by
          show _ = _
          rw [HROW.out, hrw (P f 0) k1 T.data.toList t HPT.out, Option.map_map]
          congr 1
          funext x
          simp
        clear htk hrw
        go_wp2_with (go_at_call 60; refine HTK.out.mono ?_; rintro e w6 ⟨rfl, hch⟩; refine Hid.out ?_)
        refine Lib.hid ?_
        have HM6 := Lib.hid (HM5.out.moved hch.gr hch.rd)
        clear hch
        go_wp2
        go_roundg k1
        case measure => omega
        case rel => exact ⟨k1, bA (tkR 38 r), _, _, ts ++ [t], Nat.le_refl _, by rw [bA_size]; omega, by rw [bA_size]; omega, by rw [List.length_append]; simp; omega, by rw [List.length_append, bA_size]; simp; omega, HM6.out, by rw [bA_list]; exact HRW.out⟩
      | false =>
        rw [htk] at HTK
        obtain ⟨hsk, hrw⟩ := tk_no htk
        have HE : Hid (PR = some (mkR 5 (ts ++ [t]), skip r)) := by show _ = _; rw [HRP.out, HROW.out, hrw (P f 0) k1 T.data.toList t HPT.out]; rfl
        rw [hsk] at HTK
        clear htk hrw hsk
        go_wp2_with (go_at_call 60; refine HTK.out.mono ?_; rintro e w6 ⟨rfl, hch⟩; refine Hid.out ?_)
        refine Lib.hid ?_
        have HM6 := Lib.hid (HM5.out.moved hch.gr hch.rd)
        have d6 : w6.cell? ⟨w.heap.size, 2, none⟩ = some (.slice va' (us.length + 1) vc') := (cells_of HM6.out.nd).2.2
        clear hch d2
        by_cases h1 : us.length = 0
        · have hu : (us.length : Int) + 1 = 1 := by omega
          have HTS : Hid (ts = []) := List.eq_nil_of_length_eq_zero (by rw [← HM.out.got.1]; exact h1)
          have HG0 : Hid (Nd w6 (Btw w.heap.size w6.heap.size) (f + 1) (.pointer (some ⟨g4, 0, none⟩)) t) := by
            have hx := HM6.out.got.2 us.length (.pointer (some ⟨g4, 0, none⟩)) t (by simp) (by rw [HM.out.got.1]; simp)
            exact Nd.up f (Nd.kept (fun _ _ => rfl) (fun bb ⟨a, b, _⟩ => ⟨by omega, b⟩) f hx)
          have HFI : Hid (Res w w6 rb (f + 1) PR (.returned (.pointer (some ⟨g4, 0, none⟩)))) := by
            show Res _ _ _ _ _ _
            rw [HE.out, HTS.out]
            exact ⟨HM6.out.gr, ⟨_, HM6.out.rd, fun t' r' e => (by cases e; exact bA_list _)⟩, (fun e => by cases e), fun t' r' e => (by cases e; exact ⟨g4, rfl, HG0.out⟩)⟩
          clear h1
          go_wp2
          go_ret
          exact HFI.out
        · have hu : ¬ (us.length : Int) + 1 = 1 := by omega
          have HFI : Hid (Res w w6 rb (f + 1) PR (.returned (.pointer (some ⟨w.heap.size, 0, none⟩)))) := by
            show Res _ _ _ _ _ _
            rw [HE.out, mkR_many (by rw [List.length_append, ← HM.out.got.1]; simp; exact fun e => h1 (by rw [e]; rfl))]
            exact ⟨HM6.out.gr, ⟨_, HM6.out.rd, fun t' r' e => (by cases e; exact bA_list _)⟩, (fun e => by cases e), fun t' r' e => (by cases e; exact ⟨_, rfl, HM6.out.node⟩)⟩
          clear h1
          go_wp2
          go_ret
          exact HFI.out

set_option maxRecDepth 100000 in
set_option maxHeartbeats 4000000 in
theorem rowAny_any (f : Nat) (hP : PC 42 f 1) (S : ByteArray) (rb : Nat) (w : World) (h : Rd w rb S) (hs : S.size ≤ 4000) (hf : 3 * S.size + 1 + 1 ≤ f) :
    Calls Tryz.prog 41 #[.pointer (some ⟨rb, 0, none⟩), .int .i64 6, .func (.func 42) #[] #[]] w fun e w' => Res w w' rb (f + 1) (rowP 6 124 (P f 1) S.data.toList) e := by
  have HP := Lib.hid hP
  have HRP : Hid (rowP 6 124 (P f 1) S.data.toList = (rowL 124 (P f 1) (S.size + 1) S.data.toList).map (fun x => (mkR 6 x.1, x.2))) := by show _ = _; unfold rowP; rw [lenS]
  have HR0 : Hid (Ro w rb f 6 (w.alloc (.cells #[.int .i64 6, .string ⟨#[]⟩, .slice none 0 0] 67)) S (.slice none 0 0) [] []) :=
    ⟨h.to (Below.heap_alloc w _ rb h.lt), blk_alloc_new _ _, ⟨by simp, .inl ⟨rfl, rfl⟩⟩, ⟨rfl, fun i x y hx => by simp at hx⟩, ⟨rfl, rfl, rfl, by simp, fun j hj _ => Below.heap_alloc w _ j hj⟩, h.lt⟩
  have HSG : Hid (∀ W, Calls Tryz.prog 38 #[.int .i64 6] W fun e w' => e = .returned (.int .u8 124) ∧ w' = W) := fun W => sign_any 6 W
  generalize rowP 6 124 (P f 1) S.data.toList = PR at *
  clear hP h
  go_enter Tryz.func41, Tryz.ntmps41
  go_wp2
  go_loopg [8] (S.size + 1) (fun q _ wr => ∃ (k : Nat) (T : ByteArray) (v : Value) (us : List Value) (ts : List Tr), k ≤ q ∧ T.size < k ∧ T.size ≤ S.size ∧ us.length ≤ 4000 ∧ us.length + T.size ≤ S.size ∧ Ro w rb f 6 wr T v us ts ∧ rowL 124 (P f 1) (S.size + 1) S.data.toList = (rowL 124 (P f 1) k T.data.toList).map (fun x => (ts ++ x.1, x.2)))
  case atStart => exact ⟨S.size + 1, S, .slice none 0 0, [], [], Nat.le_refl _, by omega, Nat.le_refl _, by simp, by simp, HR0.out, by simp⟩
  case round =>
    clear HR0
    obtain ⟨k, T, v, us, ts, hkq, hTk, hTS, hul, hut, hro, hrow⟩ := hrel
    obtain ⟨k1, rfl⟩ : ∃ k1, k = k1 + 1 := ⟨k - 1, by omega⟩
    have HRO := Lib.hid hro
    have HROW := Lib.hid hrow
    have HC := Lib.hid (HP.out T rb wr hro.rd (by omega) (by omega))
    have hnd := hro.nd
    clear hro hrow
    cases hp : P f 1 T.data.toList with
    | none =>
      rw [hp] at HC
      have HE : Hid (PR = none) := by show _ = _; rw [HRP.out, HROW.out, row_none hp]; rfl
      have HGR := Lib.hid HRO.out.gr
      clear hp hnd HRO HROW
      go_wp2_with (go_at_call 42; refine HC.out.mono ?_; rintro e w4 hres; obtain rfl := hres.no rfl; have HRS := Lib.hid hres; clear hres)
      go_ret
      obtain ⟨T4, hr4, _⟩ := HRS.out.rd
      rw [HE.out]
      exact res_none hr4 (gr_trans HGR.out HRS.out.gr)
    | some x =>
      obtain ⟨t, r⟩ := x
      rw [hp] at HC
      have hrl := P_lt f 1 _ t r hp
      rw [lenS] at hrl
      have HPT := Lib.hid hp
      clear hp
      obtain ⟨va, vc, hve⟩ := own_shape HRO.out.own
      subst hve
      go_wp2_with (go_at_call 42; refine HC.out.mono ?_; rintro e w4 hres; obtain ⟨g4, rfl, hnd4⟩ := hres.yes t r rfl; obtain ⟨T4, hr4, ht4⟩ := hres.rd; have hT4 := ht4 t r rfl; have hgr4 := hres.gr; clear hres ht4; refine Hid.out ?_)
      refine Lib.hid ?_
      have HM := Lib.hid (HRO.out.moved hgr4 hr4)
      obtain ⟨q0, q1, q2⟩ := cells_of HM.out.nd
      have hsz4 := HM.out.sz
      have hown4 := HM.out.own
      have HMO : Hid (∀ (w' : World) (v' : Value) (o : Obj), w'.ownsRow (w.heap.size + 1) 43 1 v' (us.length + 1) (us ++ [.pointer (some ⟨g4, 0, none⟩)]) → (w4.alloc o).grownBy w' (Value.slice va us.length vc).ownBlock → (v'.ownBlock = (Value.slice va us.length vc).ownBlock ∨ v'.ownBlock = some (w4.alloc o).heap.size) → Ro w rb f 6 (w'.setCell ⟨w.heap.size, 2, none⟩ v') T4 v' (us ++ [.pointer (some ⟨g4, 0, none⟩)]) (ts ++ [t])) := fun w' v' o h1 h2 h3 => HRO.out.more hgr4 hr4 hnd4 h1 h2 h3
      have HND4 := Lib.hid hnd4
      have HNW : Hid (∀ w' : World, (w4.alloc (.cells #[.pointer (some ⟨g4, 0, none⟩)] 43)).grownBy w' (Value.slice va us.length vc).ownBlock → w'.cell? ⟨w.heap.size, 2, none⟩ = some (.slice va us.length vc) ∧ w'.frozen? ⟨w.heap.size, 2, none⟩ = false) := fun w' hg => by
        have hb : w'.heap[w.heap.size]? = _ := (hg.block _ (by simp; omega) (fun e => HRO.out.vne (by omega) e.symm)).trans ((Below.heap_alloc w4 _ _ (by omega)).trans HM.out.nd)
        exact ⟨(cells_of hb).2.2, by simp [World.frozen?, hb]⟩
      have HGR4 := Lib.hid hgr4
      clear hnd4 hgr4 HC hnd
      go_wp2_with (first
        | (at_builtin; refine app_at _ rfl _ _ 65 rfl (w.heap.size + 1) 43 (.pointer none) 8 Tryz.underlying65 infoN rfl _ _ _ rfl (hown4.alloc _) ⟨w4.heap.size, 0, none⟩ 1 1 [.pointer (some ⟨g4, 0, none⟩)] rfl rfl (one_new _ _ _) ?c2 ?c3 ?c4 ?c5 ?_)
        | go_in)
      case c2 => intro u hu; simp at hu; subst hu; rfl
      case c3 => unfold maxLen; omega
      case c4 => omega
      case c5 => simp; omega
      intro v' w' hown' hg hloc
      have HM5 := Lib.hid (HMO.out w' v' _ hown' hg (by rw [World.size_alloc]; exact hloc))
      obtain ⟨t2, tf⟩ := HNW.out w' hg
      obtain ⟨va', vc', hve'⟩ := own_shape hown'
      subst hve'
      clear hown' hg hloc hown4 q0 q1 q2 HMO HNW
      refine Hid.out ?_
      refine Lib.hid ?_
      have hT4s : T4.size ≤ 4000 := by rw [← lenS, hT4]; omega
      have HTK := Lib.hid (takes_any 124 T4 rb _ HM5.out.rd hT4s)
      go_wp2_with (first
        | (go_at_call 38; refine (HSG.out _).mono ?_; rintro e w6 ⟨rfl, hw⟩; have hw2 := hw.symm; subst hw2; clear hw; refine Hid.out ?_))
      refine Lib.hid ?_
      obtain ⟨W5, hW5⟩ : ∃ W5, W5 = w'.setCell ⟨w.heap.size, 2, none⟩ (.slice va' (us.length + 1) vc') := ⟨_, rfl⟩
      rw [← hW5] at HM5 HTK ⊢
      have d2 : W5.cell? ⟨w.heap.size, 2, none⟩ = some (.slice va' (us.length + 1) vc') := (cells_of HM5.out.nd).2.2
      clear hW5 t2 tf
      rw [hT4] at HTK
      cases htk : tkB 124 r with
      | true =>
        rw [htk] at HTK
        obtain ⟨hsh, hrw⟩ := tk_yes htk
        have HRW : Hid (rowL 124 (P f 1) (S.size + 1) S.data.toList = (rowL 124 (P f 1) k1 (tkR 124 r)).map (fun x => ((ts ++ [t]) ++ x.1, x.2))) := by
          show _ = _
          rw [HROW.out, hrw (P f 1) k1 T.data.toList t HPT.out, Option.map_map]
          congr 1
          funext x
          simp
        clear htk hrw
        go_wp2_with (go_at_call 60; refine HTK.out.mono ?_; rintro e w6 ⟨rfl, hch⟩; refine Hid.out ?_)
        refine Lib.hid ?_
        have HM6 := Lib.hid (HM5.out.moved hch.gr hch.rd)
        clear hch
        go_wp2
        go_roundg k1
        case measure => omega
        case rel => exact ⟨k1, bA (tkR 124 r), _, _, ts ++ [t], Nat.le_refl _, by rw [bA_size]; omega, by rw [bA_size]; omega, by rw [List.length_append]; simp; omega, by rw [List.length_append, bA_size]; simp; omega, HM6.out, by rw [bA_list]; exact HRW.out⟩
      | false =>
        rw [htk] at HTK
        obtain ⟨hsk, hrw⟩ := tk_no htk
        have HE : Hid (PR = some (mkR 6 (ts ++ [t]), skip r)) := by show _ = _; rw [HRP.out, HROW.out, hrw (P f 1) k1 T.data.toList t HPT.out]; rfl
        rw [hsk] at HTK
        clear htk hrw hsk
        go_wp2_with (go_at_call 60; refine HTK.out.mono ?_; rintro e w6 ⟨rfl, hch⟩; refine Hid.out ?_)
        refine Lib.hid ?_
        have HM6 := Lib.hid (HM5.out.moved hch.gr hch.rd)
        have d6 : w6.cell? ⟨w.heap.size, 2, none⟩ = some (.slice va' (us.length + 1) vc') := (cells_of HM6.out.nd).2.2
        clear hch d2
        by_cases h1 : us.length = 0
        · have hu : (us.length : Int) + 1 = 1 := by omega
          have HTS : Hid (ts = []) := List.eq_nil_of_length_eq_zero (by rw [← HM.out.got.1]; exact h1)
          have HG0 : Hid (Nd w6 (Btw w.heap.size w6.heap.size) (f + 1) (.pointer (some ⟨g4, 0, none⟩)) t) := by
            have hx := HM6.out.got.2 us.length (.pointer (some ⟨g4, 0, none⟩)) t (by simp) (by rw [HM.out.got.1]; simp)
            exact Nd.up f (Nd.kept (fun _ _ => rfl) (fun bb ⟨a, b, _⟩ => ⟨by omega, b⟩) f hx)
          have HFI : Hid (Res w w6 rb (f + 1) PR (.returned (.pointer (some ⟨g4, 0, none⟩)))) := by
            show Res _ _ _ _ _ _
            rw [HE.out, HTS.out]
            exact ⟨HM6.out.gr, ⟨_, HM6.out.rd, fun t' r' e => (by cases e; exact bA_list _)⟩, (fun e => by cases e), fun t' r' e => (by cases e; exact ⟨g4, rfl, HG0.out⟩)⟩
          clear h1
          go_wp2
          go_ret
          exact HFI.out
        · have hu : ¬ (us.length : Int) + 1 = 1 := by omega
          have HFI : Hid (Res w w6 rb (f + 1) PR (.returned (.pointer (some ⟨w.heap.size, 0, none⟩)))) := by
            show Res _ _ _ _ _ _
            rw [HE.out, mkR_many (by rw [List.length_append, ← HM.out.got.1]; simp; exact fun e => h1 (by rw [e]; rfl))]
            exact ⟨HM6.out.gr, ⟨_, HM6.out.rd, fun t' r' e => (by cases e; exact bA_list _)⟩, (fun e => by cases e), fun t' r' e => (by cases e; exact ⟨_, rfl, HM6.out.node⟩)⟩
          clear h1
          go_wp2
          go_ret
          exact HFI.out

set_option maxRecDepth 100000 in
theorem all_step (f : Nat) (h : PC 61 f 0) : PC 42 (f + 1) 1 := fun S rb w hr hs hf => by
  have HR := Lib.hid (rowAll_any f h S rb w hr hs (by omega))
  rw [P_all]
  generalize rowP 5 38 (P f 0) S.data.toList = PR at *
  clear h hr
  go_enter Tryz.func42, Tryz.ntmps42
  go_wp2_with (go_at_call 41; refine HR.out.mono ?_; rintro e w1 hres; have hE : ∃ v, e = .returned v := (by cases PR with
    | none => exact ⟨_, hres.no rfl⟩
    | some x => obtain ⟨g, e1, _⟩ := hres.yes x.1 x.2 rfl; exact ⟨_, e1⟩); obtain ⟨v, rfl⟩ := hE; have HRS := Lib.hid hres; clear hres)
  go_ret
  exact HRS.out

set_option maxRecDepth 100000 in
theorem any_step (f : Nat) (h : PC 42 f 1) : PC 22 (f + 1) 2 := fun S rb w hr hs hf => by
  have HR := Lib.hid (rowAny_any f h S rb w hr hs (by omega))
  rw [P_any]
  generalize rowP 6 124 (P f 1) S.data.toList = PR at *
  clear h hr
  go_enter Tryz.func22, Tryz.ntmps22
  go_wp2_with (go_at_call 41; refine HR.out.mono ?_; rintro e w1 hres; have hE : ∃ v, e = .returned v := (by cases PR with
    | none => exact ⟨_, hres.no rfl⟩
    | some x => obtain ⟨g, e1, _⟩ := hres.yes x.1 x.2 rfl; exact ⟨_, e1⟩); obtain ⟨v, rfl⟩ := hE; have HRS := Lib.hid hres; clear hres)
  go_ret
  exact HRS.out

theorem Res.pre {w w1 w2 : World} {rb d : Nat} {T : ByteArray} {m : Option (Tr × List UInt8)} {e : Ending} (h : Ch w w1 rb T) (k : Res w1 w2 rb d m e) : Res w w2 rb d m e :=
  ⟨gr_trans h.gr k.gr, k.rd, k.no, by rw [← h.sz]; exact k.yes⟩
theorem Res.post {w w2 w3 : World} {rb d : Nat} {T : ByteArray} {t : Tr} {r : List UInt8} {e : Ending} (k : Res w w2 rb d (some (t, r)) e) (h : Ch w2 w3 rb T) (hl : rb < w.heap.size) : Res w w3 rb d (some (t, T.data.toList)) e := by
  refine ⟨gr_trans k.gr h.gr, ⟨T, h.rd, fun t' r' e => (by cases e; rfl)⟩, (fun e => by cases e), fun t' r' e' => ?_⟩
  cases e'
  obtain ⟨g, e1, hn⟩ := k.yes t r rfl
  exact ⟨g, e1, Nd.kept (fun bb ⟨a, b⟩ => h.gr.block bb b (fun e => by have := Option.some.inj e; omega)) (fun bb ⟨a, b⟩ => ⟨a, by rw [h.sz]; exact b⟩) d hn⟩
theorem Res.up {w w2 : World} {rb d : Nat} {m : Option (Tr × List UInt8)} {e : Ending} (k : Res w w2 rb d m e) : Res w w2 rb (d + 1) m e := ⟨k.gr, k.rd, k.no, fun t r h => by obtain ⟨g, e1, hn⟩ := k.yes t r h; exact ⟨g, e1, Nd.up d hn⟩⟩
theorem res_not {w w2 : World} {rb d g : Nat} {t : Tr} {r : List UInt8} (k : Res w w2 rb d (some (t, r)) (.returned (.pointer (some ⟨g, 0, none⟩)))) : Res w ((w2.alloc (.cells #[.pointer (some ⟨g, 0, none⟩)] 43)).alloc (.cells #[.int .i64 4, .string ⟨#[]⟩, .slice (some ⟨w2.heap.size, 0, none⟩) 1 1] 67)) rb (d + 1) (some (.mk 4 (bA []) [t], r)) (.returned (.pointer (some ⟨w2.heap.size + 1, 0, none⟩))) := by
  obtain ⟨T, hr, hT⟩ := k.rd
  obtain ⟨g', e1, hn⟩ := k.yes t r rfl
  cases e1
  obtain ⟨W, hW⟩ : ∃ W, W = (w2.alloc (.cells #[.pointer (some ⟨g, 0, none⟩)] 43)).alloc (.cells #[.int .i64 4, .string ⟨#[]⟩, .slice (some ⟨w2.heap.size, 0, none⟩) 1 1] 67) := ⟨_, rfl⟩
  have hb : Below w2.heap.size w2 W := by rw [hW]; exact ((Below.refl _ _).alloc (Nat.le_refl _) _).alloc (by simp) _
  have hsz : W.heap.size = w2.heap.size + 2 := by rw [hW]; simp
  have hk := k.gr.size
  have hnew : W.heap[w2.heap.size + 1]? = some (.cells #[.int .i64 4, .string ⟨#[]⟩, .slice (some ⟨w2.heap.size, 0, none⟩) 1 1] 67 (0, 0)) := by
    have := blk_alloc_new (w2.alloc (.cells #[.pointer (some ⟨g, 0, none⟩)] 43)) (.cells #[.int .i64 4, .string ⟨#[]⟩, .slice (some ⟨w2.heap.size, 0, none⟩) 1 1] 67)
    rw [World.size_alloc] at this
    rw [hW]
    exact this
  have hcell : W.cell? ⟨w2.heap.size, 0, none⟩ = some (.pointer (some ⟨g, 0, none⟩)) := by rw [hW]; simp
  rw [← hW]
  refine ⟨⟨hb.os.trans k.gr.os, hb.tape.trans k.gr.tape, hb.output.trans k.gr.output, Nat.le_trans k.gr.size hb.size, fun j hj hne => (hb.block j (by omega)).trans (k.gr.block j hj hne)⟩, ⟨T, hr.to (hb.block _ hr.lt), fun t' r' e => (by cases e; exact hT t r rfl)⟩, (fun e => by cases e), fun t' r' e => ?_⟩
  cases e
  refine ⟨_, rfl, w2.heap.size + 1, some ⟨w2.heap.size, 0, none⟩, 1, [.pointer (some ⟨g, 0, none⟩)], rfl, ⟨by omega, by omega⟩, hnew, rfl, ⟨w2.heap.size, 0, .inr ⟨rfl, by omega, by omega⟩, fun i x hx => ?_⟩, fun i x y hx hy => ?_⟩
  · match i, hx with
    | 0, hx => simp at hx; rw [← hx]; exact hcell
    | i + 1, hx => simp at hx
  · match i, hx, hy with
    | 0, hx, hy =>
      simp at hx hy
      rw [← hx, ← hy]
      exact Nd.kept (fun bb ⟨a, b⟩ => hb.block bb b) (fun bb ⟨a, b⟩ => ⟨a, by omega⟩) d hn
    | i + 1, hx, _ => simp at hx
def clP (t : Tr) (r : List UInt8) : Option (Tr × List UInt8) := match skip r with
  | [] => none
  | d :: s => if d = 41 then some (t, s) else none
theorem clP_nil {t : Tr} {r : List UInt8} (h : skip r = []) : clP t r = none := by unfold clP; rw [h]
theorem clP_cons {t : Tr} {r s : List UInt8} {d : UInt8} (h : skip r = d :: s) : clP t r = if d = 41 then some (t, s) else none := by unfold clP; rw [h]
theorem one_br {p0 p2 : Pz} {l q : List UInt8} (hL : skip l = 40 :: q) : (p2 q = none → oneP p0 p2 l = none) ∧ ∀ t r, p2 q = some (t, r) → oneP p0 p2 l = clP t r := by
  unfold oneP
  rw [hL]
  simp only
  rw [if_neg (by decide), if_pos trivial]
  exact ⟨fun h => by rw [h], fun t r h => by rw [h]; rfl⟩
theorem tk_is {c d : UInt8} {l q : List UInt8} (h : skip l = d :: q) : tkB c l = decide (d = c) ∧ tkR c l = if d = c then q else d :: q := by unfold tkB tkR; rw [h]; exact ⟨rfl, rfl⟩
theorem tk_nil {c : UInt8} {l : List UInt8} (h : skip l = []) : tkB c l = false ∧ tkR c l = [] := by unfold tkB tkR; rw [h]; exact ⟨rfl, rfl⟩

set_option maxRecDepth 100000 in
set_option maxHeartbeats 4000000 in
theorem one_step (f : Nat) (h0 : PC 61 f 0) (h2 : PC 22 f 2) : PC 61 (f + 1) 0 := fun S rb w hr hs hf => by
  have hlt := hr.lt
  have HT1 := Lib.hid (takes_any 33 S rb w hr hs)
  have hsl := skip_len S.data.toList
  rw [lenS] at hsl
  rw [P_one]
  cases hL : skip S.data.toList with
  | nil =>
    obtain ⟨e1, e2⟩ := tk_nil (c := 33) hL
    rw [e1, e2] at HT1
    have HE : Hid (oneP (P f 0) (P f 2) S.data.toList = wd []) := by show _ = _; unfold oneP; rw [hL]
    have HT2 : Hid (∀ W, Rd W rb (bA []) → Calls Tryz.prog 60 #[.pointer (some ⟨rb, 0, none⟩), .int .u8 40] W fun e w' => e = .returned (.bool false) ∧ Ch W w' rb (bA [])) := fun W h => by
      have := takes_any 40 (bA []) rb W h (by rw [bA_size]; simp)
      rw [(tk_nil (c := 40) (l := (bA []).data.toList) (by rfl)).1, (tk_nil (c := 40) (l := (bA []).data.toList) (by rfl)).2] at this
      exact this
    have HW : Hid (∀ W, Rd W rb (bA []) → Calls Tryz.prog 76 #[.pointer (some ⟨rb, 0, none⟩)] W fun e w' => Res W w' rb (f + 1) (wd []) e) := fun W h => word_any (bA []) rb f W h (by rw [bA_size]; simp)
    rw [HE.out]
    clear hL e1 e2 HE hr h0 h2
    go_enter Tryz.func61, Tryz.ntmps61
    go_wp2_with (go_at_call 60; refine HT1.out.mono ?_; rintro e w1 ⟨rfl, hch⟩; refine Hid.out ?_)
    refine Lib.hid ?_
    have HC1 := Lib.hid hch
    have HT2' := Lib.hid (HT2.out w1 hch.rd)
    clear hch HT1
    go_wp2_with (go_at_call 60; refine HT2'.out.mono ?_; rintro e w2 ⟨rfl, hch⟩; refine Hid.out ?_)
    refine Lib.hid ?_
    have HC2 := Lib.hid (HC1.out.trans hch)
    have HW2 := Lib.hid (HW.out w2 hch.rd)
    clear hch HT2' HT2 HW
    go_wp2_with (go_at_call 76; refine HW2.out.mono ?_; rintro e w3 hres; have hE : ∃ v, e = .returned v := (by cases hm : wd [] with
      | none => rw [hm] at hres; exact ⟨_, hres.no rfl⟩
      | some x => rw [hm] at hres; obtain ⟨g, e1, _⟩ := hres.yes x.1 x.2 rfl; exact ⟨_, e1⟩); obtain ⟨v, rfl⟩ := hE; have HRS := Lib.hid (Res.pre HC2.out hres); clear hres)
    go_ret
    exact HRS.out
  | cons c q =>
    rw [hL] at hsl
    simp only [List.length_cons] at hsl
    obtain ⟨e1, e2⟩ := tk_is (c := 33) hL
    have hq4 : (bA q).size ≤ 4000 := by rw [bA_size]; omega
    by_cases hc : c = 33
    · subst hc
      have HE : Hid (oneP (P f 0) (P f 2) S.data.toList = (P f 0 q).map (fun x => (.mk 4 (bA []) [x.1], x.2))) := by show _ = _; unfold oneP; rw [hL]; rfl
      rw [e1, e2, decide_eq_true rfl, if_pos rfl] at HT1
      have HO : Hid (∀ W, Rd W rb (bA q) → Calls Tryz.prog 61 #[.pointer (some ⟨rb, 0, none⟩)] W fun e w' => Res W w' rb f (P f 0 q) e) := fun W h => by
        have := h0 (bA q) rb W h hq4 (by rw [bA_size]; omega)
        rw [bA_list] at this
        exact this
      rw [HE.out]
      clear hL e1 e2 HE hr h0 h2
      cases hp : P f 0 q with
      | none =>
        rw [hp] at HO
        clear hp
        go_enter Tryz.func61, Tryz.ntmps61
        go_wp2_with (go_at_call 60; refine HT1.out.mono ?_; rintro e w1 ⟨rfl, hch⟩; refine Hid.out ?_)
        refine Lib.hid ?_
        have HC1 := Lib.hid hch
        have HO1 := Lib.hid (HO.out w1 hch.rd)
        clear hch HT1 HO
        go_wp2_with (go_at_call 61; refine HO1.out.mono ?_; rintro e w2 hres; obtain rfl := hres.no rfl; have HRS := Lib.hid (Res.pre HC1.out hres); clear hres)
        go_ret
        obtain ⟨T4, hr4, _⟩ := HRS.out.rd
        exact res_none hr4 HRS.out.gr
      | some x =>
        obtain ⟨t, r⟩ := x
        rw [hp] at HO
        clear hp
        go_enter Tryz.func61, Tryz.ntmps61
        go_wp2_with (go_at_call 60; refine HT1.out.mono ?_; rintro e w1 ⟨rfl, hch⟩; refine Hid.out ?_)
        refine Lib.hid ?_
        have HC1 := Lib.hid hch
        have HO1 := Lib.hid (HO.out w1 hch.rd)
        clear hch HT1 HO
        go_wp2_with (go_at_call 61; refine HO1.out.mono ?_; rintro e w2 hres; obtain ⟨g4, rfl, _⟩ := hres.yes t r rfl; have HRS := Lib.hid (Res.pre HC1.out hres); clear hres)
        go_ret
        exact res_not HRS.out
    · have hd1 : decide (c = 33) = false := decide_eq_false hc
      rw [e1, e2, hd1, if_neg hc] at HT1
      have hcq4 : (bA (c :: q)).size ≤ 4000 := by rw [bA_size]; simp; omega
      have hsk : skip (bA (c :: q)).data.toList = c :: q := by rw [bA_list, ← hL, skip_skip]
      obtain ⟨f1, f2⟩ := tk_is (c := 40) hsk
      by_cases hc2 : c = 40
      · subst hc2
        rw [decide_eq_true rfl] at f1
        rw [if_pos rfl] at f2
        have HE := Lib.hid (one_br (p0 := P f 0) (p2 := P f 2) hL)
        have HT2 : Hid (∀ W, Rd W rb (bA (40 :: q)) → Calls Tryz.prog 60 #[.pointer (some ⟨rb, 0, none⟩), .int .u8 40] W fun e w' => e = .returned (.bool true) ∧ Ch W w' rb (bA q)) := fun W h => by
          have := takes_any 40 (bA (40 :: q)) rb W h hcq4
          rw [f1, f2] at this
          exact this
        have HA : Hid (∀ W, Rd W rb (bA q) → Calls Tryz.prog 22 #[.pointer (some ⟨rb, 0, none⟩)] W fun e w' => Res W w' rb f (P f 2 q) e) := fun W h => by
          have := h2 (bA q) rb W h hq4 (by rw [bA_size]; omega)
          rw [bA_list] at this
          exact this
        have hrl := P_lt f 2 q
        clear hL e1 e2 hr h0 h2 hsk f1 f2 hc hd1
        cases hp : P f 2 q with
        | none =>
          rw [hp] at HA
          rw [HE.out.1 hp]
          clear hp hrl HE
          go_enter Tryz.func61, Tryz.ntmps61
          go_wp2_with (go_at_call 60; refine HT1.out.mono ?_; rintro e w1 ⟨rfl, hch⟩; refine Hid.out ?_)
          refine Lib.hid ?_
          have HC1 := Lib.hid hch
          have HT3 := Lib.hid (HT2.out w1 hch.rd)
          clear hch HT1 HT2
          go_wp2_with (go_at_call 60; refine HT3.out.mono ?_; rintro e w2 ⟨rfl, hch⟩; refine Hid.out ?_)
          refine Lib.hid ?_
          have HC2 := Lib.hid (HC1.out.trans hch)
          have HA2 := Lib.hid (HA.out w2 hch.rd)
          clear hch HT3 HA
          go_wp2_with (go_at_call 22; refine HA2.out.mono ?_; rintro e w3 hres; obtain rfl := hres.no rfl; have HRS := Lib.hid (Res.pre HC2.out hres); clear hres)
          go_ret
          obtain ⟨T4, hr4, _⟩ := HRS.out.rd
          exact res_none hr4 HRS.out.gr
        | some x =>
          obtain ⟨t, r⟩ := x
          rw [hp] at HA
          rw [HE.out.2 t r hp]
          have hrl2 := hrl t r hp
          clear hp hrl HE
          go_enter Tryz.func61, Tryz.ntmps61
          go_wp2_with (go_at_call 60; refine HT1.out.mono ?_; rintro e w1 ⟨rfl, hch⟩; refine Hid.out ?_)
          refine Lib.hid ?_
          have HC1 := Lib.hid hch
          have HT3 := Lib.hid (HT2.out w1 hch.rd)
          clear hch HT1 HT2
          go_wp2_with (go_at_call 60; refine HT3.out.mono ?_; rintro e w2 ⟨rfl, hch⟩; refine Hid.out ?_)
          refine Lib.hid ?_
          have HC2 := Lib.hid (HC1.out.trans hch)
          have HA2 := Lib.hid (HA.out w2 hch.rd)
          clear hch HT3 HA
          go_wp2_with (go_at_call 22; refine HA2.out.mono ?_; rintro e w3 hres; obtain ⟨g4, rfl, _⟩ := hres.yes t r rfl; have HRS := Lib.hid (Res.pre HC2.out hres); clear hres; refine Hid.out ?_)
          refine Lib.hid ?_
          obtain ⟨T3, hr3, ht3⟩ := HRS.out.rd
          have hT3 := ht3 t r rfl
          have HT4 := Lib.hid (takes_any 41 T3 rb w3 hr3 (by rw [← lenS, hT3]; omega))
          rw [hT3] at HT4
          clear ht3 hr3 HA2
          cases hs2 : skip r with
          | nil =>
            obtain ⟨k1, k2⟩ := tk_nil (c := 41) hs2
            rw [k1, k2] at HT4
            have HCL : Hid (clP t r = none) := clP_nil hs2
            clear k1 k2 hs2
            go_wp2_with (go_at_call 60; refine HT4.out.mono ?_; rintro e w4 ⟨rfl, hch⟩; have HC4 := Lib.hid hch; clear hch)
            go_ret
            rw [HCL.out]
            exact res_none HC4.out.rd (gr_trans HRS.out.gr HC4.out.gr)
          | cons d s =>
            obtain ⟨k1, k2⟩ := tk_is (c := 41) hs2
            by_cases hd : d = 41
            · rw [k1, k2, decide_eq_true hd, if_pos hd] at HT4
              have HIF : Hid (clP t r = some (t, s)) := by show _ = _; rw [clP_cons hs2, if_pos hd]
              clear k1 k2 hs2
              go_wp2_with (go_at_call 60; refine HT4.out.mono ?_; rintro e w4 ⟨rfl, hch⟩; have HC4 := Lib.hid hch; clear hch)
              go_ret
              have h := (Res.post HRS.out HC4.out hlt).up
              rw [bA_list] at h
              rw [HIF.out]
              exact h
            · rw [k1, k2, decide_eq_false hd, if_neg hd] at HT4
              have HIF : Hid (clP t r = none) := by show _ = _; rw [clP_cons hs2, if_neg hd]
              clear k1 k2 hs2
              go_wp2_with (go_at_call 60; refine HT4.out.mono ?_; rintro e w4 ⟨rfl, hch⟩; have HC4 := Lib.hid hch; clear hch)
              go_ret
              rw [HIF.out]
              exact res_none HC4.out.rd (gr_trans HRS.out.gr HC4.out.gr)
      · rw [decide_eq_false hc2] at f1
        rw [if_neg hc2] at f2
        have HE : Hid (oneP (P f 0) (P f 2) S.data.toList = wd (c :: q)) := by show _ = _; unfold oneP; rw [hL]; simp only; rw [if_neg hc, if_neg hc2]
        have HT2 : Hid (∀ W, Rd W rb (bA (c :: q)) → Calls Tryz.prog 60 #[.pointer (some ⟨rb, 0, none⟩), .int .u8 40] W fun e w' => e = .returned (.bool false) ∧ Ch W w' rb (bA (c :: q))) := fun W h => by
          have := takes_any 40 (bA (c :: q)) rb W h hcq4
          rw [f1, f2] at this
          exact this
        have HW : Hid (∀ W, Rd W rb (bA (c :: q)) → Calls Tryz.prog 76 #[.pointer (some ⟨rb, 0, none⟩)] W fun e w' => Res W w' rb (f + 1) (wd (c :: q)) e) := fun W h => by
          have := word_any (bA (c :: q)) rb f W h hcq4
          rw [hsk] at this
          exact this
        rw [HE.out]
        clear hL e1 e2 HE hr h0 h2 hsk f1 f2 hc hc2 hd1
        generalize hm : wd (c :: q) = M at *
        clear hm
        go_enter Tryz.func61, Tryz.ntmps61
        go_wp2_with (go_at_call 60; refine HT1.out.mono ?_; rintro e w1 ⟨rfl, hch⟩; refine Hid.out ?_)
        refine Lib.hid ?_
        have HC1 := Lib.hid hch
        have HT2' := Lib.hid (HT2.out w1 hch.rd)
        clear hch HT1
        go_wp2_with (go_at_call 60; refine HT2'.out.mono ?_; rintro e w2 ⟨rfl, hch⟩; refine Hid.out ?_)
        refine Lib.hid ?_
        have HC2 := Lib.hid (HC1.out.trans hch)
        have HW2 := Lib.hid (HW.out w2 hch.rd)
        clear hch HT2' HT2 HW
        go_wp2_with (go_at_call 76; refine HW2.out.mono ?_; rintro e w3 hres; have hE : ∃ v, e = .returned v := (by cases M with
          | none => exact ⟨_, hres.no rfl⟩
          | some x => obtain ⟨g, e1, _⟩ := hres.yes x.1 x.2 rfl; exact ⟨_, e1⟩); obtain ⟨v, rfl⟩ := hE; have HRS := Lib.hid (Res.pre HC2.out hres); clear hres)
        go_ret
        exact HRS.out

theorem read_all : ∀ f, PC 61 f 0 ∧ PC 42 f 1 ∧ PC 22 f 2
  | 0 => ⟨fun S rb w hr hs hf => absurd hf (by omega), fun S rb w hr hs hf => absurd hf (by omega), fun S rb w hr hs hf => absurd hf (by omega)⟩
  | f + 1 => by
    obtain ⟨h0, h1, h2⟩ := read_all f
    exact ⟨one_step f h0 h2, all_step f h0, any_step f h1⟩
end Go.Proofs.YtnhddnfobcofcaaGreatDoor.cr

namespace Go.Proofs.YtnhddnfobcofcaaGreatDoor.cl
open Go.RowKit
set_option linter.unusedVariables false

theorem info5 : (Tryz.prog.info? 5).map (fun i => (i.zero, i.size, i.bytes)) = some (some (.int .u8 0), 1, 1) := by kernel_rfl

set_option maxHeartbeats 4000000 in
set_option maxRecDepth 100000 in
theorem slite_any (s : ByteArray) (w : World) (hlim : s.size ≤ 1099511627776) :
    Calls Tryz.prog 48 #[.string s] w fun e w' => e = .returned (.string s) ∧ Below w.heap.size w w' := by
  by_cases h0 : s.size = 0
  · have hs : s = ⟨#[]⟩ := by
      apply ByteArray.ext
      exact Array.eq_empty_of_size_eq_zero h0
    subst hs
    go_enter Tryz.func48, Tryz.ntmps48
    go_wp2
    go_ret
    exact ⟨rfl, Below.refl _ _⟩
  · obtain ⟨i0, hi, hz0, hz1, hz2⟩ := info_parts info5
    have hinfo : (Tryz.prog.info? 5).map (·.size) = some 1 := by rw [hi]; simp [hz1]
    have hco : Tryz.prog.cellsOf 5 = 1 := by simp [Program.cellsOf, hi, hz1]
    obtain ⟨M, hM⟩ : ∃ M, M = madeCells (Value.int .u8 0).cells (((s.size : Nat) : Int).toNat * i0.size) := ⟨_, rfl⟩
    have hMs : M.size = s.size := by rw [hM, size_madeCells, hz1]; simp
    have hmk : ∀ W : World, (Instr.makeSlice 22 (.int .i64 (s.size : Int)) (.int .i64 (s.size : Int))).run Tryz.prog W = .ok (.slice (some ⟨W.heap.size, 0, none⟩) s.size s.size) (W.alloc (.cells M 5)) := fun W => by
      have h := run_make (P := Tryz.prog) W 22 5 i0 (.int .u8 0) Tryz.underlying22 hi hz0 .i64 .i64 (s.size : Int) (s.size : Int) (by omega) (by omega) (by rw [hz2]; omega) (by omega)
      rw [← hM] at h
      simpa using h
    clear hM
    have hcp := Lib.run_copy_row_string (P := Tryz.prog) (w.alloc (.cells M 5)) 22 9 3 5 w.heap.size 0 s.size s.size s M 5 Tryz.underlying22 hinfo (heap_alloc_new w _) (Nat.le_refl _) (by omega)
    obtain ⟨Y, hY⟩ : ∃ Y, Y = (M.toList.take 0 ++ Lib.byteCells s.data.toList ++ M.toList.drop (0 + s.size)).toArray := ⟨_, rfl⟩
    rw [← hY] at hcp
    have hYl : Y.toList = Lib.byteCells s.data.toList := by
      rw [hY, List.toList_toArray, List.take_zero, List.nil_append, List.drop_of_length_le (by rw [Array.length_toList]; omega), List.append_nil]
    have hYs : Y.size = s.size := by rw [← Array.length_toList, hYl, Lib.byteCells_length, ← Lib.size_eq]
    have hgY : ((w.alloc (.cells M 5)).setRow w.heap.size Y).heap[w.heap.size]? = some (.cells Y 5 (0, 0)) := setRow_heap _ _ M _ 5 (0, 0) (heap_alloc_new w _)
    have hne : s.data.toList ≠ [] := fun e => h0 (by rw [Lib.size_eq, e]; rfl)
    have hUS := Lib.run_unsafeString_row (P := Tryz.prog) ((w.alloc (.cells M 5)).setRow w.heap.size Y) 93 3 9 5 Tryz.underlying93 hco w.heap.size Y.size (by unfold World.shape?; rw [hgY]) s.data.toList hne (by rw [← Lib.size_eq]; omega) (by rw [← Lib.size_eq]; omega)
      (fun j x hx => Lib.cells_of_row hgY Y.size j _ (by rw [List.take_of_length_le (by rw [Array.length_toList]; exact Nat.le_refl _), hYl]; simp [Lib.byteCells, hx]))
    rw [← Lib.size_eq] at hUS
    clear hY
    go_enter Tryz.func48, Tryz.ntmps48
    go_wp2
    go_ret
    have hb1 : Below w.heap.size w (w.alloc (.cells M 5)) := (Below.refl _ w).alloc (Nat.le_refl _) _
    have hb2 : Below w.heap.size (w.alloc (.cells M 5)) ((w.alloc (.cells M 5)).setRow w.heap.size Y) := ⟨rfl, rfl, rfl, by simp, fun k hk => setRow_other _ _ _ _ (by omega)⟩
    exact ⟨rfl, Lib.below_freeze (hb1.trans hb2) (p := ⟨w.heap.size, 0, none⟩) (Nat.le_refl _) _⟩

theorem clone_any (s : ByteArray) (w : World) (hlim : s.size ≤ 1099511627776) :
    Calls Tryz.prog 29 #[.string s] w fun e w' => e = .returned (.string s) ∧ Below w.heap.size w w' := by
  go_enter Tryz.func29, Tryz.ntmps29
  go_wp2_with (go_at_call 48; refine (slite_any _ _ hlim).mono ?_; rintro e w1 ⟨rfl, hl⟩)
  go_ret
  exact ⟨rfl, hl⟩

end Go.Proofs.YtnhddnfobcofcaaGreatDoor.cl
