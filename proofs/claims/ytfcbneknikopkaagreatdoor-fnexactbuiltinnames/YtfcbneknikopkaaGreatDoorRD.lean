import Derived.Test.YtfcbneknikopkaaGreatDoorRC
import Derived.Laws.EntriesVeiled
namespace Go.Proofs.YtfcbneknikopkaaGreatDoor.sr
open Go.ChangeShapes Go.WideShapes Go.ChangeAt Go.RowKit Go.Deep
set_option linter.unusedVariables false
set_option linter.unusedSimpArgs false

def NMB : List (List UInt8) := [[108, 101, 110, 103, 116, 104], [104, 101, 97, 100], [116, 97, 105, 108], [97, 116], [109, 97, 112], [102, 105, 108, 116, 101, 114], [102, 111, 108, 100], [110, 97, 109, 101, 115], [109, 97, 112, 83, 101, 116], [116, 111, 83, 101, 116], [119, 105, 116, 104, 111, 117, 116], [106, 111, 105, 110], [115, 105, 122, 101], [112, 97, 114, 116], [116, 101, 120, 116], [110, 117, 109, 98, 101, 114], [107, 105, 110, 100], [116, 104, 114, 111, 119], [105, 109, 112, 111, 114, 116], [115, 101, 113], [100, 101, 101, 112], [100, 101, 114, 105, 118, 101], [115, 111, 114, 116]]
def NM3 : List (List UInt8) := [[116, 114, 117, 101], [102, 97, 108, 115, 101], [110, 117, 108, 108]]
def NMS : List (List UInt8) := [[97, 116], [100, 101, 101, 112], [100, 101, 114, 105, 118, 101], [102, 97, 108, 115, 101], [102, 105, 108, 116, 101, 114], [102, 111, 108, 100], [104, 101, 97, 100], [105, 109, 112, 111, 114, 116], [106, 111, 105, 110], [107, 105, 110, 100], [108, 101, 110, 103, 116, 104], [109, 97, 112], [109, 97, 112, 83, 101, 116], [110, 97, 109, 101, 115], [110, 117, 108, 108], [110, 117, 109, 98, 101, 114], [112, 97, 114, 116], [115, 101, 113], [115, 105, 122, 101], [115, 111, 114, 116], [116, 97, 105, 108], [116, 101, 120, 116], [116, 104, 114, 111, 119], [116, 111, 83, 101, 116], [116, 114, 117, 101], [119, 105, 116, 104, 111, 117, 116]]

set_option maxRecDepth 100000 in
theorem srt_names : srt 5 (NM3 ++ NMB) = NMS := by decide +kernel

theorem Below.more {B : Nat} {w w' : World} (h : Below B w w') (hB : B ≤ w.heap.size) (o : Obj) : Below B w (w'.alloc o) := h.alloc (Nat.le_trans hB h.size) o

/-- The table of builtins. -/
def TabB (w : World) (g : Nat) : Prop := ∃ (cs : Array Value), w.heap[g]? = some (.cells cs 32 (0, 0)) ∧ ∀ i, i < 23 → cs[i * 3]? = some (strL (xAt NMB i)) ∧ (∃ a n c, cs[i * 3 + 1]? = some (.slice (some a) n c)) ∧ ∃ k, cs[i * 3 + 2]? = some (.func (.func k) #[] #[])

theorem tab_alloc (W : World) (cs : Array Value) (g : Nat) (hg : g = W.heap.size) (h : ∀ i, i < 23 → cs[i * 3]? = some (strL (xAt NMB i)) ∧ (∃ a n c, cs[i * 3 + 1]? = some (.slice (some a) n c)) ∧ ∃ k, cs[i * 3 + 2]? = some (.func (.func k) #[] #[])) : TabB (W.alloc (.cells cs 32)) g := by
  subst hg
  exact ⟨cs, heap_alloc_new W _, h⟩

set_option maxRecDepth 100000 in
set_option maxHeartbeats 2000000 in
theorem builtins_any (w : World) : Calls Tryz.prog 9 #[] w fun e w' => ∃ g, e = .returned (.slice (some ⟨g, 0, none⟩) 23 23) ∧ TabB w' g ∧ Below w.heap.size w w' := by
  go_enter Tryz.func9, Tryz.ntmps9
  go_wp2
  go_ret
  refine ⟨_, rfl, tab_alloc _ _ _ ?_ ?_, ?_⟩
  · simp
  · intro i hi
    have hi' : i = 0 ∨ i = 1 ∨ i = 2 ∨ i = 3 ∨ i = 4 ∨ i = 5 ∨ i = 6 ∨ i = 7 ∨ i = 8 ∨ i = 9 ∨ i = 10 ∨ i = 11 ∨ i = 12 ∨ i = 13 ∨ i = 14 ∨ i = 15 ∨ i = 16 ∨ i = 17 ∨ i = 18 ∨ i = 19 ∨ i = 20 ∨ i = 21 ∨ i = 22 := by omega
    rcases hi' with rfl | rfl | rfl | rfl | rfl | rfl | rfl | rfl | rfl | rfl | rfl | rfl | rfl | rfl | rfl | rfl | rfl | rfl | rfl | rfl | rfl | rfl | rfl
    all_goals exact ⟨rfl, ⟨_, _, _, rfl⟩, ⟨_, rfl⟩⟩
  · iterate 24 (refine Below.more ?_ (Nat.le_refl _) _)
    exact Below.refl _ _

theorem two_str (w : World) (o : Obj) {l : List UInt8} {u : ByteArray} (h : strL l = .string u) : ∀ j v, ([l].map strL)[j]? = some v → ((w.alloc o).alloc (.cells #[.string u] 9)).cell? ((⟨w.heap.size + 1, 0, none⟩ : Addr).add j) = some v := by
  have := one_str (w.alloc o) h
  rwa [show (w.alloc o).heap.size = w.heap.size + 1 by simp] at this

theorem own3 (w : World) (a b c : Value) : (w.alloc (.cells #[a, b, c] 9)).ownsRow w.heap.size 9 1 (.slice (some ⟨w.heap.size, 0, none⟩) 3 3) 3 [a, b, c] :=
  ⟨rfl, .inr ⟨w.heap.size, 3, #[a, b, c], rfl, Nat.le_refl _, heap_alloc_new w _, by decide, by decide, rfl, rfl⟩⟩

theorem own_type {w : World} {base : Nat} {v : Value} {n : Nat} {xs : List Value} (h : w.ownsRow base 9 1 v n xs) {g : Nat} {cs : Array Value} {t : TypeId} {fr : Nat × Nat} (hg : w.heap[g]? = some (.cells cs t fr)) (ht : t ≠ 9) : some g ≠ v.ownBlock := by
  intro e
  rcases h.2 with ⟨rfl, _⟩ | ⟨g', cap, cur, rfl, _, hg', _⟩
  · simp [Value.ownBlock] at e
  · simp [Value.ownBlock] at e
    subst e
    rw [hg] at hg'
    cases hg'
    exact ht rfl

theorem TabB.alloc {w : World} {g : Nat} (h : TabB w g) (o : Obj) : TabB (w.alloc o) g := by
  obtain ⟨cs, hg, h⟩ := h
  exact ⟨cs, (Below.heap_alloc w o g (Array.getElem?_eq_some_iff.1 hg).1).trans hg, h⟩

theorem TabB.grown {w w' : World} {base g : Nat} {v : Value} {n : Nat} {xs : List Value} (h : TabB w g) (hown : w.ownsRow base 9 1 v n xs) (hg : w.grownBy w' v.ownBlock) : TabB w' g := by
  obtain ⟨cs, hc, h⟩ := h
  exact ⟨cs, (hg.block g (Array.getElem?_eq_some_iff.1 hc).1 (own_type hown hc (by decide))).trans hc, h⟩

theorem take_name {i : Nat} (h : i < 23) : NM3 ++ NMB.take (i + 1) = NM3 ++ NMB.take i ++ [xAt NMB i] := by
  have h' : i < NMB.length := h
  rw [List.take_succ_eq_append_getElem h', List.append_assoc]
  congr 2
  simp [xAt, h']

theorem nm_len (i : Nat) (h : i ≤ 23) : (NM3 ++ NMB.take i).length = 3 + i := by
  have : NMB.length = 23 := rfl
  rw [List.length_append, List.length_take]
  show 3 + _ = _
  omega

set_option maxRecDepth 100000 in
set_option maxHeartbeats 2000000 in
theorem inames_any (w : World) : Calls Tryz.prog 5 #[] w fun e w' => ∃ v', e = .returned v' ∧ OwnS w.heap.size w' v' NMS ∧ Below w.heap.size w w' := by
  have HBU : Hid (∀ w1 : World, Calls Tryz.prog 9 #[] w1 fun e w' => ∃ g, e = .returned (.slice (some ⟨g, 0, none⟩) 23 23) ∧ TabB w' g ∧ Below w1.heap.size w1 w') := builtins_any
  have HSO : Hid (∀ (v : Value) (w1 : World), StrR w1 v (NM3 ++ NMB) → Calls Tryz.prog 10 #[v, FV] w1 fun e w' => ∃ v', e = .returned v' ∧ OwnS w1.heap.size w' v' NMS ∧ Below w1.heap.size w1 w') := fun v w1 h => by
    have := sorted_all 5 (NM3 ++ NMB) v w1 h (by decide) (by decide)
    rwa [srt_names] at this
  have HO3 : Hid ((w.alloc (.cells #[.string ⟨#[116, 114, 117, 101]⟩, .string ⟨#[102, 97, 108, 115, 101]⟩, .string ⟨#[110, 117, 108, 108]⟩] 9)).ownsRow w.heap.size 9 1 (.slice (some ⟨w.heap.size, 0, none⟩) 3 3) (NM3 ++ NMB.take 0).length ((NM3 ++ NMB.take 0).map strL)) := own3 w _ _ _
  have HB3 : Hid (∀ o, Below w.heap.size w (w.alloc o)) := fun o => (Below.refl _ _).alloc (Nat.le_refl _) _
  go_enter Tryz.func5, Tryz.ntmps5
  go_wp2_with (go_at_call 9; refine (HBU.out _).mono ?_; rintro e w1 ⟨g, rfl, htab, hb1⟩)
  have hown0 := own_below HO3.out hb1
  have hb01 : Below w.heap.size w w1 := (HB3.out _).trans (hb1.mono (HB3.out _).size)
  clear HO3 HB3 hb1
  go_loopw [1, 7] (fun v x wr => ∃ (i : Nat), i ≤ 23 ∧ x = .int .i64 (i : Int) ∧ wr.ownsRow w.heap.size 9 1 v (NM3 ++ NMB.take i).length ((NM3 ++ NMB.take i).map strL) ∧ v ≠ .slice none 0 0 ∧ TabB wr g ∧ Below w.heap.size w wr) (fun _ x _ => 23 - (intOf x).toNat)
  case atStart => exact ⟨0, by omega, rfl, hown0, not_nil _ _ _, htab, hb01⟩
  case round =>
    clear hown0 htab hb01
    obtain ⟨i, hi, rfl, hown, hv, htab, hbel⟩ := hrel
    have HOWN : Hid (wr.ownsRow w.heap.size 9 1 u1 (NM3 ++ NMB.take i).length ((NM3 ++ NMB.take i).map strL)) := hown
    have HV : Hid (u1 ≠ .slice none 0 0) := hv
    have HTB : Hid (TabB wr g) := htab
    have HBE : Hid (Below w.heap.size w wr) := hbel
    have hszb := hbel.size
    by_cases h : i < 23
    · have h' : (i : Int) < 23 := by omega
      obtain ⟨cs, hcs, hall⟩ := htab
      obtain ⟨k0, ⟨a, m, c, k1⟩, k, k2⟩ := hall i h
      obtain ⟨u, hu⟩ : ∃ u : ByteArray, strL (xAt NMB i) = .string u := ⟨_, rfl⟩
      rw [hu] at k0
      have HU : Hid (strL (xAt NMB i) = .string u) := hu
      have c0 : wr.cell? ⟨g, i * 3, none⟩ = some (.string u) := by simp [World.cell?, hcs, k0]
      have c1 : wr.cell? ⟨g, i * 3 + 1, none⟩ = some (.slice (some a) m c) := by simp [World.cell?, hcs, k1]
      have c2 : wr.cell? ⟨g, i * 3 + 2, none⟩ = some (.func (.func k) #[] #[]) := by simp [World.cell?, hcs, k2]
      have HNX : Hid (NM3 ++ NMB.take (i + 1) = NM3 ++ NMB.take i ++ [xAt NMB i]) := take_name h
      have hnl := nm_len i (by omega)
      clear hown hv hcs hall k0 k1 k2 hu
      go_wp2_with (first
        | (at_builtin; refine app_str _ rfl _ _ rfl w.heap.size _ (NM3 ++ NMB.take i) rfl ((HOWN.out.alloc _).alloc _) HV.out ⟨wr.heap.size + 1, 0, none⟩ 1 1 [xAt NMB i] rfl rfl (two_str _ _ HU.out) (by omega) (by have := HBE.out.size; simp; omega) ?_; intro v' w' hown' hv' hg'; have hb' := below_grown ((HBE.out.alloc HBE.out.size _).alloc (by have := HBE.out.size; simp; omega) _) ((HOWN.out.alloc _).alloc _) hg' (by have := HBE.out.size; simp; omega); have htb' := ((HTB.out.alloc _).alloc _).grown ((HOWN.out.alloc _).alloc _) hg'; clear hg')
        | go_in)
      go_roundw
      case rel => exact ⟨i + 1, by omega, by go_num, by rw [HNX.out]; exact hown', hv', htb', hb'⟩
      case measure => simp [intOf]; omega
    · have h' : ¬ (i : Int) < 23 := by omega
      obtain rfl : i = 23 := by omega
      have HST : Hid (StrR wr u1 (NM3 ++ NMB)) := StrR.own' hown hv
      clear hown hv htab
      go_wp2_with (go_at_call 10; refine (HSO.out _ _ HST.out).mono ?_; rintro e w2 ⟨v2, rfl, ho2, hb2⟩)
      go_ret
      exact ⟨_, rfl, ho2.mono hszb, HBE.out.trans (hb2.mono hszb)⟩

set_option maxRecDepth 100000 in
set_option maxHeartbeats 2000000 in
theorem snames_any (w : World) : Calls Tryz.prog 4 #[] w fun e w' => ∃ v', e = .returned v' ∧ StrR w' v' NMS ∧ Below w.heap.size w w' := by
  go_enter Tryz.func4, Tryz.ntmps4
  go_wp2
  go_ret
  refine ⟨_, rfl, ⟨w.heap.size, 0, 26, rfl, by decide, by decide, fun i x hx => ?_⟩, (Below.refl _ _).alloc (Nat.le_refl _) _⟩
  have hlt : i < 26 := (List.getElem?_eq_some_iff.1 hx).1
  have hi' : i = 0 ∨ i = 1 ∨ i = 2 ∨ i = 3 ∨ i = 4 ∨ i = 5 ∨ i = 6 ∨ i = 7 ∨ i = 8 ∨ i = 9 ∨ i = 10 ∨ i = 11 ∨ i = 12 ∨ i = 13 ∨ i = 14 ∨ i = 15 ∨ i = 16 ∨ i = 17 ∨ i = 18 ∨ i = 19 ∨ i = 20 ∨ i = 21 ∨ i = 22 ∨ i = 23 ∨ i = 24 ∨ i = 25 := by omega
  rcases hi' with rfl | rfl | rfl | rfl | rfl | rfl | rfl | rfl | rfl | rfl | rfl | rfl | rfl | rfl | rfl | rfl | rfl | rfl | rfl | rfl | rfl | rfl | rfl | rfl | rfl | rfl
  all_goals (cases hx; simp [go_sem, strL])

end Go.Proofs.YtfcbneknikopkaaGreatDoor.sr
