import Derived.Test.YtdddplhfhpghkaaG06
import Derived.Deep.Cut
import Derived.Deep.CutBlock
import Derived.Deep.CutRange
import Derived.Deep.RegionHeld3
import Derived.Test.YtdddplhfhpghkaaG10
namespace Go.Proofs.Ytdddplhfhpghkaa.fw
open Go.ChangeShapes Go.WideShapes Go.ChangeAt Go.RowKit Go.Deep Go.Maps
open fa (Us uNo nds aw aws aw_mem aw_len aw_le BhV Wb WbR infoR retWeb blk_new three_new fX web_made awaited_any)
set_option linter.unusedVariables false
set_option linter.unusedSimpArgs false

/-- What it answers. -/
def WebR2 (us : List ty.Un) (n : Nat) (w w' : World) (e : Ending) : Prop := ∃ A U Bs V, e = .returned (.agg #[.slice (some ⟨A, 0, none⟩) n n, .slice (some ⟨U, 0, none⟩) (n + 1) (n + 1)]) ∧ BhV Bs U (n + 1) (bhL us n) V w' ∧ (w.heap.size ≤ U ∧ U < Bs ∧ Bs ≤ w'.heap.size) ∧ Ah us n Bs A n V w' ∧ w.heap.size ≤ A ∧ A < Bs ∧ A ≠ U

set_option maxRecDepth 100000 in
set_option maxHeartbeats 16000000 in
theorem web2_any (md : Option Nat) (a : Option Addr) (c : Nat) (us : List ty.Un) (w : World) (hb : ty.SrcUn md w a us) (hU : Ua us) :
    Calls Try.prog 31 #[.slice a us.length c, .func (.func 32) #[] #[]] w fun e w' => WebR2 us us.length w w' e ∧ Below w.heap.size w w' := by
  have hn1 := hU.few
  have hmk := ty.makeN (P := Try.prog) 49 54 (.slice none 0 0) 1 24 Try.underlying49 infoR .i64 .i64 us.length (by omega) (by omega)
  have hmk2 := ty.makeN (P := Try.prog) 49 54 (.slice none 0 0) 1 24 Try.underlying49 infoR .i64 .i64 (us.length + 1) (by omega) (by omega)
  rw [Nat.mul_one] at hmk hmk2
  rw [show (((us.length + 1 : Nat)) : Int) = (us.length : Int) + 1 by omega] at hmk2
  have HSR := Lib.hid hb
  have HU := Lib.hid hU
  have HNE : Hid (∀ (u : ty.Un) (d1 : Option Addr) (e1 : Nat) (d2 : Option Addr) (e2 : Nat) W, u ∈ us → Below w.heap.size w W → (∀ (k : Nat) (m : ByteArray), u.fNeeds[k]? = some m → ∃ nb no, d2 = some ⟨nb, no, none⟩ ∧ W.cell? ⟨nb, no + k, none⟩ = some (.string m)) → (∀ (k : Nat) (m : ByteArray), u.fAfter[k]? = some m → ∃ nb no, d1 = some ⟨nb, no, none⟩ ∧ W.cell? ⟨nb, no + k, none⟩ = some (.string m)) → Calls Try.prog 32 #[.slice a us.length c, .agg #[.string u.fName, .slice d1 u.fAfter.length e1, .slice d2 u.fNeeds.length e2, .string u.fExec, .bool u.fKeep]] W fun e w' => (∃ g o cap, e = .returned (.slice (some ⟨g, o, none⟩) (aw us u).length cap) ∧ fi.Ib W.heap.size w' g o cap (aw us u)) ∧ Below W.heap.size W w') := fun u d1 e1 d2 e2 W hu h hc hc1 => awaited_any md a _ us u d1 e1 d2 e2 W (hb.below h) hU.toUs hu (hU.aft u hu) hc hc1
  have HIT : Hid (∀ (i : Nat) (u : ty.Un), us[i]? = some u → ∃ b o d1 e1 d2 e2, a = some ⟨b, o, none⟩ ∧ (∀ W, Below w.heap.size w W → (W.cell? ⟨b, o + i * 5, none⟩ = some (.string u.fName) ∧ W.cell? ⟨b, o + i * 5 + 1, none⟩ = some (.slice d1 u.fAfter.length e1) ∧ W.cell? ⟨b, o + i * 5 + 2, none⟩ = some (.slice d2 u.fNeeds.length e2) ∧ W.cell? ⟨b, o + i * 5 + 3, none⟩ = some (.string u.fExec) ∧ W.cell? ⟨b, o + i * 5 + 4, none⟩ = some (.bool u.fKeep)) ∧ ∀ (k : Nat) (m : ByteArray), u.fNeeds[k]? = some m → ∃ nb no, d2 = some ⟨nb, no, none⟩ ∧ W.cell? ⟨nb, no + k, none⟩ = some (.string m)) ∧ ∀ W, Below w.heap.size w W → ∀ (k : Nat) (m : ByteArray), u.fAfter[k]? = some m → ∃ nb no, d1 = some ⟨nb, no, none⟩ ∧ W.cell? ⟨nb, no + k, none⟩ = some (.string m)) := fun i u hu => by
    rcases hb with h | ⟨b, o, e, _, hc⟩
    · rw [h.2] at hu; simp at hu
    obtain ⟨d1, e1, d2, e2, q0, q1, q2, q3, q4, s1, s2, _⟩ := hc i u hu
    refine ⟨b, o, d1, e1, d2, e2, e, fun W h => ?_, fun W h j m hm => ?_⟩
    rotate_left
    · rcases s1 with h' | ⟨nb, no, e2', _, hc2⟩
      · rw [h'.2] at hm; simp at hm
      · exact ⟨nb, no, e2', (h.cell (p := ⟨nb, no + j, none⟩) (World.block_lt_of_cell? _ _ (hc2 j m hm))).trans (hc2 j m hm)⟩
    have k : ∀ {q r v}, w.cell? ⟨q, r, none⟩ = some v → W.cell? ⟨q, r, none⟩ = some v := fun {q r v} h' => (h.cell (p := ⟨q, r, none⟩) (World.block_lt_of_cell? _ _ h')).trans h'
    exact ⟨⟨k q0, k q1, k q2, k q3, k q4⟩, fun j m hm => by
      rcases s2 with h' | ⟨nb, no, e2', _, hc2⟩
      · rw [h'.2] at hm; simp at hm
      · exact ⟨nb, no, e2', k (hc2 j m hm)⟩⟩
  obtain ⟨n, hnn⟩ : ∃ n, us.length = n := ⟨_, rfl⟩
  have HN : Hid (us.length = n) := hnn
  rw [hnn] at hn1 hmk hmk2 HNE ⊢
  obtain ⟨MA, hMA⟩ : ∃ M, M = madeCells (Value.slice none 0 0).cells n := ⟨_, rfl⟩
  obtain ⟨MU, hMU⟩ : ∃ M, M = madeCells (Value.slice none 0 0).cells (n + 1) := ⟨_, rfl⟩
  rw [← hMA] at hmk
  rw [← hMU] at hmk2
  have HMA : Hid (MA = madeCells #[.slice none 0 0] n) := hMA
  have HMU : Hid (MU = madeCells #[.slice none 0 0] (n + 1)) := hMU
  have HW1 : Hid ((w.alloc (.cells #[.slice none 0 0, .slice none 0 0] 51)).drew.rowIs w.heap.size 51 2 fun _ => .slice none 0 0) := ⟨_, blk_new w _, rfl, fun i hi => by
    match i, hi with
    | 0, _ => rfl
    | 1, _ => rfl⟩
  have hwl : w.heap.size < (w.alloc (.cells #[.slice none 0 0, .slice none 0 0] 51)).drew.heap.size := by simp
  have HB0 : Hid (Below w.heap.size w (w.alloc (.cells #[.slice none 0 0, .slice none 0 0] 51)).drew) := ((Below.refl _ _).alloc (Nat.le_refl _) _).drew
  have hwr1 : IntKind.i64.wrap ((n : Int) + 1) = (n : Int) + 1 := by rw [IntKind.wrap_i64]; omega
  clear hb hU hnn hMA hMU
  go_enter Try.func31, Try.ntmps31
  go_upto_region 1 with fail
  go_cut [5] from 10 (fun p wx => ∃ A U X, p = .pointer (some ⟨X, 0, none⟩) ∧ (∃ Bs, WbR w w.heap.size A U X Bs ∧ Wb w.heap.size A U X Bs n (fa.bhL us 0) (fun _ => .slice none 0 0) wx) ∧ Below w.heap.size w wx)
  case first =>
    refine wp_region_held_drew (S := fun _ => True) (by kernel_rfl) trivial (fun hHeld => ?_)
    obtain ⟨wd, hwd⟩ : ∃ z, (w.alloc (.cells #[.slice none 0 0, .slice none 0 0] 51)).drew = z := ⟨_, rfl⟩
    rw [hwd] at HW1 hwl HB0
    rw [hwd]
    clear hwd
    refine uq (i := 0) rfl ?_
    try simp only [aP]
    refine uq (i := 1) rfl ?_
    try simp only [aP]
    refine uq (i := 3) rfl ?_
    try simp only [aP]
    refine uq (i := 4) rfl ?_
    try simp only [aP]
    refine uq (i := 5) rfl ?_
    try simp only [aP]
    refine wpAnyH_ready (rs := [2, 6, 8]) (by kernel_rfl) (by simp) ?_
    refine cq rfl (fun K hK => ?_) (cq rfl (fun K hK => ?_) (cq rfl (fun K hK => ?_) AllReadyH.nil))
    · go_simp
      try go_wp2_with fail
      refine hK.out _ _ (trivial) (fun hHeld => ?_)
      clear hK K
      try simp only [aP]
      refine wpAnyH_ready (rs := [6, 8]) (by kernel_rfl) (by simp) ?_
      refine cq rfl (fun K hK => ?_) (cq rfl (fun K hK => ?_) AllReadyH.nil)
      · go_simp
        try go_wp2_with fail
        refine hK.out _ _ (trivial) (fun hHeld => ?_)
        clear hK K
        try simp only [aP]
        refine uq (i := 7) rfl ?_
        try simp only [aP]
        refine wpAnyH_ready (rs := [8]) (by kernel_rfl) (by simp) ?_
        refine cq rfl (fun K hK => ?_) AllReadyH.nil
        go_simp
        try go_wp2_with fail
        refine hK.out _ _ (trivial) (fun hHeld => ?_)
        clear hK K
        try simp only [aP]
        obtain ⟨k1, k2, k3, kb, ks⟩ := three_new wd (.cells MA 54) (.cells MU 54) (.cells #[.slice (some ⟨wd.heap.size, 0, none⟩) n n, .slice (some ⟨wd.heap.size + 1, 0, none⟩) (n + 1) (n + 1)] 51)
        have HWM := Lib.hid (web_made (w0 := w) (us := us) (n := n) hwl HW1.out kb ks k1 HMA.out HMU.out k2 k3 (by omega) (by omega) (by omega) (by omega) (by omega) (by omega))
        clear k1 k2 k3 kb ks
        refine rq 9 rfl fun K hK => ?_
        go_simp
        try go_wp2_with fail
        refine hK.out _ _ (trivial) (fun hHeld => ?_)
        clear hK K
        try simp only [aP]
        refine dq ?_
        go_wp2_with fail
        go_meet
        case rel => exact ⟨_, _, _, rfl, ⟨_, HWM.out.1, HWM.out.2.1⟩, HB0.out.trans (HWM.out.2.2.mono HB0.out.size)⟩
      · go_simp
        try go_wp2_with fail
        refine hK.out _ _ (trivial) (fun hHeld => ?_)
        clear hK K
        try simp only [aP]
        refine wpAnyH_ready (rs := [6]) (by kernel_rfl) (by simp) ?_
        refine cq rfl (fun K hK => ?_) AllReadyH.nil
        go_simp
        try go_wp2_with fail
        refine hK.out _ _ (trivial) (fun hHeld => ?_)
        clear hK K
        try simp only [aP]
        refine uq (i := 7) rfl ?_
        try simp only [aP]
        obtain ⟨k1, k2, k3, kb, ks⟩ := three_new wd (.cells MA 54) (.cells #[.slice (some ⟨wd.heap.size, 0, none⟩) n n, .slice (some ⟨wd.heap.size + 1 + 1, 0, none⟩) (n + 1) (n + 1)] 51) (.cells MU 54)
        have HWM := Lib.hid (web_made (w0 := w) (us := us) (n := n) hwl HW1.out kb ks k1 HMA.out HMU.out k3 k2 (by omega) (by omega) (by omega) (by omega) (by omega) (by omega))
        clear k1 k2 k3 kb ks
        refine rq 9 rfl fun K hK => ?_
        go_simp
        try go_wp2_with fail
        refine hK.out _ _ (trivial) (fun hHeld => ?_)
        clear hK K
        try simp only [aP]
        refine dq ?_
        go_wp2_with fail
        go_meet
        case rel => exact ⟨_, _, _, rfl, ⟨_, HWM.out.1, HWM.out.2.1⟩, HB0.out.trans (HWM.out.2.2.mono HB0.out.size)⟩
    · go_simp
      try go_wp2_with fail
      refine hK.out _ _ (trivial) (fun hHeld => ?_)
      clear hK K
      try simp only [aP]
      refine wpAnyH_ready (rs := [2, 8]) (by kernel_rfl) (by simp) ?_
      refine cq rfl (fun K hK => ?_) (cq rfl (fun K hK => ?_) AllReadyH.nil)
      · go_simp
        try go_wp2_with fail
        refine hK.out _ _ (trivial) (fun hHeld => ?_)
        clear hK K
        try simp only [aP]
        refine uq (i := 7) rfl ?_
        try simp only [aP]
        refine wpAnyH_ready (rs := [8]) (by kernel_rfl) (by simp) ?_
        refine cq rfl (fun K hK => ?_) AllReadyH.nil
        go_simp
        try go_wp2_with fail
        refine hK.out _ _ (trivial) (fun hHeld => ?_)
        clear hK K
        try simp only [aP]
        obtain ⟨k1, k2, k3, kb, ks⟩ := three_new wd (.cells MU 54) (.cells MA 54) (.cells #[.slice (some ⟨wd.heap.size + 1, 0, none⟩) n n, .slice (some ⟨wd.heap.size, 0, none⟩) (n + 1) (n + 1)] 51)
        have HWM := Lib.hid (web_made (w0 := w) (us := us) (n := n) hwl HW1.out kb ks k2 HMA.out HMU.out k1 k3 (by omega) (by omega) (by omega) (by omega) (by omega) (by omega))
        clear k1 k2 k3 kb ks
        refine rq 9 rfl fun K hK => ?_
        go_simp
        try go_wp2_with fail
        refine hK.out _ _ (trivial) (fun hHeld => ?_)
        clear hK K
        try simp only [aP]
        refine dq ?_
        go_wp2_with fail
        go_meet
        case rel => exact ⟨_, _, _, rfl, ⟨_, HWM.out.1, HWM.out.2.1⟩, HB0.out.trans (HWM.out.2.2.mono HB0.out.size)⟩
      · go_simp
        try go_wp2_with fail
        refine hK.out _ _ (trivial) (fun hHeld => ?_)
        clear hK K
        try simp only [aP]
        refine wpAnyH_ready (rs := [2]) (by kernel_rfl) (by simp) ?_
        refine cq rfl (fun K hK => ?_) AllReadyH.nil
        go_simp
        try go_wp2_with fail
        refine hK.out _ _ (trivial) (fun hHeld => ?_)
        clear hK K
        try simp only [aP]
        refine uq (i := 7) rfl ?_
        try simp only [aP]
        obtain ⟨k1, k2, k3, kb, ks⟩ := three_new wd (.cells MU 54) (.cells #[.slice (some ⟨wd.heap.size + 1 + 1, 0, none⟩) n n, .slice (some ⟨wd.heap.size, 0, none⟩) (n + 1) (n + 1)] 51) (.cells MA 54)
        have HWM := Lib.hid (web_made (w0 := w) (us := us) (n := n) hwl HW1.out kb ks k3 HMA.out HMU.out k1 k2 (by omega) (by omega) (by omega) (by omega) (by omega) (by omega))
        clear k1 k2 k3 kb ks
        refine rq 9 rfl fun K hK => ?_
        go_simp
        try go_wp2_with fail
        refine hK.out _ _ (trivial) (fun hHeld => ?_)
        clear hK K
        try simp only [aP]
        refine dq ?_
        go_wp2_with fail
        go_meet
        case rel => exact ⟨_, _, _, rfl, ⟨_, HWM.out.1, HWM.out.2.1⟩, HB0.out.trans (HWM.out.2.2.mono HB0.out.size)⟩
    · go_simp
      try go_wp2_with fail
      refine hK.out _ _ (trivial) (fun hHeld => ?_)
      clear hK K
      try simp only [aP]
      refine wpAnyH_ready (rs := [2, 6]) (by kernel_rfl) (by simp) ?_
      refine cq rfl (fun K hK => ?_) (cq rfl (fun K hK => ?_) AllReadyH.nil)
      · go_simp
        try go_wp2_with fail
        refine hK.out _ _ (trivial) (fun hHeld => ?_)
        clear hK K
        try simp only [aP]
        refine wpAnyH_ready (rs := [6]) (by kernel_rfl) (by simp) ?_
        refine cq rfl (fun K hK => ?_) AllReadyH.nil
        go_simp
        try go_wp2_with fail
        refine hK.out _ _ (trivial) (fun hHeld => ?_)
        clear hK K
        try simp only [aP]
        refine uq (i := 7) rfl ?_
        try simp only [aP]
        obtain ⟨k1, k2, k3, kb, ks⟩ := three_new wd (.cells #[.slice (some ⟨wd.heap.size + 1, 0, none⟩) n n, .slice (some ⟨wd.heap.size + 1 + 1, 0, none⟩) (n + 1) (n + 1)] 51) (.cells MA 54) (.cells MU 54)
        have HWM := Lib.hid (web_made (w0 := w) (us := us) (n := n) hwl HW1.out kb ks k2 HMA.out HMU.out k3 k1 (by omega) (by omega) (by omega) (by omega) (by omega) (by omega))
        clear k1 k2 k3 kb ks
        refine rq 9 rfl fun K hK => ?_
        go_simp
        try go_wp2_with fail
        refine hK.out _ _ (trivial) (fun hHeld => ?_)
        clear hK K
        try simp only [aP]
        refine dq ?_
        go_wp2_with fail
        go_meet
        case rel => exact ⟨_, _, _, rfl, ⟨_, HWM.out.1, HWM.out.2.1⟩, HB0.out.trans (HWM.out.2.2.mono HB0.out.size)⟩
      · go_simp
        try go_wp2_with fail
        refine hK.out _ _ (trivial) (fun hHeld => ?_)
        clear hK K
        try simp only [aP]
        refine wpAnyH_ready (rs := [2]) (by kernel_rfl) (by simp) ?_
        refine cq rfl (fun K hK => ?_) AllReadyH.nil
        go_simp
        try go_wp2_with fail
        refine hK.out _ _ (trivial) (fun hHeld => ?_)
        clear hK K
        try simp only [aP]
        refine uq (i := 7) rfl ?_
        try simp only [aP]
        obtain ⟨k1, k2, k3, kb, ks⟩ := three_new wd (.cells #[.slice (some ⟨wd.heap.size + 1 + 1, 0, none⟩) n n, .slice (some ⟨wd.heap.size + 1, 0, none⟩) (n + 1) (n + 1)] 51) (.cells MU 54) (.cells MA 54)
        have HWM := Lib.hid (web_made (w0 := w) (us := us) (n := n) hwl HW1.out kb ks k3 HMA.out HMU.out k2 k1 (by omega) (by omega) (by omega) (by omega) (by omega) (by omega))
        clear k1 k2 k3 kb ks
        refine rq 9 rfl fun K hK => ?_
        go_simp
        try go_wp2_with fail
        refine hK.out _ _ (trivial) (fun hHeld => ?_)
        clear hK K
        try simp only [aP]
        refine dq ?_
        go_wp2_with fail
        go_meet
        case rel => exact ⟨_, _, _, rfl, ⟨_, HWM.out.1, HWM.out.2.1⟩, HB0.out.trans (HWM.out.2.2.mono HB0.out.size)⟩
  case rest =>
  obtain ⟨A, U, X, rfl, ⟨Bs, hwr, hwb⟩, hbc⟩ := hcut
  have HWR := Lib.hid hwr
  rw [show fa.bhL us 0 = bhL us 0 by funext z; rw [fa.bhL_zero, bhL_zero]] at hwb
  have HWB := Lib.hid hwb
  have HBC := Lib.hid hbc
  obtain ⟨R4, hR4⟩ : ∃ R, w.heap.size = R := ⟨_, rfl⟩
  rw [hR4] at HWB HWR
  have HR4 : Hid (w.heap.size = R4) := hR4
  clear hwr hwb hbc hmk hmk2 HMA HMU HW1 hwl HB0 hwr1
  try rw [hR4]
  clear hR4
  go_wp2
  go_loopw [6, 7, 9, 20] (fun _ _ _ y wr => ∃ (i : Nat) (V : Nat → Value), i ≤ n ∧ y = .int .i64 (i : Int) ∧ Wb R4 A U X Bs n (bhL us i) V wr ∧ Ah us i Bs A n V wr ∧ Below w.heap.size w wr) (fun _ _ _ y _ => n - (intOf y).toNat)
  case atStart => exact ⟨0, _, Nat.zero_le _, rfl, HWB.out, Ah.zero _ _ _ _ _ _, HBC.out⟩
  case round =>
    obtain ⟨i, V, hi, rfl, hwb, hah, hbel⟩ := hrel
    have HAI := Lib.hid hah
    have HWI := Lib.hid hwb
    have HBE := Lib.hid hbel
    clear hwb hah
    by_cases hil : i < n
    · have hil' : (i : Int) < (n : Int) := by omega
      have hi0 : (0 : Int) ≤ (i : Int) := by omega
      obtain ⟨u, hu⟩ : ∃ u, us[i]? = some u := ⟨_, List.getElem?_eq_getElem (by rw [HN.out]; exact hil)⟩
      have HUU := Lib.hid hu
      obtain ⟨b, o', d1, e1, d2, e2, rfl, hc, hca⟩ := HIT.out i u hu
      obtain ⟨⟨q0, q1, q2, q3, q4⟩, _⟩ := hc wr hbel
      have hml : u.fNeeds.length ≤ 20 := HU.out.nds u (List.mem_of_getElem? hu)
      have HNB0 : Hid (∀ W, Below w.heap.size w W → Calls Try.prog 32 #[.slice (some ⟨b, o', none⟩) n c, .agg #[.string u.fName, .slice d1 u.fAfter.length e1, .slice d2 u.fNeeds.length e2, .string u.fExec, .bool u.fKeep]] W fun e w' => (∃ g o cap, e = .returned (.slice (some ⟨g, o, none⟩) (aw us u).length cap) ∧ fi.Ib W.heap.size w' g o cap (aw us u)) ∧ Below W.heap.size W w') := fun W h => HNE.out u d1 e1 d2 e2 W (List.mem_of_getElem? hu) h (hc W h).2 (hca W h)
      have HNL : Hid ((aw us u).length ≤ 40) := HU.out.len u (List.mem_of_getElem? hu)
      have HLE : Hid (∀ x ∈ aw us u, x ≤ n) := fun x hx => by rw [← HN.out]; exact aw_le hx
      obtain ⟨P, hP⟩ : ∃ P, u.fName = P := ⟨_, rfl⟩
      obtain ⟨ml, hmm⟩ : ∃ q, u.fNeeds.length = q := ⟨_, rfl⟩
      obtain ⟨al, hal⟩ : ∃ q, u.fAfter.length = q := ⟨_, rfl⟩
      obtain ⟨xe, hxe⟩ : ∃ q, u.fExec = q := ⟨_, rfl⟩
      obtain ⟨kp, hkp⟩ : ∃ q, u.fKeep = q := ⟨_, rfl⟩
      rw [hP] at q0
      rw [hal] at q1
      rw [hmm] at q2 hml
      rw [hxe] at q3
      rw [hkp] at q4
      rw [hP, hal, hmm, hxe, hkp] at HNB0
      obtain ⟨WA, hWA⟩ : ∃ WA, WA = wr.alloc (.cells #[.string P, .slice d1 al e1, .slice d2 ml e2, .string xe, .bool kp] 45) := ⟨_, rfl⟩
      have HAB : Hid (Below wr.heap.size wr WA) := by show Below _ _ _; rw [hWA]; exact (Below.refl _ _).alloc (Nat.le_refl _) _
      have HWA := Lib.hid (HWI.out.below HAB.out)
      have HS5 : Hid (∀ w', Below WA.heap.size WA w' → w'.cell? ⟨X, 0, none⟩ = some (.slice (some ⟨A, 0, none⟩) n n) ∧ w'.cell? ⟨wr.heap.size, 0, none⟩ = some (.string P) ∧ w'.cell? ⟨wr.heap.size, 1, none⟩ = some (.slice d1 al e1) ∧ w'.cell? ⟨wr.heap.size, 2, none⟩ = some (.slice d2 ml e2) ∧ w'.cell? ⟨wr.heap.size, 3, none⟩ = some (.string xe) ∧ w'.cell? ⟨wr.heap.size, 4, none⟩ = some (.bool kp)) := fun W h => by
        have k := fun j => h.cell (p := ⟨wr.heap.size, j, none⟩) (by show wr.heap.size < _; rw [hWA]; simp)
        refine ⟨(HWA.out.below h).rX.cell (i := 0) (by omega), ?_⟩
        rw [k 0, k 1, k 2, k 3, k 4, hWA]
        exact ⟨by simp [go_sem], by simp [go_sem], by simp [go_sem], by simp [go_sem], by simp [go_sem]⟩
      have HD5 : Hid (Below WA.heap.size WA (wr.alloc (.cells #[.string P, .slice d1 al e1, .slice d2 ml e2, .string xe, .bool kp] 45)).drew) := by show Below _ _ _; rw [← hWA]; exact (Below.refl _ _).drew
      have HNB : Hid (∀ W, Below WA.heap.size WA W → Calls Try.prog 32 #[.slice (some ⟨b, o', none⟩) n c, .agg #[.string P, .slice d1 al e1, .slice d2 ml e2, .string xe, .bool kp]] W fun e w' => (∃ g o cap, e = .returned (.slice (some ⟨g, o, none⟩) (aw us u).length cap) ∧ fi.Ib W.heap.size w' g o cap (aw us u)) ∧ Below W.heap.size W w') := fun W h => HNB0.out W ((HBE.out.trans (HAB.out.mono HBE.out.size)).trans (h.mono (HBE.out.trans (HAB.out.mono HBE.out.size)).size))
      have hAw : wr.heap.size ≠ A := by have := HWI.out.rr; have := HWI.out.sz; omega
      have HAD5 := Lib.hid (HAI.out.below (by have := HWI.out.rr; have := HWI.out.sz; omega) HAB.out)
      clear hu hc hca hP hmm hal hxe hkp hWA hbel HNB0
      go_upto_region 5 with fail
      refine wp_region_held_drew (S := fun w' => w'.cell? ⟨X, 0, none⟩ = some (.slice (some ⟨A, 0, none⟩) n n) ∧ w'.cell? ⟨wr.heap.size, 0, none⟩ = some (.string P) ∧ w'.cell? ⟨wr.heap.size, 1, none⟩ = some (.slice d1 al e1) ∧ w'.cell? ⟨wr.heap.size, 2, none⟩ = some (.slice d2 ml e2) ∧ w'.cell? ⟨wr.heap.size, 3, none⟩ = some (.string xe) ∧ w'.cell? ⟨wr.heap.size, 4, none⟩ = some (.bool kp)) (by kernel_rfl) (HS5.out _ HD5.out) (fun hHeld => ?_)
      refine uq (i := 0) rfl ?_
      try simp only [aP]
      refine uq (i := 1) rfl ?_
      try simp only [aP]
      refine uq (i := 2) rfl ?_
      try simp only [aP]
      refine uq (i := 3) rfl ?_
      try simp only [aP]
      refine uq (i := 4) rfl ?_
      try simp only [aP]
      refine uq (i := 5) rfl ?_
      try simp only [aP]
      refine rq 6 rfl fun K hK => ?_
      go_simp
      (go_at_call 32; refine (HNB.out _ HD5.out).mono ?_; rintro e w2 ⟨⟨g, o, cap, rfl, hib2⟩, hl2⟩)
      try go_wp2_with fail
      have HD6 := Lib.hid (HD5.out.trans (hl2.mono HD5.out.size))
      refine hK.out _ _ (HS5.out _ HD6.out) (fun hHeld => ?_)
      clear hK K
      try simp only [aP]
      refine uq (i := 7) rfl ?_
      try simp only [aP]
      have HW2 := Lib.hid (HWA.out.below HD6.out)
      obtain ⟨fA, hfA⟩ := HW2.out.ra
      have a0 := hfA.cell (i := i) (by omega)
      have a1 := hfA.frozen i
      have HW3 := Lib.hid (HW2.out.ahead i (.slice (some ⟨g, o, none⟩) (aw us u).length cap))
      have HC3 : Hid ((w2.setCell ⟨A, i, none⟩ (.slice (some ⟨g, o, none⟩) (aw us u).length cap)).cell? ⟨A, i, none⟩ = some (.slice (some ⟨g, o, none⟩) (aw us u).length cap)) := by
        have := (hfA.set i (.slice (some ⟨g, o, none⟩) (aw us u).length cap)).cell (i := i) (by omega)
        rw [if_pos rfl] at this
        exact this
      have HGA : Hid (g ≠ A ∧ g ≠ X ∧ g ≠ U ∧ g ≠ R4 ∧ ∀ j, j < n + 1 → (V j).ownBlock ≠ some g) := HWA.out.fresh (Nat.le_trans HD5.out.size hib2.new)
      have HI3 : Hid (fi.Ib wr.heap.size (w2.setCell ⟨A, i, none⟩ (.slice (some ⟨g, o, none⟩) (aw us u).length cap)) g o cap (aw us u)) := (hib2.kept (by simp) (ty.blk_oth HGA.out.1)).mono (Nat.le_trans HAB.out.size HD5.out.size)
      have HB3 := Lib.hid ((HBE.out.trans (HAB.out.mono HBE.out.size)).trans (HD6.out.mono (HBE.out.trans (HAB.out.mono HBE.out.size)).size))
      have HB4 : Hid (Below w.heap.size w (w2.setCell ⟨A, i, none⟩ (.slice (some ⟨g, o, none⟩) (aw us u).length cap))) := HB3.out.setCell HWR.out.lA _
      have HAH3 : Hid (Ah us (i + 1) Bs A n V (w2.setCell ⟨A, i, none⟩ (.slice (some ⟨g, o, none⟩) (aw us u).length cap))) := (HAD5.out.below (by have := HWA.out.rr; have := HWA.out.sz; omega) HD6.out).add HUU.out HWR.out.bA HC3.out (HI3.out.mono HWI.out.sz) HGA.out.2.2.2.2
      clear hHeld hfA hib2 hl2 HAD5
      refine rq 8 rfl fun K hK => ?_
      go_simp
      try go_wp2_with fail
      refine hK.out _ _ (by
        have k := HS5.out _ HD6.out
        refine ⟨?_, ?_, ?_, ?_, ?_, ?_⟩
        · exact (World.cell?_of_block (a := ⟨X, 0, none⟩) (ty.blk_oth HWR.out.xA)).trans k.1
        · exact (World.cell?_of_block (a := ⟨wr.heap.size, 0, none⟩) (ty.blk_oth hAw)).trans k.2.1
        · exact (World.cell?_of_block (a := ⟨wr.heap.size, 1, none⟩) (ty.blk_oth hAw)).trans k.2.2.1
        · exact (World.cell?_of_block (a := ⟨wr.heap.size, 2, none⟩) (ty.blk_oth hAw)).trans k.2.2.2.1
        · exact (World.cell?_of_block (a := ⟨wr.heap.size, 3, none⟩) (ty.blk_oth hAw)).trans k.2.2.2.2.1
        · exact (World.cell?_of_block (a := ⟨wr.heap.size, 4, none⟩) (ty.blk_oth hAw)).trans k.2.2.2.2.2) (fun hHeld => ?_)
      clear hK K
      try simp only [aP]
      refine dq ?_
      generalize hW3 : w2.setCell ⟨A, i, none⟩ (.slice (some ⟨g, o, none⟩) (aw us u).length cap) = w3 at *
      clear hW3 a0 a1 hHeld HS5 HD5 HD6 HB3 HNB
      have lX0 : w3.cell? ⟨X, 0, none⟩ = some (.slice (some ⟨A, 0, none⟩) n n) := HW3.out.rX.cell (i := 0) (by omega)
      have lA0 := HC3.out
      have HK3 : Hid (Wb R4 A U X Bs n (bhK us i (aw us u) 0) V w3) := by
        have e : bhK us i (aw us u) 0 = bhL us i := by funext z; exact bhK_zero us i _ z
        show Wb _ _ _ _ _ _ _ _ _
        rw [e]
        exact HW3.out
      have HLN : Hid ((aw us u).length ≤ 40) := HNL.out
      have hBw : Bs ≤ wr.heap.size := HWI.out.sz
      obtain ⟨ll, hll⟩ : ∃ q, (aw us u).length = q := ⟨_, rfl⟩
      have HLL : Hid ((aw us u).length = ll) := hll
      rw [hll] at lA0
      try rw [hll]
      have hll2 : ll ≤ 40 := by have h := HLN.out; rw [hll] at h; exact h
      clear hll HW3 HC3
      obtain ⟨wo, hwo⟩ : ∃ wo, wo = wr := ⟨_, rfl⟩
      rw [← hwo] at HI3 hBw
      clear hwo
      go_wp2
      go_loopw [9, 39] (fun _ y wx => ∃ (j : Nat) (V : Nat → Value), j ≤ ll ∧ y = .int .i64 (j : Int) ∧ Wb R4 A U X Bs n (bhK us i (aw us u) j) V wx ∧ Ah us (i + 1) Bs A n V wx ∧ (∀ k, k < n + 1 → (V k).ownBlock ≠ some g) ∧ fi.Ib wo.heap.size wx g o cap (aw us u) ∧ Below w.heap.size w wx) (fun _ y _ => ll - (intOf y).toNat)
      case atStart => exact ⟨0, V, Nat.zero_le _, rfl, HK3.out, HAH3.out, HGA.out.2.2.2.2, HI3.out, HB4.out⟩
      case round =>
        obtain ⟨j, V', hj, rfl, hwb, hah, hno, hib, hbel⟩ := hrel
        have HAJ := Lib.hid hah
        have HWJ := Lib.hid hwb
        have HNO := Lib.hid hno
        have HIJ := Lib.hid hib
        have HBJ := Lib.hid hbel
        clear hwb hah hno hib hbel
        by_cases hjl : j < ll
        · have hjl' : (j : Int) < (ll : Int) := by omega
          have hj0 : (0 : Int) ≤ (j : Int) := by omega
          obtain ⟨x, hx⟩ : ∃ x, (aw us u)[j]? = some x := ⟨_, List.getElem?_eq_getElem (by rw [HLL.out]; exact hjl)⟩
          have hxn : x ≤ n := HLE.out x (List.mem_of_getElem? hx)
          have cx : wr.cell? ⟨g, o + j, none⟩ = some (.int .i64 (x : Int)) := by
            have := HIJ.out.cells j (by rw [HLL.out]; exact hjl)
            rw [(List.getElem?_eq_some_iff.1 hx).2] at this
            exact this
          have HST : Hid (∀ z, z < n + 1 → (if z = x then bhK us i (aw us u) j x ++ [i] else bhK us i (aw us u) j z) = bhK us i (aw us u) (j + 1) z) := fun z _ => bhK_step hx z
          have HKL : Hid ((bhK us i (aw us u) j x).length ≤ 2000000) := by show _ ≤ _; have := bhK_len HU.out (us := us) (i := i) (j := j) (x := x) HLN.out; omega
          have hxi : (x : Int) < (n : Int) + 1 := by omega
          have hxi2 : (x : Int) < ((n + 1 : Nat) : Int) := by omega
          have hx0 : (0 : Int) ≤ (x : Int) := by omega
          have HDr : Hid (Below wr.heap.size wr wr.drew) := (Below.refl _ _).drew
          have HWd := Lib.hid (HWJ.out.below HDr.out)
          have HId := Lib.hid (HIJ.out.below HDr.out)
          have HAHd := Lib.hid (HAJ.out.below (by have := HWJ.out.rr; have := HWJ.out.sz; omega) HDr.out)
          have HBd := Lib.hid (HBJ.out.trans (HDr.out.mono HBJ.out.size))
          have HXd : Hid (wr.drew.cell? ⟨X, 1, none⟩ = some (.slice (some ⟨U, 0, none⟩) (n + 1) (n + 1))) := HWd.out.rX.cell (i := 1) (by omega)
          clear hx HWJ HIJ HBJ HDr HAJ
          go_upto_region 9 with fail
          refine wp_region_held_drew (S := fun w' => w'.cell? ⟨X, 1, none⟩ = some (.slice (some ⟨U, 0, none⟩) (n + 1) (n + 1))) (by kernel_rfl) HXd.out (fun hHeld => ?_)
          obtain ⟨wd, hwd⟩ : ∃ z, wr.drew = z := ⟨_, rfl⟩
          rw [hwd] at HWd HId HBd HXd HAHd hHeld
          rw [hwd]
          clear hwd
          have HAd : Hid (Below wd.heap.size wd (wd.alloc (.cells #[.int .i64 (i : Int)] 3))) := (Below.refl _ _).alloc (Nat.le_refl _) _
          have l7 : wd.cell? ⟨U, x, none⟩ = some (V' x) := HWd.out.bh.row.cell (i := x) (by omega)
          have HWa := Lib.hid (HWd.out.below HAd.out)
          have l7a : (wd.alloc (.cells #[.int .i64 (i : Int)] 3)).cell? ⟨U, x, none⟩ = some (V' x) := HWa.out.bh.row.cell (i := x) (by omega)
          have HXa : Hid ((wd.alloc (.cells #[.int .i64 (i : Int)] 3)).cell? ⟨X, 1, none⟩ = some (.slice (some ⟨U, 0, none⟩) (n + 1) (n + 1))) := HWa.out.rX.cell (i := 1) (by omega)
          have hRR := HWR.out
          obtain ⟨_, W6, hap, ⟨a6, l6, c6, rfl⟩, hrow6, ⟨V6, hV6, hG6⟩, hb6, hi6⟩ := HWa.out.bh.grow hRR.bU (at' := x) (by omega) (x := i) (ad := ⟨wd.heap.size, 0, none⟩) (by rw [World.cell?_alloc_new]; rfl) HWa.out.sz HKL.out
          have c7 : W6.cell? ⟨U, x, none⟩ = some (V' x) := hrow6.cell (i := x) (by omega)
          have q7 : W6.frozen? ⟨U, x, none⟩ = false := hrow6.frozen _
          have noX : ∀ {I}, I < Bs → ∀ j, j < n + 1 → (V' j).ownBlock ≠ some I := fun {I} hI j hj e => by have := ((HWa.out.bh.own j hj).lt I e).1; omega
          have hXa := HWa.out.rX.lt
          have c7x : W6.cell? ⟨X, 1, none⟩ = some (.slice (some ⟨U, 0, none⟩) (n + 1) (n + 1)) := (World.cell?_of_block (a := ⟨X, 1, none⟩) (hi6 X hXa (noX hRR.bX))).trans HXa.out
          have HX6 : Hid ((W6.setCell ⟨U, x, none⟩ (.slice a6 l6 c6)).cell? ⟨X, 1, none⟩ = some (.slice (some ⟨U, 0, none⟩) (n + 1) (n + 1))) := (World.cell?_of_block (a := ⟨X, 1, none⟩) (ty.blk_oth hRR.xU)).trans c7x
          have hb6' := hb6 w.heap.size hRR.lU (Nat.le_trans HBd.out.size HAd.out.size)
          have hs6 := (hb6 0 (Nat.zero_le _) (Nat.zero_le _)).size
          have hk6 : ∀ I, I < (wd.alloc (.cells #[.int .i64 (i : Int)] 3)).heap.size → I ≠ U → (∀ j, j < n + 1 → (V' j).ownBlock ≠ some I) → (W6.setCell ⟨U, x, none⟩ (.slice a6 l6 c6)).heap[I]? = (wd.alloc (.cells #[.int .i64 (i : Int)] 3)).heap[I]? := fun I h1 h2 h3 => (ty.blk_oth h2).trans (hi6 I h1 h3)
          have HW6 : Hid (Wb R4 A U X Bs n (bhK us i (aw us u) (j + 1)) V6 (W6.setCell ⟨U, x, none⟩ (.slice a6 l6 c6))) := HWa.out.grown hRR.U4 hRR.xU (hV6.congr HST.out) hk6 hs6
          have hIa := HId.out.below HAd.out
          have HAH6 : Hid (Ah us (i + 1) Bs A n V6 (W6.setCell ⟨U, x, none⟩ (.slice a6 l6 c6))) := (HAHd.out.below (by have := HWd.out.rr; have := HWd.out.sz; omega) HAd.out).kept hs6 (hk6 A (by have := HWa.out.rr; have := HWa.out.sz; omega) hRR.AU (noX hRR.bA)) fun q hq hql hqn => ⟨hk6 q hql (by have := hRR.bU; omega) hqn, hG6 q hql hqn⟩
          have HC6 : Hid (∀ k, k < n + 1 → (V6 k).ownBlock ≠ some g) := hG6 g hIa.lt HNO.out
          have HI6 : Hid (fi.Ib wo.heap.size (W6.setCell ⟨U, x, none⟩ (.slice a6 l6 c6)) g o cap (aw us u)) := hIa.kept hs6 (hk6 g hIa.lt (by have := hIa.new; have := hRR.bU; omega) HNO.out)
          have HB6 : Hid (Below w.heap.size w (W6.setCell ⟨U, x, none⟩ (.slice a6 l6 c6))) := (HBd.out.trans (HAd.out.mono HBd.out.size)).trans hb6'
          clear hRR hrow6 hV6 hG6 hb6 hi6 noX hXa hb6' hs6 hk6 hIa HWa HST
          refine uq (i := 0) rfl ?_
          try simp only [aP]
          refine uq (i := 1) rfl ?_
          try simp only [aP]
          refine uq (i := 2) rfl ?_
          try simp only [aP]
          refine uq (i := 3) rfl ?_
          try simp only [aP]
          refine uq (i := 4) rfl ?_
          try simp only [aP]
          refine uq (i := 5) rfl ?_
          try simp only [aP]
          refine uq (i := 6) rfl ?_
          try simp only [aP]
          refine uq (i := 8) rfl ?_
          try simp only [aP]
          refine wpAnyH_ready (rs := [7, 9]) (by kernel_rfl) (by simp) ?_
          refine cq rfl (fun K hK => ?_) (cq rfl (fun K hK => ?_) AllReadyH.nil)
          · go_simp
            try go_wp2_with fail
            refine hK.out _ _ (HXd.out) (fun hHeld => ?_)
            clear hK K
            try simp only [aP]
            refine wpAnyH_ready (rs := [9]) (by kernel_rfl) (by simp) ?_
            refine cq rfl (fun K hK => ?_) AllReadyH.nil
            go_simp
            try go_wp2_with fail
            refine hK.out _ _ (HXa.out) (fun hHeld => ?_)
            clear hK K
            try simp only [aP]
            refine rq 10 rfl fun K hK => ?_
            refine fi.wp_appI _ _ rfl rfl rfl rfl hap ?_
            refine hK.out _ _ c7x (fun hHeld => ?_)
            clear hK K
            try simp only [aP]
            refine uq (i := 11) rfl ?_
            try simp only [aP]
            refine rq 12 rfl fun K hK => ?_
            go_simp
            try go_wp2_with fail
            refine hK.out _ _ HX6.out (fun hHeld => ?_)
            clear hK K
            try simp only [aP]
            refine dq ?_
            go_wp2
            go_roundw
            case rel => exact ⟨j + 1, V6, by omega, by go_num, HW6.out, HAH6.out, HC6.out, HI6.out, HB6.out⟩
            case measure => simp [intOf]; omega
          · go_simp
            try go_wp2_with fail
            refine hK.out _ _ (HXa.out) (fun hHeld => ?_)
            clear hK K
            try simp only [aP]
            refine wpAnyH_ready (rs := [7]) (by kernel_rfl) (by simp) ?_
            refine cq rfl (fun K hK => ?_) AllReadyH.nil
            go_simp
            try go_wp2_with fail
            refine hK.out _ _ (HXa.out) (fun hHeld => ?_)
            clear hK K
            try simp only [aP]
            refine rq 10 rfl fun K hK => ?_
            refine fi.wp_appI _ _ rfl rfl rfl rfl hap ?_
            refine hK.out _ _ c7x (fun hHeld => ?_)
            clear hK K
            try simp only [aP]
            refine uq (i := 11) rfl ?_
            try simp only [aP]
            refine rq 12 rfl fun K hK => ?_
            go_simp
            try go_wp2_with fail
            refine hK.out _ _ HX6.out (fun hHeld => ?_)
            clear hK K
            try simp only [aP]
            refine dq ?_
            go_wp2
            go_roundw
            case rel => exact ⟨j + 1, V6, by omega, by go_num, HW6.out, HAH6.out, HC6.out, HI6.out, HB6.out⟩
            case measure => simp [intOf]; omega
        · have hjl' : ¬ (j : Int) < (ll : Int) := by omega
          obtain rfl : j = ll := by omega
          have HWN : Hid (Wb R4 A U X Bs n (bhL us (i + 1)) V' wr) := ⟨HWJ.out.r4, HWJ.out.rX, HWJ.out.ra, HWJ.out.bh.congr fun z _ => by rw [← HLL.out]; exact bhK_all HUU.out z, HWJ.out.sz, HWJ.out.rr⟩
          go_wp2
          go_roundw
          case rel => exact ⟨i + 1, V', by omega, by go_num, HWN.out, HAJ.out, HBJ.out⟩
          case measure => simp [intOf]; omega
    · have hil' : ¬ (i : Int) < (n : Int) := by omega
      obtain rfl : i = n := by omega
      have x0 : wr.cell? ⟨X, 0, none⟩ = some (.slice (some ⟨A, 0, none⟩) i i) := HWI.out.rX.cell (i := 0) (by omega)
      have x1 : wr.cell? ⟨X, 1, none⟩ = some (.slice (some ⟨U, 0, none⟩) (i + 1) (i + 1)) := HWI.out.rX.cell (i := 1) (by omega)
      have y0 := HWI.out.r4.cell (i := 0) (by omega)
      have y1 := HWI.out.r4.cell (i := 1) (by omega)
      have z0 := HWI.out.r4.frozen 0
      have z1 := HWI.out.r4.frozen 1
      have HE := Lib.hid HWI.out.bh
      have hR := HWR.out
      have HF : Hid (BhV Bs U (i + 1) (bhL us i) V ((wr.setCell ⟨R4, 0, none⟩ (.slice (some ⟨A, 0, none⟩) i i)).setCell ⟨R4, 1, none⟩ (.slice (some ⟨U, 0, none⟩) (i + 1) (i + 1)))) := (HE.out.store (Ne.symm hR.U4) hR.b4 0 _).store (Ne.symm hR.U4) hR.b4 1 _
      have HG4 := Lib.hid ((HWI.out.r4.set 0 (.slice (some ⟨A, 0, none⟩) i i)).set 1 (.slice (some ⟨U, 0, none⟩) (i + 1) (i + 1)))
      have k0 : ((wr.setCell ⟨R4, 0, none⟩ (.slice (some ⟨A, 0, none⟩) i i)).setCell ⟨R4, 1, none⟩ (.slice (some ⟨U, 0, none⟩) (i + 1) (i + 1))).cell? ⟨R4, 0, none⟩ = some (.slice (some ⟨A, 0, none⟩) i i) := (HG4.out.cell (i := 0) (by omega)).trans (by simp)
      have k1 : ((wr.setCell ⟨R4, 0, none⟩ (.slice (some ⟨A, 0, none⟩) i i)).setCell ⟨R4, 1, none⟩ (.slice (some ⟨U, 0, none⟩) (i + 1) (i + 1))).cell? ⟨R4, 1, none⟩ = some (.slice (some ⟨U, 0, none⟩) (i + 1) (i + 1)) := (HG4.out.cell (i := 1) (by omega)).trans (by simp)
      have HBF : Hid (Below w.heap.size w ((wr.setCell ⟨R4, 0, none⟩ (.slice (some ⟨A, 0, none⟩) i i)).setCell ⟨R4, 1, none⟩ (.slice (some ⟨U, 0, none⟩) (i + 1) (i + 1)))) := (HBE.out.setCell hR.l4 _).setCell hR.l4 _
      have hsz : Bs ≤ ((wr.setCell ⟨R4, 0, none⟩ (.slice (some ⟨A, 0, none⟩) i i)).setCell ⟨R4, 1, none⟩ (.slice (some ⟨U, 0, none⟩) (i + 1) (i + 1))).heap.size := by have := HWI.out.sz; simpa using this
      have HAF : Hid (Ah us i Bs A i V ((wr.setCell ⟨R4, 0, none⟩ (.slice (some ⟨A, 0, none⟩) i i)).setCell ⟨R4, 1, none⟩ (.slice (some ⟨U, 0, none⟩) (i + 1) (i + 1)))) := HAI.out.kept (by simp) ((ty.blk_oth hR.A4).trans (ty.blk_oth hR.A4)) fun g hg _ hn => ⟨(ty.blk_oth (by have := hR.b4; omega)).trans (ty.blk_oth (by have := hR.b4; omega)), hn⟩
      have HAP : Hid (w.heap.size ≤ A ∧ A < Bs ∧ A ≠ U) := ⟨hR.lA, hR.bA, hR.AU⟩
      have HFIN := Lib.hid (And.intro (And.intro hR.lU (And.intro hR.bU hsz)) (And.intro k0 k1))
      clear hbel hR k0 k1 hsz HG4
      go_wp2
      exact retWeb (fn := Try.f31) Try.results31 rfl HFIN.out.2.1 HFIN.out.2.2 ⟨⟨A, U, Bs, V, rfl, HF.out, HFIN.out.1, HAF.out, HAP.out⟩, HBF.out⟩

end Go.Proofs.Ytdddplhfhpghkaa.fw

namespace Go.Proofs.Ytdddplhfhpghkaa.hp
open Go.ChangeShapes Go.WideShapes Go.ChangeAt Go.RowKit Go.Deep Go.Maps
open Go.Conc (scase rcase)
set_option linter.unusedVariables false
set_option linter.unusedSimpArgs false

/-! ### Units that are let stand: in memory -/

def Fs (A U L C n : Nat) : Nat → Value
  | 0 => .slice (some ⟨A, 0, none⟩) n n
  | 1 => .slice (some ⟨U, 0, none⟩) (n + 1) (n + 1)
  | 2 => .slice (some ⟨L, 0, none⟩) n n
  | 3 => .chan (some C)
  | _ => .bool false
def upd (f : Nat → Nat) (i x : Nat) : Nat → Nat := fun j => if j = i then x else f j

structure Sg (M S A U L C n : Nat) (f : Nat → Nat) (buf hp : List Nat) (v : Value) (w : World) : Prop where
  ho : Ho M S (Fs A U L C n) v hp w
  lk : w.rowIs L 3 n fun i => .int .i64 (f i : Int)
  ch : ∃ s r, w.heap[C]? = some (.chan n (fi.nV buf).toArray false s r false)
  lL : L < M
  lC : C < M
  dSL : S ≠ L
  dSC : S ≠ C
  dLC : L ≠ C
theorem Ho.oth {M S : Nat} {F : Nat → Value} {v : Value} {l : List Nat} {w w' : World} (h : Ho M S F v l w) (hs : w.heap.size ≤ w'.heap.size) (e : w'.heap[S]? = w.heap[S]?) (he : ∀ g, M ≤ g → g < w.heap.size → w'.heap[g]? = w.heap[g]?) : Ho M S F v l w' :=
  ⟨h.row.of_block e, h.hv.kept fun g h1 h2 _ => he g h1 h2, h.lt, Nat.le_trans h.le hs⟩
theorem Sg.store {M S A U L C n : Nat} {f : Nat → Nat} {buf hp : List Nat} {v : Value} {w : World} (h : Sg M S A U L C n f buf hp v w) (i x : Nat) : Sg M S A U L C n (upd f i x) buf hp v (w.setCell ⟨L, i, none⟩ (.int .i64 (x : Int))) :=
  ⟨h.ho.oth (by simp) (ty.blk_oth h.dSL) fun g hg _ => ty.blk_oth (by have := h.lL; omega), (h.lk.set i _).congr fun j hj => by
    unfold upd
    by_cases e : j = i
    · simp only [if_pos e]
    · simp only [if_neg e], by obtain ⟨s, r, e⟩ := h.ch; exact ⟨s, r, (ty.blk_oth (Ne.symm h.dLC)).trans e⟩, h.lL, h.lC, h.dSL, h.dSC, h.dLC⟩
theorem blk_chan {w : World} {C k : Nat} (h : k ≠ C) (cap : Nat) (b : Array Value) (cl : Bool) (s r : Nat) (tm : Bool) : (w.setChan C cap b cl s r tm).heap[k]? = w.heap[k]? := by
  simp only [World.setChan]
  exact Array.getElem?_setIfInBounds_ne (Ne.symm h)
theorem Sg.chan {M S A U L C n : Nat} {f : Nat → Nat} {buf hp : List Nat} {v : Value} {w : World} (h : Sg M S A U L C n f buf hp v w) (buf' : List Nat) (s r : Nat) : Sg M S A U L C n f buf' hp v (w.setChan C n (fi.nV buf').toArray false s r false) :=
  ⟨h.ho.oth (by rw [Go.Conc.size_setChan]; exact Nat.le_refl _) (blk_chan h.dSC _ _ _ _ _ _) fun g hg _ => blk_chan (by have := h.lC; omega) _ _ _ _ _ _, h.lk.of_block (blk_chan h.dLC _ _ _ _ _ _),
    ⟨s, r, Go.Conc.heap_setChan _ _ _ _ _ _ _ _ (by obtain ⟨s, r, e⟩ := h.ch; exact (Array.getElem?_eq_some_iff.1 e).1)⟩, h.lL, h.lC, h.dSL, h.dSC, h.dLC⟩
theorem Oth.chan {X : Nat → Prop} {a b : World} (h : Oth X a b) {C : Nat} (hx : X C) (cap : Nat) (bf : Array Value) (cl : Bool) (s r : Nat) (tm : Bool) : Oth X a (b.setChan C cap bf cl s r tm) :=
  ⟨h.os, h.tape, h.output, by rw [Go.Conc.size_setChan]; exact h.size, fun k hk hn => (blk_chan (fun e => hn (by rw [e]; exact hx)) _ _ _ _ _ _).trans (h.block k hk hn)⟩

set_option maxRecDepth 100000 in
set_option maxHeartbeats 4000000 in
theorem lack_any {M S A U L C n : Nat} {f : Nat → Nat} {buf hp : List Nat} {v : Value} (w : World) (h : Sg M S A U L C n f buf hp v w) (i : Nat) (d : Int) (x : Nat) (hi : i < n) (hn : n ≤ 1000) (hx : (f i : Int) + d = (x : Int)) (hx6 : x ≤ 1000000) (hroom : x = 0 → buf.length < n) :
    Calls Try.prog 87 #[.pointer (some ⟨S, 0, none⟩), .int .i64 (i : Int), .int .i64 d] w fun e w' => e = .returned (.tuple #[]) ∧ Sg M S A U L C n (upd f i x) (if x = 0 then buf ++ [i] else buf) hp v w' ∧ Oth (fun k => k = L ∨ k = C) w w' := by
  have c2 : w.cell? ⟨S, 2, none⟩ = some (.slice (some ⟨L, 0, none⟩) n n) := h.ho.row.cell (i := 2) (by decide)
  have cl : w.cell? ⟨L, i, none⟩ = some (.int .i64 (f i : Int)) := h.lk.cell hi
  have fl := h.lk.frozen i
  have hS := h.store i x
  obtain ⟨W1, hW1⟩ : ∃ W, W = w.setCell ⟨L, i, none⟩ (.int .i64 (x : Int)) := ⟨_, rfl⟩
  rw [← hW1] at hS
  have HO1 : Hid (Oth (fun k => k = L ∨ k = C) w W1) := by show Oth _ _ _; rw [hW1]; exact (Oth.refl _ _).set (X := fun k => k = L ∨ k = C) (.inl rfl) _
  have d2 : W1.cell? ⟨S, 2, none⟩ = some (.slice (some ⟨L, 0, none⟩) n n) := hS.ho.row.cell (i := 2) (by decide)
  have d3 : W1.cell? ⟨S, 3, none⟩ = some (.chan (some C)) := hS.ho.row.cell (i := 3) (by decide)
  have dl : W1.cell? ⟨L, i, none⟩ = some (.int .i64 (x : Int)) := by have := hS.lk.cell hi; simpa [upd] using this
  have HS := Lib.hid hS
  have HW1 := Lib.hid hW1
  have hwx : IntKind.i64.wrap ((f i : Int) + d) = (x : Int) := by rw [hx, IntKind.wrap_i64]; omega
  have hi0 : (0 : Int) ≤ (i : Int) := by omega
  have hi' : (i : Int) < (n : Int) := by omega
  have HRM := Lib.hid hroom
  obtain ⟨bf, hbf⟩ : ∃ b, (if x = 0 then buf ++ [i] else buf) = b := ⟨_, rfl⟩
  rw [hbf]
  have HBF := Lib.hid hbf
  clear h hS hW1 hx hroom hbf
  refine cn.calls_of_wpN Try.func87 rfl ?_
  simp only [Try.ntmps87, List.size_toArray, List.length_cons, List.length_nil, Nat.reduceAdd, Nat.reduceSub, Array.replicate_succ,
     Array.replicate_zero, List.push_toArray, List.append_toArray, List.nil_append, List.cons_append]
  apply cn.wpN_seq_k
  intro K hK
  go_wp2
  rw [← HW1.out]
  apply cn.wpN_seq_k
  intro K hK
  clear c2 cl fl
  by_cases hx0 : x = 0
  · subst hx0
    have HBE : Hid (bf = buf ++ [i]) := HBF.out.symm.trans (if_pos rfl)
    go_wp2
    refine cn.wpN_cond rfl ?_
    simp only [if_true]
    refine cn.wpN_region ?_
    have hch := HS.out.ch
    obtain ⟨s, r, hch⟩ := hch
    have hsz : (fi.nV buf).toArray.size < n := by rw [List.size_toArray, fi.nV_len]; exact HRM.out trivial
    refine cn.SN_val (.pointer (some ⟨S, 0, none⟩)) W1 rfl rfl (by go_simp) ?_
    refine cn.SN_val (.pointer (some ⟨S, 0, none⟩)) W1 rfl rfl (by go_simp) ?_
    refine cn.SN_val (.pointer (some ⟨S, 3, none⟩)) W1 rfl rfl (by go_simp) ?_
    refine cn.SN_val (.chan (some C)) W1 rfl rfl (by go_simp) ?_
    refine cn.SN_val (.int .i64 (i : Int)) W1 rfl rfl (by go_simp) ?_
    refine cn.SN_send (c := C) (v := .int .i64 (i : Int)) (z' := .tuple #[]) rfl rfl (by go_simp; rfl) hch hsz ?_
    refine cn.SN_nil ?_
    have hpu : (fi.nV buf).toArray.push (.int .i64 (i : Int)) = (fi.nV (buf ++ [i])).toArray := by simp [fi.nV]
    rw [hpu]
    refine bodyPost_end (results_none rfl _ _ _) rfl ?_
    rw [HBE.out]
    exact ⟨rfl, HS.out.chan (buf ++ [i]) (s + 1) r, HO1.out.chan (X := fun k => k = L ∨ k = C) (.inr rfl) _ _ _ _ _ _⟩
  · have hx0' : ¬ (x : Int) = 0 := by omega
    have HBE : Hid (bf = buf) := HBF.out.symm.trans (if_neg hx0)
    go_wp2
    refine cn.wpN_cond (t := false) (by simp [Act.eval, hx0]) ?_
    simp only [if_false, Bool.false_eq_true]
    refine cn.wpN_skip ?_
    go_end0
    rw [HBE.out]
    exact ⟨rfl, HS.out, HO1.out⟩
end Go.Proofs.Ytdddplhfhpghkaa.hp

namespace Go.Proofs.Ytdddplhfhpghkaa.hp
open Go.ChangeShapes Go.WideShapes Go.ChangeAt Go.RowKit Go.Deep Go.Maps
open Go.Conc (scase rcase)
set_option linter.unusedVariables false
set_option linter.unusedSimpArgs false

/-! ### stand: plainly, and its walk -/

/-- One lack less. -/
def st1 (s : (Nat → Nat) × List Nat) (y : Nat) : (Nat → Nat) × List Nat := (upd s.1 y (s.1 y - 1), if s.1 y - 1 = 0 then s.2 ++ [y] else s.2)
def stA (s : (Nat → Nat) × List Nat) (B : List Nat) : (Nat → Nat) × List Nat := B.foldl st1 s
theorem stA_step (s : (Nat → Nat) × List Nat) {B : List Nat} {j y : Nat} (h : B[j]? = some y) : stA s (B.take (j + 1)) = st1 (stA s (B.take j)) y := by
  unfold stA
  rw [List.take_add_one, h]
  simp

/-- Whom a number stands behind, as it lies. -/
def Bd (U n : Nat) (Lb : Nat → List Nat) (ad : Nat → Option Addr) (cp : Nat → Nat) (w : World) : Prop := ∀ x : Nat, x ≤ n → w.cell? ⟨U, x, none⟩ = some (.slice (ad x) (Lb x).length (cp x)) ∧ ∀ (j y : Nat), (Lb x)[j]? = some y → ∃ g o, ad x = some ⟨g, o, none⟩ ∧ w.cell? ⟨g, o + j, none⟩ = some (.int .i64 (y : Int))

set_option maxRecDepth 100000 in
set_option maxHeartbeats 4000000 in
theorem stand_any {M S A U L C n : Nat} {f : Nat → Nat} {buf hp : List Nat} {v : Value} {Lb : Nat → List Nat} {ad : Nat → Option Addr} {cp : Nat → Nat} (w : World) (h : Sg M S A U L C n f buf hp v w) (hBd : ∀ W, Oth (fun k => k = L ∨ k = C) w W → Bd U n Lb ad cp W) (x : Nat) (hx : x < n) (hn : n ≤ 1000) (hl : (Lb x).length ≤ 1000000)
    (hst : ∀ (j y : Nat), (Lb x)[j]? = some y → y < n ∧ 1 ≤ (stA (f, buf) ((Lb x).take j)).1 y ∧ (stA (f, buf) ((Lb x).take j)).1 y ≤ 1000000 ∧ ((stA (f, buf) ((Lb x).take j)).1 y = 1 → (stA (f, buf) ((Lb x).take j)).2.length < n)) :
    Calls Try.prog 68 #[.pointer (some ⟨S, 0, none⟩), .int .i64 (x : Int)] w fun e w' => e = .returned (.tuple #[]) ∧ Sg M S A U L C n (stA (f, buf) (Lb x)).1 (stA (f, buf) (Lb x)).2 hp v w' ∧ Oth (fun k => k = L ∨ k = C) w w' := by
  have c1 : w.cell? ⟨S, 1, none⟩ = some (.slice (some ⟨U, 0, none⟩) (n + 1) (n + 1)) := h.ho.row.cell (i := 1) (by decide)
  have cx := (hBd w (Oth.refl _ _) x (by omega)).1
  have HEL : Hid (∀ W, Oth (fun k => k = L ∨ k = C) w W → ∀ (j y : Nat), (Lb x)[j]? = some y → ∃ g o, ad x = some ⟨g, o, none⟩ ∧ W.cell? ⟨g, o + j, none⟩ = some (.int .i64 (y : Int))) := fun W hW j y hy => (hBd W hW x (by omega)).2 j y hy
  have HS0 := Lib.hid h
  have HST := Lib.hid hst
  obtain ⟨a, ha⟩ : ∃ a, ad x = a := ⟨_, rfl⟩
  obtain ⟨B, hB⟩ : ∃ B, Lb x = B := ⟨_, rfl⟩
  rw [hB] at hl HST HEL cx ⊢
  rw [ha] at HEL cx
  obtain ⟨m, hm⟩ : ∃ m, B.length = m := ⟨_, rfl⟩
  have HM : Hid (B.length = m) := hm
  rw [hm] at hl cx
  have hx0 : (0 : Int) ≤ (x : Int) := by omega
  have hx' : (x : Int) < (n : Int) + 1 := by omega
  have HTA : Hid (B.take m = B) := by show _ = _; rw [← hm]; exact List.take_length
  clear h hst hBd ha hB hm
  go_enter Try.func68, Try.ntmps68
  go_upto_region 1 with fail
  go_loopw [5, 15] (fun _ jv wr => ∃ j : Nat, jv = .int .i64 (j : Int) ∧ j ≤ m ∧ Sg M S A U L C n (stA (f, buf) (B.take j)).1 (stA (f, buf) (B.take j)).2 hp v wr ∧ Oth (fun k => k = L ∨ k = C) w wr) (fun _ jv _ => m - (intOf jv).toNat)
  case atStart => exact ⟨0, rfl, Nat.zero_le _, HS0.out, Oth.refl _ _⟩
  case round =>
    obtain ⟨j, rfl, hj, hs, ho⟩ := hrel
    have HS := Lib.hid hs
    have HO := Lib.hid ho
    clear hs ho HS0
    by_cases hjm : j < m
    · have hjm' : (j : Int) < (m : Int) := by omega
      have hj0 : (0 : Int) ≤ (j : Int) := by omega
      obtain ⟨y, hy⟩ : ∃ y, B[j]? = some y := ⟨_, List.getElem?_eq_getElem (by rw [HM.out]; exact hjm)⟩
      obtain ⟨g, o, rfl, cy⟩ := HEL.out wr HO.out j y hy
      obtain ⟨h1, h2, h3, h4⟩ := HST.out j y hy
      have HLK := Lib.hid (lack_any wr HS.out y (-1) ((stA (f, buf) (B.take j)).1 y - 1) h1 hn (by omega) (by omega) (fun e => h4 (by omega)))
      have HSE : Hid (upd (stA (f, buf) (B.take j)).1 y ((stA (f, buf) (B.take j)).1 y - 1) = (stA (f, buf) (B.take (j + 1))).1) := by show _ = _; rw [stA_step _ hy]; rfl
      have HSF : Hid ((if (stA (f, buf) (B.take j)).1 y - 1 = 0 then (stA (f, buf) (B.take j)).2 ++ [y] else (stA (f, buf) (B.take j)).2) = (stA (f, buf) (B.take (j + 1))).2) := by show _ = _; rw [stA_step _ hy]; rfl
      rw [HSE.out, HSF.out] at HLK
      have hwj : IntKind.i64.wrap ((j : Int) + 1) = (j : Int) + 1 := by rw [IntKind.wrap_i64]; omega
      clear hy h1 h2 h3 h4 c1 cx HSE HSF
      go_wp2_with (go_at_call 87; refine HLK.out.mono ?_; rintro e w5 ⟨rfl, h51, h52⟩; refine Hid.out ?_)
      refine Lib.hid ?_
      have HS5 := Lib.hid h51
      have HO5 := Lib.hid (HO.out.trans h52)
      clear h51 h52 cy
      go_wp2
      go_roundw
      case rel => exact ⟨j + 1, by go_num, by omega, HS5.out, HO5.out⟩
      case measure => simp [intOf]; omega
    · have hjm' : ¬ (j : Int) < (m : Int) := by omega
      obtain rfl : j = m := by omega
      rw [HTA.out] at HS
      clear c1 cx
      go_wp2
      go_end0
      exact ⟨rfl, HS.out, HO.out⟩

end Go.Proofs.Ytdddplhfhpghkaa.hp
