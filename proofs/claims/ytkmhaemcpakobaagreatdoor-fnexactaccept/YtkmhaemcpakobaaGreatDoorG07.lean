import Derived.Test.YtkmhaemcpakobaaGreatDoorG06
import Derived.Deep.RegionHeld3
import Derived.Test.YtkmhaemcpakobaaGreatDoorG03
import Derived.Test.YtkmhaemcpakobaaGreatDoorG02
import Derived.WalkLawsBesides
import Derived.Lib.ItoaLen
namespace Go.Proofs.YtkmhaemcpakobaaGreatDoor.mt
open Go.ChangeShapes Go.WideShapes Go.ChangeAt Go.RowKit Go.Deep
open bf
set_option linter.unusedVariables false
set_option linter.unusedSimpArgs false

/-- The text ahead of the references, as the specification joins it. -/
def hdA (path sum T : ByteArray) : ByteArray := ⟨#[112, 97, 116, 104, 32]⟩ ++ path ++ ⟨#[10, 115, 117, 109, 32]⟩ ++ sum ++ ⟨#[10, 115, 105, 122, 101, 32]⟩ ++ T ++ ⟨#[10]⟩
theorem hdA_is (path sum T : ByteArray) : (hdA path sum T).data.toList = ln (ln (ln [] [112, 97, 116, 104] path.data.toList) [115, 117, 109] sum.data.toList) [115, 105, 122, 101] T.data.toList := by
  simp [hdA, ln]
theorem hdA_size (path sum T : ByteArray) : (hdA path sum T).size = 17 + path.size + sum.size + T.size := by
  simp only [hdA, ByteArray.size_append, show (⟨#[112, 97, 116, 104, 32]⟩ : ByteArray).size = 5 from rfl, show (⟨#[10, 115, 117, 109, 32]⟩ : ByteArray).size = 5 from rfl, show (⟨#[10, 115, 105, 122, 101, 32]⟩ : ByteArray).size = 6 from rfl, show (⟨#[10]⟩ : ByteArray).size = 1 from rfl]
  omega

theorem int_spec (z : Int) (h0 : 0 ≤ z) (h1 : z ≤ 1000000) (w : World) :
    Calls Tryz.prog 52 #[.int .i64 z] w fun e w' => e = .returned (.string ⟨(Lib.itoa z).toArray⟩) ∧ Below w.heap.size w w' := by
  obtain ⟨k, rfl⟩ : ∃ k : Nat, z = (k : Int) := ⟨z.toNat, by omega⟩
  exact int_is k (by omega) w

/-- A reference's line, as the specification joins it. -/
def rfA (x : ByteArray) : ByteArray := ⟨#[114, 101, 102, 32]⟩ ++ x ++ ⟨#[10]⟩
theorem rfA_is (L : List UInt8) (x : ByteArray) : L ++ (rfA x).data.toList = ln L [114, 101, 102] x.data.toList := by simp [rfA, ln]
theorem rfA_size (x : ByteArray) : (rfA x).size = 5 + x.size := by
  simp only [rfA, ByteArray.size_append, show (⟨#[114, 101, 102, 32]⟩ : ByteArray).size = 4 from rfl, show (⟨#[10]⟩ : ByteArray).size = 1 from rfl]
  omega

set_option maxRecDepth 100000 in
set_option maxHeartbeats 4000000 in
theorem shd_any (path sum key : ByteArray) (z : Int) (sig : Nat) (l : List ByteArray) (a : Option Addr) (n cap : Nat) (w : World) (hb : st.Ss w a n l) (hn : n ≤ 300) (hs : ∀ i, i < n → (st.atS l i).size ≤ 1048576) (hp : path.size ≤ 1048576) (hsu : sum.size ≤ 1048576) (hz0 : 0 ≤ z) (hz1 : z ≤ 1000000) :
    Calls Tryz.prog 32 #[.agg #[.string path, .string sum, .int .i64 z, .slice a n cap, .string key, .int .u64 (sig : Int)]] w fun e w' => e = .returned (.string ⟨(headL path sum z l n).toArray⟩) ∧ Below w.heap.size w w' := by
  obtain ⟨o, ho⟩ : ∃ o : Obj, o = .cells #[.string path, .string sum, .int .i64 z, .slice a n cap, .string key, .int .u64 (sig : Int)] 43 := ⟨_, rfl⟩
  have HBW : Hid (∀ W, Below (w.alloc o).heap.size (w.alloc o) W → Below w.heap.size w W) := fun W h => ((Below.refl _ _).alloc (Nat.le_refl _) o).trans (h.mono (by simp))
  have HKC : Hid (∀ W, Below (w.alloc o).heap.size (w.alloc o) W → (W.cell? ⟨w.heap.size, 0, none⟩ = some (.string path) ∧ W.cell? ⟨w.heap.size, 1, none⟩ = some (.string sum) ∧ W.cell? ⟨w.heap.size, 2, none⟩ = some (.int .i64 z)) ∧ W.cell? ⟨w.heap.size, 3, none⟩ = some (.slice a n cap) ∧ W.cell? ⟨w.heap.size, 4, none⟩ = some (.string key) ∧ W.cell? ⟨w.heap.size, 5, none⟩ = some (.int .u64 (sig : Int))) := by rw [ho]; exact six_cells
  have HC0 : Hid (Below (w.alloc o).heap.size (w.alloc o) (w.alloc o).drew) := (Below.refl _ _).drew
  have HK0 : Hid (∀ W, Below (w.alloc o).heap.size (w.alloc o) W → (W.cell? ⟨w.heap.size, 0, none⟩ = some (.string path) ∧ W.cell? ⟨w.heap.size, 1, none⟩ = some (.string sum) ∧ W.cell? ⟨w.heap.size, 2, none⟩ = some (.int .i64 z))) := fun W h => (HKC.out W h).1
  obtain ⟨T, hT⟩ : ∃ T : ByteArray, T = ⟨(Lib.itoa z).toArray⟩ := ⟨_, rfl⟩
  have HI : Hid (∀ W, Calls Tryz.prog 52 #[.int .i64 z] W fun e w' => e = .returned (.string T) ∧ Below W.heap.size W w') := fun W => by subst hT; exact int_spec z hz0 hz1 W
  have il : (Lib.itoa z).length ≤ 21 := Lib.itoa_length_le z (by omega) (by omega)
  have tl : T.size ≤ 21 := by subst hT; simpa [ByteArray.size] using il
  have hTl : T.data.toList = Lib.itoa z := by subst hT; rfl
  obtain ⟨M3, hM3⟩ : ∃ M3, M3 = (hdA path sum T).data.toList := ⟨_, rfl⟩
  have HHL : Hid (headL path sum z l n = refL l M3 n) := by show _ = _; unfold headL; rw [hM3, hdA_is, hTl]
  have hsz := hdA_size path sum T
  have m3 : M3.length = (hdA path sum T).size := by rw [hM3]; simp
  have HCV : Hid (∀ W, ∃ cap W1, (convert 9 22 (.string (⟨#[112, 97, 116, 104, 32]⟩ ++ path ++ ⟨#[10, 115, 117, 109, 32]⟩ ++ sum ++ ⟨#[10, 115, 105, 122, 101, 32]⟩ ++ T ++ ⟨#[10]⟩))).run Tryz.prog W = .ok (.slice (some ⟨W.heap.size, 0, none⟩) M3.length cap) W1 ∧ Bf W.heap.size W1 W.heap.size cap M3 ∧ Below W.heap.size W W1) := fun W => by
    obtain ⟨cap, W1, h1, h2, h3, _⟩ := conv_bf (P := Tryz.prog) W 9 22 5 (hdA path sum T) (by omega) Tryz.underlying9 Tryz.underlying22 Tryz.underlying5
    rw [← hM3] at h2
    rw [← m3] at h1
    exact ⟨cap, W1, h1, h2, h3⟩
  have HLN : Hid (∀ i, i < n → (refL l M3 i).length + (rfA (st.atS l i)).size ≤ 1099511627776 ∧ (refL l M3 i).length ≤ 1099511627776) := fun i hi => by
    have h1 := refL_len l M3 n hs i (by omega)
    have h2 := hs i hi
    have h3 := rfA_size (st.atS l i)
    omega
  have HSS : Hid (st.Ss w a n l) := hb
  have HSZ : Hid (∀ i, i < n → (st.atS l i).size ≤ 1048576) := hs
  clear hb hs hz0 hz1 il hTl hM3 hsz m3 hT
  rw [ho] at HK0 HC0
  have q1 : ¬ 9223372036854775807 < 5 + path.size := by omega
  have q2 : ¬ 9223372036854775807 < 5 + path.size + 5 := by omega
  have q3 : ¬ 9223372036854775807 < 5 + path.size + 5 + sum.size := by omega
  have q4 : ¬ 9223372036854775807 < 5 + path.size + 5 + sum.size + 6 := by omega
  have q5 : ¬ 9223372036854775807 < 5 + path.size + 5 + sum.size + 6 + T.size := by omega
  have q6 : ¬ 9223372036854775807 < 5 + path.size + 5 + sum.size + 6 + T.size + 1 := by omega
  go_enter Tryz.func32, Tryz.ntmps32
  go_wp2_with fail
  refine wp_region_held_drew (S := fun W => W.cell? ⟨w.heap.size, 0, none⟩ = some (.string path) ∧ W.cell? ⟨w.heap.size, 1, none⟩ = some (.string sum) ∧ W.cell? ⟨w.heap.size, 2, none⟩ = some (.int .i64 z)) (by kernel_rfl) (HK0.out _ HC0.out) (fun hHeld => ?_)
  refine wpAnyH_take (i := 0) (oi := ⟨some 5, .fieldAddr 43 (.tmp 1) 0, 0, "l16_cache.go:12", #[], none⟩) (v := ?v1) rfl (by kernel_rfl) (by kernel_rfl) (by kernel_rfl) (fun _ _ _ h => h) (Or.inl ⟨by rfl, ?hy1⟩) (by assumption) ?r1
  case hy1 => (intro w hSw; (try dsimp only at hSw); go_simp; try with_reducible rfl)
  try simp only [Act.put, List.setIfInBounds_toArray, List.set_cons_zero, List.set_cons_succ]
  refine wpAnyH_take (i := 1) (oi := ⟨some 6, .load 9 (.tmp 5), 9, "l16_cache.go:12", #[⟨0, .data⟩], none⟩) (v := ?v2) rfl (by kernel_rfl) (by kernel_rfl) (by kernel_rfl) (fun _ _ _ h => h) (Or.inl ⟨by rfl, ?hy2⟩) (by assumption) ?r2
  case hy2 => (intro w hSw; (try dsimp only at hSw); go_simp; try with_reducible rfl)
  try simp only [Act.put, List.setIfInBounds_toArray, List.set_cons_zero, List.set_cons_succ]
  refine wpAnyH_take (i := 2) (oi := ⟨some 7, .binOp .add 9 (.const (.string { data := #[112, 97, 116, 104, 32] })) (.tmp 6) 9, 9, "l16_cache.go:12", #[⟨1, .data⟩], none⟩) (v := ?v3) rfl (by kernel_rfl) (by kernel_rfl) (by kernel_rfl) (fun _ _ _ h => h) (Or.inl ⟨by rfl, ?hy3⟩) (by assumption) ?r3
  case hy3 => (intro w hSw; (try dsimp only at hSw); go_simp; try with_reducible rfl)
  try simp only [Act.put, List.setIfInBounds_toArray, List.set_cons_zero, List.set_cons_succ]
  refine wpAnyH_take (i := 3) (oi := ⟨some 8, .binOp .add 9 (.tmp 7) (.const (.string { data := #[10, 115, 117, 109, 32] })) 9, 9, "l16_cache.go:12", #[⟨2, .data⟩], none⟩) (v := ?v4) rfl (by kernel_rfl) (by kernel_rfl) (by kernel_rfl) (fun _ _ _ h => h) (Or.inl ⟨by rfl, ?hy4⟩) (by assumption) ?r4
  case hy4 => (intro w hSw; (try dsimp only at hSw); go_simp; try with_reducible rfl)
  try simp only [Act.put, List.setIfInBounds_toArray, List.set_cons_zero, List.set_cons_succ]
  refine wpAnyH_take (i := 4) (oi := ⟨some 9, .fieldAddr 43 (.tmp 1) 1, 0, "l16_cache.go:12", #[], none⟩) (v := ?v5) rfl (by kernel_rfl) (by kernel_rfl) (by kernel_rfl) (fun _ _ _ h => h) (Or.inl ⟨by rfl, ?hy5⟩) (by assumption) ?r5
  case hy5 => (intro w hSw; (try dsimp only at hSw); go_simp; try with_reducible rfl)
  try simp only [Act.put, List.setIfInBounds_toArray, List.set_cons_zero, List.set_cons_succ]
  refine wpAnyH_take (i := 5) (oi := ⟨some 10, .load 9 (.tmp 9), 9, "l16_cache.go:12", #[⟨4, .data⟩], none⟩) (v := ?v6) rfl (by kernel_rfl) (by kernel_rfl) (by kernel_rfl) (fun _ _ _ h => h) (Or.inl ⟨by rfl, ?hy6⟩) (by assumption) ?r6
  case hy6 => (intro w hSw; (try dsimp only at hSw); go_simp; try with_reducible rfl)
  try simp only [Act.put, List.setIfInBounds_toArray, List.set_cons_zero, List.set_cons_succ]
  refine wpAnyH_take (i := 6) (oi := ⟨some 11, .binOp .add 9 (.tmp 8) (.tmp 10) 9, 9, "l16_cache.go:12", #[⟨3, .data⟩, ⟨5, .data⟩], none⟩) (v := ?v7) rfl (by kernel_rfl) (by kernel_rfl) (by kernel_rfl) (fun _ _ _ h => h) (Or.inl ⟨by rfl, ?hy7⟩) (by assumption) ?r7
  case hy7 => (intro w hSw; (try dsimp only at hSw); go_simp; try with_reducible rfl)
  try simp only [Act.put, List.setIfInBounds_toArray, List.set_cons_zero, List.set_cons_succ]
  refine wpAnyH_take (i := 7) (oi := ⟨some 12, .binOp .add 9 (.tmp 11) (.const (.string { data := #[10, 115, 105, 122, 101, 32] })) 9, 9, "l16_cache.go:12", #[⟨6, .data⟩], none⟩) (v := ?v8) rfl (by kernel_rfl) (by kernel_rfl) (by kernel_rfl) (fun _ _ _ h => h) (Or.inl ⟨by rfl, ?hy8⟩) (by assumption) ?r8
  case hy8 => (intro w hSw; (try dsimp only at hSw); go_simp; try with_reducible rfl)
  try simp only [Act.put, List.setIfInBounds_toArray, List.set_cons_zero, List.set_cons_succ]
  refine wpAnyH_take (i := 8) (oi := ⟨some 13, .fieldAddr 43 (.tmp 1) 2, 0, "l16_cache.go:12", #[], none⟩) (v := ?v9) rfl (by kernel_rfl) (by kernel_rfl) (by kernel_rfl) (fun _ _ _ h => h) (Or.inl ⟨by rfl, ?hy9⟩) (by assumption) ?r9
  case hy9 => (intro w hSw; (try dsimp only at hSw); go_simp; try with_reducible rfl)
  try simp only [Act.put, List.setIfInBounds_toArray, List.set_cons_zero, List.set_cons_succ]
  refine wpAnyH_take (i := 9) (oi := ⟨some 14, .load 2 (.tmp 13), 2, "l16_cache.go:12", #[⟨8, .data⟩], none⟩) (v := ?v10) rfl (by kernel_rfl) (by kernel_rfl) (by kernel_rfl) (fun _ _ _ h => h) (Or.inl ⟨by rfl, ?hy10⟩) (by assumption) ?r10
  case hy10 => (intro w hSw; (try dsimp only at hSw); go_simp; try with_reducible rfl)
  try simp only [Act.put, List.setIfInBounds_toArray, List.set_cons_zero, List.set_cons_succ]
  refine wpAnyH_ready (rs := [10]) (by kernel_rfl) (by simp) ?_
  refine AllReadyH.cons (o := ⟨some 15, .call { callee := .value (.func 52), args := #[.tmp 14], argTypes := #[2] }, 9, "l16_cache.go:12", #[⟨9, .data⟩], none⟩) rfl (fun K hK => ?_) AllReadyH.nil
  go_simp
  go_at_call 52
  refine (HI.out _).mono ?_
  rintro e w2 ⟨rfl, hl2⟩
  have hb2 := HC0.out.trans (hl2.mono HC0.out.size)
  obtain ⟨cc, W1, hcv, hbf, hbw⟩ := HCV.out w2
  have hb3 := hb2.trans (hbw.mono hb2.size)
  try go_wp2_with fail
  refine hK.out _ _ (HK0.out _ hb2) (fun hHeld => ?_)
  clear hK K
  try simp only [Act.put, List.setIfInBounds_toArray, List.set_cons_zero, List.set_cons_succ]
  refine wpAnyH_take (i := 11) (oi := ⟨some 16, .binOp .add 9 (.tmp 12) (.tmp 15) 9, 9, "l16_cache.go:12", #[⟨7, .data⟩, ⟨10, .data⟩], none⟩) (v := ?v11) rfl (by kernel_rfl) (by kernel_rfl) (by kernel_rfl) (fun _ _ _ h => h) (Or.inl ⟨by rfl, ?hy11⟩) (by assumption) ?r11
  case hy11 => (intro w hSw; (try dsimp only at hSw); go_simp; try with_reducible rfl)
  try simp only [Act.put, List.setIfInBounds_toArray, List.set_cons_zero, List.set_cons_succ]
  refine wpAnyH_take (i := 12) (oi := ⟨some 17, .binOp .add 9 (.tmp 16) (.const (.string { data := #[10] })) 9, 9, "l16_cache.go:12", #[⟨11, .data⟩], none⟩) (v := ?v12) rfl (by kernel_rfl) (by kernel_rfl) (by kernel_rfl) (fun _ _ _ h => h) (Or.inl ⟨by rfl, ?hy12⟩) (by assumption) ?r12
  case hy12 => (intro w hSw; (try dsimp only at hSw); go_simp; try with_reducible rfl)
  try simp only [Act.put, List.setIfInBounds_toArray, List.set_cons_zero, List.set_cons_succ]
  refine wpAnyH_ready (rs := [13]) (by kernel_rfl) (by simp) ?_
  refine AllReadyH.cons (o := ⟨some 18, .convert 9 22 (.tmp 17), 22, "l16_cache.go:12", #[⟨12, .data⟩], none⟩) rfl (fun K hK => ?_) AllReadyH.nil
  go_simp
  skip
  try go_wp2_with fail
  refine hK.out _ _ (HK0.out _ hb3) (fun hHeld => ?_)
  clear hK K
  try simp only [Act.put, List.setIfInBounds_toArray, List.set_cons_zero, List.set_cons_succ]
  refine wpAnyH_take (i := 14) (oi := ⟨some 3, .assign (.tmp 18), 22, "l16_cache.go:12", #[⟨13, .data⟩, ⟨10, .chain⟩, ⟨0, .phase⟩, ⟨1, .phase⟩, ⟨2, .phase⟩, ⟨3, .phase⟩, ⟨4, .phase⟩, ⟨5, .phase⟩, ⟨6, .phase⟩, ⟨7, .phase⟩, ⟨8, .phase⟩, ⟨9, .phase⟩, ⟨10, .phase⟩, ⟨11, .phase⟩, ⟨12, .phase⟩, ⟨13, .phase⟩], none⟩) (v := ?v13) rfl (by kernel_rfl) (by kernel_rfl) (by kernel_rfl) (fun _ _ _ h => h) (Or.inl ⟨by rfl, ?hy13⟩) (by assumption) ?r13
  case hy13 => (intro w hSw; (try dsimp only at hSw); go_simp; try with_reducible rfl)
  try simp only [Act.put, List.setIfInBounds_toArray, List.set_cons_zero, List.set_cons_succ]
  refine wpAnyH_done (by kernel_rfl) ?_ _
  refine Lib.hid ?_
  rw [← ho] at hb3 hb2
  have C1 : Below (w.alloc o).heap.size (w.alloc o) W1 := hb3
  have HB1 : Hid (Bf (w.alloc o).heap.size W1 w2.heap.size cc M3) := Bf.down hbf hb2.size
  clear hbf hbw hb2 hb3 hcv hl2 HCV HI HK0 HC0 q1 q2 q3 q4 q5 q6
  go_wp2_with fail
  go_loopw [3, 4] (fun va vi wr => ∃ i g c zz : Nat, i ≤ n ∧ vi = .int .i64 (i : Int) ∧ va = .slice (some ⟨g, 0, none⟩) zz c ∧ zz = (refL l M3 i).length ∧ Bf (w.alloc o).heap.size wr g c (refL l M3 i) ∧ Below (w.alloc o).heap.size (w.alloc o) wr) (fun _ vi _ => n - (intOf vi).toNat)
  case atStart => exact ⟨0, w2.heap.size, cc, _, Nat.zero_le _, rfl, rfl, rfl, HB1.out, C1⟩
  case round =>
    clear HB1
    obtain ⟨i, g, c, zz, hi, rfl, rfl, rfl, hbf, C⟩ := hrel
    have B := HBW.out _ C
    obtain ⟨-, k3, k4, k5⟩ := HKC.out _ C
    by_cases hil : i < n
    · have hil' : (i : Int) < (n : Int) := by omega
      obtain ⟨b, off, rfl, hc⟩ : ∃ b off, a = some ⟨b, off, none⟩ ∧ ∀ j, j < n → w.cell? ⟨b, off + j, none⟩ = some (.string (st.atS l j)) := by
        rcases HSS.out with h | ⟨b, off, e, h⟩
        · omega
        · exact ⟨b, off, e, h⟩
      have kk : wr.cell? ⟨b, off + i, none⟩ = some (.string (st.atS l i)) := (B.cell (World.block_lt_of_cell? _ _ (hc i hil))).trans (hc i hil)
      have hx1 := HSZ.out i hil
      obtain ⟨hL1, hL2⟩ := HLN.out i hil
      have HRF : Hid (refL l M3 i ++ (rfA (st.atS l i)).data.toList = refL l M3 (i + 1)) := rfA_is _ _
      obtain ⟨x, hx⟩ : ∃ x, st.atS l i = x := ⟨_, rfl⟩
      rw [hx] at kk hx1 hL1 HRF
      have HBF : Hid (Bf (w.alloc o).heap.size wr g c (refL l M3 i)) := hbf
      have HLE : Hid ((refL l M3 i).length + (rfA x).size ≤ 1099511627776) := hL1
      have q1 : ¬ 9223372036854775807 < 4 + x.size := by omega
      have q2 : ¬ 9223372036854775807 < 4 + x.size + 1 := by omega
      have HLZ : Hid ((refL l M3 i).length + (rfA x).size = (refL l M3 (i + 1)).length) := by
        have h := congrArg List.length HRF.out
        show _ = _
        rw [← h, List.length_append]
        simp
      clear hx hc hbf hL1 hL2 HLN HSZ
      go_wp2_with (first
        | (at_builtin; refine bf.app_text _ rfl _ _ 22 9 rfl 5 Tryz.underlying22 Tryz.underlying9 info5 rfl rfl (rfA x) rfl HBF.out HLE.out ?_)
        | go_in)
      intro g1 c1 wa n1 hn1 hap1
      have hn2 := hn1.out
      have hbf1 := hap1.bf
      rw [HRF.out] at hbf1
      have C1 := C.grown hap1.grown C.size (fun k hk => by cases hk; exact HBF.out.new)
      have HB8 : Hid (Bf (w.alloc o).heap.size wa g1 c1 (refL l M3 (i + 1))) := Bf.down hbf1 (by simp)
      have HZ8 : Hid (n1 = (refL l M3 (i + 1)).length) := hn2.trans HLZ.out
      clear hap1 hn1 hn2 hbf1 HBF
      go_wp2
      go_roundw
      case rel => exact ⟨i + 1, g1, c1, _, by omega, by go_num, rfl, HZ8.out, HB8.out, C1⟩
      case measure => simp [intOf]; omega
    · obtain rfl : i = n := by omega
      have hcv := conv_back hbf
      clear hbf
      go_wp2
      go_ret
      exact ⟨by rw [HHL.out]; rfl, B⟩

end Go.Proofs.YtkmhaemcpakobaaGreatDoor.mt

namespace Go.Proofs.YtkmhaemcpakobaaGreatDoor.mt
open Go.ChangeShapes Go.WideShapes Go.ChangeAt Go.RowKit Go.Deep
open bf
set_option linter.unusedVariables false
set_option linter.unusedSimpArgs false

theorem mt_join (path sum key : ByteArray) (z : Int) (sig : Nat) (l : List ByteArray) (n : Nat) : (⟨(headL path sum z l n).toArray⟩ : ByteArray) ++ ⟨#[107, 101, 121, 32]⟩ ++ key ++ ⟨#[10, 115, 105, 103, 32]⟩ ++ wd.wordA sig ++ ⟨#[10]⟩ = ⟨(mtL path sum key z sig l n).toArray⟩ := by
  apply ByteArray.ext
  apply Array.ext'
  simp [mtL, ln]

set_option maxRecDepth 100000 in
set_option maxHeartbeats 4000000 in
theorem smt_any (path sum key : ByteArray) (z : Int) (sig : Nat) (l : List ByteArray) (a : Option Addr) (n cap : Nat) (w : World) (hb : st.Ss w a n l) (hn : n ≤ 1048576) (hs : ∀ i, i < n → (st.atS l i).size ≤ 1048576) (hp : path.size ≤ 1048576) (hsu : sum.size ≤ 1048576) (hk : key.size ≤ 1048576) (hsg : sig < 18446744073709551616) :
    Calls Tryz.prog 30 #[.agg #[.string path, .string sum, .int .i64 z, .slice a n cap, .string key, .int .u64 (sig : Int)]] w fun e w' => e = .returned (.string (mtT path sum key z sig l n)) ∧ Below w.heap.size w w' := by
  obtain ⟨o, ho⟩ : ∃ o : Obj, o = .cells #[.string path, .string sum, .int .i64 z, .slice a n cap, .string key, .int .u64 (sig : Int)] 43 := ⟨_, rfl⟩
  have HBW : Hid (∀ W, Below (w.alloc o).heap.size (w.alloc o) W → Below w.heap.size w W) := fun W h => ((Below.refl _ _).alloc (Nat.le_refl _) o).trans (h.mono (by simp))
  have HKC : Hid (∀ W, Below (w.alloc o).heap.size (w.alloc o) W → (W.cell? ⟨w.heap.size, 0, none⟩ = some (.string path) ∧ W.cell? ⟨w.heap.size, 1, none⟩ = some (.string sum) ∧ W.cell? ⟨w.heap.size, 2, none⟩ = some (.int .i64 z)) ∧ W.cell? ⟨w.heap.size, 3, none⟩ = some (.slice a n cap) ∧ W.cell? ⟨w.heap.size, 4, none⟩ = some (.string key) ∧ W.cell? ⟨w.heap.size, 5, none⟩ = some (.int .u64 (sig : Int))) := by rw [ho]; exact six_cells
  have b0 : Below w.heap.size w (w.alloc o) := (Below.refl _ _).alloc (Nat.le_refl _) o
  have HSO : Hid (Calls Tryz.prog 50 #[.agg #[.string path, .string sum, .int .i64 z, .slice a n cap, .string key, .int .u64 (sig : Int)]] (w.alloc o) fun e w' => e = .returned (.bool (hokB path sum z l n && nm.nameB key)) ∧ Below (w.alloc o).heap.size (w.alloc o) w') := sok_any path sum key z sig l a n cap (w.alloc o) (hb.below b0) hn hs hp hsu hk
  have HCW : Hid (∀ W, Calls Tryz.prog 16 #[.int .u64 (sig : Int)] W fun e w' => e = .returned (.string (wd.wordA sig)) ∧ Below W.heap.size W w') := fun W => wd.spec_any sig hsg W
  have hws := wd.wordA_size sig
  rw [ho] at HSO
  cases hH : (hokB path sum z l n && nm.nameB key)
  · have HR : Hid (mtT path sum key z sig l n = ⟨#[]⟩) := by unfold mtT; rw [hH]; rfl
    rw [hH] at HSO
    clear hH HCW hws hb hn hs hp hsu hk hsg b0
    go_enter Tryz.func30, Tryz.ntmps30
    go_wp2_with (first | (go_at_call 50; refine HSO.out.mono ?_; rintro e w1 ⟨rfl, hl1⟩; refine Hid.out ?_) | go_in)
    refine Lib.hid ?_
    rw [← ho] at hl1
    have B1 := HBW.out _ hl1
    clear hl1
    go_wp2
    go_ret
    exact ⟨by rw [HR.out]; rfl, B1⟩
  · have HR : Hid (mtT path sum key z sig l n = ⟨(headL path sum z l n).toArray⟩ ++ ⟨#[107, 101, 121, 32]⟩ ++ key ++ ⟨#[10, 115, 105, 103, 32]⟩ ++ wd.wordA sig ++ ⟨#[10]⟩) := by show _ = _; unfold mtT; rw [hH, mt_join]; rfl
    rw [hH] at HSO
    have hH1 : hokB path sum z l n = true := by revert hH; cases hokB path sum z l n <;> simp
    obtain ⟨h3, hz0, hz1⟩ := hok_parts hH1
    have hhl := (head_len hH1 hp hsu hs).1
    have HSH : Hid (∀ W, Below w.heap.size w W → Calls Tryz.prog 32 #[.agg #[.string path, .string sum, .int .i64 z, .slice a n cap, .string key, .int .u64 (sig : Int)]] W fun e w' => e = .returned (.string ⟨(headL path sum z l n).toArray⟩) ∧ Below W.heap.size W w') := fun W h => shd_any path sum key z sig l a n cap W (hb.below h) h3 hs hp hsu hz0 hz1
    have hes : (⟨(headL path sum z l n).toArray⟩ : ByteArray).size = (headL path sum z l n).length := by simp [ByteArray.size]
    obtain ⟨H, hHd⟩ : ∃ H : ByteArray, H = ⟨(headL path sum z l n).toArray⟩ := ⟨_, rfl⟩
    rw [← hHd] at HR HSH hes
    obtain ⟨S, hS⟩ : ∃ S : ByteArray, S = wd.wordA sig := ⟨_, rfl⟩
    rw [← hS] at HR HCW hws
    have q1 : ¬ 9223372036854775807 < H.size + 4 := by omega
    have q2 : ¬ 9223372036854775807 < H.size + 4 + key.size := by omega
    have q3 : ¬ 9223372036854775807 < H.size + 4 + key.size + 5 := by omega
    have q4 : ¬ 9223372036854775807 < H.size + 4 + key.size + 5 + S.size := by omega
    have q5 : ¬ 9223372036854775807 < H.size + 4 + key.size + 5 + S.size + 1 := by omega
    have q4' : ¬ 9223372036854775807 < H.size + 4 + key.size + 5 + 13 := by omega
    have q5' : ¬ 9223372036854775807 < H.size + 4 + key.size + 5 + 13 + 1 := by omega
    clear hH hH1 hb hn hs hp hsu hsg b0 hHd hS hes hhl h3 hz0 hz1
    go_enter Tryz.func30, Tryz.ntmps30
    go_wp2_with (first | (go_at_call 50; refine HSO.out.mono ?_; rintro e w1 ⟨rfl, hl1⟩; refine Hid.out ?_) | go_in)
    refine Lib.hid ?_
    rw [← ho] at hl1
    have HC1 : Hid (Below (w.alloc o).heap.size (w.alloc o) w1.drew) := hl1.drew
    have HKB : Hid (∀ W, Below (w.alloc o).heap.size (w.alloc o) W → W.cell? ⟨w.heap.size, 0, none⟩ = some (.string path) ∧ W.cell? ⟨w.heap.size, 1, none⟩ = some (.string sum) ∧ W.cell? ⟨w.heap.size, 2, none⟩ = some (.int .i64 z) ∧ W.cell? ⟨w.heap.size, 3, none⟩ = some (.slice a n cap) ∧ W.cell? ⟨w.heap.size, 4, none⟩ = some (.string key) ∧ W.cell? ⟨w.heap.size, 5, none⟩ = some (.int .u64 (sig : Int))) := fun W h => by
      obtain ⟨⟨a0, a1, a2⟩, a3, a4, a5⟩ := HKC.out _ h
      exact ⟨a0, a1, a2, a3, a4, a5⟩
    obtain ⟨⟨k0, k1, k2⟩, k3, k4, k5⟩ := HKC.out _ hl1
    clear hl1 HSO
    go_wp2_with fail
    go_region_held3 (fun W => W.cell? ⟨w.heap.size, 0, none⟩ = some (.string path) ∧ W.cell? ⟨w.heap.size, 1, none⟩ = some (.string sum) ∧ W.cell? ⟨w.heap.size, 2, none⟩ = some (.int .i64 z) ∧ W.cell? ⟨w.heap.size, 3, none⟩ = some (.slice a n cap) ∧ W.cell? ⟨w.heap.size, 4, none⟩ = some (.string key) ∧ W.cell? ⟨w.heap.size, 5, none⟩ = some (.int .u64 (sig : Int)))
      (first | exact HKB.out _ HC1.out | exact HKB.out _ hb3 | exact HKB.out _ hb2 | go_keep)
      (first
        | (go_at_call 32; refine (HSH.out _ (HBW.out _ HC1.out)).mono ?_; rintro e w2 ⟨rfl, hl2⟩; have hb2 := HC1.out.trans (hl2.mono HC1.out.size))
        | (go_at_call 16; refine (HCW.out _).mono ?_; rintro e w3 ⟨rfl, hl3⟩; have hb3 := hb2.trans (hl3.mono hb2.size)))
    have B3 := HBW.out _ hb3
    go_wp2
    go_ret
    exact ⟨by rw [HR.out]; rfl, B3⟩

end Go.Proofs.YtkmhaemcpakobaaGreatDoor.mt

namespace Go.Proofs.YtkmhaemcpakobaaGreatDoor.wd
open Go.ChangeShapes Go.WideShapes Go.ChangeAt Go.RowKit Go.Deep Go.Maps
set_option linter.unusedVariables false

theorem idxTo_let {v : Nat} (h : v < 32) : idxTo (letU v) 32 = some v := by
  cases he : idxTo (letU v) 32 with
  | none => exact absurd rfl (idxTo_none he v h)
  | some j => rw [letU_ne j (idxTo_lt he) v h (idxTo_some he)]

theorem wordA_at (X : Nat) {k : Nat} (h : k < 13) : (wordA X).data.toList[k]?.getD 0 = digit X (12 - k) := by
  simp [wordA, h]

/-- A word is read as its number. -/
theorem rd_word (X : Nat) (hX : X < 18446744073709551616) : ∀ k, k ≤ 13 → rdTo (wordA X) k = some (X / 32 ^ (13 - k)) := by
  intro k
  induction k with
  | zero =>
    intro _
    have : X / 32 ^ 13 = 0 := Nat.div_eq_of_lt (by omega)
    simp [rdTo, this]
  | succ k ih =>
    intro hk
    unfold rdTo
    rw [ih (by omega), wordA_at X (by omega), digit, idxTo_let (dm_lt _ _)]
    have e : X / 32 ^ (13 - k) = X / 32 ^ (12 - k) / 32 := by rw [Nat.div_div_eq_div_mul, ← Nat.pow_succ, show (12 - k).succ = 13 - k by omega]
    have e2 : X / 32 ^ (13 - k) * 32 + dm X (12 - k) = X / 32 ^ (12 - k) := by
      rw [e]; unfold dm dv; omega
    rw [show 13 - (k + 1) = 12 - k by omega]
    have hn : ¬ (k = 0 ∧ 15 < dm X (12 - k)) := by
      rintro ⟨rfl, h⟩
      have h12 : dv X 12 < 16 := by unfold dv; omega
      have e0 : dm X (12 - 0) = dv X 12 := by
        show dv X 12 % 32 = dv X 12
        exact Nat.mod_eq_of_lt (by omega)
      rw [e0] at h
      omega
    simp only [if_neg hn, e2]

theorem rw_word (X : Nat) (hX : X < 18446744073709551616) : rwX (wordA X) = (X : Int) ∧ rwB (wordA X) = true := by
  have h := rd_word X hX 13 (Nat.le_refl _)
  constructor
  · simp [rwX, wordA_size, h]
  · simp [rwB, wordA_size, h]

theorem rd_digits (s : ByteArray) : ∀ k y, rdTo s k = some y → ∀ j, j < k → s.data.toList[j]?.getD 0 = digit y (k - 1 - j) := by
  intro k
  induction k with
  | zero => intro y _ j hj; omega
  | succ k ih =>
    intro y h j hj
    unfold rdTo at h
    split at h
    · rename_i x v h1 h2
      have hv := idxTo_lt h2
      split at h
      · cases h
      · cases h
        by_cases hjk : j = k
        · subst hjk
          rw [← idxTo_some h2, show j + 1 - 1 - j = 0 by omega]
          unfold digit dm dv
          rw [Nat.pow_zero, Nat.div_one, show (x * 32 + v) % 32 = v by omega]
        · rw [ih x h1 j (by omega)]
          unfold digit dm dv
          rw [show k + 1 - 1 - j = (k - 1 - j) + 1 by omega, Nat.pow_succ, Nat.mul_comm (32 ^ _) 32, ← Nat.div_div_eq_div_mul, show (x * 32 + v) / 32 = x by omega]
    · cases h

theorem rd_back {s : ByteArray} {y : Nat} (hs : s.size = 13) (h : rdTo s 13 = some y) : wordA y = s := by
  apply ByteArray.ext
  apply Array.toList_inj.1
  apply List.ext_getElem?
  intro i
  by_cases hi : i < 13
  · have e1 := wordA_at y hi
    have e2 := rd_digits s 13 y h i hi
    rw [show 13 - 1 - i = 12 - i by omega] at e2
    have z1 : i < (wordA y).data.toList.length := by have := wordA_size y; simp; omega
    have z2 : i < s.data.toList.length := by simp; omega
    rw [List.getElem?_eq_getElem z1] at e1 ⊢
    rw [List.getElem?_eq_getElem z2] at e2 ⊢
    simp only [Option.getD_some] at e1 e2
    rw [e1, e2]
  · have z1 : (wordA y).data.toList.length ≤ i := by have := wordA_size y; simp; omega
    have z2 : s.data.toList.length ≤ i := by simp; omega
    rw [List.getElem?_eq_none z1, List.getElem?_eq_none z2]

theorem rd_lt64 {s : ByteArray} {y : Nat} (h : rdTo s 13 = some y) : y < 18446744073709551616 := by
  have := rd_bd s 12 y h
  omega

theorem rw_back {s : ByteArray} (h : rwB s = true) : ∃ y : Nat, y < 18446744073709551616 ∧ rwX s = (y : Int) ∧ wordA y = s := by
  simp only [rwB, Bool.and_eq_true, decide_eq_true_eq] at h
  obtain ⟨hz, h2⟩ := h
  obtain ⟨y, hy⟩ := Option.isSome_iff_exists.1 h2
  exact ⟨y, rd_lt64 hy, by simp [rwX, hz, hy], rd_back hz hy⟩

end Go.Proofs.YtkmhaemcpakobaaGreatDoor.wd

namespace Go.Proofs.YtkmhaemcpakobaaGreatDoor.sr
open Go.ChangeShapes Go.WideShapes Go.ChangeAt Go.RowKit Go.Deep
set_option linter.unusedVariables false
set_option linter.unusedSimpArgs false

/-! ### The marks -/

def dgt (k : Nat) : UInt8 := UInt8.ofNat (48 + k % 10)
theorem dgt_nat (k : Nat) : ((dgt k).toNat : Int) = 48 + ((k % 10 : Nat) : Int) := by
  have : (48 + k % 10) % 256 = 48 + k % 10 := Nat.mod_eq_of_lt (by omega)
  simp [dgt, UInt8.toNat_ofNat', this]

theorem dgt_conv (k : Nat) (wr : World) (z : Int) (hz : z = 48 + ((k % 10 : Nat) : Int)) : (convert 22 9 (.slice (some ⟨wr.heap.size, 0, none⟩) 1 1)).run Tryz.prog (wr.alloc (.cells #[.int .u8 z] 5)) = .ok (.string ⟨[dgt k].toArray⟩) (wr.alloc (.cells #[.int .u8 z] 5)) := by
  subst hz
  refine own_string (base := wr.heap.size) (n := 1) Tryz.underlying22 Tryz.underlying5 Tryz.underlying9 ?_
  rw [byteCells_one, dgt_nat]
  exact ⟨rfl, .inr ⟨wr.heap.size, 1, #[.int .u8 (48 + ((k % 10 : Nat) : Int))], rfl, Nat.le_refl _, heap_alloc_new wr _, by decide, by decide, rfl, rfl⟩⟩

theorem dec_step {k : Nat} (h : 9 < k) : Lib.decDigits k = Lib.decDigits (k / 10) ++ [dgt k] := by
  rw [Lib.decDigits, dif_neg (by omega)]; rfl
theorem dec_last {k : Nat} (h : ¬ 9 < k) : Lib.decDigits k = [dgt k] := by
  rw [Lib.decDigits, dif_pos (by omega), dgt, Nat.mod_eq_of_lt (by omega)]

/-- Digits of what is left; none of 0. -/
def dig (k : Nat) : List UInt8 := if k = 0 then [] else Lib.decDigits k
theorem dig_step {k : Nat} (h : 0 < k) : dig k = dig (k / 10) ++ [dgt k] := by
  unfold dig
  rw [if_neg (by omega)]
  by_cases h9 : 9 < k
  · rw [if_neg (by omega), dec_step h9]
  · rw [if_pos (by omega), dec_last h9]; rfl

def mark (k : Nat) : ByteArray := ⟨(109 :: Lib.decDigits k).toArray⟩

/-- The cells of a row, the first ones marked. -/
def MkR (w : World) (bb off n k i : Nat) : Prop := (∃ cs, w.heap[bb]? = some (.cells cs 9 (0, 0)) ∧ off + n ≤ cs.size) ∧ ∀ j, j < i → w.cell? ⟨bb, off + j, none⟩ = some (.string (mark (k + j)))

theorem MkR.below {w w' : World} {bb off n k i : Nat} (h : MkR w bb off n k i) (hb : Below w.heap.size w w') : MkR w' bb off n k i := by
  obtain ⟨⟨cs, hc, hs⟩, hm⟩ := h
  have hlt := (Array.getElem?_eq_some_iff.1 hc).1
  exact ⟨⟨cs, (hb.block bb hlt).trans hc, hs⟩, fun j hj => (hb.cell (p := ⟨bb, _, none⟩) hlt).trans (hm j hj)⟩

theorem MkR.step {w : World} {bb off n k i : Nat} (h : MkR w bb off n k i) (hi : i < n) : MkR (w.setCell ⟨bb, off + i, none⟩ (.string (mark (k + i)))) bb off n k (i + 1) := by
  obtain ⟨⟨cs, hc, hs⟩, hm⟩ := h
  have hlt := (Array.getElem?_eq_some_iff.1 hc).1
  have e : (w.setCell ⟨bb, off + i, none⟩ (.string (mark (k + i)))).heap[bb]? = some (.cells (cs.setIfInBounds (off + i) (.string (mark (k + i)))) 9 (0, 0)) := by
    simp [World.setCell, Array.getElem?_modify, hc]
  refine ⟨⟨_, e, by simp; omega⟩, fun j hj => ?_⟩
  have key : (w.setCell ⟨bb, off + i, none⟩ (.string (mark (k + i)))).cell? ⟨bb, off + j, none⟩ = (cs.setIfInBounds (off + i) (.string (mark (k + i))))[off + j]? := by simp [World.cell?, e]
  rw [key, Array.getElem?_setIfInBounds]
  by_cases hji : j = i
  · subst hji
    rw [if_pos rfl, if_pos (by omega)]
  · have := hm j (by omega)
    simp only [World.cell?, hc] at this
    rw [if_neg (by omega)]
    simpa using this

theorem MkR.cell {w : World} {bb off n k i : Nat} (h : MkR w bb off n k i) (j : Nat) (hj : j < n) : ∃ x, w.cell? ⟨bb, off + j, none⟩ = some x ∧ w.frozen? ⟨bb, off + j, none⟩ = false := by
  obtain ⟨⟨cs, hc, hs⟩, _⟩ := h
  have hlt : off + j < cs.size := by omega
  exact ⟨cs[off + j], by simp [World.cell?, hc, hlt], by simp [World.frozen?, hc]⟩

end Go.Proofs.YtkmhaemcpakobaaGreatDoor.sr

namespace Go.Proofs.YtkmhaemcpakobaaGreatDoor.mt
set_option linter.unusedVariables false
set_option linter.unusedSimpArgs false

/-! ### What a manifest's text is read as: the plain model -/

/-- Lines that end, and what is left. -/
def lnA (acc : List UInt8) : List UInt8 → List (List UInt8) × List UInt8
  | [] => ([], acc)
  | b :: r => if b = 10 then (acc :: (lnA [] r).1, (lnA [] r).2) else lnA (acc ++ [b]) r
def cutW : List UInt8 → List UInt8
  | [] => []
  | b :: r => if b = 32 then [] else b :: cutW r
def cutR : List UInt8 → List UInt8
  | [] => []
  | b :: r => if b = 32 then r else cutR r
def BA (x : List UInt8) : ByteArray := ⟨x.toArray⟩
theorem BA_of (s : ByteArray) : BA s.data.toList = s := by cases s; simp [BA]

structure Mf where
  path : ByteArray
  sum : ByteArray
  key : ByteArray
  z : Int
  sig : Nat
  l : List ByteArray
  ok : Bool

def M0 : Mf := ⟨⟨#[]⟩, ⟨#[]⟩, ⟨#[]⟩, 0, 0, [], true⟩
def wPath : List UInt8 := [112, 97, 116, 104]
def wSum : List UInt8 := [115, 117, 109]
def wSize : List UInt8 := [115, 105, 122, 101]
def wRef : List UInt8 := [114, 101, 102]
def wKey : List UInt8 := [107, 101, 121]
def wSig : List UInt8 := [115, 105, 103]

/-- One line taken. -/
def tk (f : List UInt8 → Int) (M : Mf) (x : List UInt8) : Mf :=
  if cutW x = wPath then { M with path := BA (cutR x) }
  else if cutW x = wSum then { M with sum := BA (cutR x) }
  else if cutW x = wSize then { M with z := f (cutR x) }
  else if cutW x = wRef then { M with l := M.l ++ [BA (cutR x)] }
  else if cutW x = wKey then { M with key := BA (cutR x) }
  else if cutW x = wSig then { M with sig := (wd.rwX (BA (cutR x))).toNat, ok := M.ok && wd.rwB (BA (cutR x)) }
  else { M with ok := false }

def txt (M : Mf) : List UInt8 := mtL M.path M.sum M.key M.z M.sig M.l M.l.length
/-- This text is this manifest's. -/
structure Good (s : List UInt8) (M : Mf) : Prop where
  hok : hokB M.path M.sum M.z M.l M.l.length = true
  name : nm.nameB M.key = true
  sig : M.sig < 18446744073709551616
  ok : M.ok = true
  text : txt M = s

theorem lnA_line : ∀ (x acc r : List UInt8), (∀ b ∈ x, b ≠ 10) → lnA acc (x ++ 10 :: r) = ((acc ++ x) :: (lnA [] r).1, (lnA [] r).2)
  | [], acc, r, _ => by simp [lnA]
  | b :: x, acc, r, h => by
    have hb : b ≠ 10 := h b List.mem_cons_self
    rw [List.cons_append, lnA, if_neg hb, lnA_line x (acc ++ [b]) r (fun c hc => h c (List.mem_cons_of_mem _ hc))]
    simp
theorem lnA_all : ∀ (L : List (List UInt8)), (∀ x ∈ L, ∀ b ∈ x, b ≠ 10) → lnA [] ((L.map (· ++ [10])).flatten) = (L, [])
  | [], _ => rfl
  | x :: L, h => by
    have ih := lnA_all L (fun y hy => h y (List.mem_cons_of_mem _ hy))
    rw [List.map_cons, List.flatten_cons, List.append_assoc, List.singleton_append, lnA_line x [] _ (h x List.mem_cons_self), ih]
    simp

theorem cutW_at : ∀ (x y : List UInt8), (∀ b ∈ x, b ≠ 32) → cutW (x ++ 32 :: y) = x
  | [], y, _ => by simp [cutW]
  | b :: x, y, h => by
    rw [List.cons_append, cutW, if_neg (h b List.mem_cons_self), cutW_at x y (fun c hc => h c (List.mem_cons_of_mem _ hc))]
theorem cutR_at : ∀ (x y : List UInt8), (∀ b ∈ x, b ≠ 32) → cutR (x ++ 32 :: y) = y
  | [], y, _ => by simp [cutR]
  | b :: x, y, h => by
    rw [List.cons_append, cutR, if_neg (h b List.mem_cons_self), cutR_at x y (fun c hc => h c (List.mem_cons_of_mem _ hc))]

/-- The lines of a manifest. -/
def lin (w : List UInt8) (y : ByteArray) : List UInt8 := w ++ 32 :: y.data.toList
def mLines (M : Mf) : List (List UInt8) := [lin wPath M.path, lin wSum M.sum, lin wSize ⟨(Lib.itoa M.z).toArray⟩] ++ M.l.map (lin wRef) ++ [lin wKey M.key, lin wSig (wd.wordA M.sig)]

theorem refL_is (l : List ByteArray) (L : List UInt8) : ∀ k, k ≤ l.length → refL l L k = L ++ (((l.take k).map (lin wRef)).map (· ++ [10])).flatten
  | 0, _ => by simp [refL]
  | k + 1, h => by
    have ih := refL_is l L k (by omega)
    have e : l[k]? = some (st.atS l k) := by simp [st.atS, show k < l.length by omega]
    rw [refL, ih, List.take_add_one, e]
    simp [ln, lin, wRef]
theorem txt_lines (M : Mf) : txt M = ((mLines M).map (· ++ [10])).flatten := by
  unfold txt mtL headL
  rw [refL_is M.l _ M.l.length (Nat.le_refl _), List.take_length]
  simp [mLines, ln, lin, wPath, wSum, wSize, wKey, wSig]

/-! No line breaks in the parts. -/
theorem name_no {s : ByteArray} (h : nm.nameB s = true) : ∀ b ∈ s.data.toList, b ≠ 10 := fun b hb e => by
  subst e
  unfold nm.nameB at h
  simp only [Bool.and_eq_true] at h
  have ha := h.2
  unfold nm.allOk at ha
  rw [List.take_of_length_le (by simp), List.all_eq_true] at ha
  have := ha 10 hb
  revert this
  decide
theorem word_no (X : Nat) : ∀ b ∈ (wd.wordA X).data.toList, b ≠ 10 := fun b hb e => by
  subst e
  unfold wd.wordA at hb
  simp only [List.mem_map, List.mem_range] at hb
  obtain ⟨j, _, hj⟩ := hb
  unfold wd.digit wd.letU at hj
  have hlt : wd.dm X (12 - j) < wd.LET.length := Nat.mod_lt _ (by decide)
  rw [List.getElem?_eq_getElem hlt, Option.getD_some] at hj
  have hm := List.getElem_mem hlt
  rw [hj] at hm
  revert hm
  decide
theorem rw_no {s : ByteArray} (h : wd.rwB s = true) : ∀ b ∈ s.data.toList, b ≠ 10 := by
  obtain ⟨y, _, _, e⟩ := wd.rw_back h
  rw [← e]
  exact word_no y
theorem adr_no {s : ByteArray} (h : wd.aokB s = true) : ∀ b ∈ s.data.toList, b ≠ 10 := fun b hb => by
  unfold wd.aokB at h
  simp only [Bool.and_eq_true, decide_eq_true_eq] at h
  obtain ⟨h1, h2, h3, h4⟩ := h
  obtain ⟨i, hi⟩ := List.mem_iff_getElem?.1 hb
  have hil : i < s.data.toList.length := (List.getElem?_eq_some_iff.1 hi).1
  have hz : s.data.toList.length = s.size := by simp
  rcases Nat.lt_trichotomy i 13 with h | h | h
  · refine rw_no h3 b (List.mem_iff_getElem?.2 ⟨i, ?_⟩)
    have hsz : s.data.size = s.size := rfl
    rw [← hi]
    rw [ByteArray.data_extract, Array.getElem?_toList, Array.getElem?_toList, Array.getElem?_extract, if_pos (by omega)]
    simp
  · subst h
    rw [hi] at h2
    intro e
    subst e
    revert h2
    decide
  · refine name_no h4 b (List.mem_iff_getElem?.2 ⟨i - 14, ?_⟩)
    rw [← hi]
    have hsz : s.data.size = s.size := rfl
    rw [ByteArray.data_extract, Array.getElem?_toList, Array.getElem?_toList, Array.getElem?_extract, if_pos (by omega)]
    rw [show 14 + (i - 14) = i by omega]
theorem dec_no : ∀ (n : Nat), ∀ b ∈ Lib.decDigits n, b ≠ 10 := fun n => by
  induction n using Nat.strongRecOn with
  | _ n ih =>
    intro b hb
    rw [Lib.decDigits] at hb
    split at hb
    · simp at hb
      subst hb
      intro e
      have := congrArg UInt8.toNat e
      simp at this
      omega
    · rw [List.mem_append] at hb
      rcases hb with hb | hb
      · exact ih (n / 10) (by omega) b hb
      · simp at hb
        subst hb
        intro e
        have := congrArg UInt8.toNat e
        simp at this
        omega
theorem itoa_no {z : Int} (h0 : 0 ≤ z) : ∀ b ∈ Lib.itoa z, b ≠ 10 := by
  obtain ⟨k, rfl⟩ : ∃ k : Nat, z = (k : Int) := ⟨z.toNat, by omega⟩
  have : Lib.itoa (k : Int) = Lib.decDigits k := by simp [Lib.itoa]
  rw [this]
  exact dec_no k

theorem lines_no {M : Mf} (h : hokB M.path M.sum M.z M.l M.l.length = true) (hn : nm.nameB M.key = true) : ∀ x ∈ mLines M, ∀ b ∈ x, b ≠ 10 := by
  have hp := hok_parts h
  simp only [hokB, rfB, Bool.and_eq_true] at h
  obtain ⟨h1, h2, h3, h4, h5⟩ := h
  have hl : ∀ (w : List UInt8) (y : ByteArray), (∀ b ∈ w, b ≠ 10) → (∀ b ∈ y.data.toList, b ≠ 10) → ∀ b ∈ lin w y, b ≠ 10 := fun w y hw hy b hb => by
    unfold lin at hb
    rcases List.mem_append.1 hb with hb | hb
    · exact hw b hb
    · rcases List.mem_cons.1 hb with rfl | hb
      · decide
      · exact hy b hb
  intro x hx
  simp only [mLines, List.mem_append, List.mem_cons, List.not_mem_nil, or_false, List.mem_map] at hx
  rcases hx with ((rfl | rfl | rfl) | ⟨y, hy, rfl⟩) | rfl | rfl
  · exact hl _ _ (by decide) (adr_no h2)
  · exact hl _ _ (by decide) (rw_no h1)
  · exact hl _ _ (by decide) (itoa_no hp.2.1)
  · refine hl _ _ (by decide) (adr_no ?_)
    obtain ⟨i, hi⟩ := List.mem_iff_getElem?.1 hy
    have hil := (List.getElem?_eq_some_iff.1 hi).1
    have e : st.atS M.l i = y := by simp [st.atS, hi]
    have : adA M.l M.l.length = true := by first | exact h5 | exact h5.1 | exact h5.2
    unfold adA at this
    rw [List.all_eq_true] at this
    have := this i (List.mem_range.2 hil)
    rwa [e] at this
  · exact hl _ _ (by decide) (name_no hn)
  · exact hl _ _ (by decide) (word_no _)

theorem tk_path (f : List UInt8 → Int) (M : Mf) (y : ByteArray) : tk f M (lin wPath y) = { M with path := y } := by
  have e1 : cutW (lin wPath y) = wPath := cutW_at _ _ (by decide)
  have e2 : cutR (lin wPath y) = y.data.toList := cutR_at _ _ (by decide)
  unfold tk
  rw [e1, e2, if_pos rfl, BA_of]
theorem tk_sum (f : List UInt8 → Int) (M : Mf) (y : ByteArray) : tk f M (lin wSum y) = { M with sum := y } := by
  have e1 : cutW (lin wSum y) = wSum := cutW_at _ _ (by decide)
  have e2 : cutR (lin wSum y) = y.data.toList := cutR_at _ _ (by decide)
  unfold tk
  rw [e1, e2, if_neg (by decide), if_pos rfl, BA_of]
theorem tk_size (f : List UInt8 → Int) (M : Mf) (y : ByteArray) : tk f M (lin wSize y) = { M with z := f y.data.toList } := by
  have e1 : cutW (lin wSize y) = wSize := cutW_at _ _ (by decide)
  have e2 : cutR (lin wSize y) = y.data.toList := cutR_at _ _ (by decide)
  unfold tk
  rw [e1, e2, if_neg (by decide), if_neg (by decide), if_pos rfl]
theorem tk_ref (f : List UInt8 → Int) (M : Mf) (y : ByteArray) : tk f M (lin wRef y) = { M with l := M.l ++ [y] } := by
  have e1 : cutW (lin wRef y) = wRef := cutW_at _ _ (by decide)
  have e2 : cutR (lin wRef y) = y.data.toList := cutR_at _ _ (by decide)
  unfold tk
  rw [e1, e2, if_neg (by decide), if_neg (by decide), if_neg (by decide), if_pos rfl, BA_of]
theorem tk_key (f : List UInt8 → Int) (M : Mf) (y : ByteArray) : tk f M (lin wKey y) = { M with key := y } := by
  have e1 : cutW (lin wKey y) = wKey := cutW_at _ _ (by decide)
  have e2 : cutR (lin wKey y) = y.data.toList := cutR_at _ _ (by decide)
  unfold tk
  rw [e1, e2, if_neg (by decide), if_neg (by decide), if_neg (by decide), if_neg (by decide), if_pos rfl, BA_of]
theorem tk_sig (f : List UInt8 → Int) (M : Mf) (y : ByteArray) : tk f M (lin wSig y) = { M with sig := (wd.rwX y).toNat, ok := M.ok && wd.rwB y } := by
  have e1 : cutW (lin wSig y) = wSig := cutW_at _ _ (by decide)
  have e2 : cutR (lin wSig y) = y.data.toList := cutR_at _ _ (by decide)
  unfold tk
  rw [e1, e2, if_neg (by decide), if_neg (by decide), if_neg (by decide), if_neg (by decide), if_neg (by decide), if_pos rfl, BA_of]
theorem tk_refs (f : List UInt8 → Int) : ∀ (l : List ByteArray) (M : Mf), (l.map (lin wRef)).foldl (tk f) M = { M with l := M.l ++ l }
  | [], M => by simp
  | y :: l, M => by
    rw [List.map_cons, List.foldl_cons, tk_ref, tk_refs f l]
    simp

/-- What reads numbers as they are written reads a manifest's text as that manifest. -/
theorem good_read {f : List UInt8 → Int} (hf : ∀ z : Int, 0 ≤ z → z ≤ 1000000 → f (Lib.itoa z) = z) {s : List UInt8} {M : Mf} (h : Good s M) : (lnA [] s).2 = [] ∧ (lnA [] s).1.foldl (tk f) M0 = M := by
  have hp := hok_parts h.hok
  rw [← h.text, txt_lines, lnA_all _ (lines_no h.hok h.name)]
  refine ⟨rfl, ?_⟩
  unfold mLines
  rw [List.foldl_append, List.foldl_append]
  simp only [List.foldl_cons, List.foldl_nil]
  rw [tk_path, tk_sum, tk_size, tk_refs, tk_key, tk_sig]
  obtain ⟨h1, h2⟩ := wd.rw_word M.sig h.sig
  rw [h1, h2]
  have hz := hf M.z hp.2.1 hp.2.2
  have hok := h.ok
  cases M
  simp_all [M0]

/-- The specification's reader of numbers. -/
def sIg : Int → List UInt8 → Int
  | n, [] => n
  | n, b :: r => if ¬ (48 ≤ b.toNat ∧ b.toNat ≤ 57) ∨ 1000000 < n then -1 else sIg (n * 10 + ((b.toNat : Int) - 48)) r
def sI (l : List UInt8) : Int := sIg 0 l
theorem dgt_rng (k : Nat) : (sr.dgt k).toNat = 48 + k % 10 := by have := sr.dgt_nat k; omega
theorem sIg_dec : ∀ (k : Nat), k ≤ 1000000 → ∀ r, sIg 0 (Lib.decDigits k ++ r) = sIg (k : Int) r := fun k => by
  induction k using Nat.strongRecOn with
  | _ k ih =>
    intro hk r
    by_cases h9 : 9 < k
    · rw [sr.dec_step h9, List.append_assoc, ih (k / 10) (by omega) (by omega), List.singleton_append, sIg, dgt_rng, if_neg (by omega)]
      congr 1
      omega
    · rw [sr.dec_last h9, List.singleton_append, sIg, dgt_rng, if_neg (by omega)]
      congr 1
      omega
theorem sI_itoa : ∀ z : Int, 0 ≤ z → z ≤ 1000000 → sI (Lib.itoa z) = z := fun z h0 h1 => by
  obtain ⟨k, rfl⟩ : ∃ k : Nat, z = (k : Int) := ⟨z.toNat, by omega⟩
  have e : Lib.itoa (k : Int) = Lib.decDigits k := by simp [Lib.itoa]
  have := sIg_dec k (by omega) []
  rw [List.append_nil] at this
  rw [e]
  exact this

open Classical in
/-- What both answer. -/
noncomputable def rdM (s : List UInt8) : Mf := if h : ∃ M, Good s M then h.choose else M0
open Classical in
noncomputable def rdB (s : List UInt8) : Bool := decide (∃ M, Good s M)
theorem rd_yes {s : List UInt8} {M : Mf} (h : Good s M) : rdM s = M ∧ rdB s = true := by
  have hex : ∃ M, Good s M := ⟨M, h⟩
  unfold rdM rdB
  rw [dif_pos hex]
  refine ⟨?_, by simp [hex]⟩
  rw [← (good_read sI_itoa h).2, ← (good_read sI_itoa hex.choose_spec).2]
theorem rd_no {s : List UInt8} (h : ¬ ∃ M, Good s M) : rdM s = M0 ∧ rdB s = false := by
  unfold rdM rdB
  rw [dif_neg h]
  exact ⟨rfl, by simp [h]⟩

end Go.Proofs.YtkmhaemcpakobaaGreatDoor.mt

namespace Go.Proofs.YtkmhaemcpakobaaGreatDoor.mt
open Go.ChangeShapes Go.WideShapes Go.ChangeAt Go.RowKit Go.Deep
set_option linter.unusedVariables false
set_option linter.unusedSimpArgs false

/-! ### The law's helpers -/


/-- What is left is not below 0 only where all is small. -/
def SmM (path sum key : ByteArray) (l : List ByteArray) (n : Nat) : Prop := path.size ≤ 1048576 ∧ sum.size ≤ 1048576 ∧ key.size ≤ 1048576 ∧ n ≤ 1048576 ∧ ∀ i, i < n → (st.atS l i).size ≤ 1048576

theorem blk_oth {w : World} {b c i : Nat} {v : Value} (h : c ≠ b) : (w.setCell ⟨b, i, none⟩ v).heap[c]? = w.heap[c]? := by
  simp only [World.setCell]
  rw [Array.getElem?_modify, if_neg (fun e => h e.symm)]
theorem far {w : World} {b c i j : Nat} {v : Value} (h : b ≠ c) : (w.setCell ⟨b, i, none⟩ v).cell? ⟨c, j, none⟩ = w.cell? ⟨c, j, none⟩ := World.cell?_of_block (a := ⟨c, j, none⟩) (blk_oth (fun e => h e.symm))
theorem oth {X : World} {b i j : Nat} {v : Value} (h : i ≠ j) : (X.setCell ⟨b, i, none⟩ v).cell? ⟨b, j, none⟩ = X.cell? ⟨b, j, none⟩ := World.cell?_setCell_other X ⟨b, i, none⟩ ⟨b, j, none⟩ v (by simp [h])

def SixC (W : World) (b : Nat) (v0 v1 v2 v3 v4 v5 : Value) : Prop := W.cell? ⟨b, 0, none⟩ = some v0 ∧ W.cell? ⟨b, 1, none⟩ = some v1 ∧ W.cell? ⟨b, 2, none⟩ = some v2 ∧ W.cell? ⟨b, 3, none⟩ = some v3 ∧ W.cell? ⟨b, 4, none⟩ = some v4 ∧ W.cell? ⟨b, 5, none⟩ = some v5
theorem six {W : World} {b : Nat} {u0 u1 u2 u3 u4 u5 : Value} (v0 v1 v2 v3 v4 v5 : Value) (h : SixC W b u0 u1 u2 u3 u4 u5) :
    SixC ((((((W.setCell ⟨b, 0, none⟩ v0).setCell ⟨b, 1, none⟩ v1).setCell ⟨b, 2, none⟩ v2).setCell ⟨b, 3, none⟩ v3).setCell ⟨b, 4, none⟩ v4).setCell ⟨b, 5, none⟩ v5) b v0 v1 v2 v3 v4 v5 := by
  obtain ⟨h0, h1, h2, h3, h4, h5⟩ := h
  refine ⟨?_, ?_, ?_, ?_, ?_, ?_⟩
  · rw [oth (by omega), oth (by omega), oth (by omega), oth (by omega), oth (by omega)]
    exact World.cell?_setCell_same _ _ _ h0
  · rw [oth (by omega), oth (by omega), oth (by omega), oth (by omega)]
    exact World.cell?_setCell_same _ _ _ ((oth (by omega)).trans h1)
  · rw [oth (by omega), oth (by omega), oth (by omega)]
    exact World.cell?_setCell_same _ _ _ ((oth (by omega)).trans ((oth (by omega)).trans h2))
  · rw [oth (by omega), oth (by omega)]
    exact World.cell?_setCell_same _ _ _ ((oth (by omega)).trans ((oth (by omega)).trans ((oth (by omega)).trans h3)))
  · rw [oth (by omega)]
    exact World.cell?_setCell_same _ _ _ ((oth (by omega)).trans ((oth (by omega)).trans ((oth (by omega)).trans ((oth (by omega)).trans h4))))
  · exact World.cell?_setCell_same _ _ _ ((oth (by omega)).trans ((oth (by omega)).trans ((oth (by omega)).trans ((oth (by omega)).trans ((oth (by omega)).trans h5)))))
theorem SixC.far {W : World} {b c i : Nat} {v u0 u1 u2 u3 u4 u5 : Value} (h : SixC W c u0 u1 u2 u3 u4 u5) (hne : b ≠ c) : SixC (W.setCell ⟨b, i, none⟩ v) c u0 u1 u2 u3 u4 u5 := by
  obtain ⟨h0, h1, h2, h3, h4, h5⟩ := h
  exact ⟨(mt.far hne).trans h0, (mt.far hne).trans h1, (mt.far hne).trans h2, (mt.far hne).trans h3, (mt.far hne).trans h4, (mt.far hne).trans h5⟩

theorem ret_cellM {fn : Func} {i : Tmp} (hf : fn.results = #[.cell i 43]) {tmps : Array Value} {W : World} {b : Nat} {v0 v1 v2 v3 v4 v5 : Value} {R : Ending → World → Prop} (h4 : tmps.getD i undef = .pointer (some ⟨b, 0, none⟩))
    (h : SixC W b v0 v1 v2 v3 v4 v5) (hR : R (.returned (.agg #[v0, v1, v2, v3, v4, v5])) W) :
    bodyPost Tryz.prog fn R Exit.ret { tmps := tmps, defers := [] } W := by
  obtain ⟨k0, k1, k2, k3, k4, k5⟩ := h
  have h4' : tmps[i]?.getD undef = .pointer (some ⟨b, 0, none⟩) := by simpa using h4
  exact bodyPost_ret (v := .agg #[v0, v1, v2, v3, v4, v5]) (by simp [results, hf, go_sem, h4', k0, k1, k2, k3, k4, k5]) rfl hR

theorem Ss_kept {w w' : World} {g n : Nat} {l : List ByteArray} (h : st.Ss w (some ⟨g, 0, none⟩) n l) (hb : w'.heap[g]? = w.heap[g]?) : st.Ss w' (some ⟨g, 0, none⟩) n l := by
  rcases h with h | ⟨b, off, e, hc⟩
  · exact .inl h
  · cases e
    exact .inr ⟨g, 0, rfl, fun i hi => (World.cell?_of_block (a := ⟨g, 0 + i, none⟩) hb).trans (hc i hi)⟩

/-- A row of texts that can be written into. -/
def RwT (w : World) (g n : Nat) (l : List ByteArray) : Prop := (∃ cs, w.heap[g]? = some (.cells cs 9 (0, 0)) ∧ n ≤ cs.size) ∧ st.Ss w (some ⟨g, 0, none⟩) n l
theorem RwT.kept {w w' : World} {g n : Nat} {l : List ByteArray} (h : RwT w g n l) (hb : w'.heap[g]? = w.heap[g]?) : RwT w' g n l := by
  obtain ⟨⟨cs, hc, hs⟩, hr⟩ := h
  exact ⟨⟨cs, hb.trans hc, hs⟩, Ss_kept hr hb⟩
theorem RwT.lt {w : World} {g n : Nat} {l : List ByteArray} (h : RwT w g n l) : g < w.heap.size := by
  obtain ⟨⟨cs, hc, _⟩, _⟩ := h
  exact (Array.getElem?_eq_some_iff.1 hc).1
theorem RwT.below {w w' : World} {g n : Nat} {l : List ByteArray} (h : RwT w g n l) (hb : Below w.heap.size w w') : RwT w' g n l := h.kept (hb.block g h.lt)
theorem RwT.row {w : World} {b n : Nat} {l : List ByteArray} (h : w.rowIs b 9 n (fun i => .string (st.atS l i))) : RwT w b n l := by
  refine ⟨?_, st.Ss.row h⟩
  obtain ⟨cs, hc, hs⟩ := h
  exact ⟨cs, hc, by omega⟩

theorem six_all {w : World} {v0 v1 v2 v3 v4 v5 : Value} {t : TypeId} : ∀ W, Below (w.alloc (.cells #[v0, v1, v2, v3, v4, v5] t)).heap.size (w.alloc (.cells #[v0, v1, v2, v3, v4, v5] t)) W → W.cell? ⟨w.heap.size, 0, none⟩ = some v0 ∧ W.cell? ⟨w.heap.size, 1, none⟩ = some v1 ∧ W.cell? ⟨w.heap.size, 2, none⟩ = some v2 ∧ W.cell? ⟨w.heap.size, 3, none⟩ = some v3 ∧ W.cell? ⟨w.heap.size, 4, none⟩ = some v4 ∧ W.cell? ⟨w.heap.size, 5, none⟩ = some v5 := fun W h => by
  obtain ⟨⟨a0, a1, a2⟩, a3, a4, a5⟩ := six_cells W h
  exact ⟨a0, a1, a2, a3, a4, a5⟩

end Go.Proofs.YtkmhaemcpakobaaGreatDoor.mt
