import Derived.Test.YtheponigjofknaaDoorMI
import Derived.Deep.RegionHeld3
namespace Go.Proofs.YtheponigjofknaaDoor.mt
open Go.ChangeShapes Go.WideShapes Go.ChangeAt Go.RowKit Go.Deep
open bf
set_option linter.unusedVariables false
set_option linter.unusedSimpArgs false

/-- The text ahead of the references, as the specification joins it. -/
def hdA (path sum T : ByteArray) : ByteArray := ⟨#[112, 97, 116, 104, 32]⟩ ++ path ++ ⟨#[10, 115, 117, 109, 32]⟩ ++ sum ++ ⟨#[10, 115, 105, 122, 101, 32]⟩ ++ T ++ ⟨#[10]⟩
theorem hdA_is (path sum T : ByteArray) : (hdA path sum T).data.toList = ln (ln (ln [] [112, 97, 116, 104] path.data.toList) [115, 117, 109] sum.data.toList) [115, 105, 122, 101] T.data.toList := by
  simp [hdA, ln]
theorem hdA_size (path sum T : ByteArray) : (hdA path sum T).size = 17 + path.size + sum.size + T.size := by
  simp only [hdA, ByteArray.size_append, show (⟨#[112, 97, 116, 104, 32]⟩ : ByteArray).size = 5 from rfl, show (⟨#[10, 115, 117, 109, 32]⟩ : ByteArray).size = 5 from rfl, show (⟨#[10, 115, 105, 122, 101, 32]⟩ : ByteArray).size = 6 from rfl, show (⟨#[10]⟩ : ByteArray).size = 1 from rfl]
  omega

theorem int_spec (z : Int) (h0 : 0 ≤ z) (h1 : z ≤ 1000000) (w : World) :
    Calls Tryd.prog 43 #[.int .i64 z] w fun e w' => e = .returned (.string ⟨(Lib.itoa z).toArray⟩) ∧ Below w.heap.size w w' := by
  obtain ⟨k, rfl⟩ : ∃ k : Nat, z = (k : Int) := ⟨z.toNat, by omega⟩
  exact int_is k (by omega) w

/-- A reference's line, as the specification joins it. -/
def rfA (x : ByteArray) : ByteArray := ⟨#[114, 101, 102, 32]⟩ ++ x ++ ⟨#[10]⟩
theorem rfA_is (L : List UInt8) (x : ByteArray) : L ++ (rfA x).data.toList = ln L [114, 101, 102] x.data.toList := by simp [rfA, ln]
theorem rfA_size (x : ByteArray) : (rfA x).size = 5 + x.size := by
  simp only [rfA, ByteArray.size_append, show (⟨#[114, 101, 102, 32]⟩ : ByteArray).size = 4 from rfl, show (⟨#[10]⟩ : ByteArray).size = 1 from rfl]
  omega

set_option maxRecDepth 100000 in
set_option maxHeartbeats 4000000 in
theorem shd_any (path sum key : ByteArray) (z : Int) (sig : Nat) (l : List ByteArray) (a : Option Addr) (n cap : Nat) (w : World) (hb : st.Ss w a n l) (hn : n ≤ 300) (hs : ∀ i, i < n → (st.atS l i).size ≤ 1048576) (hp : path.size ≤ 1048576) (hsu : sum.size ≤ 1048576) (hz0 : 0 ≤ z) (hz1 : z ≤ 1000000) :
    Calls Tryd.prog 20 #[.agg #[.string path, .string sum, .int .i64 z, .slice a n cap, .string key, .int .u64 (sig : Int)]] w fun e w' => e = .returned (.string ⟨(headL path sum z l n).toArray⟩) ∧ Below w.heap.size w w' := by
  obtain ⟨o, ho⟩ : ∃ o : Obj, o = .cells #[.string path, .string sum, .int .i64 z, .slice a n cap, .string key, .int .u64 (sig : Int)] 28 := ⟨_, rfl⟩
  have HBW : Hid (∀ W, Below (w.alloc o).heap.size (w.alloc o) W → Below w.heap.size w W) := fun W h => ((Below.refl _ _).alloc (Nat.le_refl _) o).trans (h.mono (by simp))
  have HKC : Hid (∀ W, Below (w.alloc o).heap.size (w.alloc o) W → (W.cell? ⟨w.heap.size, 0, none⟩ = some (.string path) ∧ W.cell? ⟨w.heap.size, 1, none⟩ = some (.string sum) ∧ W.cell? ⟨w.heap.size, 2, none⟩ = some (.int .i64 z)) ∧ W.cell? ⟨w.heap.size, 3, none⟩ = some (.slice a n cap) ∧ W.cell? ⟨w.heap.size, 4, none⟩ = some (.string key) ∧ W.cell? ⟨w.heap.size, 5, none⟩ = some (.int .u64 (sig : Int))) := by rw [ho]; exact six_cells
  have HC0 : Hid (Below (w.alloc o).heap.size (w.alloc o) (w.alloc o).drew) := (Below.refl _ _).drew
  have HK0 : Hid (∀ W, Below (w.alloc o).heap.size (w.alloc o) W → (W.cell? ⟨w.heap.size, 0, none⟩ = some (.string path) ∧ W.cell? ⟨w.heap.size, 1, none⟩ = some (.string sum) ∧ W.cell? ⟨w.heap.size, 2, none⟩ = some (.int .i64 z))) := fun W h => (HKC.out W h).1
  obtain ⟨T, hT⟩ : ∃ T : ByteArray, T = ⟨(Lib.itoa z).toArray⟩ := ⟨_, rfl⟩
  have HI : Hid (∀ W, Calls Tryd.prog 43 #[.int .i64 z] W fun e w' => e = .returned (.string T) ∧ Below W.heap.size W w') := fun W => by subst hT; exact int_spec z hz0 hz1 W
  have il : (Lib.itoa z).length ≤ 21 := Lib.itoa_length_le z (by omega) (by omega)
  have tl : T.size ≤ 21 := by subst hT; simpa [ByteArray.size] using il
  have hTl : T.data.toList = Lib.itoa z := by subst hT; rfl
  obtain ⟨M3, hM3⟩ : ∃ M3, M3 = (hdA path sum T).data.toList := ⟨_, rfl⟩
  have HHL : Hid (headL path sum z l n = refL l M3 n) := by show _ = _; unfold headL; rw [hM3, hdA_is, hTl]
  have hsz := hdA_size path sum T
  have m3 : M3.length = (hdA path sum T).size := by rw [hM3]; simp
  have HCV : Hid (∀ W, ∃ cap W1, (convert 9 46 (.string (⟨#[112, 97, 116, 104, 32]⟩ ++ path ++ ⟨#[10, 115, 117, 109, 32]⟩ ++ sum ++ ⟨#[10, 115, 105, 122, 101, 32]⟩ ++ T ++ ⟨#[10]⟩))).run Tryd.prog W = .ok (.slice (some ⟨W.heap.size, 0, none⟩) M3.length cap) W1 ∧ Bf W.heap.size W1 W.heap.size cap M3 ∧ Below W.heap.size W W1) := fun W => by
    obtain ⟨cap, W1, h1, h2, h3, _⟩ := conv_bf (P := Tryd.prog) W 9 46 5 (hdA path sum T) (by omega) Tryd.underlying9 Tryd.underlying46 Tryd.underlying5
    rw [← hM3] at h2
    rw [← m3] at h1
    exact ⟨cap, W1, h1, h2, h3⟩
  have HLN : Hid (∀ i, i < n → (refL l M3 i).length + (rfA (st.atS l i)).size ≤ 1099511627776 ∧ (refL l M3 i).length ≤ 1099511627776) := fun i hi => by
    have h1 := refL_len l M3 n hs i (by omega)
    have h2 := hs i hi
    have h3 := rfA_size (st.atS l i)
    omega
  have HSS : Hid (st.Ss w a n l) := hb
  have HSZ : Hid (∀ i, i < n → (st.atS l i).size ≤ 1048576) := hs
  clear hb hs hz0 hz1 il hTl hM3 hsz m3 hT
  rw [ho] at HK0 HC0
  have q1 : ¬ 9223372036854775807 < 5 + path.size := by omega
  have q2 : ¬ 9223372036854775807 < 5 + path.size + 5 := by omega
  have q3 : ¬ 9223372036854775807 < 5 + path.size + 5 + sum.size := by omega
  have q4 : ¬ 9223372036854775807 < 5 + path.size + 5 + sum.size + 6 := by omega
  have q5 : ¬ 9223372036854775807 < 5 + path.size + 5 + sum.size + 6 + T.size := by omega
  have q6 : ¬ 9223372036854775807 < 5 + path.size + 5 + sum.size + 6 + T.size + 1 := by omega
  go_enter Tryd.func20, Tryd.ntmps20
  go_wp2_with fail
  refine wp_region_held_drew (S := fun W => W.cell? ⟨w.heap.size, 0, none⟩ = some (.string path) ∧ W.cell? ⟨w.heap.size, 1, none⟩ = some (.string sum) ∧ W.cell? ⟨w.heap.size, 2, none⟩ = some (.int .i64 z)) (by kernel_rfl) (HK0.out _ HC0.out) (fun hHeld => ?_)
  refine wpAnyH_take (i := 0) (oi := ⟨some 5, .fieldAddr 28 (.tmp 1) 0, 0, "l16_cache.go:12", #[], none⟩) (v := ?v1) rfl (by kernel_rfl) (by kernel_rfl) (by kernel_rfl) (fun _ _ _ h => h) (Or.inl ⟨by rfl, ?hy1⟩) (by assumption) ?r1
  case hy1 => (intro w hSw; (try dsimp only at hSw); go_simp; try with_reducible rfl)
  try simp only [Act.put, List.setIfInBounds_toArray, List.set_cons_zero, List.set_cons_succ]
  refine wpAnyH_take (i := 1) (oi := ⟨some 6, .load 9 (.tmp 5), 9, "l16_cache.go:12", #[⟨0, .data⟩], none⟩) (v := ?v2) rfl (by kernel_rfl) (by kernel_rfl) (by kernel_rfl) (fun _ _ _ h => h) (Or.inl ⟨by rfl, ?hy2⟩) (by assumption) ?r2
  case hy2 => (intro w hSw; (try dsimp only at hSw); go_simp; try with_reducible rfl)
  try simp only [Act.put, List.setIfInBounds_toArray, List.set_cons_zero, List.set_cons_succ]
  refine wpAnyH_take (i := 2) (oi := ⟨some 7, .binOp .add 9 (.const (.string { data := #[112, 97, 116, 104, 32] })) (.tmp 6) 9, 9, "l16_cache.go:12", #[⟨1, .data⟩], none⟩) (v := ?v3) rfl (by kernel_rfl) (by kernel_rfl) (by kernel_rfl) (fun _ _ _ h => h) (Or.inl ⟨by rfl, ?hy3⟩) (by assumption) ?r3
  case hy3 => (intro w hSw; (try dsimp only at hSw); go_simp; try with_reducible rfl)
  try simp only [Act.put, List.setIfInBounds_toArray, List.set_cons_zero, List.set_cons_succ]
  refine wpAnyH_take (i := 3) (oi := ⟨some 8, .binOp .add 9 (.tmp 7) (.const (.string { data := #[10, 115, 117, 109, 32] })) 9, 9, "l16_cache.go:12", #[⟨2, .data⟩], none⟩) (v := ?v4) rfl (by kernel_rfl) (by kernel_rfl) (by kernel_rfl) (fun _ _ _ h => h) (Or.inl ⟨by rfl, ?hy4⟩) (by assumption) ?r4
  case hy4 => (intro w hSw; (try dsimp only at hSw); go_simp; try with_reducible rfl)
  try simp only [Act.put, List.setIfInBounds_toArray, List.set_cons_zero, List.set_cons_succ]
  refine wpAnyH_take (i := 4) (oi := ⟨some 9, .fieldAddr 28 (.tmp 1) 1, 0, "l16_cache.go:12", #[], none⟩) (v := ?v5) rfl (by kernel_rfl) (by kernel_rfl) (by kernel_rfl) (fun _ _ _ h => h) (Or.inl ⟨by rfl, ?hy5⟩) (by assumption) ?r5
  case hy5 => (intro w hSw; (try dsimp only at hSw); go_simp; try with_reducible rfl)
  try simp only [Act.put, List.setIfInBounds_toArray, List.set_cons_zero, List.set_cons_succ]
  refine wpAnyH_take (i := 5) (oi := ⟨some 10, .load 9 (.tmp 9), 9, "l16_cache.go:12", #[⟨4, .data⟩], none⟩) (v := ?v6) rfl (by kernel_rfl) (by kernel_rfl) (by kernel_rfl) (fun _ _ _ h => h) (Or.inl ⟨by rfl, ?hy6⟩) (by assumption) ?r6
  case hy6 => (intro w hSw; (try dsimp only at hSw); go_simp; try with_reducible rfl)
  try simp only [Act.put, List.setIfInBounds_toArray, List.set_cons_zero, List.set_cons_succ]
  refine wpAnyH_take (i := 6) (oi := ⟨some 11, .binOp .add 9 (.tmp 8) (.tmp 10) 9, 9, "l16_cache.go:12", #[⟨3, .data⟩, ⟨5, .data⟩], none⟩) (v := ?v7) rfl (by kernel_rfl) (by kernel_rfl) (by kernel_rfl) (fun _ _ _ h => h) (Or.inl ⟨by rfl, ?hy7⟩) (by assumption) ?r7
  case hy7 => (intro w hSw; (try dsimp only at hSw); go_simp; try with_reducible rfl)
  try simp only [Act.put, List.setIfInBounds_toArray, List.set_cons_zero, List.set_cons_succ]
  refine wpAnyH_take (i := 7) (oi := ⟨some 12, .binOp .add 9 (.tmp 11) (.const (.string { data := #[10, 115, 105, 122, 101, 32] })) 9, 9, "l16_cache.go:12", #[⟨6, .data⟩], none⟩) (v := ?v8) rfl (by kernel_rfl) (by kernel_rfl) (by kernel_rfl) (fun _ _ _ h => h) (Or.inl ⟨by rfl, ?hy8⟩) (by assumption) ?r8
  case hy8 => (intro w hSw; (try dsimp only at hSw); go_simp; try with_reducible rfl)
  try simp only [Act.put, List.setIfInBounds_toArray, List.set_cons_zero, List.set_cons_succ]
  refine wpAnyH_take (i := 8) (oi := ⟨some 13, .fieldAddr 28 (.tmp 1) 2, 0, "l16_cache.go:12", #[], none⟩) (v := ?v9) rfl (by kernel_rfl) (by kernel_rfl) (by kernel_rfl) (fun _ _ _ h => h) (Or.inl ⟨by rfl, ?hy9⟩) (by assumption) ?r9
  case hy9 => (intro w hSw; (try dsimp only at hSw); go_simp; try with_reducible rfl)
  try simp only [Act.put, List.setIfInBounds_toArray, List.set_cons_zero, List.set_cons_succ]
  refine wpAnyH_take (i := 9) (oi := ⟨some 14, .load 2 (.tmp 13), 2, "l16_cache.go:12", #[⟨8, .data⟩], none⟩) (v := ?v10) rfl (by kernel_rfl) (by kernel_rfl) (by kernel_rfl) (fun _ _ _ h => h) (Or.inl ⟨by rfl, ?hy10⟩) (by assumption) ?r10
  case hy10 => (intro w hSw; (try dsimp only at hSw); go_simp; try with_reducible rfl)
  try simp only [Act.put, List.setIfInBounds_toArray, List.set_cons_zero, List.set_cons_succ]
  refine wpAnyH_ready (rs := [10]) (by kernel_rfl) (by simp) ?_
  refine AllReadyH.cons (o := ⟨some 15, .call { callee := .value (.func 43), args := #[.tmp 14], argTypes := #[2] }, 9, "l16_cache.go:12", #[⟨9, .data⟩], none⟩) rfl (fun K hK => ?_) AllReadyH.nil
  go_simp
  go_at_call 43
  refine (HI.out _).mono ?_
  rintro e w2 ⟨rfl, hl2⟩
  have hb2 := HC0.out.trans (hl2.mono HC0.out.size)
  obtain ⟨cc, W1, hcv, hbf, hbw⟩ := HCV.out w2
  have hb3 := hb2.trans (hbw.mono hb2.size)
  try go_wp2_with fail
  refine hK.out _ _ (HK0.out _ hb2) (fun hHeld => ?_)
  clear hK K
  try simp only [Act.put, List.setIfInBounds_toArray, List.set_cons_zero, List.set_cons_succ]
  refine wpAnyH_take (i := 11) (oi := ⟨some 16, .binOp .add 9 (.tmp 12) (.tmp 15) 9, 9, "l16_cache.go:12", #[⟨7, .data⟩, ⟨10, .data⟩], none⟩) (v := ?v11) rfl (by kernel_rfl) (by kernel_rfl) (by kernel_rfl) (fun _ _ _ h => h) (Or.inl ⟨by rfl, ?hy11⟩) (by assumption) ?r11
  case hy11 => (intro w hSw; (try dsimp only at hSw); go_simp; try with_reducible rfl)
  try simp only [Act.put, List.setIfInBounds_toArray, List.set_cons_zero, List.set_cons_succ]
  refine wpAnyH_take (i := 12) (oi := ⟨some 17, .binOp .add 9 (.tmp 16) (.const (.string { data := #[10] })) 9, 9, "l16_cache.go:12", #[⟨11, .data⟩], none⟩) (v := ?v12) rfl (by kernel_rfl) (by kernel_rfl) (by kernel_rfl) (fun _ _ _ h => h) (Or.inl ⟨by rfl, ?hy12⟩) (by assumption) ?r12
  case hy12 => (intro w hSw; (try dsimp only at hSw); go_simp; try with_reducible rfl)
  try simp only [Act.put, List.setIfInBounds_toArray, List.set_cons_zero, List.set_cons_succ]
  refine wpAnyH_ready (rs := [13]) (by kernel_rfl) (by simp) ?_
  refine AllReadyH.cons (o := ⟨some 18, .convert 9 46 (.tmp 17), 46, "l16_cache.go:12", #[⟨12, .data⟩], none⟩) rfl (fun K hK => ?_) AllReadyH.nil
  go_simp
  skip
  try go_wp2_with fail
  refine hK.out _ _ (HK0.out _ hb3) (fun hHeld => ?_)
  clear hK K
  try simp only [Act.put, List.setIfInBounds_toArray, List.set_cons_zero, List.set_cons_succ]
  refine wpAnyH_take (i := 14) (oi := ⟨some 3, .assign (.tmp 18), 46, "l16_cache.go:12", #[⟨13, .data⟩, ⟨10, .chain⟩, ⟨0, .phase⟩, ⟨1, .phase⟩, ⟨2, .phase⟩, ⟨3, .phase⟩, ⟨4, .phase⟩, ⟨5, .phase⟩, ⟨6, .phase⟩, ⟨7, .phase⟩, ⟨8, .phase⟩, ⟨9, .phase⟩, ⟨10, .phase⟩, ⟨11, .phase⟩, ⟨12, .phase⟩, ⟨13, .phase⟩], none⟩) (v := ?v13) rfl (by kernel_rfl) (by kernel_rfl) (by kernel_rfl) (fun _ _ _ h => h) (Or.inl ⟨by rfl, ?hy13⟩) (by assumption) ?r13
  case hy13 => (intro w hSw; (try dsimp only at hSw); go_simp; try with_reducible rfl)
  try simp only [Act.put, List.setIfInBounds_toArray, List.set_cons_zero, List.set_cons_succ]
  refine wpAnyH_done (by kernel_rfl) ?_ _
  refine Lib.hid ?_
  rw [← ho] at hb3 hb2
  have C1 : Below (w.alloc o).heap.size (w.alloc o) W1 := hb3
  have HB1 : Hid (Bf (w.alloc o).heap.size W1 w2.heap.size cc M3) := Bf.down hbf hb2.size
  clear hbf hbw hb2 hb3 hcv hl2 HCV HI HK0 HC0 q1 q2 q3 q4 q5 q6
  go_wp2_with fail
  go_loopw [3, 4] (fun va vi wr => ∃ i g c zz : Nat, i ≤ n ∧ vi = .int .i64 (i : Int) ∧ va = .slice (some ⟨g, 0, none⟩) zz c ∧ zz = (refL l M3 i).length ∧ Bf (w.alloc o).heap.size wr g c (refL l M3 i) ∧ Below (w.alloc o).heap.size (w.alloc o) wr) (fun _ vi _ => n - (intOf vi).toNat)
  case atStart => exact ⟨0, w2.heap.size, cc, _, Nat.zero_le _, rfl, rfl, rfl, HB1.out, C1⟩
  case round =>
    clear HB1
    obtain ⟨i, g, c, zz, hi, rfl, rfl, rfl, hbf, C⟩ := hrel
    have B := HBW.out _ C
    obtain ⟨-, k3, k4, k5⟩ := HKC.out _ C
    by_cases hil : i < n
    · have hil' : (i : Int) < (n : Int) := by omega
      obtain ⟨b, off, rfl, hc⟩ : ∃ b off, a = some ⟨b, off, none⟩ ∧ ∀ j, j < n → w.cell? ⟨b, off + j, none⟩ = some (.string (st.atS l j)) := by
        rcases HSS.out with h | ⟨b, off, e, h⟩
        · omega
        · exact ⟨b, off, e, h⟩
      have kk : wr.cell? ⟨b, off + i, none⟩ = some (.string (st.atS l i)) := (B.cell (World.block_lt_of_cell? _ _ (hc i hil))).trans (hc i hil)
      have hx1 := HSZ.out i hil
      obtain ⟨hL1, hL2⟩ := HLN.out i hil
      have HRF : Hid (refL l M3 i ++ (rfA (st.atS l i)).data.toList = refL l M3 (i + 1)) := rfA_is _ _
      obtain ⟨x, hx⟩ : ∃ x, st.atS l i = x := ⟨_, rfl⟩
      rw [hx] at kk hx1 hL1 HRF
      have HBF : Hid (Bf (w.alloc o).heap.size wr g c (refL l M3 i)) := hbf
      have HLE : Hid ((refL l M3 i).length + (rfA x).size ≤ 1099511627776) := hL1
      have q1 : ¬ 9223372036854775807 < 4 + x.size := by omega
      have q2 : ¬ 9223372036854775807 < 4 + x.size + 1 := by omega
      have HLZ : Hid ((refL l M3 i).length + (rfA x).size = (refL l M3 (i + 1)).length) := by
        have h := congrArg List.length HRF.out
        show _ = _
        rw [← h, List.length_append]
        simp
      clear hx hc hbf hL1 hL2 HLN HSZ
      go_wp2_with (first
        | (at_builtin; refine bf.app_text _ rfl _ _ 46 9 rfl 5 Tryd.underlying46 Tryd.underlying9 info5 rfl rfl (rfA x) rfl HBF.out HLE.out ?_)
        | go_in)
      intro g1 c1 wa n1 hn1 hap1
      have hn2 := hn1.out
      have hbf1 := hap1.bf
      rw [HRF.out] at hbf1
      have C1 := C.grown hap1.grown C.size (fun k hk => by cases hk; exact HBF.out.new)
      have HB8 : Hid (Bf (w.alloc o).heap.size wa g1 c1 (refL l M3 (i + 1))) := Bf.down hbf1 (by simp)
      have HZ8 : Hid (n1 = (refL l M3 (i + 1)).length) := hn2.trans HLZ.out
      clear hap1 hn1 hn2 hbf1 HBF
      go_wp2
      go_roundw
      case rel => exact ⟨i + 1, g1, c1, _, by omega, by go_num, rfl, HZ8.out, HB8.out, C1⟩
      case measure => simp [intOf]; omega
    · obtain rfl : i = n := by omega
      have hcv := conv_back hbf
      clear hbf
      go_wp2
      go_ret
      exact ⟨by rw [HHL.out]; rfl, B⟩

end Go.Proofs.YtheponigjofknaaDoor.mt
