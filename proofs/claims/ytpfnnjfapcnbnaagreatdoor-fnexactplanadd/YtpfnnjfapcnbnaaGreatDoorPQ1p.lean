import Derived.Test.YtpfnnjfapcnbnaaGreatDoorIC1p
import Derived.Test.YtpfnnjfapcnbnaaGreatDoorYHp
set_option linter.unusedVariables false
set_option linter.unusedSimpArgs false
set_option maxRecDepth 100000
set_option maxHeartbeats 16000000
namespace Go.Proofs.YtpfnnjfapcnbnaaGreatDoor.so
open Go.ChangeShapes Go.WideShapes Go.ChangeAt Go.RowKit Go.Deep Go.Shelf Go.Maps
theorem cloned_nil (c : Nat) (w : World) :
  Calls Tryz.prog 127 #[.slice none 0 c] w fun e w' => (∃ g d, e = .returned (.slice (some ⟨g, 0, none⟩) 0 d) ∧ ty.GEt w.heap.size w'.heap.size w' (some ⟨g, 0, none⟩) []) ∧ Below w.heap.size w w' := by
 obtain ⟨M, hM⟩ : ∃ M, M = madeCells (Value.agg #[.string ⟨#[]⟩, .int .i64 0, .string ⟨#[]⟩, .bool false]).cells (0 * 4) := ⟨_, rfl⟩
 have hMs : M.size = 0 := by rw [hM, size_madeCells]
 have hmk : (Instr.makeSlice 45 (.int .i64 0) (.int .i64 0)).run Tryz.prog w = .ok (.slice (some ⟨w.heap.size, 0, none⟩) 0 0) (w.alloc (.cells M 96)) := by
  rw [hM]
  exact make0I (P := Tryz.prog) 45 96 (.agg #[.string ⟨#[]⟩, .int .i64 0, .string ⟨#[]⟩, .bool false]) 4 _ Tryz.underlying45 tt.infoE 0 (by omega) (by omega) w
 have hr := World.rowIs_alloc w M 96 (fun _ => undef) (fun i hi => by rw [hMs] at hi; omega)
 have HG : Hid (ty.GEt w.heap.size (w.alloc (.cells M 96)).heap.size (w.alloc (.cells M 96)) (some ⟨w.heap.size, 0, none⟩) []) := ⟨w.heap.size, 0, _, _, _, fun _ => 0, fun _ => 0, rfl, Nat.le_refl _, hr.lt, hr, by simp, fun i x hx => by simp at hx, fun i j _ hj => by simp at hj⟩
 have HB : Hid (Below w.heap.size w (w.alloc (.cells M 96))) := (Below.refl _ _).alloc (Nat.le_refl _) _
 clear hr hM hMs
 go_enter Tryz.func127, Tryz.ntmps127
 go_wp2
 go_loopw [3, 5, 11] (fun v _ x wr => x = .int .i64 0 ∧ v = .slice (some ⟨w.heap.size, 0, none⟩) 0 0 ∧ wr = w.alloc (.cells M 96)) (fun _ _ _ _ => 0)
 case atStart => exact ⟨rfl, rfl, rfl⟩
 case round =>
  obtain ⟨rfl, rfl, rfl⟩ := hrel
  go_wp2
  go_ret
  exact ⟨⟨_, _, rfl, HG.out⟩, HB.out⟩
structure Wz where
 x : ty.Wr
 a3 : Option Addr
 c3 : Nat
 s3 : Nat
 e3 : Nat
instance : Inhabited Wz := ⟨⟨⟨0, ⟨#[]⟩, ⟨#[]⟩, [], ⟨#[]⟩, 0⟩, none, 0, 0, 0⟩⟩
def wzC (z : Wz) : List Value := [.int .i64 z.x.fKind, .string z.x.fName, .string z.x.fPath, .slice z.a3 z.x.fTree.length z.c3, .string z.x.fFrom, .int .i64 z.x.fN]
def wrC : List Wz → List Value
 | [] => []
 | z :: l => wzC z ++ wrC l
theorem wrC_app : ∀ l m : List Wz, wrC (l ++ m) = wrC l ++ wrC m
 | [], m => rfl
 | z :: l, m => by rw [List.cons_append, wrC, wrC, wrC_app l m, List.append_assoc]
theorem wrC_at : ∀ {l : List Wz} {i : Nat} {z : Wz}, l[i]? = some z → ∀ r, r < 6 → (wrC l)[i * 6 + r]? = (wzC z)[r]?
 | y :: l, 0, z, h, r, hr => by
  cases h
  rw [wrC, Nat.zero_mul, Nat.zero_add, List.getElem?_append_left (by show r < 6; exact hr)]
 | y :: l, i + 1, z, h, r, hr => by
  rw [wrC, List.getElem?_append_right (by show 6 ≤ _; omega)]
  have : (i + 1) * 6 + r - (wzC y).length = i * 6 + r := by show (i + 1) * 6 + r - 6 = _; omega
  rw [this]
  exact wrC_at (l := l) (by simpa using h) r hr
theorem wzC_one (z : Wz) : ∀ u ∈ wzC z, u.oneCell' = true := by
 intro u hu
 simp only [wzC, List.mem_cons, List.not_mem_nil, or_false] at hu
 rcases hu with rfl | rfl | rfl | rfl | rfl | rfl <;> rfl
structure OkW (B : Nat) (w : World) (z : Wz) : Prop where
 g3 : ty.GEt z.s3 z.e3 w z.a3 z.x.fTree
 lo : B < z.s3
 hi : z.e3 ≤ w.heap.size
theorem OkW.kept {B : Nat} {w w' : World} {z : Wz} (h : OkW B w z) (hk : ∀ p, B < p → p < w.heap.size → w'.heap[p]? = w.heap[p]?) (hs : w.heap.size ≤ w'.heap.size) : OkW B w' z := by
 have q4 := ge_lt h.g3; have h1 := h.lo; have h3 := h.hi
 exact ⟨h.g3.kept fun p p1 p2 => hk p (by omega) (by omega), h.lo, by omega⟩
theorem OkW.below {B : Nat} {w w' : World} {z : Wz} (h : OkW B w z) (hb : Below w.heap.size w w') : OkW B w' z := h.kept (fun p _ hp => hb.block p hp) hb.size
def RdN (w : World) (a : Option Addr) (l : List ty.Et) : Prop := (a = none ∧ l = []) ∨ RdE w a l
theorem RdN.below {w w' : World} {a : Option Addr} {l : List ty.Et} (h : RdN w a l) (hb : Below w.heap.size w w') : RdN w' a l := h.imp id fun h => h.below hb
def RdK (w : World) (a : Option Addr) (l : List ty.Wr) : Prop := ∀ (i : Nat) (x : ty.Wr), l[i]? = some x → ∃ b o a3 c3, a = some ⟨b, o, none⟩ ∧ (w.cell? ⟨b, o + i * 6, none⟩ = some (.int .i64 x.fKind) ∧ w.cell? ⟨b, o + i * 6 + 1, none⟩ = some (.string x.fName) ∧ w.cell? ⟨b, o + i * 6 + 2, none⟩ = some (.string x.fPath) ∧ w.cell? ⟨b, o + i * 6 + 3, none⟩ = some (.slice a3 x.fTree.length c3) ∧ w.cell? ⟨b, o + i * 6 + 4, none⟩ = some (.string x.fFrom) ∧ w.cell? ⟨b, o + i * 6 + 5, none⟩ = some (.int .i64 x.fN)) ∧ RdN w a3 x.fTree
theorem RdK.below {w w' : World} {a : Option Addr} {l : List ty.Wr} (h : RdK w a l) (hb : Below w.heap.size w w') : RdK w' a l := fun i x hx => by
 obtain ⟨b, o, a3, c3, e, ⟨q0, q1, q2, q3, q4, q5⟩, s3⟩ := h i x hx
 have hl := World.block_lt_of_cell? _ _ q0
 have k : ∀ {p v}, w.cell? ⟨b, p, none⟩ = some v → w'.cell? ⟨b, p, none⟩ = some v := fun {p v} h => (hb.cell (p := ⟨b, p, none⟩) hl).trans h
 exact ⟨b, o, a3, c3, e, ⟨k q0, k q1, k q2, k q3, k q4, k q5⟩, s3.below hb⟩
def BdW (x : ty.Wr) : Prop := x.fName.size ≤ 1048576 ∧ x.fPath.size ≤ 1048576 ∧ x.fFrom.size ≤ 1048576 ∧ ty.wtEt x.fTree ≤ 1048576
theorem infoWr : (Tryz.prog.info? 107).map (fun i => (i.zero, i.size, i.bytes)) = some (some (.agg #[.int .i64 0, .string ⟨#[]⟩, .string ⟨#[]⟩, .slice none 0 0, .string ⟨#[]⟩, .int .i64 0]), 6, 88) := by kernel_rfl
theorem made_ownW (w : World) (n : Nat) (hn : n ≤ maxLen) (M : Array Value) (hM : M.size = n * 6) (t : TypeId) : (w.alloc (.cells M t)).ownsRow w.heap.size t 6 (.slice (some ⟨w.heap.size, 0, none⟩) 0 n) 0 [] :=
 ⟨by simp, .inr ⟨w.heap.size, n, M, rfl, Nat.le_refl _, heap_alloc_new w _, Nat.zero_le _, hn, hM, by simp⟩⟩
theorem tree_cl {w : World} {a : Option Addr} {c : Nat} {l : List ty.Et} (h : RdN w a l) (hw : ty.wtEt l ≤ 1048576) :
  Calls Tryz.prog 127 #[.slice a l.length c] w fun e w' => (∃ g d, e = .returned (.slice (some ⟨g, 0, none⟩) l.length d) ∧ ty.GEt w.heap.size w'.heap.size w' (some ⟨g, 0, none⟩) l) ∧ Below w.heap.size w w' := by
 rcases h with ⟨rfl, rfl⟩ | ⟨b, o, rfl, hc⟩
 ·exact cloned_nil c w
 ·have hl4 := ty.wtEt_len l
  refine (tt.cloned_any (enT l) b o l.length c w (src_enr hc) (small_enr hw) (by omega)).mono ?_
  rintro e w' ⟨⟨v, rfl, ho, hv⟩, hl⟩
  obtain ⟨g, d, rfl, hg⟩ := ge_of ho hv
  exact ⟨⟨g, d, rfl, hg⟩, hl⟩
theorem same_row {W : World} {b n : Nat} {t : TypeId} {f : Nat → Value} (h : W.rowIs b t n f) (k : Nat) (v : Value) (hv : f k = v) : (W.setCell ⟨b, k, none⟩ v).rowIs b t n f :=
 (h.set k v).congr fun i hi => by
  by_cases e : i = k
  ·simp [e, hv]
  ·simp [e]
theorem clonedW_bd (a : Option Addr) (cap : Nat) (l : List ty.Wr) (w : World) (hb : RdK w a l) (hn : l.length ≤ 1048576) (hB : ∀ x ∈ l, BdW x) :
  Calls Tryz.prog 68 #[.slice a l.length cap] w fun e w' => (e = .returned (.slice (some ⟨w.heap.size, 0, none⟩) l.length l.length) ∧ ty.GWr w.heap.size w'.heap.size w' (some ⟨w.heap.size, 0, none⟩) l) ∧ Below w.heap.size w w' := by
 have HSR : Hid (RdK w a l) := hb
 have HWT : Hid (∀ x ∈ l, BdW x) := hB
 obtain ⟨n, hnn⟩ : ∃ n, l.length = n := ⟨_, rfl⟩
 have HNN : Hid (l.length = n) := hnn
 rw [hnn] at hn ⊢
 clear hnn hb hB
 have hmk := make0I (P := Tryz.prog) 52 107 (.agg #[.int .i64 0, .string ⟨#[]⟩, .string ⟨#[]⟩, .slice none 0 0, .string ⟨#[]⟩, .int .i64 0]) 6 88 Tryz.underlying52 infoWr n (by omega) (by omega)
 have HO0 : Hid ((w.alloc (.cells (madeCells (Value.agg #[.int .i64 0, .string ⟨#[]⟩, .string ⟨#[]⟩, .slice none 0 0, .string ⟨#[]⟩, .int .i64 0]).cells (n * 6)) 107)).ownsRow w.heap.size 107 6 (.slice (some ⟨w.heap.size, 0, none⟩) 0 n) 0 (wrC [])) := made_ownW w n (by unfold maxLen; omega) _ (size_madeCells _ _) _
 go_enter Tryz.func68, Tryz.ntmps68
 go_wp2
 clear hmk
 go_loopw [3, 5, 11] (fun v _ y wr => ∃ (i : Nat) (zs : List Wz), i ≤ n ∧ y = .int .i64 (i : Int) ∧ v = .slice (some ⟨w.heap.size, 0, none⟩) i n ∧ zs.map Wz.x = l.take i ∧ (∀ (j : Nat) (z : Wz), zs[j]? = some z → OkW w.heap.size wr z) ∧ (∀ (p q : Nat) (z z' : Wz), p < q → zs[p]? = some z → zs[q]? = some z' → z.e3 ≤ z'.s3) ∧ wr.ownsRow w.heap.size 107 6 (.slice (some ⟨w.heap.size, 0, none⟩) i n) i (wrC zs) ∧ Below w.heap.size w wr) (fun _ _ y _ => n - (intOf y).toNat)
 case atStart => exact ⟨0, [], Nat.zero_le _, rfl, rfl, by simp, fun j z h => by simp at h, fun p q z z' _ h => by simp at h, HO0.out, (Below.refl _ _).alloc (Nat.le_refl _) _⟩
 case round =>
  obtain ⟨i, zs, hi, rfl, rfl, hmap, hok, hdis, hown, hbel⟩ := hrel
  have HBE : Hid (Below w.heap.size w wr) := hbel
  have HMA : Hid (zs.map Wz.x = l.take i) := hmap
  have HOK : Hid (∀ (j : Nat) (z : Wz), zs[j]? = some z → OkW w.heap.size wr z) := hok
  have HDI : Hid (∀ (p q : Nat) (z z' : Wz), p < q → zs[p]? = some z → zs[q]? = some z' → z.e3 ≤ z'.s3) := hdis
  have HOW : Hid (wr.ownsRow w.heap.size 107 6 (.slice (some ⟨w.heap.size, 0, none⟩) i n) i (wrC zs)) := hown
  have HLW : Hid (w.heap.size < wr.heap.size) := by obtain ⟨⟨f, hr⟩, _⟩ := own_cells' hown; exact hr.lt
  clear hmap hok hdis hown
  by_cases hil : i < n
  ·have hil' : (i : Int) < (n : Int) := by omega
   have hi0' : (0 : Int) ≤ (i : Int) := by omega
   obtain ⟨x, hx⟩ : ∃ x, l[i]? = some x := ⟨_, List.getElem?_eq_getElem (by rw [HNN.out]; exact hil)⟩
   obtain ⟨b, o, a3, c3, rfl, ⟨q0, q1, q2, q3, q4, q5⟩, s3⟩ := HSR.out.below hbel i x hx
   obtain ⟨p1, p2, p4, p3⟩ := HWT.out x (List.mem_of_getElem? hx)
   have HMX : Hid (∀ z : Wz, z.x = x → (zs ++ [z]).map Wz.x = l.take (i + 1)) := fun z hz => by rw [List.map_append, HMA.out, List.take_add_one, hx, List.map_cons, hz]; rfl
   have HCE : Hid (∀ W, Below wr.heap.size wr W → Calls Tryz.prog 127 #[.slice a3 x.fTree.length c3] W fun e w' => (∃ g d, e = .returned (.slice (some ⟨g, 0, none⟩) x.fTree.length d) ∧ ty.GEt W.heap.size w'.heap.size w' (some ⟨g, 0, none⟩) x.fTree) ∧ Below W.heap.size W w') := fun W h => tree_cl (s3.below h) p3
   have HCL : Hid (∀ (A : ByteArray) (W : World), A.size ≤ 1048576 → Calls Tryz.prog 126 #[.string A] W fun e w' => e = .returned (.string A) ∧ Below W.heap.size W w') := fun A W h => cl.clone_any A W (by omega)
   have HWC : Hid (∀ z : Wz, z.x = x → wzC z = [.int .i64 x.fKind, .string x.fName, .string x.fPath, .slice z.a3 x.fTree.length z.c3, .string x.fFrom, .int .i64 x.fN]) := fun z h => by subst h; rfl
   obtain ⟨A0, hA0⟩ : ∃ P, x.fKind = P := ⟨_, rfl⟩
   obtain ⟨A1, hA1⟩ : ∃ P, x.fName = P := ⟨_, rfl⟩
   obtain ⟨A2, hA2⟩ : ∃ P, x.fPath = P := ⟨_, rfl⟩
   obtain ⟨A4, hA4⟩ : ∃ P, x.fFrom = P := ⟨_, rfl⟩
   obtain ⟨A5, hA5⟩ : ∃ P, x.fN = P := ⟨_, rfl⟩
   obtain ⟨n3, hn3⟩ : ∃ P, x.fTree.length = P := ⟨_, rfl⟩
   rw [hA0] at q0 HWC
   rw [hA1] at q1 p1 HWC
   rw [hA2] at q2 p2 HWC
   rw [hA4] at q4 p4 HWC
   rw [hA5] at q5 HWC
   rw [hn3] at q3 HCE HWC
   clear hA0 hA1 hA2 hA4 hA5 hn3 hx s3 hbel p3
   have HBX : Hid (∀ W, Below (wr.heap.size + 1) (wr.alloc (.cells #[.int .i64 A0, .string A1, .string A2, .slice a3 n3 c3, .string A4, .int .i64 A5] 107)) W → W.rowIs wr.heap.size 107 6 (fun j => (#[.int .i64 A0, .string A1, .string A2, .slice a3 n3 c3, .string A4, .int .i64 A5] : Array Value)[j]!)) := fun W hW => by
    refine World.rowIs.of_block (w := wr.alloc (.cells #[.int .i64 A0, .string A1, .string A2, .slice a3 n3 c3, .string A4, .int .i64 A5] 107)) ?_ (hW.block _ (by omega))
    have := World.rowIs_alloc wr #[.int .i64 A0, .string A1, .string A2, .slice a3 n3 c3, .string A4, .int .i64 A5] 107 (fun j => (#[.int .i64 A0, .string A1, .string A2, .slice a3 n3 c3, .string A4, .int .i64 A5] : Array Value)[j]!) (fun i hi => by
     simp only [List.size_toArray, List.length_cons, List.length_nil] at hi
     rw [Array.getElem?_eq_getElem (by simpa using hi)]
     simp [getElem!_pos, hi])
    simpa using this
   have HD0 : Hid (∀ w1, Below (wr.alloc (.cells #[.int .i64 A0, .string A1, .string A2, .slice a3 n3 c3, .string A4, .int .i64 A5] 107)).drew.heap.size (wr.alloc (.cells #[.int .i64 A0, .string A1, .string A2, .slice a3 n3 c3, .string A4, .int .i64 A5] 107)).drew w1 → Below (wr.heap.size + 1) (wr.alloc (.cells #[.int .i64 A0, .string A1, .string A2, .slice a3 n3 c3, .string A4, .int .i64 A5] 107)) w1) := fun w1 h => by
    have h2 : (wr.alloc (.cells #[.int .i64 A0, .string A1, .string A2, .slice a3 n3 c3, .string A4, .int .i64 A5] 107)).drew.heap.size = wr.heap.size + 1 := by simp
    rw [h2] at h
    exact ((Below.refl _ _).drew).trans h
   have HS6 : Hid (∀ W : World, W.rowIs wr.heap.size 107 6 (fun j => (#[.int .i64 A0, .string A1, .string A2, .slice a3 n3 c3, .string A4, .int .i64 A5] : Array Value)[j]!) → W.cell? ⟨wr.heap.size, 0, none⟩ = some (.int .i64 A0) ∧ W.cell? ⟨wr.heap.size, 1, none⟩ = some (.string A1) ∧ W.cell? ⟨wr.heap.size, 2, none⟩ = some (.string A2) ∧ W.cell? ⟨wr.heap.size, 3, none⟩ = some (.slice a3 n3 c3) ∧ W.cell? ⟨wr.heap.size, 4, none⟩ = some (.string A4) ∧ W.cell? ⟨wr.heap.size, 5, none⟩ = some (.int .i64 A5)) := fun W hr => ⟨hr.cell (i := 0) (by omega), hr.cell (i := 1) (by omega), hr.cell (i := 2) (by omega), hr.cell (i := 3) (by omega), hr.cell (i := 4) (by omega), hr.cell (i := 5) (by omega)⟩
   have HC6 : Hid (∀ W, Below (wr.heap.size + 1) (wr.alloc (.cells #[.int .i64 A0, .string A1, .string A2, .slice a3 n3 c3, .string A4, .int .i64 A5] 107)) W → W.cell? ⟨wr.heap.size, 0, none⟩ = some (.int .i64 A0) ∧ W.cell? ⟨wr.heap.size, 1, none⟩ = some (.string A1) ∧ W.cell? ⟨wr.heap.size, 2, none⟩ = some (.string A2) ∧ W.cell? ⟨wr.heap.size, 3, none⟩ = some (.slice a3 n3 c3) ∧ W.cell? ⟨wr.heap.size, 4, none⟩ = some (.string A4) ∧ W.cell? ⟨wr.heap.size, 5, none⟩ = some (.int .i64 A5)) := fun W hW => by
    have hr := HBX.out W hW
    exact ⟨hr.cell (i := 0) (by omega), hr.cell (i := 1) (by omega), hr.cell (i := 2) (by omega), hr.cell (i := 3) (by omega), hr.cell (i := 4) (by omega), hr.cell (i := 5) (by omega)⟩
   have X0 := HC6.out _ (Below.refl _ _)
   have HSZ : Hid (∀ W, Below (wr.heap.size + 1) (wr.alloc (.cells #[.int .i64 A0, .string A1, .string A2, .slice a3 n3 c3, .string A4, .int .i64 A5] 107)) W → wr.heap.size + 1 ≤ W.heap.size) := fun W h => Nat.le_trans (Nat.le_of_eq (World.size_alloc _ _).symm) h.size
   go_wp2_with fail
   clear q0 q1 q2 q3 q4 q5
   go_region_held3 (fun W => W.cell? ⟨wr.heap.size, 0, none⟩ = some (.int .i64 A0) ∧ W.cell? ⟨wr.heap.size, 1, none⟩ = some (.string A1) ∧ W.cell? ⟨wr.heap.size, 2, none⟩ = some (.string A2) ∧ W.cell? ⟨wr.heap.size, 3, none⟩ = some (.slice a3 n3 c3) ∧ W.cell? ⟨wr.heap.size, 4, none⟩ = some (.string A4) ∧ W.cell? ⟨wr.heap.size, 5, none⟩ = some (.int .i64 A5))
    (first | exact HS6.out _ (same_row (same_row (same_row hrx 1 _ rfl) 2 _ rfl) 4 _ rfl) | exact HS6.out _ (same_row (same_row hrx 1 _ rfl) 2 _ rfl) | exact HS6.out _ (same_row hrx 1 _ rfl) | exact HC6.out _ hb3 | exact HC6.out _ hb2 | exact HC6.out _ hb1 | go_keep | exact X0)
    (first
     | ((go_at_call 126; refine (HCL.out _ _ (by assumption)).mono ?_; rintro e w3 ⟨rfl, hl3⟩; have hb3 : Below (wr.heap.size + 1) (wr.alloc (.cells #[.int .i64 A0, .string A1, .string A2, .slice a3 n3 c3, .string A4, .int .i64 A5] 107)) w3 := hb2.trans (hl3.mono (HSZ.out _ hb2)); have hrx := HBX.out w3 hb3; have hf1 := hrx.frozen 1; have hf2 := hrx.frozen 2; have hf4 := hrx.frozen 4))
     | ((go_at_call 126; refine (HCL.out _ _ (by assumption)).mono ?_; rintro e w2 ⟨rfl, hl2⟩; have hb2 : Below (wr.heap.size + 1) (wr.alloc (.cells #[.int .i64 A0, .string A1, .string A2, .slice a3 n3 c3, .string A4, .int .i64 A5] 107)) w2 := hb1.trans (hl2.mono (HSZ.out _ hb1))))
     | ((go_at_call 126; refine (HCL.out _ _ (by assumption)).mono ?_; rintro e w1 ⟨rfl, hl1⟩; have hb1 := HD0.out _ hl1)))
   have HR3 : Hid ((((w3.setCell ⟨wr.heap.size, 1, none⟩ (.string A1)).setCell ⟨wr.heap.size, 2, none⟩ (.string A2)).setCell ⟨wr.heap.size, 4, none⟩ (.string A4)).rowIs wr.heap.size 107 6 (fun j => (#[.int .i64 A0, .string A1, .string A2, .slice a3 n3 c3, .string A4, .int .i64 A5] : Array Value)[j]!)) := same_row (same_row (same_row hrx 1 _ rfl) 2 _ rfl) 4 _ rfl
   have HB3 : Hid (Below wr.heap.size wr (((w3.setCell ⟨wr.heap.size, 1, none⟩ (.string A1)).setCell ⟨wr.heap.size, 2, none⟩ (.string A2)).setCell ⟨wr.heap.size, 4, none⟩ (.string A4))) := (((((Below.refl _ _).alloc (Nat.le_refl _) _).trans (hb3.mono (Nat.le_succ _))).setCell (p := ⟨wr.heap.size, 1, none⟩) (Nat.le_refl _) _).setCell (p := ⟨wr.heap.size, 2, none⟩) (Nat.le_refl _) _).setCell (p := ⟨wr.heap.size, 4, none⟩) (Nat.le_refl _) _
   obtain ⟨W3, hW3⟩ : ∃ W, W = (((w3.setCell ⟨wr.heap.size, 1, none⟩ (.string A1)).setCell ⟨wr.heap.size, 2, none⟩ (.string A2)).setCell ⟨wr.heap.size, 4, none⟩ (.string A4)) := ⟨_, rfl⟩
   have HW3 : Hid (W3 = (((w3.setCell ⟨wr.heap.size, 1, none⟩ (.string A1)).setCell ⟨wr.heap.size, 2, none⟩ (.string A2)).setCell ⟨wr.heap.size, 4, none⟩ (.string A4))) := hW3
   rw [← hW3] at HR3 HB3
   have HCE3 := Lib.hid (HCE.out W3 HB3.out)
   rw [hW3] at HCE3
   clear hW3
   go_wp2_with (go_at_call 127; refine (HCE3.out).mono ?_; rintro e w4 ⟨⟨g, d, rfl, hg4⟩, hl4⟩; refine Hid.out ?_)
   refine Lib.hid ?_
   rw [← HW3.out] at hg4 hl4
   have HG4 : Hid (ty.GEt W3.heap.size w4.heap.size w4 (some ⟨g, 0, none⟩) x.fTree) := hg4
   have HL4 : Hid (Below W3.heap.size W3 w4) := hl4
   have HZ3 : Hid (wr.heap.size < W3.heap.size) := HR3.out.lt
   have hR4 := World.rowIs.of_block HR3.out (hl4.block _ HZ3.out)
   have hf3 := hR4.frozen 3
   have hc3 := hR4.cell (i := 3) (by omega)
   have hR5 := hR4.set 3 (.slice (some ⟨g, 0, none⟩) n3 d)
   have t0 : (w4.setCell ⟨wr.heap.size, 3, none⟩ (.slice (some ⟨g, 0, none⟩) n3 d)).cell? ⟨wr.heap.size, 0, none⟩ = some (.int .i64 A0) := hR5.cell (i := 0) (by omega)
   have t1 : (w4.setCell ⟨wr.heap.size, 3, none⟩ (.slice (some ⟨g, 0, none⟩) n3 d)).cell? ⟨wr.heap.size, 1, none⟩ = some (.string A1) := hR5.cell (i := 1) (by omega)
   have t2 : (w4.setCell ⟨wr.heap.size, 3, none⟩ (.slice (some ⟨g, 0, none⟩) n3 d)).cell? ⟨wr.heap.size, 2, none⟩ = some (.string A2) := hR5.cell (i := 2) (by omega)
   have t3 : (w4.setCell ⟨wr.heap.size, 3, none⟩ (.slice (some ⟨g, 0, none⟩) n3 d)).cell? ⟨wr.heap.size, 3, none⟩ = some (.slice (some ⟨g, 0, none⟩) n3 d) := hR5.cell (i := 3) (by omega)
   have t4 : (w4.setCell ⟨wr.heap.size, 3, none⟩ (.slice (some ⟨g, 0, none⟩) n3 d)).cell? ⟨wr.heap.size, 4, none⟩ = some (.string A4) := hR5.cell (i := 4) (by omega)
   have t5 : (w4.setCell ⟨wr.heap.size, 3, none⟩ (.slice (some ⟨g, 0, none⟩) n3 d)).cell? ⟨wr.heap.size, 5, none⟩ = some (.int .i64 A5) := hR5.cell (i := 5) (by omega)
   have HL5 : Hid (Below wr.heap.size wr (w4.setCell ⟨wr.heap.size, 3, none⟩ (.slice (some ⟨g, 0, none⟩) n3 d))) := (HB3.out.trans (hl4.mono HB3.out.size)).setCell (p := ⟨wr.heap.size, 3, none⟩) (Nat.le_refl _) _
   have HG5 : Hid (ty.GEt W3.heap.size w4.heap.size (w4.setCell ⟨wr.heap.size, 3, none⟩ (.slice (some ⟨g, 0, none⟩) n3 d)) (some ⟨g, 0, none⟩) x.fTree) := hg4.kept fun p p1 p2 => ty.sb (by have := HZ3.out; omega)
   have HS5 : Hid (w4.heap.size = (w4.setCell ⟨wr.heap.size, 3, none⟩ (.slice (some ⟨g, 0, none⟩) n3 d)).heap.size) := by show _ = _; simp [World.setCell]
   obtain ⟨z, hz⟩ : ∃ z : Wz, z = ⟨x, some ⟨g, 0, none⟩, d, W3.heap.size, w4.heap.size⟩ := ⟨_, rfl⟩
   have HZ : Hid (z.x = x ∧ wzC z = [.int .i64 A0, .string A1, .string A2, .slice (some ⟨g, 0, none⟩) n3 d, .string A4, .int .i64 A5] ∧ OkW w.heap.size (w4.setCell ⟨wr.heap.size, 3, none⟩ (.slice (some ⟨g, 0, none⟩) n3 d)) z ∧ wr.heap.size ≤ z.s3) := by
    subst hz
    have h1 := HLW.out
    have h2 := HZ3.out
    exact ⟨rfl, HWC.out _ rfl, ⟨HG5.out, by show w.heap.size < W3.heap.size; omega, by show w4.heap.size ≤ _; rw [← HS5.out]; exact Nat.le_refl _⟩, by show wr.heap.size ≤ W3.heap.size; omega⟩
   obtain ⟨ii, hii, hizz⟩ := Option.map_eq_some_iff.1 infoWr
   simp only [Prod.mk.injEq] at hizz
   obtain ⟨-, his, -⟩ := hizz
   obtain ⟨W2, hW2⟩ : ∃ W2, W2 = (w4.setCell ⟨wr.heap.size, 3, none⟩ (.slice (some ⟨g, 0, none⟩) n3 d)).alloc (.cells #[.int .i64 A0, .string A1, .string A2, .slice (some ⟨g, 0, none⟩) n3 d, .string A4, .int .i64 A5] 107) := ⟨_, rfl⟩
   have HW2 : Hid (W2 = (w4.setCell ⟨wr.heap.size, 3, none⟩ (.slice (some ⟨g, 0, none⟩) n3 d)).alloc (.cells #[.int .i64 A0, .string A1, .string A2, .slice (some ⟨g, 0, none⟩) n3 d, .string A4, .int .i64 A5] 107)) := hW2
   have HB2 : Hid (Below (w4.setCell ⟨wr.heap.size, 3, none⟩ (.slice (some ⟨g, 0, none⟩) n3 d)).heap.size (w4.setCell ⟨wr.heap.size, 3, none⟩ (.slice (some ⟨g, 0, none⟩) n3 d)) W2) := by show Below _ _ _; rw [hW2]; exact (Below.refl _ _).alloc (Nat.le_refl _) _
   have HL2 : Hid (Below wr.heap.size wr W2) := HL5.out.trans (HB2.out.mono HL5.out.size)
   have HO2 : Hid (W2.ownsRow w.heap.size 107 6 (.slice (some ⟨w.heap.size, 0, none⟩) i n) i (wrC zs)) := own_belowI HOW.out HL2.out
   have HNW : Hid (∀ j u, (wzC z)[j]? = some u → W2.cell? ((⟨w4.heap.size, 0, none⟩ : Addr).add j) = some u) := by
    show ∀ j u, _ → _
    rw [hW2, HZ.out.2.1]
    exact cells_newI _ _ HS5.out _ _
   have HLE : Hid ((wzC z).length = 1 * 6) := rfl
   clear hW2 hz hg4 hl4 hR4 hR5 hb1 hb2 hb3 hl1 hl2 hl3 hrx hf1 hf2 hf4 X0
   go_wp2_with (first
    | (at_builtin; refine wpList_append_own_spare _ rfl _ _ 52 rfl w.heap.size 107 ii 6 Tryz.underlying52 hii his w.heap.size i n (wrC zs) rfl (by rw [← HW2.out]; exact HO2.out) ⟨w4.heap.size, 0, none⟩ 1 1 (wzC z) rfl HLE.out (by rw [← HW2.out]; exact HNW.out) (wzC_one z) (by omega) ?_; intro w6 hown6 hg6; refine Hid.out ?_)
    | go_in)
   refine Lib.hid ?_
   rw [← HW2.out] at hg6
   have HB6 : Hid (Below w.heap.size w w6) := bel_growI (HBE.out.trans (HL2.out.mono HBE.out.size)) hg6 (Nat.le_trans HBE.out.size HL2.out.size)
   have HS6' : Hid (W2.heap.size ≤ w6.heap.size) := hg6.size
   have hk6 : ∀ p, w.heap.size < p → p < W2.heap.size → w6.heap[p]? = W2.heap[p]? := fun p h1 h2 => hg6.block p h2 (fun e => by cases e; omega)
   have HOK6 : Hid (∀ (j : Nat) (z' : Wz), (zs ++ [z])[j]? = some z' → OkW w.heap.size w6 z') := fun j z' hz' => by
    rcases Nat.lt_or_ge j zs.length with h | h
    ·rw [List.getElem?_append_left h] at hz'
     exact ((HOK.out j z' hz').below HL2.out).kept hk6 HS6'.out
    ·rw [List.getElem?_append_right h] at hz'
     have : z' = z := by
      rcases hjz : j - zs.length with _ | k
      ·rw [hjz] at hz'; simpa using hz'.symm
      ·rw [hjz] at hz'; simp at hz'
     subst this
     exact (HZ.out.2.2.1.below HB2.out).kept hk6 HS6'.out
   have HDI6 : Hid (∀ (p q : Nat) (y y' : Wz), p < q → (zs ++ [z])[p]? = some y → (zs ++ [z])[q]? = some y' → y.e3 ≤ y'.s3) := fun p q y y' hpq hy hy' => by
    have hql := (List.getElem?_eq_some_iff.1 hy').1
    rw [List.length_append] at hql
    have hql' : q < zs.length + 1 := hql
    rw [List.getElem?_append_left (by omega)] at hy
    rcases Nat.lt_or_ge q zs.length with h | h
    ·rw [List.getElem?_append_left h] at hy'
     exact HDI.out p q y y' hpq hy hy'
    ·obtain rfl : q = zs.length := by omega
     have e : y' = z := by simpa using hy'.symm
     subst e
     have := (HOK.out p y hy).hi
     exact Nat.le_trans this HZ.out.2.2.2
   have HO6 : Hid (w6.ownsRow w.heap.size 107 6 (.slice (some ⟨w.heap.size, 0, none⟩) (i + 1) n) (i + 1) (wrC (zs ++ [z]))) := by
    show World.ownsRow _ _ _ _ _ _ _
    rw [wrC_app, show wrC [z] = wzC z by rw [wrC, wrC, List.append_nil]]
    exact hown6
   clear hown6 hg6 hk6
   go_wp2_with fail
   go_roundw
   case rel => exact ⟨i + 1, zs ++ [z], by omega, by go_num, by first | rfl | trivial, HMX.out z HZ.out.1, HOK6.out, HDI6.out, HO6.out, HB6.out⟩
   case measure => simp [intOf] <;> omega
  ·have hil' : ¬ (i : Int) < (n : Int) := by omega
   obtain rfl : i = n := by omega
   have HGE : Hid (ty.GWr w.heap.size wr.heap.size wr (some ⟨w.heap.size, 0, none⟩) l) := by
    have hml : zs.map Wz.x = l := by rw [HMA.out, ← HNN.out, List.take_length]
    obtain ⟨⟨f, hr⟩, hle, _, hc⟩ := own_cells' HOW.out
    have hzl : zs.length = i := by have := congrArg List.length hml; rw [List.length_map, HNN.out] at this; exact this
    refine ⟨w.heap.size, 0, _, _, f, fun j => (zs[j]?.getD default).s3, fun j => (zs[j]?.getD default).e3, rfl, Nat.le_refl _, hr.lt, hr, by rw [HNN.out]; omega, fun j x hx => ?_, fun p q hpq hq => ?_⟩
    ·have hj := (List.getElem?_eq_some_iff.1 hx).1
     rw [HNN.out] at hj
     have hz : zs[j]? = some zs[j] := List.getElem?_eq_getElem (by omega)
     generalize hzz : zs[j]'(by omega) = z at hz
     have hzx : z.x = x := by
      rw [← hml, List.getElem?_map, hz] at hx
      exact Option.some.inj hx
     have hok := HOK.out j z hz
     have q4 := ge_lt hok.g3; have k1 := hok.lo; have k3 := hok.hi
     have hcell : ∀ r (hr6 : r < 6) u, (wzC z)[r]? = some u → f (0 + j * 6 + r) = u := fun r hr6 u hu => by
      have h1 := hc (j * 6 + r) u (by rw [wrC_at hz r hr6]; exact hu)
      have h2 := hr.cell (i := j * 6 + r) (by omega)
      rw [h1] at h2
      rw [Nat.zero_add]
      exact (Option.some.inj h2).symm
     subst hzx
     simp only [hz, Option.getD_some]
     exact ⟨by omega, by omega, by omega, z.a3, z.c3, z.s3, z.e3, hcell 0 (by omega) _ rfl, hcell 1 (by omega) _ rfl, hcell 2 (by omega) _ rfl, hcell 3 (by omega) _ rfl, hcell 4 (by omega) _ rfl, hcell 5 (by omega) _ rfl, ⟨hok.g3, Nat.le_refl _, Nat.le_refl _⟩⟩
    ·rw [HNN.out] at hq
     have hp1 : zs[p]? = some zs[p] := List.getElem?_eq_getElem (by omega)
     have hq1 : zs[q]? = some zs[q] := List.getElem?_eq_getElem (by omega)
     simp only [hp1, hq1, Option.getD_some]
     exact .inl (HDI.out p q _ _ hpq hp1 hq1)
   clear hbel
   go_wp2
   go_ret
   exact ⟨⟨rfl, HGE.out⟩, HBE.out⟩
end Go.Proofs.YtpfnnjfapcnbnaaGreatDoor.so
