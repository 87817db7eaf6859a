import Derived.Test.YtheponigjofknaaDoorBF
import Derived.Lib.Hide
namespace Go.Proofs.YtheponigjofknaaDoor.mt
open Go.ChangeShapes Go.WideShapes Go.ChangeAt Go.RowKit Go.Deep
open bf
set_option linter.unusedVariables false
set_option linter.unusedSimpArgs false

/-! ### Lines of two words -/

theorem nil_bf {w : World} {c2 : Nat} {m : List UInt8} (e : TypeId) (hc : m.length ≤ c2) (hm : c2 ≤ maxLen) :
    Bf w.heap.size (w.drew.alloc (.cells ((byteVals m).toArray ++ Builtin.zeroCells (Value.int .u8 0).cells (c2 - m.length)) e)) w.heap.size c2 m := by
  have hz : (Value.int IntKind.u8 0).cells.size = 1 := rfl
  have hlen : ((byteVals m).toArray ++ Builtin.zeroCells (Value.int .u8 0).cells (c2 - m.length)).size = c2 := by
    simp only [Array.size_append, List.size_toArray, size_zeroCells, hz, byteVals_length]
    omega
  have hcell : ∀ j, (w.drew.alloc (.cells ((byteVals m).toArray ++ Builtin.zeroCells (Value.int .u8 0).cells (c2 - m.length)) e)).cell? ⟨w.heap.size, j, none⟩ = ((byteVals m).toArray ++ Builtin.zeroCells (Value.int .u8 0).cells (c2 - m.length))[j]? := fun j => World.cell?_alloc_new w.drew _ e j
  refine ⟨Nat.le_refl _, by simp, fun j hj => ?_, fun j hj => ⟨?_, ?_⟩, hc, hm⟩
  · have hj2 : j < ((byteVals m).toArray).size := by simpa [byteVals_length] using hj
    rw [hcell, Array.getElem?_append_left hj2]
    rw [← byteVals_at hj]
    simp [byteVals]
  · rw [hcell, Array.getElem?_eq_getElem (by omega)]; rfl
  · have hb : (w.drew.alloc (.cells ((byteVals m).toArray ++ Builtin.zeroCells (Value.int .u8 0).cells (c2 - m.length)) e)).heap[w.heap.size]? = _ := heap_alloc_new w.drew _
    unfold World.frozen?
    simp only [hb]
    simp

theorem nil_text {P : Program} {w : World} (t u e : TypeId) (ht : P.underlying t = some (.slice e)) (hu : P.underlying u = some .string)
    (hinfo : (P.info? e).map (fun i => (i.zero, i.size, i.bytes)) = some (some (.int .u8 0), 1, 1)) (s : ByteArray) (h0 : 0 < s.size) (hz : s.size ≤ 1099511627776) :
    ∃ cap' w', (∀ ty, (Builtin.append_ #[t, u] ty #[.slice none 0 0, .string s]).run P w = .ok (.slice (some ⟨w.heap.size, 0, none⟩) s.data.toList.length cap') w') ∧ Bf w.heap.size w' w.heap.size cap' s.data.toList ∧ Below w.heap.size w w' := by
  obtain ⟨i, hi, hzz⟩ := Option.map_eq_some_iff.1 hinfo
  simp only [Prod.mk.injEq] at hzz
  obtain ⟨hz0, hsz, hby⟩ := hzz
  have hs : s.data.toList.length = s.size := by simp
  have hr := fun ty => run_append_nil_string (P := P) (w := w) t u ty e i (.int .u8 0) ht hu hi hz0 s h0 (by omega) (by rw [hby]; omega)
  have hb := nil_bf (w := w) (m := s.data.toList) (c2 := grownCap w s.size 0 e) e (by rw [hs]; exact grownCap_ge w s.size 0 e) (grownCap_le_maxLen w _ 0 e (by unfold maxLen; omega))
  rw [hs] at hb
  have ea : (s.data.map (fun b => Value.int .u8 b.toNat) : Array Value) = (byteVals s.data.toList).toArray := by
    apply Array.ext'
    simp [byteVals]
  refine ⟨grownCap w s.size 0 e, _, fun ty => by rw [hr ty, hs], ?_, ((Below.refl _ _).drew).alloc (by simp) _⟩
  rw [ea]
  exact hb

end Go.Proofs.YtheponigjofknaaDoor.mt
