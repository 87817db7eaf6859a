import Derived.Test.YtogakignaaoklaaNR
import Derived.Lib.ConvBytes
namespace Go.Proofs.Ytogakignaaoklaa.dl
open Go.ChangeShapes Go.WideShapes Go.ChangeAt Go.RowKit Go.Deep
open bf (Bf Ap num)
set_option linter.unusedVariables false
set_option linter.unusedSimpArgs false

/-! ### Facts of a row of steps, without the reader's (DlI) -/

theorem infoSt : (Try.prog.info? 41).map (fun i => (i.zero, i.size, i.bytes)) = some (some (.agg #[.int .i64 0, .int .i64 0, .int .i64 0, .slice none 0 0]), 4, 48) := by kernel_rfl
theorem szV_one (z : Sz) : ∀ u ∈ szV z, u.oneCell' = true := by
  intro u hu
  unfold szV at hu
  simp only [List.mem_cons, List.not_mem_nil, or_false] at hu
  rcases hu with rfl | rfl | rfl | rfl <;> rfl
theorem szV_at (w : World) (z : Sz) (t : TypeId) : ∀ j u, (szV z)[j]? = some u → (w.alloc (.cells (szV z).toArray t)).cell? ((⟨w.heap.size, 0, none⟩ : Addr).add j) = some u := fun j u hj => by
  rw [addr_add, Nat.zero_add]
  have := World.cell?_alloc_new w (szV z).toArray t j
  rw [this]
  simpa using hj

end Go.Proofs.Ytogakignaaoklaa.dl
