/- What the rows give of a world. -/
import Derived.Test.YtgfdeihfinlfoaaGreatDoorBaseF
import Derived.Test.YtgfdeihfinlfoaaGreatDoorZA
namespace Go.Proofs.YtgfdeihfinlfoaaGreatDoor
open Go Go.RowKit

theorem zw_of {W : World} (h : laidMetH Tryz.prog three W) (hs : W.ShapedOpen Tryz.prog) : Zw W := by
  exact ⟨tab_of h, cell_of_shapedOpen_int (zero := #[.int .i64 0]) (t := 3) hs (of_decide_eq_true (by kernel_rfl)) (by kernel_rfl) rfl (by kernel_rfl) (by kernel_rfl) Tryz.underlying3⟩
end Go.Proofs.YtgfdeihfinlfoaaGreatDoor
