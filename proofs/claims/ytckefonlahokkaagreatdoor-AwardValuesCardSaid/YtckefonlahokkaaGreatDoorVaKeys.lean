/-
  What the shelf says of sorting, at this program.
-/
import Derived.Test.YtckefonlahokkaaGreatDoorVaIter
import Derived.Test.YtckefonlahokkaaGreatDoorVaEvS
set_option linter.unusedSimpArgs false
set_option linter.unusedVariables false
namespace Go.Proofs.YtckefonlahokkaaGreatDoor.Zs
open Go Go.RowKit Go.Maps Go.Sort Go.Shelf
theorem sortSays : SortSays Tryz.prog 33:=
 ⟨fun blk cap zs w hH hb hs => AnyM.slices_Sort_int Tryz.sortA blk 0 cap zs w hH hb hs,fun p cap w => AnyM.slices_Sort_int_none Tryz.sortA p cap w⟩
end Go.Proofs.YtckefonlahokkaaGreatDoor.Zs
