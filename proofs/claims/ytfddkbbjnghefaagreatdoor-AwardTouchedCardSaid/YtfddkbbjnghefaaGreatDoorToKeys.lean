/-
  What the shelf says of sorting and compacting, at this program.
-/
import Derived.Test.YtfddkbbjnghefaaGreatDoorToIter
import Derived.Test.YtfddkbbjnghefaaGreatDoorToEvS
import Derived.Shelf.SlicesG.CompactI
set_option linter.unusedSimpArgs false
set_option linter.unusedVariables false
namespace Go.Proofs.YtfddkbbjnghefaaGreatDoor.Zs
open Go Go.RowKit Go.Maps Go.Sort Go.Shelf
theorem sortSays : SortSays Tryz.prog 77:=
 ⟨fun blk cap zs w hH hb hs => AnyM.slices_Sort_int Tryz.sortA blk 0 cap zs w hH hb hs,fun p cap w => AnyM.slices_Sort_int_none Tryz.sortA p cap w⟩
theorem compSays : CompSays Tryz.prog 78:=
 ⟨fun blk cap zs w hH hs hc => AnyG.slices_Compact_int Tryz.compA blk 0 cap zs w hH hs hc,fun p cap w => AnyG.slices_Compact_int_empty Tryz.compA p cap w⟩
end Go.Proofs.YtfddkbbjnghefaaGreatDoor.Zs
