import Derived.Test.YthcppbmkacbbiabGreatVc
import Derived.Below
import Derived.Laws.AppendOwn
import Derived.Lib.Builder
import Derived.LoopN
import Derived.Maps.AppendAt
import Derived.Maps.OwnIn
import Derived.OrdersHeld
import Derived.RangeFuncCalls
import Derived.RangeFuncOwn
import Derived.RangeFuncRecord
import Derived.Shelf.Abstract
import Derived.Sort.Grow
import Derived.WalkArith
namespace Go.Proofs.YthcppbmkacbbiabGreat
theorem an1:type_of% @Go.World.grownBy_alloc:=@Go.World.grownBy_alloc
theorem an4:type_of% @Go.World.block_lt_of_cell?:=@Go.World.block_lt_of_cell?
theorem an9:type_of% @Go.World.cell?_of_block:=@Go.World.cell?_of_block
theorem ao3:type_of% @Go.RowKit.Below.heap_alloc:=@Go.RowKit.Below.heap_alloc
theorem ao9:type_of% @Go.RowKit.Below.heap_setCell:=@Go.RowKit.Below.heap_setCell
theorem ap1:type_of% @Go.World.putObj_heap_other:=@Go.World.putObj_heap_other
theorem ap5:type_of% @Go.heap_alloc_new:=@Go.heap_alloc_new
theorem aq0:type_of% @Go.bodyPost_ret:=@Go.bodyPost_ret
theorem aq1:type_of% @Go.RowKit.Below.refl:=@Go.RowKit.Below.refl
theorem aq2:type_of% @Go.callsIn_wide:=@Go.callsIn_wide
theorem aq8:type_of% @Go.wp_region_held:=@Go.wp_region_held
theorem ar2:type_of% @Go.wpAnyH_done:=@Go.wpAnyH_done
theorem ar5:type_of% @Go.World.frozen?_of_block:=@Go.World.frozen?_of_block
theorem as8:type_of% @Go.World.grownBy.refl:=@Go.World.grownBy.refl
theorem at6:type_of% @Go.callsIn_of_wp_marks:=@Go.callsIn_of_wp_marks
theorem au2:type_of% @Go.callsIn_of_wp:=@Go.callsIn_of_wp
theorem au4:type_of% @Go.run_takeDeferred:=@Go.run_takeDeferred
theorem au5:type_of% @Go.info_parts:=@Go.info_parts
theorem au9:type_of% @Go.grownBy_putObj':=@Go.grownBy_putObj'
theorem av6:type_of% @Go.wpList_append_own_at:=@Go.wpList_append_own_at
theorem aw1:type_of% @Go.CallsIn.inRound:=@Go.CallsIn.inRound
theorem aw2:type_of% @Go.World.frozen?_setCell:=@Go.World.frozen?_setCell
theorem aw6:type_of% @Go.wpListIn_lookup_own_ok_int:=@Go.wpListIn_lookup_own_ok_int
theorem aw7:type_of% @Go.World.ownsRow.alloc:=@Go.World.ownsRow.alloc
theorem aw9:type_of% @Go.World.ownsRow_nil:=@Go.World.ownsRow_nil
theorem ax9:type_of% @Go.wpList_lookup_own_ok_int:=@Go.wpList_lookup_own_ok_int
theorem ay0:type_of% @Go.results_tmp:=@Go.results_tmp
theorem ay8:type_of% @Go.World.putObj_heap_same:=@Go.World.putObj_heap_same
theorem az3:type_of% @Go.rounds_succ:=@Go.rounds_succ
theorem az4:type_of% @Go.World.cell?_alloc_at:=@Go.World.cell?_alloc_at
theorem az8:type_of% @Go.KeepsOthers.alloc:=@Go.KeepsOthers.alloc
theorem aA0:type_of% @Go.WalkArith.wf_i64:=@Go.WalkArith.wf_i64
theorem aA2:type_of% @Go.Sort.alloc_eq_grow:=@Go.Sort.alloc_eq_grow
theorem aA5:type_of% @Go.plainElem_int_inv:=@Go.plainElem_int_inv
theorem aA9:type_of% @Go.run_make_own:=@Go.run_make_own
theorem aB1:type_of% @Go.KeepsOthers.refl:=@Go.KeepsOthers.refl
theorem aB2:type_of% @Go.plainElem_int:=@Go.plainElem_int
theorem aB3:type_of% @Go.cells_of_cell:=@Go.cells_of_cell
theorem aB6:type_of% @Go.World.ownsMap_made:=@Go.World.ownsMap_made
theorem aB9:type_of% @Go.wpListIn_append_own_at:=@Go.wpListIn_append_own_at
theorem aC1:type_of% @Go.Proofs.enters_of:=@Go.Proofs.enters_of
theorem aC3:type_of% @Go.World.alloc_heap_new:=@Go.World.alloc_heap_new
theorem aC9:type_of% @Go.RowKit.run_makeMap:=@Go.RowKit.run_makeMap
end Go.Proofs.YthcppbmkacbbiabGreat
