import Derived.Test.YthcppbmkacbbiaaGreatXc
import Derived.Below
import Derived.Laws.AppendOwn
import Derived.Lib.Builder
import Derived.LoopN
import Derived.Maps.AppendAt
import Derived.OrdersHeld
import Derived.OwnWalk
import Derived.RangeFuncCalls
import Derived.RangeFuncOwn
import Derived.RangeFuncRecord
import Derived.Shelf.Abstract
import Derived.Sort.Grow
import Derived.WalkArith
namespace Go.Proofs.YthcppbmkacbbiaaGreat
theorem ab2:type_of% @Go.World.grownBy_alloc:=@Go.World.grownBy_alloc
theorem ab6:type_of% @Go.World.block_lt_of_cell?:=@Go.World.block_lt_of_cell?
theorem ac1:type_of% @Go.RowKit.Below.heap_alloc:=@Go.RowKit.Below.heap_alloc
theorem ac4:type_of% @Go.heap_alloc_new:=@Go.heap_alloc_new
theorem ac8:type_of% @Go.World.cell?_of_block:=@Go.World.cell?_of_block
theorem ad5:type_of% @Go.RowKit.Below.heap_setCell:=@Go.RowKit.Below.heap_setCell
theorem ad7:type_of% @Go.World.putObj_heap_other:=@Go.World.putObj_heap_other
theorem ae3:type_of% @Go.bodyPost_ret:=@Go.bodyPost_ret
theorem ae4:type_of% @Go.wpAnyH_done:=@Go.wpAnyH_done
theorem ae5:type_of% @Go.Lib.frozen_of_heap:=@Go.Lib.frozen_of_heap
theorem ae8:type_of% @Go.callsIn_wide:=@Go.callsIn_wide
theorem ae9:type_of% @Go.wp_region_held:=@Go.wp_region_held
theorem af0:type_of% @Go.RowKit.Below.refl:=@Go.RowKit.Below.refl
theorem af9:type_of% @Go.World.grownBy.refl:=@Go.World.grownBy.refl
theorem ag6:type_of% @Go.World.frozen?_of_block:=@Go.World.frozen?_of_block
theorem ah0:type_of% @Go.callsIn_of_wp_marks:=@Go.callsIn_of_wp_marks
theorem ah7:type_of% @Go.callsIn_of_wp:=@Go.callsIn_of_wp
theorem ah8:type_of% @Go.run_takeDeferred:=@Go.run_takeDeferred
theorem ai8:type_of% @Go.info_parts:=@Go.info_parts
theorem ai9:type_of% @Go.grownBy_putObj':=@Go.grownBy_putObj'
theorem aj9:type_of% @Go.wpList_append_own_at:=@Go.wpList_append_own_at
theorem ak4:type_of% @Go.wpList_lookup_own_ok_int:=@Go.wpList_lookup_own_ok_int
theorem ak5:type_of% @Go.World.ownsRow_nil:=@Go.World.ownsRow_nil
theorem al6:type_of% @Go.rounds_succ:=@Go.rounds_succ
theorem al7:type_of% @Go.results_tmp:=@Go.results_tmp
theorem al9:type_of% @Go.KeepsOthers.alloc:=@Go.KeepsOthers.alloc
theorem am4:type_of% @Go.Sort.alloc_eq_grow:=@Go.Sort.alloc_eq_grow
theorem an1:type_of% @Go.plainElem_int_inv:=@Go.plainElem_int_inv
theorem an4:type_of% @Go.WalkArith.wf_i64:=@Go.WalkArith.wf_i64
theorem an5:type_of% @Go.World.ownsRow.alloc:=@Go.World.ownsRow.alloc
theorem ao3:type_of% @Go.World.frozen?_setCell:=@Go.World.frozen?_setCell
theorem ao4:type_of% @Go.Proofs.enters_of:=@Go.Proofs.enters_of
theorem ao5:type_of% @Go.KeepsOthers.refl:=@Go.KeepsOthers.refl
theorem ao6:type_of% @Go.plainElem_int:=@Go.plainElem_int
theorem ap0:type_of% @Go.CallsIn.inRound:=@Go.CallsIn.inRound
theorem ap4:type_of% @Go.RowKit.run_makeMap:=@Go.RowKit.run_makeMap
end Go.Proofs.YthcppbmkacbbiaaGreat
