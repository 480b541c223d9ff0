import Derived.Test.YthcppbmkacbbiaaGreatZc
import Derived.Below
import Derived.Laws.AppendOwn
import Derived.Maps.AppendAt
import Derived.OrdersHeld
import Derived.OwnWalk
import Derived.RangeFuncCalls
import Derived.RangeFuncOwn
import Derived.RangeFuncRecord
import Derived.Shelf.Abstract
import Derived.Sort.Grow
import Derived.WalkSmall
namespace Go.Proofs.YthcppbmkacbbiaaGreat
theorem ae9:type_of% @Go.World.grownBy_alloc:=@Go.World.grownBy_alloc
theorem af5:type_of% @Go.World.block_lt_of_cell?:=@Go.World.block_lt_of_cell?
theorem ag1:type_of% @Go.RowKit.Below.heap_alloc:=@Go.RowKit.Below.heap_alloc
theorem ag2:type_of% @Go.World.cell?_of_block:=@Go.World.cell?_of_block
theorem ag4:type_of% @Go.heap_alloc_new:=@Go.heap_alloc_new
theorem ag6:type_of% @Go.RowKit.Below.heap_setCell:=@Go.RowKit.Below.heap_setCell
theorem ah5:type_of% @Go.World.putObj_heap_other:=@Go.World.putObj_heap_other
theorem ah7:type_of% @Go.bodyPost_ret:=@Go.bodyPost_ret
theorem ah8:type_of% @Go.heap_setCell_same:=@Go.heap_setCell_same
theorem ai7:type_of% @Go.RowKit.Below.refl:=@Go.RowKit.Below.refl
theorem ai8:type_of% @Go.wpAnyH_done:=@Go.wpAnyH_done
theorem ai9:type_of% @Go.callsIn_wide:=@Go.callsIn_wide
theorem aj0:type_of% @Go.wp_region_held:=@Go.wp_region_held
theorem aj3:type_of% @Go.World.frozen?_of_block:=@Go.World.frozen?_of_block
theorem aj7:type_of% @Go.World.grownBy.refl:=@Go.World.grownBy.refl
theorem al3:type_of% @Go.Lib.frozen_of_heap:=@Go.Lib.frozen_of_heap
theorem al4:type_of% @Go.callsIn_of_wp_marks:=@Go.callsIn_of_wp_marks
theorem al8:type_of% @Go.callsIn_of_wp:=@Go.callsIn_of_wp
theorem al9:type_of% @Go.run_takeDeferred:=@Go.run_takeDeferred
theorem am5:type_of% @Go.wpList_append_own_at:=@Go.wpList_append_own_at
theorem am6:type_of% @Go.info_parts:=@Go.info_parts
theorem an0:type_of% @Go.grownBy_putObj':=@Go.grownBy_putObj'
theorem an7:type_of% @Go.World.ownsRow.alloc:=@Go.World.ownsRow.alloc
theorem an8:type_of% @Go.World.ownsRow_nil:=@Go.World.ownsRow_nil
theorem an9:type_of% @Go.World.frozen?_setCell:=@Go.World.frozen?_setCell
theorem ap3:type_of% @Go.wpList_lookup_own_ok_int:=@Go.wpList_lookup_own_ok_int
theorem aq7:type_of% @Go.rounds_succ:=@Go.rounds_succ
theorem ar0:type_of% @Go.KeepsOthers.alloc:=@Go.KeepsOthers.alloc
theorem ar4:type_of% @Go.Sort.alloc_eq_grow:=@Go.Sort.alloc_eq_grow
theorem as1:type_of% @Go.plainElem_int_inv:=@Go.plainElem_int_inv
theorem as3:type_of% @Go.results_tmp:=@Go.results_tmp
theorem au4:type_of% @Go.Proofs.enters_of:=@Go.Proofs.enters_of
theorem av4:type_of% @Go.RowKit.run_makeMap:=@Go.RowKit.run_makeMap
end Go.Proofs.YthcppbmkacbbiaaGreat
