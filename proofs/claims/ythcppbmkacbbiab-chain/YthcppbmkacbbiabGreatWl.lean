import Derived.Test.YthcppbmkacbbiabGreatWc
import Derived.Below
import Derived.Laws.AppendOwn
import Derived.Lib.Builder
import Derived.LoopN
import Derived.Maps.OwnIn
import Derived.OrdersHeld
import Derived.RangeFuncCalls
import Derived.RangeFuncOwn
import Derived.RangeFuncRecord
import Derived.Shelf.Abstract
import Derived.Sort.Grow
import Derived.WalkArith
namespace Go.Proofs.YthcppbmkacbbiabGreat
theorem ad4:type_of% @Go.World.grownBy_alloc:=@Go.World.grownBy_alloc
theorem ad7:type_of% @Go.World.block_lt_of_cell?:=@Go.World.block_lt_of_cell?
theorem ae3:type_of% @Go.RowKit.Below.heap_alloc:=@Go.RowKit.Below.heap_alloc
theorem ae5:type_of% @Go.World.cell?_of_block:=@Go.World.cell?_of_block
theorem ae9:type_of% @Go.heap_alloc_new:=@Go.heap_alloc_new
theorem af0:type_of% @Go.World.putObj_heap_other:=@Go.World.putObj_heap_other
theorem af4:type_of% @Go.RowKit.Below.heap_setCell:=@Go.RowKit.Below.heap_setCell
theorem ag3:type_of% @Go.bodyPost_ret:=@Go.bodyPost_ret
theorem ag4:type_of% @Go.callsIn_wide:=@Go.callsIn_wide
theorem ag5:type_of% @Go.wpAnyH_done:=@Go.wpAnyH_done
theorem ag6:type_of% @Go.RowKit.Below.refl:=@Go.RowKit.Below.refl
theorem ag8:type_of% @Go.Lib.frozen_of_heap:=@Go.Lib.frozen_of_heap
theorem ah0:type_of% @Go.wp_region_held:=@Go.wp_region_held
theorem ah7:type_of% @Go.World.grownBy.refl:=@Go.World.grownBy.refl
theorem ai1:type_of% @Go.World.frozen?_of_block:=@Go.World.frozen?_of_block
theorem ai6:type_of% @Go.callsIn_of_wp_marks:=@Go.callsIn_of_wp_marks
theorem aj3:type_of% @Go.callsIn_of_wp:=@Go.callsIn_of_wp
theorem aj6:type_of% @Go.run_takeDeferred:=@Go.run_takeDeferred
theorem ak4:type_of% @Go.grownBy_putObj':=@Go.grownBy_putObj'
theorem ak7:type_of% @Go.info_parts:=@Go.info_parts
theorem al4:type_of% @Go.CallsIn.inRound:=@Go.CallsIn.inRound
theorem al9:type_of% @Go.wpListIn_lookup_own_ok_int:=@Go.wpListIn_lookup_own_ok_int
theorem am1:type_of% @Go.wpList_append_own_at:=@Go.wpList_append_own_at
theorem am7:type_of% @Go.wpList_lookup_own_ok_int:=@Go.wpList_lookup_own_ok_int
theorem am8:type_of% @Go.results_tmp:=@Go.results_tmp
theorem am9:type_of% @Go.World.ownsRow_nil:=@Go.World.ownsRow_nil
theorem an5:type_of% @Go.World.putObj_heap_same:=@Go.World.putObj_heap_same
theorem ao0:type_of% @Go.rounds_succ:=@Go.rounds_succ
theorem ao3:type_of% @Go.KeepsOthers.alloc:=@Go.KeepsOthers.alloc
theorem ao6:type_of% @Go.WalkArith.wf_i64:=@Go.WalkArith.wf_i64
theorem ao9:type_of% @Go.Sort.alloc_eq_grow:=@Go.Sort.alloc_eq_grow
theorem ap4:type_of% @Go.World.frozen?_setCell:=@Go.World.frozen?_setCell
theorem ap6:type_of% @Go.plainElem_int_inv:=@Go.plainElem_int_inv
theorem aq2:type_of% @Go.KeepsOthers.refl:=@Go.KeepsOthers.refl
theorem aq3:type_of% @Go.World.ownsRow.alloc:=@Go.World.ownsRow.alloc
theorem aq4:type_of% @Go.plainElem_int:=@Go.plainElem_int
theorem aq6:type_of% @Go.cells_of_cell:=@Go.cells_of_cell
theorem aq9:type_of% @Go.World.ownsMap_made:=@Go.World.ownsMap_made
theorem ar4:type_of% @Go.wpListIn_append_own_at:=@Go.wpListIn_append_own_at
theorem ar6:type_of% @Go.Proofs.enters_of:=@Go.Proofs.enters_of
theorem ar7:type_of% @Go.DataW.trod_lt:=@Go.DataW.trod_lt
theorem ar9:type_of% @Go.World.alloc_heap_new:=@Go.World.alloc_heap_new
theorem as3:type_of% @Go.run_make_own:=@Go.run_make_own
theorem as6:type_of% @Go.RowKit.run_makeMap:=@Go.RowKit.run_makeMap
end Go.Proofs.YthcppbmkacbbiabGreat
