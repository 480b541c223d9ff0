import Derived.Test.YthcppbmkacbbiaaGreatXAP
import Derived.Shelf.Strings.Builder1
import Derived.Shelf.Strings.Builder2
import Derived.Shelf.Strings.OnBuilder
import Derived.Shelf.Small.Bits
import Derived.Shelf.Strings.BuilderF
import Derived.Shelf.Strings.BuilderK
import Derived.Shelf.Strconv.Itoa0
import Derived.Shelf.SlSortCmp.Insertion
import Derived.Shelf.SlSortCmp.SiftDown1
import Derived.Shelf.SlSortCmp.HeapSort1
import Derived.Shelf.SlSortCmp.Insertion1
import Derived.Shelf.SlSortCmp.Median1
import Derived.Shelf.SlSortCmp.Pivot1
import Derived.Shelf.SlSortCmp.ReverseRange1
import Derived.Shelf.SlSortCmp.PartialInsertion1
import Derived.Shelf.SlSortCmp.PartitionEqual1
import Derived.Shelf.SlSortCmp.Partition1
import Derived.Shelf.SlSortCmp.Pdq1
import Derived.Shelf.SlSortCmp.Whole1
import Derived.Lib.Join
set_option linter.unusedSimpArgs false
namespace Go.Proofs.YthcppbmkacbbiaaGreat
open Go.RowKit Go.Maps Go.WideMaps
open aB (Key put)
theorem Jg{i n sz j:Nat}(hi:i<n)(hj:j<sz):i*sz+j<n*sz:=by
 have h1:(i+1)*sz<=n*sz:=Nat.mul_le_mul_right sz hi;rw[ak6]at h1;omega
theorem wU{w:World}{base e G:Nat}{ts:List Key}(h:w.ownsRow base e 3 (.slice (some ⟨G,0,none⟩) ts.length ts.length) ts.length (ts.flatMap iR)):bU w G ts:=by
 refine⟨(h.lt G rfl).2,λi hi=>?_⟩;have hc:∀c,c<3->w.cell? ⟨G,i*3+c,none⟩=(iR ts[i])[c]?:=λc hc=>by
  rw[h.cellAt (i*3+c) (Jg hi hc)];exact flat_get (k:=3) (λ_=>rfl) (by decide) ts i hi c hc
 exact⟨hc 0 (by decide),hc 1 (by decide),hc 2 (by decide)⟩
theorem I7{w:World}{base e G:Nat}{cs:List (Int×Nat)}(h:w.ownsRow base e 2 (.slice (some ⟨G,0,none⟩) cs.length cs.length) cs.length (cs.flatMap lC)):eF w G cs:=by
 refine⟨(h.lt G rfl).2,λi hi=>?_⟩;have hc:∀c,c<2->w.cell? ⟨G,i*2+c,none⟩=(lC cs[i])[c]?:=λc hc=>by
  rw[h.cellAt (i*2+c) (Jg hi hc)];exact flat_get (k:=2) (λ_=>rfl) (by decide) cs i hi c hc
 exact⟨hc 0 (by decide),hc 1 (by decide)⟩
theorem Nr{w wr W2 w4:World}{G:Nat}(hb:Below w.heap.size w wr)(hg:wr.grownBy W2 none)(r2:W2.grownBy w4 (some G))(hG:w.heap.size<=G):Below w.heap.size w w4:=
 (hb.grown hg hb.size (λk e=>by cases e)).grown r2 (ad6 hb.size hg.size) (λk e=>by cases e;exact hG)
end Go.Proofs.YthcppbmkacbbiaaGreat
