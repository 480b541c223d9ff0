import Derived.Test.YthcppbmkacbbiabGreatVc
import Derived.Below
import Derived.Test.YthcppbmkacbbiabGreatProg
namespace Go.Proofs.YthcppbmkacbbiabGreat
abbrev Aa(b o:Nat):Value:=.pointer (some ⟨b,o,none⟩)
abbrev Ac(b o l c:Nat):Value:=.slice (some ⟨b,o,none⟩) l c
abbrev A(n:Int):Value:=.int .i64 n
abbrev Ae(n:Int):Value:=.int .u8 n
abbrev J(b o:Nat):Addr:=⟨b,o,none⟩
abbrev Ag(w w':World):Prop:=Go.RowKit.Below w.heap.size w w'
theorem ani{p:Prop}(h:p:=by kernel_rfl):p:=h
theorem anj{p:Prop}(h:p:=by unfold maxLen;omega):p:=h
end Go.Proofs.YthcppbmkacbbiabGreat
