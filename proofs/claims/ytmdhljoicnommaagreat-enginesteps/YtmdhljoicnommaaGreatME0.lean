/-
  Short names.
-/
import Derived.Test.YtmdhljoicnommaaGreatRows
import Derived.Below
namespace Go.Proofs.YtmdhljoicnommaaGreat
open Go.RowKit
abbrev I4 (n:Int):Value:=.int .i64 n
abbrev U8 (n:Int):Value:=.int .u64 n
abbrev Bw (w x:World):Prop:=Below w.heap.size w x
abbrev Cl:=Calls Tryz.prog
end Go.Proofs.YtmdhljoicnommaaGreat
