/- Contract of DecText of the program: it returns the decimal text; the table of the library that strconv.Itoa reads is as the program lays it. -/
import Derived.Test.YtcjgkmhpeedhiaaGreatDoorNumDec
import Derived.Test.YtcjgkmhpeedhiaaGreatDoorShelf
import Derived.Below
import Derived.Lib.LaidTab
import Derived.WalkSmall
namespace Go.Proofs.YtcjgkmhpeedhiaaGreatDoor
namespace Num
open Go.ChangeShapes Go.WideShapes Go.ChangeAt Go.RowKit

def Tens (w:World):Prop:=Lib.TabIs Tryz.prog w "internal/strconv.uint64pow10" .u64 Lib.pow10Tab

theorem Tens.on {w w1:World} (T:Tens w) (h:Below w.heap.size w w1):Tens w1:=by
 have hg:Tryz.prog.globalNamed "internal/strconv.uint64pow10" =some 8:=by kernel_rfl
 unfold Tens Lib.TabIs at T⊢
 refine var?_below h hg ?_ T
 unfold World.var? at T
 rw[hg]at T
 apply Nat.lt_of_not_le
 intro hle
 simp only[Option.bind_some]at T
 rw[Array.getElem?_eq_none hle]at T
 simp at T

theorem below_grow (w:World) (k:Nat) (os:Array Obj):Below w.heap.size w (Go.Sort.grow (w.drewN k) os):=by
 refine⟨rfl,rfl,rfl,?_,fun i hi=> ?_⟩
 ·show w.heap.size≤(w.heap++os).size
  rw[Array.size_append];omega
 ·show(w.heap++os)[i]? =w.heap[i]?
  rw[Array.getElem?_append_left hi]

theorem implDecText_any (n:Int) (w:World) (h0: -9223372036854775808≤n) (h1:n≤9223372036854775807) (T:Tens w):
 Calls Tryz.prog 125 #[.int .i64 n] w fun e w'=>e= .returned (.string (decS n))∧Below w.heap.size w w':=by
 go_enter Tryz.func125,Tryz.ntmps125
 go_wp2_with fail
 refine(Tryz.strconv_Itoa n h0 h1 _ T).mono ?_
 rintro e w' ⟨rfl,k,os,rfl⟩
 have L:=below_grow w k os
 generalize Go.Sort.grow (w.drewN k) os=w1 at*
 go_wp2
 go_ret
 exact⟨rfl,L⟩

end Num
end Go.Proofs.YtcjgkmhpeedhiaaGreatDoor
