/- Contracts of the draws of decimal texts. -/
import Derived.Test.YtcjgkmhpeedhiaaGreatDoorCurNum
import Derived.Test.YtcjgkmhpeedhiaaGreatDoorNumDec
namespace Go.Proofs.YtcjgkmhpeedhiaaGreatDoor
namespace Cur
open Go.ChangeShapes Go.WideShapes Go.ChangeAt Go.RowKit

def RowOfS (p:ByteArray→Prop) (w:World) (g m:Nat):Prop:=∀i,i<m→∃v:ByteArray,w.cell? ⟨g,i,none⟩=some (.string v)∧p v

theorem rowOfS_new (p:ByteArray→Prop) (w:World) (zs:List ByteArray) (t:Nat) (h:∀z,z∈zs→p z):RowOfS p (w.alloc (.cells (zs.map Value.string).toArray t)) w.heap.size zs.length:=by
 intro i hi
 refine⟨zs[i],?_,h _ (List.getElem_mem hi)⟩
 rw[World.cell?_alloc_mark]
 simp[hi]

theorem pick_any {W0:World} {a:Option Addr} {n cap c:Nat} {w:World} (C:Is W0 a n cap c w) (p:ByteArray→Prop) (g m k:Nat) (hg:g≠c) (hm:0<m) (hm2:m≤1000) (R:RowOfS p w g m):
 Calls Tryz.prog 46 #[.pointer (some ⟨c,0,none⟩),.slice (some ⟨g,0,none⟩) m k] w fun e w'=>(∃x:ByteArray,e= .returned (.string x)∧p x)∧Is W0 a n cap c w'∧Moved c w w':=by
 go_enter Tryz.func46,Tryz.ntmps46
 go_wp2_with fail
 refine(below_any C _).mono ?_
 rintro e w1 ⟨⟨x,rfl,hx0,hx1⟩,C1,M1⟩
 have hx2:=hx1 (by omega)
 obtain⟨i,rfl⟩:=Int.eq_ofNat_of_zero_le hx0
 obtain⟨v,hv,hp⟩:=R i (by omega)
 have hv1:w1.cell? ⟨g,i,none⟩=some (.string v):=(M1.cell (p:=⟨g,i,none⟩) hg).trans hv
 have HP:Hid (p v):=hp
 clear hp hv hx1
 go_wp2
 go_ret
 exact⟨⟨_,rfl,HP⟩,C1,M1⟩

theorem decS_size (n:Nat) (h:n≤9223372036854775807):(Num.decS n).size≤20:=by
 unfold Num.decS Lib.itoa
 rw[if_neg (by omega)]
 have:=Math.dec_len_le n (by omega)
 simpa [ByteArray.size]using this

end Cur
end Go.Proofs.YtcjgkmhpeedhiaaGreatDoor
