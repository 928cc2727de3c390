/- Contracts of the draws of chapter 1: each returns, with numbers of its range, and writes nothing that was there. -/
import Derived.Test.YtcjgkmhpeedhiaaGreatDoorCur
namespace Go.Proofs.YtcjgkmhpeedhiaaGreatDoor
namespace Cur
open Go.ChangeShapes Go.WideShapes Go.ChangeAt Go.RowKit

theorem big_no (a:Option Addr) (n cap:Nat) (w:World) (h:n≤1048576):
 Calls Tryz.prog 4 #[.slice a n cap] w fun e w'=>e= .returned (.bool false)∧w'=w:=by
 have hd:decide ((1048576:Int)<n)=false:=by simp;omega
 go_enter Tryz.func4,Tryz.ntmps4
 go_wp2
 go_ret
 exact⟨by simp,rfl⟩

theorem big_yes (a:Option Addr) (n cap:Nat) (w:World) (h:¬n≤1048576):
 Calls Tryz.prog 4 #[.slice a n cap] w fun e w'=>e= .returned (.bool true)∧w'=w:=by
 have hd:decide ((1048576:Int)<n)=true:=by simp;omega
 go_enter Tryz.func4,Tryz.ntmps4
 go_wp2
 go_ret
 exact⟨by simp,rfl⟩

end Cur
end Go.Proofs.YtcjgkmhpeedhiaaGreatDoor
