/- The laws' own comparison of tickets, of equal ones. -/
import Derived.Test.YtcjgkmhpeedhiaaGreatDoorGtLegs
import Derived.BigQuiet
namespace Go.Proofs.YtcjgkmhpeedhiaaGreatDoor
namespace Tk
open Go.ChangeShapes Go.WideShapes Go.ChangeAt Go.RowKit
open Pk (own_form new_below join_below heap_new lt_of kept cell_at heap_old frozen_at info_of)
set_option linter.unusedSimpArgs false
set_option linter.unusedVariables false

set_option maxRecDepth 100000 in
set_option maxHeartbeats 4000000 in
theorem sameTicket_same (t:Hd) (nm:ByteArray) (a b:Option Addr) (ls:List Lg) (c1 c2:Nat) (w:World) (hz:ls.length≤1048576) (I:Legs w a ls) (J:Legs w b ls):
 Calls Tryz.prog 10 #[tkV t nm a ls.length c1,tkV t nm b ls.length c2] w fun e w'=>e= .returned (.bool true)∧Below w.heap.size w w':=by
 have N:Below w.heap.size w ((w.alloc (tkB t nm a ls.length c1 28)).alloc (tkB t nm b ls.length c2 28)):=join_below (new_below _ _) (new_below _ _)
 have m0:=heap_old (heap_new w (tkB t nm a ls.length c1 28)) (tkB t nm b ls.length c2 28)
 have m1:=heap_new (w.alloc (tkB t nm a ls.length c1 28)) (tkB t nm b ls.length c2 28)
 have e1:(w.alloc (tkB t nm a ls.length c1 28)).heap.size=w.heap.size+1:=Array.size_push ..
 rw[e1]at m1
 have I1:=I.on N
 have J1:=J.on N
 clear e1
 go_enter Tryz.func10,Tryz.ntmps10
 go_wp2
 generalize (w.alloc (tkB t nm a ls.length c1 28)).alloc (tkB t nm b ls.length c2 28)=W at*
 have a6:W.cell? ⟨w.heap.size,6,none⟩=some (.slice a ls.length c1):=cell_at m0 6
 have b6:W.cell? ⟨w.heap.size+1,6,none⟩=some (.slice b ls.length c2):=cell_at m1 6
 clear m0 m1 I J
 go_loopw [5] (fun i wr=>∃(k n:Nat),k≤ls.length∧i= .int .i64 k∧wr=W.drewN n) (fun i _=>ls.length-(intOf i).toNat)
 case atStart=>exact⟨0,0,by omega,rfl,rfl⟩
 case round=>
  obtain⟨k,n,hk,rfl,rfl⟩:=hrel
  by_cases hkn:k<ls.length
  ·obtain⟨x,o,rfl,hx,h0,h1,h2,h3,h4,h5⟩:=I1.at k hkn
   obtain⟨y,u,rfl,hy,g0,g1,g2,g3,g4,g5⟩:=J1.at k hkn
   generalize ls[k]=z at*
   go_wp2
   go_quiet (fail)
   go_wp2
   go_roundw
   case rel=>exact⟨k+1,n+nq,by omega,by go_num,rfl⟩
   case measure=>simp[intOf];omega
  ·go_wp2
   go_ret
   exact⟨rfl,N.trans ⟨rfl,rfl,rfl,Nat.le_refl _,fun _ _=>rfl⟩⟩

end Tk
end Go.Proofs.YtcjgkmhpeedhiaaGreatDoor
