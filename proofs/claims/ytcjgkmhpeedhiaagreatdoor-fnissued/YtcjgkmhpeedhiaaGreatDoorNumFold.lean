/- Contracts of Fold, of the program and of its model: what it returns is the folding of the bytes of the text, by the measure. -/
import Derived.Test.YtcjgkmhpeedhiaaGreatDoorNum
import Derived.Test.YtcjgkmhpeedhiaaGreatDoorMathSum
import Derived.Deep.QuietTactic
import Derived.BigQuiet
namespace Go.Proofs.YtcjgkmhpeedhiaaGreatDoor
namespace Num
open Go.ChangeShapes Go.WideShapes Go.ChangeAt Go.RowKit

theorem specFold_yes (s:ByteArray) (m:Int) (w:World) (h1:2≤m) (h2:m≤2147483647) (hs:s.size≤5000):
 Calls Tryz.prog 56 #[.string s,.int .i64 m] w fun e w'=>e= .returned (.int .i64 ((Math.foldAt s.data.toList:Int)%m))∧w'=w:=by
 have hd:decide ((5000:Int)<s.size)=false:=by simp;omega
 go_enter Tryz.func56,Tryz.ntmps56
 go_wp2_with (go_at_call 96;refine(l01Measure_yes _ _ h1 h2).mono ?_;rintro e w' ⟨rfl,rfl⟩)
 go_loop [5,6] (fun t i=>∃k y:Nat,k≤s.size∧y<2147483647∧i= .int .i64 k∧t= .int .i64 y∧Hid (y=Math.foldAt (s.data.toList.take k))) (fun _ i=>s.size-(intOf i).toNat)
 case atStart=>exact⟨0,1,by omega,by omega,rfl,rfl,rfl⟩
 case round=>
  obtain⟨k,y,hk,hy,rfl,rfl,H⟩:=hrel
  by_cases hlt:k<s.size
  ·have HN:Hid (Math.foldStep y s[k]=Math.foldAt (s.data.toList.take (k+1))):=by
    show _=_
    rw[Math.take_snoc s k hlt,Math.foldAt_snoc,←H.out]
   have hb:=s[k].toNat_lt
   have HI:Hid (_):=Math.foldStep_int y s[k]
   go_wp2
   go_round
   case rel=>exact⟨k+1,Math.foldStep y s[k],by omega,Math.foldStep_lt _ _,by go_num,by rw[HI.out],HN⟩
   case measure=>simp[intOf];omega
  ·obtain rfl:k=s.size:=by omega
   have HF:Hid (y=Math.foldAt s.data.toList):=by
    show _=_
    rw[H.out,Math.take_all]
   go_wp2
   go_ret
   exact⟨ret_int (by rw[HF.out]),rfl⟩

theorem implFold_yes (s:ByteArray) (m:Int) (w:World) (h1:2≤m) (h2:m≤2147483647) (hs:s.size≤5000):
 Calls Tryz.prog 84 #[.string s,.int .i64 m] w fun e w'=>e= .returned (.int .i64 ((Math.foldAt s.data.toList:Int)%m))∧∃q,w'=w.drewN q:=by
 have hd:decide ((5000:Int)<s.size)=false:=by simp;omega
 go_enter Tryz.func84,Tryz.ntmps84
 go_wp2_with (go_at_call 63;refine(isMeasure_yes _ _ h1 h2).mono ?_;rintro e w' ⟨rfl,rfl⟩)
 go_loopw [5,17] (fun t i w1=>∃k y:Nat,k≤s.size∧y<2147483647∧i= .int .i64 k∧t= .int .u64 y∧Hid (y=Math.foldAt (s.data.toList.take k))∧Drawn w' w1) (fun _ i _=>s.size-(intOf i).toNat)
 case atStart=>exact⟨0,1,by omega,by omega,rfl,rfl,rfl,Drawn.refl _⟩
 case round=>
  obtain⟨k,y,hk,hy,rfl,rfl,H,HD⟩:=hrel
  by_cases hlt:k<s.size
  ·have HN:Hid (Math.foldStep y s[k]=Math.foldAt (s.data.toList.take (k+1))):=by
    show _=_
    rw[Math.take_snoc s k hlt,Math.foldAt_snoc,←H.out]
   have hb:=s[k].toNat_lt
   have HI:Hid (_):=Math.foldStep_plus y s[k]
   go_wp2
   go_quiet ((first|(go_at_call 107;exact Calls.quiet_of_same (times_any _ _ _ _ (by omega) (by omega) (by omega) (by omega) (by omega) (by omega)))|(go_at_call 123;exact Calls.quiet_of_same (plus_any _ _ _ _ (by omega) (by omega) (by omega) (by omega) (by omega) (by omega)))))
   go_wp2
   go_roundw
   case rel=>exact⟨k+1,Math.foldStep y s[k],by omega,Math.foldStep_lt _ _,by go_num,by rw[←HI.out],HN,HD.more nq⟩
   case measure=>simp[intOf];omega
  ·obtain rfl:k=s.size:=by omega
   have HF:Hid (y=Math.foldAt s.data.toList):=by
    show _=_
    rw[H.out,Math.take_all]
   go_wp2_with (go_at_call 87;refine(implMod_yes _ _ _ h1 h2).mono ?_;rintro e w' ⟨rfl,rfl⟩)
   go_ret
   exact⟨ret_int (by rw[HF.out]),HD⟩

end Num
end Go.Proofs.YtcjgkmhpeedhiaaGreatDoor
