/- Contracts of the functions of chapter 1, of the program and of its model: what each call returns, the world as it was. -/
import Derived.Test.YtcjgkmhpeedhiaaGreatDoorRows
import Derived.Test.YtcjgkmhpeedhiaaGreatDoorMath
import Derived.WalkKit
import Derived.ProofKit
import Derived.OpenShut
import Derived.Deep.QuietTactic
import Derived.BigQuiet
namespace Go.Proofs.YtcjgkmhpeedhiaaGreatDoor
namespace Num
open Go.ChangeShapes Go.WideShapes Go.ChangeAt Go.RowKit

theorem ret_int {k:IntKind} {a b:Int} (h:a=b):Ending.returned (.int k a)= .returned (.int k b):=by rw[h]

def Drawn (w w1:World):Prop:=∃q,w1=w.drewN q

theorem Drawn.refl (w:World):Drawn w w:=⟨0,rfl⟩

theorem Drawn.more {w w1:World} (h:Drawn w w1) (n:Nat):Drawn w (w1.drewN n):=by
 obtain⟨q,rfl⟩:=h
 exact⟨q+n,by rw[World.drewN_drewN]⟩

theorem l01In_any (x a b:Int) (w:World):
 Calls Tryz.prog 55 #[.int .i64 x,.int .i64 a,.int .i64 b] w fun e w'=>e= .returned (.bool (decide (a≤x∧x≤b)))∧w'=w:=by
 by_cases h1:a≤x<;>by_cases h2:x≤b
 all_goals
  go_enter Tryz.func55,Tryz.ntmps55
  go_wp2
  go_ret
  exact⟨by simp[h1,h2],rfl⟩

theorem l01Measure_yes (m:Int) (w:World) (h1:2≤m) (h2:m≤2147483647):
 Calls Tryz.prog 96 #[.int .i64 m] w fun e w'=>e= .returned (.bool true)∧w'=w:=by
 go_enter Tryz.func96,Tryz.ntmps96
 go_wp2
 go_ret
 exact⟨by simp,rfl⟩

theorem l01Measure_no (m:Int) (w:World) (h:m<2∨2147483647<m):
 Calls Tryz.prog 96 #[.int .i64 m] w fun e w'=>e= .returned (.bool false)∧w'=w:=by
 rcases h with h|h
 ·go_enter Tryz.func96,Tryz.ntmps96
  go_wp2
  go_ret
  exact⟨by simp,rfl⟩
 ·go_enter Tryz.func96,Tryz.ntmps96
  go_wp2
  go_ret
  exact⟨by simp;try omega,rfl⟩

theorem isMeasure_yes (m:Int) (w:World) (h1:2≤m) (h2:m≤2147483647):
 Calls Tryz.prog 63 #[.int .i64 m] w fun e w'=>e= .returned (.bool true)∧w'=w:=by
 go_enter Tryz.func63,Tryz.ntmps63
 go_wp2
 go_ret
 exact⟨by simp,rfl⟩

theorem isMeasure_no (m:Int) (w:World) (h:m<2∨2147483647<m):
 Calls Tryz.prog 63 #[.int .i64 m] w fun e w'=>e= .returned (.bool false)∧w'=w:=by
 rcases h with h|h
 ·go_enter Tryz.func63,Tryz.ntmps63
  go_wp2
  go_ret
  exact⟨by simp,rfl⟩
 ·go_enter Tryz.func63,Tryz.ntmps63
  go_wp2
  go_ret
  exact⟨by simp;try omega,rfl⟩

theorem specMod_no (x m:Int) (w:World) (h:m<2∨2147483647<m):
 Calls Tryz.prog 76 #[.int .i64 x,.int .i64 m] w fun e w'=>e= .returned (.int .i64 (-1))∧w'=w:=by
 go_enter Tryz.func76,Tryz.ntmps76
 go_wp2_with (go_at_call 96;refine(l01Measure_no _ _ h).mono ?_;rintro e w' ⟨rfl,rfl⟩)
 go_ret
 exact⟨rfl,rfl⟩

theorem specMod_yes (x m:Int) (w:World) (h1:2≤m) (h2:m≤2147483647):
 Calls Tryz.prog 76 #[.int .i64 x,.int .i64 m] w fun e w'=>e= .returned (.int .i64 (x%m))∧w'=w:=by
 have hb1:=Int.tmod_lt_of_pos x (show 0<m by omega)
 have hb2:=Int.lt_tmod_of_pos x (show 0<m by omega)
 go_enter Tryz.func76,Tryz.ntmps76
 go_wp2_with (go_at_call 96;refine(l01Measure_yes _ _ h1 h2).mono ?_;rintro e w' ⟨rfl,rfl⟩)
 all_goals go_ret
 ·exact⟨ret_int (Math.tmod_neg x m h1 ‹_›),rfl⟩
 ·exact⟨ret_int (Math.tmod_pos x m h1 ‹_›),rfl⟩

theorem residueOf_any (x m:Int) (w:World) (h1:2≤m) (h2:m≤2147483647):
 Calls Tryz.prog 65 #[.int .i64 x,.int .i64 m] w fun e w'=>e= .returned (.int .u64 (x%m))∧w'=w:=by
 have hb1:=Int.tmod_lt_of_pos x (show 0<m by omega)
 have hb2:=Int.lt_tmod_of_pos x (show 0<m by omega)
 go_enter Tryz.func65,Tryz.ntmps65
 go_wp2
 all_goals go_ret
 ·exact⟨ret_int (Math.tmod_neg x m h1 ‹_›),rfl⟩
 ·exact⟨ret_int (Math.tmod_pos x m h1 ‹_›),rfl⟩

theorem implMod_no (x m:Int) (w:World) (h:m<2∨2147483647<m):
 Calls Tryz.prog 87 #[.int .i64 x,.int .i64 m] w fun e w'=>e= .returned (.int .i64 (-1))∧w'=w:=by
 go_enter Tryz.func87,Tryz.ntmps87
 go_wp2_with (go_at_call 63;refine(isMeasure_no _ _ h).mono ?_;rintro e w' ⟨rfl,rfl⟩)
 go_ret
 exact⟨rfl,rfl⟩

theorem implMod_yes (x m:Int) (w:World) (h1:2≤m) (h2:m≤2147483647):
 Calls Tryz.prog 87 #[.int .i64 x,.int .i64 m] w fun e w'=>e= .returned (.int .i64 (x%m))∧w'=w:=by
 obtain⟨hb1,hb2⟩:=Math.emod_bd x m h1
 go_enter Tryz.func87,Tryz.ntmps87
 go_wp2_with (first|(go_at_call 63;refine(isMeasure_yes _ _ h1 h2).mono ?_;rintro e w' ⟨rfl,rfl⟩)|(go_at_call 65;refine(residueOf_any _ _ _ h1 h2).mono ?_;rintro e w' ⟨rfl,rfl⟩))
 go_ret
 exact⟨rfl,rfl⟩

theorem times_any (r s m:Int) (w:World) (h1:2≤m) (h2:m≤2147483647) (hr:0≤r) (hr':r≤2147483647) (hs:0≤s) (hs':s≤2147483647):
 Calls Tryz.prog 107 #[.int .u64 r,.int .u64 s,.int .u64 m] w fun e w'=>e= .returned (.int .u64 (r*s%m))∧w'=w:=by
 obtain⟨hb1,hb2⟩:=Math.mul_bd' r s hr hs hr' hs'
 go_enter Tryz.func107,Tryz.ntmps107
 go_wp2
 go_ret
 exact⟨rfl,rfl⟩

theorem plus_any (r s m:Int) (w:World) (h1:2≤m) (h2:m≤2147483647) (hr:0≤r) (hr':r≤2147483647) (hs:0≤s) (hs':s≤2147483647):
 Calls Tryz.prog 123 #[.int .u64 r,.int .u64 s,.int .u64 m] w fun e w'=>e= .returned (.int .u64 ((r+s)%m))∧w'=w:=by
 go_enter Tryz.func123,Tryz.ntmps123
 go_wp2
 go_ret
 exact⟨rfl,rfl⟩

theorem upToMaxPrime_yes (m:Int) (w:World) (h1:0≤m) (h2:m≤2147483647):
 Calls Tryz.prog 64 #[.int .i64 m] w fun e w'=>e= .returned (.bool true)∧w'=w:=by
 go_enter Tryz.func64,Tryz.ntmps64
 go_wp2
 go_ret
 exact⟨by simp,rfl⟩

theorem upToMaxPrime_no (m:Int) (w:World) (h:m<0∨2147483647<m):
 Calls Tryz.prog 64 #[.int .i64 m] w fun e w'=>e= .returned (.bool false)∧w'=w:=by
 rcases h with h|h
 ·go_enter Tryz.func64,Tryz.ntmps64
  go_wp2
  go_ret
  exact⟨by simp,rfl⟩
 ·go_enter Tryz.func64,Tryz.ntmps64
  go_wp2
  go_ret
  exact⟨by simp;try omega,rfl⟩

theorem specMulMod_no (x y m:Int) (w:World) (h:m<2∨2147483647<m):
 Calls Tryz.prog 75 #[.int .i64 x,.int .i64 y,.int .i64 m] w fun e w'=>e= .returned (.int .i64 (-1))∧w'=w:=by
 go_enter Tryz.func75,Tryz.ntmps75
 go_wp2_with (go_at_call 96;refine(l01Measure_no _ _ h).mono ?_;rintro e w' ⟨rfl,rfl⟩)
 go_ret
 exact⟨rfl,rfl⟩

theorem specMulMod_yes (x y m:Int) (w:World) (h1:2≤m) (h2:m≤2147483647):
 Calls Tryz.prog 75 #[.int .i64 x,.int .i64 y,.int .i64 m] w fun e w'=>e= .returned (.int .i64 (x%m*(y%m)%m))∧w'=w:=by
 obtain⟨hx1,hx2⟩:=Math.emod_bd x m h1
 obtain⟨hy1,hy2⟩:=Math.emod_bd y m h1
 obtain⟨hb1,hb2⟩:=Math.mul_bd _ _ m hx1 hy1 hx2 hy2 h2
 go_enter Tryz.func75,Tryz.ntmps75
 go_wp2_with (first|(go_at_call 96;refine(l01Measure_yes _ _ h1 h2).mono ?_;rintro e w' ⟨rfl,rfl⟩)|(go_at_call 76;refine(specMod_yes _ _ _ h1 h2).mono ?_;rintro e w' ⟨rfl,rfl⟩))
 go_ret
 exact⟨rfl,rfl⟩

theorem implMulMod_no (x y m:Int) (w:World) (h:m<2∨2147483647<m):
 Calls Tryz.prog 86 #[.int .i64 x,.int .i64 y,.int .i64 m] w fun e w'=>e= .returned (.int .i64 (-1))∧w'=w:=by
 go_enter Tryz.func86,Tryz.ntmps86
 go_wp2_with (go_at_call 63;refine(isMeasure_no _ _ h).mono ?_;rintro e w' ⟨rfl,rfl⟩)
 go_ret
 exact⟨rfl,rfl⟩

theorem implMulMod_yes (x y m:Int) (w:World) (h1:2≤m) (h2:m≤2147483647):
 Calls Tryz.prog 86 #[.int .i64 x,.int .i64 y,.int .i64 m] w fun e w'=>e= .returned (.int .i64 (x%m*(y%m)%m))∧w'=w:=by
 obtain⟨hx1,hx2⟩:=Math.emod_bd x m h1
 obtain⟨hy1,hy2⟩:=Math.emod_bd y m h1
 obtain⟨hb1,hb2⟩:=Math.emod_bd (x%m*(y%m)) m h1
 go_enter Tryz.func86,Tryz.ntmps86
 go_wp2_with (first|(go_at_call 63;refine(isMeasure_yes _ _ h1 h2).mono ?_;rintro e w' ⟨rfl,rfl⟩)|(go_at_call 65;refine(residueOf_any _ _ _ h1 h2).mono ?_;rintro e w' ⟨rfl,rfl⟩)|(go_at_call 107;refine(times_any _ _ _ _ h1 h2 hx1 (by omega) hy1 (by omega)).mono ?_;rintro e w' ⟨rfl,rfl⟩))
 go_ret
 exact⟨rfl,rfl⟩

end Num
end Go.Proofs.YtcjgkmhpeedhiaaGreatDoor
