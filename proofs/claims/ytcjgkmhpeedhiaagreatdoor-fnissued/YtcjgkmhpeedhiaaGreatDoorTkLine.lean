/- Words and numbers in lines: the program's and its model's. -/
import Derived.Test.YtcjgkmhpeedhiaaGreatDoorDecDoor
import Derived.Test.YtcjgkmhpeedhiaaGreatDoorPkRow
namespace Go.Proofs.YtcjgkmhpeedhiaaGreatDoor
namespace Tk
open Go.ChangeShapes Go.WideShapes Go.ChangeAt Go.RowKit
open Pk (new_below join_below cell_at heap_new frozen_at lt_of kept)
open Num (decS Tens)
set_option linter.unusedSimpArgs false
set_option linter.unusedVariables false

theorem decS_size (z:Int) (h0:0≤z) (h1:z≤999999999):(decS z).size≤20:=by
 obtain⟨n,rfl⟩:=Int.eq_ofNat_of_zero_le h0
 unfold decS Lib.itoa
 rw[if_neg (by omega)]
 exact Math.dec_len_le _ (by omega)

theorem ba_assoc (a b c:ByteArray):a++b++c=a++(b++c):=ByteArray.append_assoc

theorem ba_size (a b:ByteArray):(a++b).size=a.size+b.size:=ByteArray.size_append

def ws (zs:List Int):ByteArray:=zs.foldl (fun o z=>o++(⟨#[32]⟩++decS z)) ⟨#[]⟩

def Nums (zs:List Int):Prop:=∀z∈zs,0≤z∧z≤999999999

theorem ws_take (zs:List Int) (k:Nat) (h:k<zs.length):ws (zs.take (k+1))=ws (zs.take k)++(⟨#[32]⟩++decS zs[k]):=by
 unfold ws
 rw[List.take_add_one,List.getElem?_eq_getElem h,List.foldl_append]
 rfl

theorem ws_size (zs:List Int) (h:Nums zs) (k:Nat) (hk:k≤zs.length):(ws (zs.take k)).size≤21*k:=by
 induction k with
 |zero=>simp[ws,ByteArray.size]
 |succ k ih=>
  have h1:=ih (by omega)
  have h2:=h zs[k] (List.getElem_mem (by omega))
  have h3:=decS_size zs[k] h2.1 h2.2
  have h4:(⟨#[32]⟩:ByteArray).size=1:=rfl
  rw[ws_take zs k (by omega),ba_size,ba_size,h4]
  omega

def RowZ (w:World) (g:Nat) (zs:List Int):Prop:=g<w.heap.size∧∀i (h:i<zs.length),w.cell? ⟨g,i,none⟩=some (.int .i64 zs[i])

theorem RowZ.on {w w1:World} {g:Nat} {zs:List Int} (h:RowZ w g zs) (L:Below w.heap.size w w1):RowZ w1 g zs:=
 ⟨Nat.lt_of_lt_of_le h.1 L.size,fun i hi=>by rw[L.cell (p:=⟨g,i,none⟩) h.1];exact h.2 i hi⟩

theorem RowZ.new (w:World) (zs:List Int) (t:TypeId):RowZ (w.alloc (.cells (zs.map (Value.int .i64)).toArray t)) w.heap.size zs:=
 ⟨by simp,fun i hi=>by rw[cell_at (heap_new w _) i];simp[hi]⟩

def Wide (zs:List Int):Prop:=∀z∈zs,-9223372036854775808≤z∧z≤9223372036854775807

theorem Nums.wide {zs:List Int} (h:Nums zs):Wide zs:=fun z hz=>by have:=h z hz;omega

theorem decS_wide (z:Int) (h0: -9223372036854775808≤z) (h1:z≤9223372036854775807):(decS z).size≤21:=by
 unfold decS Lib.itoa
 show(if z<0 then 45::Lib.decDigits z.natAbs else Lib.decDigits z.toNat).toArray.size≤21
 rw[List.size_toArray]
 split
 ·have:=Math.dec_len_le z.natAbs (by omega)
  rw[List.length_cons]
  omega
 ·have:=Math.dec_len_le z.toNat (by omega)
  omega

theorem ws_wide (zs:List Int) (h:Wide zs) (k:Nat) (hk:k≤zs.length):(ws (zs.take k)).size≤22*k:=by
 induction k with
 |zero=>simp[ws,ByteArray.size]
 |succ k ih=>
  have h1:=ih (by omega)
  have h2:=h zs[k] (List.getElem_mem (by omega))
  have h3:=decS_wide zs[k] h2.1 h2.2
  have h4:(⟨#[32]⟩:ByteArray).size=1:=rfl
  rw[ws_take zs k (by omega),ba_size,ba_size,h4]
  omega

theorem ws_wide_all (zs:List Int) (h:Wide zs):(ws zs).size≤22*zs.length:=by
 have:=ws_wide zs h zs.length (Nat.le_refl _)
 rw[List.take_length]at this
 exact this

set_option maxHeartbeats 1000000 in
theorem words_wide (zs:List Int) (g cap:Nat) (w:World) (hl:zs.length≤40) (hn:Wide zs) (R:RowZ w g zs):
 Calls Tryz.prog 53 #[.slice (some ⟨g,0,none⟩) zs.length cap] w fun e w'=>e= .returned (.string (ws zs))∧w'=w:=by
 have HN:Hid (Wide zs):=hn
 generalize hm:zs.length=m at*
 have HM:Hid (zs.length=m):=hm
 clear hn hm
 go_enter Tryz.func53,Tryz.ntmps53
 go_wp2
 go_loop [3,4] (fun o i=>∃(k:Nat) (O:ByteArray),k≤m∧O.size≤900∧i= .int .i64 k∧o= .string O∧Hid (O=ws (zs.take k))) (fun _ i=>m-(intOf i).toNat)
 case atStart=>exact⟨0,⟨#[]⟩,by omega,by simp[ByteArray.size],rfl,rfl,rfl⟩
 case round=>
  obtain⟨k,O,hk,hO,rfl,rfl,H⟩:=hrel
  by_cases hkm:k<m
  ·have hkz:k<zs.length:=by rw[HM.out];exact hkm
   have hc:=R.2 k hkz
   have hz:=HN.out zs[k] (List.getElem_mem hkz)
   have HS:Hid (_):=ws_take zs k hkz
   have hsz:=ws_wide zs HN.out (k+1) (by omega)
   rw[HS.out,←H.out]at hsz
   have hds:=decS_wide zs[k] hz.1 hz.2
   have HD:Hid (∀w,_):=fun w=>Num.specDecText_any zs[k] w (by omega) (by omega)
   generalize decS zs[k]=d at*
   generalize zs[k]=z at*
   have hE:O++⟨#[32]⟩++d=O++(⟨#[32]⟩++d):=ba_assoc _ _ _
   have HE:Hid (_):=hE
   have h2:(O++(⟨#[32]⟩++d):ByteArray).size≤900:=by omega
   have HZ:Hid (_):=h2
   clear hE hsz hkz h2
   have b1:¬(O.size+(⟨#[32]⟩:ByteArray).size>9223372036854775807):=by have h4:(⟨#[32]⟩:ByteArray).size=1:=rfl;omega
   have b2:¬((O++⟨#[32]⟩:ByteArray).size+d.size>9223372036854775807):=by have h4:(⟨#[32]⟩:ByteArray).size=1:=rfl;rw[ba_size];omega
   go_wp2_with fail
   refine(HD.out _).mono ?_
   rintro e w1 ⟨rfl,rfl⟩
   go_wp2
   go_round
   case rel=>exact⟨k+1,O++(⟨#[32]⟩++d),by omega,HZ.out,by go_num,by rw[HE.out],by show _=_;rw[HS.out,←H.out]⟩
   case measure=>simp[intOf];omega
  ·obtain rfl:k=m:=by omega
   have HT:Hid (O=ws zs):=by
    have:=H.out
    rw[←HM.out,List.take_length]at this
    exact this
   go_wp2
   go_ret
   exact⟨by rw[←HT.out]<;>rfl,rfl⟩

set_option maxHeartbeats 1000000 in
theorem wan_val (word:ByteArray) (zs:List Int) (g cap:Nat) (w:World) (hw:word.size≤10) (hl:zs.length≤10) (hn:Wide zs) (R:RowZ w g zs) (T:Tens w):
 Calls Tryz.prog 89 #[.string word,.slice (some ⟨g,0,none⟩) zs.length cap] w fun e w'=>e= .returned (.string (word++ws zs))∧Below w.heap.size w w':=by
 have HN:Hid (Wide zs):=hn
 generalize hm:zs.length=m at*
 have HM:Hid (zs.length=m):=hm
 have HRS:∃X:ByteArray,word++ws zs=X:=⟨_,rfl⟩
 obtain⟨X,hX⟩:=HRS
 rw[hX]
 have HX:Hid (_):=hX
 clear hn hm hX
 go_enter Tryz.func89,Tryz.ntmps89
 go_wp2
 go_loopw [0,9] (fun o i wr=>∃(k:Nat) (O:ByteArray),k≤m∧O.size≤400∧i= .int .i64 k∧o= .string O∧Below w.heap.size w wr∧Hid (O=word++ws (zs.take k))) (fun _ i _=>m-(intOf i).toNat)
 case atStart=>exact⟨0,word,by omega,by omega,rfl,rfl,Below.refl _ _,by show _=word++⟨#[]⟩;exact ByteArray.append_empty.symm⟩
 case round=>
  obtain⟨k,O,hk,hO,rfl,rfl,L,H⟩:=hrel
  by_cases hkm:k<m
  ·have hkz:k<zs.length:=by rw[HM.out];exact hkm
   have hc:=(R.on L).2 k hkz
   have hz:=HN.out zs[k] (List.getElem_mem hkz)
   have HS:Hid (_):=ws_take zs k hkz
   have hsz:=ws_wide zs HN.out (k+1) (by omega)
   rw[HS.out]at hsz
   have hds:=decS_wide zs[k] hz.1 hz.2
   have HD:Hid (∀w,Tens w→_):=fun w T=>Num.implDecText_any zs[k] w (by omega) (by omega) T
   have T1:=T.on L
   generalize decS zs[k]=d at*
   generalize zs[k]=z at*
   have HNX:Hid (O++(⟨#[32]⟩++d)=word++ws (zs.take (k+1))):=by show _=_;rw[H.out,HS.out,ba_assoc]
   have h2:(O++(⟨#[32]⟩++d):ByteArray).size≤400:=by rw[HNX.out,HS.out,ba_size];omega
   have HZ:Hid (_):=h2
   clear hsz hkz h2
   have b1:¬((⟨#[32]⟩:ByteArray).size+d.size>9223372036854775807):=by have h4:(⟨#[32]⟩:ByteArray).size=1:=rfl;omega
   have b2:¬(O.size+(⟨#[32]⟩++d:ByteArray).size>9223372036854775807):=by have h4:(⟨#[32]⟩:ByteArray).size=1:=rfl;rw[ba_size];omega
   go_wp2_with fail
   refine(HD.out _ T1).mono ?_
   rintro e w1 ⟨rfl,L1⟩
   have L2:=join_below L L1
   clear hc L L1 T1
   go_wp2
   go_roundw
   case rel=>exact⟨k+1,O++(⟨#[32]⟩++d),by omega,HZ.out,by go_num,rfl,L2,HNX⟩
   case measure=>simp[intOf];omega
  ·obtain rfl:k=m:=by omega
   have HT:Hid (O=X):=by
    have:=H.out
    rw[←HM.out,List.take_length]at this
    show _=_
    rw[this]
    exact HX.out
   go_wp2
   go_ret
   exact⟨by rw[←HT.out]<;>rfl,L⟩

theorem lineW_val (word:ByteArray) (zs:List Int) (g cap:Nat) (w:World) (hw:word.size≤10) (hl:zs.length≤10) (hn:Wide zs) (R:RowZ w g zs) (T:Tens w):
 Calls Tryz.prog 48 #[.string word,.slice (some ⟨g,0,none⟩) zs.length cap] w fun e w'=>e= .returned (.string (word++ws zs++⟨#[10]⟩))∧Below w.heap.size w w':=by
 have hz:=ws_wide_all zs hn
 have b1:¬((word++ws zs:ByteArray).size+(⟨#[10]⟩:ByteArray).size>9223372036854775807):=by have h4:(⟨#[10]⟩:ByteArray).size=1:=rfl;rw[ba_size];omega
 have HW:Hid (∀_:Unit,_):=fun _=>wan_val word zs g cap w hw hl hn R T
 generalize word++ws zs=X at*
 clear hz
 go_enter Tryz.func48,Tryz.ntmps48
 go_wp2_with fail
 refine(HW.out ()).mono ?_
 rintro e w1 ⟨rfl,L1⟩
 go_wp2
 go_ret
 exact⟨rfl,L1⟩

end Tk
end Go.Proofs.YtcjgkmhpeedhiaaGreatDoor
