/- Texts laid into one, in their order: MathUnk, NumWord, SignText, NumSigned, IsBack, PkRun, PkPcs, PkPieces, PkTriple, PkMap, PkLearn, PkLong, PkLongest, PkPiecesI, PkPcsOwn, PkPackI, IsPart, PkPackS, IsFrame, SignImpl, SignKey, SignOnce, SignOnce2, SignOnce3, SignIs, SignSign, IsIssue, CurSpl, CurIs2, SqRow, GtMl, GtIn. -/
import Derived.Test.YtcjgkmhpeedhiaaGreatDoorManyAFnIssued
import Derived.Test.YtcjgkmhpeedhiaaGreatDoorNum
import Derived.Test.YtcjgkmhpeedhiaaGreatDoorMathSum
import Derived.Laws.IdiomStrings
import Derived.Below
import Derived.Deep.RegionWith
import Derived.Test.YtcjgkmhpeedhiaaGreatDoorSignVals
import Derived.Test.YtcjgkmhpeedhiaaGreatDoorSignVer
import Derived.Test.YtcjgkmhpeedhiaaGreatDoorSignRead
import Derived.Test.YtcjgkmhpeedhiaaGreatDoorTkPut
import Derived.Test.YtcjgkmhpeedhiaaGreatDoorPkRow
import Derived.BigRegion
import Derived.DeepKeys4
import Derived.WideKeyEntry
import Derived.Maps.AppendAt
import Derived.Test.YtcjgkmhpeedhiaaGreatDoorNumSignVal
import Derived.Test.YtcjgkmhpeedhiaaGreatDoorSignSpec2
import Derived.Test.YtcjgkmhpeedhiaaGreatDoorErrs
import Derived.Test.YtcjgkmhpeedhiaaGreatDoorRows
import Derived.WalkKit
import Derived.LaidEql
import Derived.Stop.Asserts
import Derived.RowKitTokens
import Derived.Test.YtcjgkmhpeedhiaaGreatDoorSignSpec4
import Derived.Test.YtcjgkmhpeedhiaaGreatDoorTkPut2
import Derived.Test.YtcjgkmhpeedhiaaGreatDoorCurDec
import Derived.Deep.RegionHeld3
import Derived.Deep.Cut
import Derived.Laws.MakeOwn
import Derived.Test.YtcjgkmhpeedhiaaGreatDoorGtNums
import Derived.Test.YtcjgkmhpeedhiaaGreatDoorTkTic
import Derived.Test.YtcjgkmhpeedhiaaGreatDoorShelf
/- The mathematics of chapter 3: a text comes back from what was packed of it, and from what was stored; what is unpacked with something behind it is none. -/
namespace Go.Proofs.YtcjgkmhpeedhiaaGreatDoor
namespace Math
open Pk (fixL pcBits pcsBits packL packS lenC lenB lenX backC backB backX storedHead storedS)

theorem bitAt_of (L:List Nat) (hL:Bits L) (i:Nat):bitAt ⟨(bytesOf L).toArray⟩ i=L.getD i 0:=by
 by_cases h:i/8<(L.length+7)/8
 ·have hd:=Nat.div_add_mod i 8
  have hm:i%8<8:=Nat.mod_lt _ (by omega)
  unfold bitAt
  rw[List.toList_toArray,List.getD_eq_getElem?_getD,List.getElem?_eq_getElem (by rw[bytesOf_length];exact h),Option.getD_some]
  simp only[bytesOf,List.getElem_map,List.getElem_range]
  have hlt:=byteAt_lt hL (i/8)
  rw[UInt8.toNat_ofNat_of_lt' (by simpa using hlt)]
  generalize hq:i/8=q at*
  generalize hr:i%8=r at*
  obtain rfl:i=8*q+r:=by omega
  have h0:=hL.at (8*q);have h1:=hL.at (8*q+1);have h2:=hL.at (8*q+2);have h3:=hL.at (8*q+3)
  have h4:=hL.at (8*q+4);have h5:=hL.at (8*q+5);have h6:=hL.at (8*q+6);have h7:=hL.at (8*q+7)
  unfold byteAt
  match r,hm with
  |0,_=>show _/1%2=L.getD (8*q) 0;omega
  |1,_=>show _/2%2=_;omega
  |2,_=>show _/4%2=_;omega
  |3,_=>show _/8%2=_;omega
  |4,_=>show _/16%2=_;omega
  |5,_=>show _/32%2=_;omega
  |6,_=>show _/64%2=_;omega
  |7,_=>show _/128%2=_;omega
 ·rw[getD_far L i (by omega)]
  refine bitAt_far _ _ ?_
  show 8*(bytesOf L).toArray.size≤i
  rw[List.size_toArray,bytesOf_length]
  omega

def Has (s:ByteArray) (a:Nat) (l:List Nat):Prop:=∀j,j<l.length→bitAt s (a+j)=l.getD j 0

theorem Has.split {s:ByteArray} {a:Nat} {l m:List Nat} (h:Has s a (l++m)):Has s a l∧Has s (a+l.length) m:=by
 refine⟨fun j hj=> ?_,fun j hj=> ?_⟩
 ·rw[h j (by rw[List.length_append];omega),List.getD_eq_getElem?_getD,List.getD_eq_getElem?_getD,List.getElem?_append_left hj]
 ·rw[Nat.add_assoc,h (l.length+j) (by rw[List.length_append];omega),List.getD_eq_getElem?_getD,List.getD_eq_getElem?_getD,List.getElem?_append_right (by omega),Nat.add_sub_cancel_left]

theorem has_high {s:ByteArray} {a v n:Nat} (h:Has s a (highL v n)) (hv:v<2^n):topAt s a n=v:=by
 have key:∀k,k≤n→topAt s a k=v/2^(n-k):=by
  intro k
  induction k with
  |zero=>intro _;rw[topAt,Nat.sub_zero,Nat.div_eq_of_lt hv]
  |succ k ih=>
   intro hk
   have hb:=h k (by rw[highL_length];omega)
   have e:(highL v n).getD k 0=v/2^(n-1-k)%2:=by
    rw[List.getD_eq_getElem?_getD,List.getElem?_eq_getElem (by rw[highL_length];omega)]
    simp[highL]
   rw[topAt,ih (by omega),hb,e,show n-k=(n-1-k)+1 by omega,Nat.pow_succ,←Nat.div_div_eq_div_mul,show n-(k+1)=n-1-k by omega]
   omega
 have:=key n (Nat.le_refl _)
 rw[this,Nat.sub_self,Nat.pow_zero,Nat.div_one]

theorem has_low {s:ByteArray} {a x n:Nat} (h:Has s a (lowL x n)):lowAt s a n=x%2^n:=by
 have key:∀k,k≤n→lowAt s a k=x%2^k:=by
  intro k
  induction k with
  |zero=>intro _;rw[lowAt,Nat.pow_zero,Nat.mod_one]
  |succ k ih=>
   intro hk
   have hb:=h k (by rw[lowL_length];omega)
   have e:(lowL x n).getD k 0=x/2^k%2:=by
    rw[List.getD_eq_getElem?_getD,List.getElem?_eq_getElem (by rw[lowL_length];omega)]
    simp[lowL]
   rw[lowAt,ih (by omega),hb,e,Nat.mod_pow_succ,Nat.mul_comm]
 exact key n (Nat.le_refl _)

theorem top87 (s:ByteArray) (a:Nat):topAt s a 7=topAt s a 8/2:=by
 have h:=bitAt_le s (a+7)
 have e:topAt s a 8=2*topAt s a 7+bitAt s (a+7):=rfl
 omega

theorem top98 (s:ByteArray) (a:Nat):topAt s a 8=topAt s a 9/2:=by
 have h:=bitAt_le s (a+8)
 have e:topAt s a 9=2*topAt s a 8+bitAt s (a+8):=rfl
 omega

theorem sym_read {s:ByteArray} {a:Nat} (y:Nat) (hy:y≤285) (h:Has s a (fixL (y:Int))):symAt s a=y∧symLen s a=(fixL (y:Int)).length:=by
 have h87:=top87 s a
 have h98:=top98 s a
 unfold fixL at h⊢
 by_cases h1:(0:Int)≤(y:Int)∧(y:Int)≤143
 ·rw[if_pos h1]at h⊢
  have ht:=has_high h (by omega)
  rw[highL_length]
  unfold symAt symLen
  rw[if_neg (by omega),if_pos (by omega),if_neg (by omega),if_pos (by omega)]
  omega
 ·rw[if_neg h1]at h⊢
  by_cases h2:(144:Int)≤(y:Int)∧(y:Int)≤255
  ·rw[if_pos h2]at h⊢
   have ht:=has_high h (by omega)
   rw[highL_length]
   unfold symAt symLen
   rw[if_neg (by omega),if_neg (by omega),if_neg (by omega),if_neg (by omega),if_neg (by omega)]
   omega
  ·rw[if_neg h2]at h⊢
   by_cases h3:(256:Int)≤(y:Int)∧(y:Int)≤279
   ·rw[if_pos h3]at h⊢
    have ht:=has_high h (by omega)
    rw[highL_length]
    unfold symAt symLen
    rw[if_pos (by omega),if_pos (by omega)]
    omega
   ·rw[if_neg h3,if_pos (by omega)]at h⊢
    have ht:=has_high h (by omega)
    rw[highL_length]
    unfold symAt symLen
    rw[if_neg (by omega),if_neg (by omega),if_pos (by omega),if_neg (by omega),if_pos (by omega)]
    omega

theorem cb4:∀c,c<28→cbits 4 c≤5:=by decide+kernel
theorem cb2:∀c,c<20→cbits 2 c≤8:=by decide+kernel

theorem len_code (n:Nat) (h1:3≤n) (h2:n≤258):∃y:Nat,lenC (n:Int)=(y:Int)∧257≤y∧y≤285∧(lenB (n:Int)).toNat=lenBits y∧lenBits y≤5∧(∀s a,Has s a (lowL (lenX (n:Int)).toNat (lenBits y))→lenTold s a y=n):=by
 by_cases e:n=258
 ·subst e
  obtain⟨e1,e2,e3⟩:=Pk.len_top
  refine⟨285,e1,by omega,by omega,?_,by unfold lenBits;rw[if_pos rfl];omega,?_⟩
  ·rw[show(((258:Nat):Int))=258 from rfl,e2];rfl
  ·intro s a _
   unfold lenTold
   rw[if_pos rfl]
 ·obtain⟨m,rfl⟩:∃m,n=m+3:=⟨n-3,by omega⟩
  obtain⟨e1,e2,e3⟩:=Pk.len_yes m (by omega)
  rw[show(((m+3:Nat):Int))=(m:Int)+3 by omega]
  obtain⟨c,c1,c2⟩:=code_at 4 m (by omega)
  obtain⟨d1,d2,d3⟩:codeC 2 m=c∧nbits 2 m=cbits 4 c∧codeX 2 m=m-cleast 4 c:=code_of 2 c m c1 c2
  have hc:c<28:=by
   apply Classical.byContradiction
   intro hn
   have g1:cleast 4 28≤cleast 4 c:=cleast_mono 4 28 c (by omega) (by omega)
   have g2:cleast 4 28=256:=by decide
   omega
  have hl:lenBits (257+c)=cbits 4 c:=by
   unfold lenBits
   rw[if_neg (by omega),show 257+c-257=c by omega]
  refine⟨257+c,by rw[e1,d1];omega,by omega,by omega,by rw[e2,d2,hl];rfl,by rw[hl];exact cb4 c hc,?_⟩
  intro s a H
  rw[e3,hl,d3]at H
  have:=has_low H
  rw[Int.toNat_natCast]at this
  unfold lenTold
  rw[if_neg (by omega),show 257+c-257=c by omega,this,Nat.mod_eq_of_lt (by omega)]
  omega

theorem back_code (d:Nat) (h1:1≤d) (h2:d≤1024):∃c:Nat,(backC (d:Int)).toNat=c∧c≤19∧(backB (d:Int)).toNat=cbits 2 c∧cbits 2 c≤8∧(∀s a,Has s a (lowL (backX (d:Int)).toNat (cbits 2 c))→backTold s a c=d):=by
 obtain⟨k,rfl⟩:∃k,d=k+1:=⟨d-1,by omega⟩
 obtain⟨e1,e2,e3⟩:=Pk.back_yes k (by omega)
 rw[show(((k+1:Nat):Int))=(k:Int)+1 by omega]
 obtain⟨c,c1,c2⟩:=code_at 2 k (by omega)
 obtain⟨d1,d2,d3⟩:codeC 1 k=c∧nbits 1 k=cbits 2 c∧codeX 1 k=k-cleast 2 c:=code_of 1 c k c1 c2
 have hc:c<20:=by
  apply Classical.byContradiction
  intro hn
  have g1:cleast 2 20≤cleast 2 c:=cleast_mono 2 20 c (by omega) (by omega)
  have g2:cleast 2 20=1024:=by decide
  omega
 refine⟨c,by rw[e1,d1];rfl,by omega,by rw[e2,d2];rfl,cb2 c hc,?_⟩
 intro s a H
 rw[e3,d3]at H
 have:=has_low H
 rw[Int.toNat_natCast]at this
 unfold backTold
 rw[this,Nat.mod_eq_of_lt (by omega)]
 omega

theorem pc_bound (s:ByteArray) (i:Nat) (hi:i<s.size):7≤(pcBits (pieceAt s i)).length∧(pcBits (pieceAt s i)).length≤9*stepAt s i:=by
 rcases piece_cases s i hi with⟨n,d,e1,e2,h3,h4,h5,h6,h7,-,-,-⟩|⟨e1,e2⟩
 ·obtain⟨y,y1,y2,y3,y4,y5,-⟩:=len_code n h3 h4
  obtain⟨c,c1,c2,c3,c4,-⟩:=back_code d h5 h7
  have l1:=Pk.fixL_pos (y:Int) (by omega) (by omega)
  have l2:(fixL (y:Int)).length≤8:=by
   unfold fixL
   rw[if_neg (by omega),if_neg (by omega)]
   split
   ·rw[highL_length];omega
   split
   ·rw[highL_length];omega
   ·simp
  rw[e1,e2]
  unfold pcBits
  rw[if_neg (by show ¬((n:Int)=0);omega)]
  show 7≤(fixL (lenC (n:Int))++lowL (lenX (n:Int)).toNat (lenB (n:Int)).toNat++highL (backC (d:Int)).toNat 5++lowL (backX (d:Int)).toNat (backB (d:Int)).toNat).length∧(fixL (lenC (n:Int))++lowL (lenX (n:Int)).toNat (lenB (n:Int)).toNat++highL (backC (d:Int)).toNat 5++lowL (backX (d:Int)).toNat (backB (d:Int)).toNat).length≤_
  rw[List.length_append,List.length_append,List.length_append,lowL_length,lowL_length,highL_length,y1,y4,c3]
  omega
 ·rw[e1,e2]
  have hb:=s[i].toNat_lt
  unfold pcBits
  rw[if_pos rfl]
  show 7≤(fixL (s[i].toNat:Int)).length∧(fixL (s[i].toNat:Int)).length≤_
  have l1:=Pk.fixL_pos (s[i].toNat:Int) (by omega) (by omega)
  have l2:=Pk.fixL_length (s[i].toNat:Int)
  omega

def bitsAt (s:ByteArray) (k:Nat):List Nat:=pcsBits ((pieces s).take k)

theorem bits_succ (s:ByteArray) (hs:s.size≤3000) (k:Nat) (hk:k<(pieces s).length):bitsAt s (k+1)=bitsAt s k++pcBits (pieceAt s (posAt s k)):=by
 unfold bitsAt
 rw[Pk.pcsBits_take _ _ hk,(pos_at s hs k hk).1]

theorem bits_bound (s:ByteArray) (hs:s.size≤3000) (k:Nat) (hk:k≤(pieces s).length):7*k≤(bitsAt s k).length∧(bitsAt s k).length≤9*posAt s k:=by
 induction k with
 |zero=>exact⟨Nat.zero_le _,by simp[bitsAt,pcsBits,posAt]⟩
 |succ k ih=>
  obtain⟨h1,h2⟩:=ih (by omega)
  obtain⟨h3,h4⟩:=pc_bound s (posAt s k) (pos_at s hs k (by omega)).2
  rw[bits_succ s hs k (by omega),List.length_append,posAt]
  omega

theorem bits_all (s:ByteArray):bitsAt s (pieces s).length=pcsBits (pieces s):=by
 unfold bitsAt
 rw[List.take_length]

theorem bits_rest (s:ByteArray) (hs:s.size≤3000) (k:Nat) (hk:k<(pieces s).length):pcsBits (pieces s)=bitsAt s k++pcBits (pieceAt s (posAt s k))++pcsBits ((pieces s).drop (k+1)):=by
 rw[←bits_succ s hs k hk]
 unfold bitsAt
 rw[←Pk.pcsBits_append,List.take_append_drop]

theorem piece_read (p s:ByteArray) (hs:s.size≤3000) (i a g:Nat) (hi:i<s.size) (H:Has p a (pcBits (pieceAt s i))) (hp:a+(pcBits (pieceAt s i)).length≤8*p.size):
 fixFrom p (g+1) a (s.data.toList.take i)=fixFrom p g (a+(pcBits (pieceAt s i)).length) (s.data.toList.take (i+stepAt s i)):=by
 have hl:s.data.toList.length=s.size:=Array.length_toList
 have hlen:(s.data.toList.take i).length=i:=by rw[List.length_take];omega
 have hfit:=stepAt_fits s i hi
 rcases piece_cases s i hi with⟨n,d,e1,e2,h3,h4,h5,h6,h7,h8,h9,-⟩|⟨e1,e2⟩
 ·obtain⟨y,y1,y2,y3,y4,y5,y6⟩:=len_code n h3 h4
  obtain⟨c,c1,c2,c3,c4,c6⟩:=back_code d h5 h7
  have eb:pcBits (pieceAt s i)=fixL (y:Int)++lowL (lenX (n:Int)).toNat (lenBits y)++highL c 5++lowL (backX (d:Int)).toNat (cbits 2 c):=by
   rw[e1]
   unfold pcBits
   rw[if_neg (by show ¬((n:Int)=0);omega)]
   show fixL (lenC (n:Int))++lowL (lenX (n:Int)).toNat (lenB (n:Int)).toNat++highL (backC (d:Int)).toNat 5++lowL (backX (d:Int)).toNat (backB (d:Int)).toNat=_
   rw[y1,y4,c1,c3]
  rw[eb]at H hp⊢
  simp only[List.length_append,lowL_length,highL_length]at hp⊢
  obtain⟨H123,H4⟩:=H.split
  obtain⟨H12,H3⟩:=H123.split
  obtain⟨H1,H2⟩:=H12.split
  simp only[List.length_append,lowL_length,highL_length]at H2 H3 H4
  obtain⟨s1,s2⟩:=sym_read y (by omega) H1
  have t1:=has_high H3 (by omega)
  have q1:p1 p a=a+((fixL (y:Int)).length+lenBits y):=by unfold p1;rw[s1,s2];omega
  have q2:bk p a=c:=by unfold bk;rw[q1];exact t1
  have q3:p2' p a=a+((fixL (y:Int)).length+lenBits y+5+cbits 2 c):=by unfold p2';rw[q1,q2];omega
  have q4:dd p a=d:=by
   unfold dd
   rw[q1,q2]
   refine c6 p _ ?_
   rw[show a+((fixL (y:Int)).length+lenBits y)+5=a+((fixL (y:Int)).length+lenBits y+5) by omega]
   exact H4
  have q5:nn p a=n:=by unfold nn;rw[s1,s2];exact y6 p _ H2
  rw[fix_copy (by rw[s2];omega) (by omega) (by omega) (by rw[q1];omega) (by rw[q2];omega) (by rw[q3];omega) (by rw[q4,hlen];omega) (by rw[q5,hlen];omega),q3,q4,q5,e2,copy_take s i d n h5 h6 h8 h9 n (Nat.le_refl _)]
 ·have hb:=s[i].toNat_lt
  have eb:pcBits (pieceAt s i)=fixL ((s[i].toNat:Nat):Int):=by
   rw[e1]
   unfold pcBits
   rw[if_pos rfl]
  rw[eb]at H hp⊢
  obtain⟨s1,s2⟩:=sym_read s[i].toNat (by omega) H
  have hi':i<s.data.toList.length:=by omega
  rw[fix_byte (by rw[s2];omega) (by omega) (by rw[hlen];omega),s1,s2,e2,List.take_add_one,List.getElem?_eq_getElem hi',UInt8.ofNat_toNat]
  rfl

theorem fix_pieces (p s:ByteArray) (hs:s.size≤3000) (H:Has p 3 (pcsBits (pieces s))) (hp:3+(pcsBits (pieces s)).length≤8*p.size) (k:Nat) (hk:k≤(pieces s).length):
 ∀g,fixFrom p (g+k) 3 []=fixFrom p g (3+(bitsAt s k).length) (s.data.toList.take (posAt s k)):=by
 induction k with
 |zero=>intro g;simp[bitsAt,pcsBits,posAt]
 |succ k ih=>
  intro g
  rw[show g+(k+1)=(g+1)+k by omega,ih (by omega)]
  have hr:=bits_rest s hs k (by omega)
  rw[hr]at H hp
  obtain⟨H12,-⟩:=H.split
  obtain⟨-,H2⟩:=H12.split
  rw[List.length_append,List.length_append]at hp
  rw[piece_read p s hs (posAt s k) _ g (pos_at s hs k (by omega)).2 H2 (by omega),bits_succ s hs k (by omega),List.length_append,posAt,Nat.add_assoc]

theorem rst_ok (s:ByteArray) (n:Nat):∀a,a≤8*s.size→8*s.size<a+8→8*s.size≤a+n→(∀j,a≤j→bitAt s j=0)→rst s n a=0:=by
 induction n with
 |zero=>intro a h1 h2 h3 _;rw[rst,if_neg (by omega)]
 |succ n ih=>
  intro a h1 h2 h3 h4
  rw[rst]
  by_cases e:a%8=0
  ·rw[if_pos e,if_neg (by omega)]
  ·rw[if_neg e,if_neg (by rw[h4 a (Nat.le_refl _)];omega)]
   exact ih (a+1) (by omega) (by omega) (by omega) fun j hj=>h4 j (by omega)

theorem packL_bits (s:ByteArray):Bits (packL s):=by
 unfold packL
 refine Bits.append (Bits.append ?_ (Pk.pcsBits_bits _)) (Pk.fixL_bits _)
 intro b hb
 simp at hb
 omega

theorem packL_length (s:ByteArray) (hs:s.size≤3000):(packL s).length=10+(pcsBits (pieces s)).length∧(pcsBits (pieces s)).length≤9*s.size∧7*(pieces s).length≤(pcsBits (pieces s)).length:=by
 have h1:=bits_bound s hs _ (Nat.le_refl _)
 rw[bits_all,pos_end s hs]at h1
 refine⟨?_,h1.2,h1.1⟩
 unfold packL
 have e:(fixL 256).length=7:=by decide
 rw[List.length_append,List.length_append,e]
 show 3+_+7=_
 omega

theorem packS_size (s:ByteArray) (hs:s.size≤3000):(packS s).size=((packL s).length+7)/8:=by
 rw[Pk.packS_yes s hs]
 show(bytesOf (packL s)).toArray.size=_
 rw[List.size_toArray,bytesOf_length]

theorem packS_bound (s:ByteArray) (hs:s.size≤3000):1≤(packS s).size∧(packS s).size≤s.size*9/8+3:=by
 have h:=packL_length s hs
 rw[packS_size s hs]
 omega

theorem packS_bit (s:ByteArray) (hs:s.size≤3000) (i:Nat):bitAt (packS s) i=(packL s).getD i 0:=by
 rw[Pk.packS_yes s hs]
 exact bitAt_of _ (packL_bits s) i

theorem packS_body (s:ByteArray) (hs:s.size≤3000):bitAt (packS s) 0=1∧lowAt (packS s) 1 2=1∧body (packS s)=(0,s.data.toList,(packL s).length):=by
 have hl:=packL_length s hs
 have hz:=packS_size s hs
 have HA:Has (packS s) 0 (packL s):=fun j _=>by rw[Nat.zero_add];exact packS_bit s hs j
 have h0:bitAt (packS s) 0=1:=by rw[packS_bit s hs];rfl
 have h1:bitAt (packS s) 1=1:=by rw[packS_bit s hs];rfl
 have h2:bitAt (packS s) 2=0:=by rw[packS_bit s hs];rfl
 have h3:lowAt (packS s) 1 2=1:=by
  show 0+bitAt (packS s) (1+0)*2^0+bitAt (packS s) (1+1)*2^1=1
  rw[show 1+0=1 from rfl,show 1+1=2 from rfl,h1,h2]
 refine⟨h0,h3,?_⟩
 unfold body
 rw[if_pos h3]
 unfold packL at HA
 obtain⟨HB,H3⟩:=HA.split
 obtain⟨-,H2⟩:=HB.split
 rw[List.length_append,Nat.zero_add]at H3
 rw[Nat.zero_add]at H2
 obtain⟨g,hg⟩:∃g,8*(packS s).size+1=(g+1)+(pieces s).length:=⟨8*(packS s).size-(pieces s).length,by omega⟩
 obtain⟨s1,s2⟩:=sym_read 256 (by omega) H3
 have e7:(fixL ((256:Nat):Int)).length=7:=by decide
 rw[e7]at s2
 have e3: [1,1,0].length=3:=rfl
 rw[e3]at s1 s2 H2
 rw[hg,fix_pieces (packS s) s hs H2 (by omega) _ (Nat.le_refl _) (g+1),bits_all,pos_end s hs,fix_end (by rw[s2];omega) s1,s2,List.take_of_length_le (by rw[Array.length_toList];exact Nat.le_refl _),hl.1]
 simp only[Prod.mk.injEq,true_and]
 omega

theorem unp_pack (s:ByteArray) (hs:s.size≤3000):unpC (packS s)=0∧unpT (packS s)=s:=by
 obtain⟨h0,h1,h2⟩:=packS_body s hs
 have hb:=packS_bound s hs
 have hl:=packL_length s hs
 have hz:=packS_size s hs
 obtain⟨-,hB⟩:=unp_body (s:=packS s) (by omega) (by omega) (by rw[h0,h1];omega) h2
 obtain⟨c1,c2⟩:=hB rfl
 have hr:rst (packS s) 8 (packL s).length=0:=rst_ok _ 8 _ (by omega) (by omega) (by omega) fun j hj=>by rw[packS_bit s hs,getD_far _ _ hj]
 rw[hr]at c1
 exact⟨c1,c2 c1⟩

end Math
end Go.Proofs.YtcjgkmhpeedhiaaGreatDoor

/- Contracts of WordText, of the program and of its model: the four bytes of the word, the highest first. -/
namespace Go.Proofs.YtcjgkmhpeedhiaaGreatDoor
namespace Num
open Go.ChangeShapes Go.WideShapes Go.ChangeAt Go.RowKit

def wordS (x:Nat):ByteArray:=⟨#[UInt8.ofNat (x/16777216),UInt8.ofNat (x/65536),UInt8.ofNat (x/256),UInt8.ofNat x]⟩

theorem wordS_size (x:Nat):(wordS x).size=4:=rfl

theorem byte_of (x:Nat) (a:Int) (h:a=((x%256:Nat):Int)):Value.int IntKind.u8 a= .int .u8 ((UInt8.ofNat x).toNat:Int):=by
 rw[h,UInt8.toNat_ofNat']

theorem conv4 (w:World) (x:Nat) (C:Array Value) (hC:C= #[.int .u8 ((UInt8.ofNat (x/16777216)).toNat:Int),.int .u8 ((UInt8.ofNat (x/65536)).toNat:Int),.int .u8 ((UInt8.ofNat (x/256)).toNat:Int),.int .u8 ((UInt8.ofNat x).toNat:Int)]):
 (convert 22 9 (.slice (some ⟨w.heap.size,0,none⟩) 4 4)).run Tryz.prog (w.alloc (.cells C 5))= .ok (.string (wordS x)) (w.alloc (.cells C 5)):=by
 subst hC
 refine run_convert_bytes_back (w.alloc (.cells _ 5)) 22 9 5 ⟨w.heap.size,0,none⟩ 4 [UInt8.ofNat (x/16777216),UInt8.ofNat (x/65536),UInt8.ofNat (x/256),UInt8.ofNat x] Tryz.underlying22 Tryz.underlying5 Tryz.underlying9 ?_
 intro j hj
 rw[show Addr.add ⟨w.heap.size,0,none⟩ j=⟨w.heap.size,j,none⟩from by simp[Addr.add];exact Eq.symm,World.cell?_alloc_mark]
 match j,hj with
 |0,_=>rfl
 |1,_=>rfl
 |2,_=>rfl
 |3,_=>rfl

theorem implWordText_any (x:Nat) (w:World) (hx:x<4294967296):
 Calls Tryz.prog 200 #[.int .u32 x] w fun e w'=>e= .returned (.string (wordS x))∧Grown w w'∧Below w.heap.size w w':=by
 have hk:=conv4 w x #[.int .u8 ((x:Int)/16777216),.int .u8 ((x:Int)/65536%256),.int .u8 ((x:Int)/256%256),.int .u8 ((x:Int)%256)]
  (by rw[byte_of (x/16777216) ((x:Int)/16777216) (by omega),byte_of (x/65536) ((x:Int)/65536%256) (by omega),byte_of (x/256) ((x:Int)/256%256) (by omega),byte_of x ((x:Int)%256) (by omega)])
 go_enter Tryz.func200,Tryz.ntmps200
 go_wp2
 go_ret
 exact⟨rfl,(Grown.refl _).alloc _ _,(Below.refl _ _).alloc (Nat.le_refl _) _⟩

theorem specWordText_any (x:Nat) (w:World) (hx:x<4294967296):
 Calls Tryz.prog 98 #[.int .u32 x] w fun e w'=>e= .returned (.string (wordS x))∧Grown w w'∧Below w.heap.size w w':=by
 have hk:=conv4 w x #[.int .u8 ((x:Int)/16777216),.int .u8 ((x:Int)/65536%256),.int .u8 ((x:Int)/256%256),.int .u8 ((x:Int)%256)]
  (by rw[byte_of (x/16777216) ((x:Int)/16777216) (by omega),byte_of (x/65536) ((x:Int)/65536%256) (by omega),byte_of (x/256) ((x:Int)/256%256) (by omega),byte_of x ((x:Int)%256) (by omega)])
 go_enter Tryz.func98,Tryz.ntmps98
 go_wp2
 go_ret
 exact⟨rfl,(Grown.refl _).alloc _ _,(Below.refl _ _).alloc (Nat.le_refl _) _⟩

end Num
end Go.Proofs.YtcjgkmhpeedhiaaGreatDoor

/- Contracts of MarkText and ReadMark, of the program and of the model. -/
namespace Go.Proofs.YtcjgkmhpeedhiaaGreatDoor
namespace Num
open Go.ChangeShapes Go.WideShapes Go.ChangeAt Go.RowKit
set_option linter.unusedSimpArgs false
set_option linter.unusedVariables false

def wideB (x:Int):Bool:=decide (0≤x∧x≤4294967295)

def markS (r s:Int):ByteArray:=if(wideB r&&wideB s)=true then wordS r.toNat++wordS s.toNat else⟨#[]⟩

theorem markS_yes {r s:Int} (h:(wideB r&&wideB s)=true):markS r s=wordS r.toNat++wordS s.toNat:=if_pos h

theorem markS_no {r s:Int} (h:(wideB r&&wideB s)=false):markS r s=⟨#[]⟩:=if_neg (by rw[h];simp)

theorem specWide_is (x:Int) (b:Bool) (h:wideB x=b) (w:World):
 Calls Tryz.prog 97 #[.int .i64 x] w fun e w'=>e= .returned (.bool b)∧w'=w:=by
 subst h
 by_cases h1:0≤x<;>by_cases h2:x≤4294967295
 all_goals
  go_enter Tryz.func97,Tryz.ntmps97
  go_wp2
  go_ret
  exact⟨by simp[wideB,h1,h2],rfl⟩

theorem implWide_is (x:Int) (b:Bool) (h:wideB x=b) (w:World):
 Calls Tryz.prog 199 #[.int .i64 x] w fun e w'=>e= .returned (.bool b)∧w'=w:=by
 subst h
 by_cases h1:0≤x<;>by_cases h2:x≤4294967295
 all_goals
  go_enter Tryz.func199,Tryz.ntmps199
  go_wp2
  go_ret
  exact⟨by simp[wideB,h1,h2],rfl⟩

theorem cells2 {w w1:World} {p q:Int} {t:TypeId} (L:Below (w.alloc (.cells #[.int .i64 p,.int .i64 q] t)).heap.size (w.alloc (.cells #[.int .i64 p,.int .i64 q] t)) w1):
 w1.cell? ⟨w.heap.size,0,none⟩=some (.int .i64 p)∧w1.cell? ⟨w.heap.size,1,none⟩=some (.int .i64 q):=by
 refine⟨?_,?_⟩
 ·rw[L.cell (by simp)];exact World.cell?_alloc_mark _ _ _ _ 0
 ·rw[L.cell (by simp)];exact World.cell?_alloc_mark _ _ _ _ 1

theorem undrew {X w3:World} (L:Below X.drew.heap.size X.drew w3):Below X.heap.size X w3:=(Below.refl X.heap.size X).drew.trans L

theorem specWord_wrap (x:Nat) (w:World) (hx:x<4294967296):
 Calls Tryz.prog 98 #[.int .u32 (IntKind.u32.wrap (x:Int))] w fun e w'=>e= .returned (.string (wordS x))∧Below w.heap.size w w':=by
 have e:IntKind.u32.wrap (x:Int)=x:=by rw[IntKind.wrap_u32];omega
 rw[e]
 refine(specWordText_any x w hx).mono ?_
 rintro e w' ⟨rfl,-,L⟩
 exact⟨rfl,L⟩

theorem implWord_wrap (x:Nat) (w:World) (hx:x<4294967296):
 Calls Tryz.prog 200 #[.int .u32 (IntKind.u32.wrap (x:Int))] w fun e w'=>e= .returned (.string (wordS x))∧Below w.heap.size w w':=by
 have e:IntKind.u32.wrap (x:Int)=x:=by rw[IntKind.wrap_u32];omega
 rw[e]
 refine(implWordText_any x w hx).mono ?_
 rintro e w' ⟨rfl,-,L⟩
 exact⟨rfl,L⟩

set_option maxHeartbeats 1000000 in
theorem specMarkText_val (r s:Int) (w:World):
 Calls Tryz.prog 58 #[.agg #[.int .i64 r,.int .i64 s]] w fun e w'=>e= .returned (.string (markS r s))∧Below w.heap.size w w':=by
 cases hr:wideB r
 ·have HV:Hid (markS r s=⟨#[]⟩):=markS_no (by rw[hr];rfl)
  have HR:Hid (wideB r=false):=hr
  clear hr
  go_enter Tryz.func58,Tryz.ntmps58
  go_wp2_with fail
  refine(specWide_is r false HR.out _).mono ?_
  rintro e w1 ⟨rfl,rfl⟩
  go_wp2
  go_ret
  rw[HV.out]
  exact⟨rfl,(Below.refl _ _).alloc (Nat.le_refl _) _⟩
 ·cases hs:wideB s
  ·have HV:Hid (markS r s=⟨#[]⟩):=markS_no (by rw[hr,hs];rfl)
   have HR:Hid (wideB r=true):=hr
   have HS:Hid (wideB s=false):=hs
   clear hr hs
   go_enter Tryz.func58,Tryz.ntmps58
   go_wp2_with fail
   refine(specWide_is r true HR.out _).mono ?_
   rintro e w1 ⟨rfl,rfl⟩
   go_wp2_with fail
   refine(specWide_is s false HS.out _).mono ?_
   rintro e w2 ⟨rfl,rfl⟩
   go_wp2
   go_ret
   rw[HV.out]
   exact⟨rfl,(Below.refl _ _).alloc (Nat.le_refl _) _⟩
  ·have HV:Hid (markS r s=wordS r.toNat++wordS s.toNat):=markS_yes (by rw[hr,hs];rfl)
   have HR:Hid (wideB r=true):=hr
   have HS:Hid (wideB s=true):=hs
   have hr1:=of_decide_eq_true hr
   have hs1:=of_decide_eq_true hs
   clear hr hs
   obtain⟨x,rfl⟩:=Int.eq_ofNat_of_zero_le hr1.1
   obtain⟨y,rfl⟩:=Int.eq_ofNat_of_zero_le hs1.1
   rw[Int.toNat_natCast,Int.toNat_natCast]at HV
   have HX:Hid (∀w,_):=fun w=>specWord_wrap x w (by omega)
   have HY:Hid (∀w,_):=fun w=>specWord_wrap y w (by omega)
   have h8:¬((wordS x).size+(wordS y).size>9223372036854775807):=by rw[wordS_size,wordS_size];omega
   have L0:Below w.heap.size w (w.alloc (.cells #[.int .i64 x,.int .i64 y] 42)):=(Below.refl _ _).alloc (Nat.le_refl _) _
   go_enter Tryz.func58,Tryz.ntmps58
   go_wp2_with fail
   refine(specWide_is x true HR.out _).mono ?_
   rintro e w1 ⟨rfl,rfl⟩
   go_wp2_with fail
   refine(specWide_is y true HS.out _).mono ?_
   rintro e w2 ⟨rfl,rfl⟩
   go_wp2
   generalize hx:wordS x=X at*
   generalize hy:wordS y=Y at*
   clear hx hy
   go_region_with (first
    |(go_at_call 98;with_reducible refine(HX.out _).mono ?_;rintro e w3 ⟨rfl,L3⟩;have L4:=undrew L3;obtain⟨c0,c1⟩:=cells2 L4)
    |(go_at_call 98;with_reducible refine(HY.out _).mono ?_;rintro e w5 ⟨rfl,L5⟩))
   all_goals
    go_wp2
    go_ret
    rw[HV.out]
    exact⟨rfl,L0.trans ((L4.trans (L5.mono L4.size)).mono L0.size)⟩

set_option maxHeartbeats 1000000 in
theorem implMarkText_val (r s:Int) (w:World):
 Calls Tryz.prog 198 #[.agg #[.int .i64 r,.int .i64 s]] w fun e w'=>e= .returned (.string (markS r s))∧Below w.heap.size w w':=by
 cases hr:wideB r
 ·have HV:Hid (markS r s=⟨#[]⟩):=markS_no (by rw[hr];rfl)
  have HR:Hid (wideB r=false):=hr
  clear hr
  go_enter Tryz.func198,Tryz.ntmps198
  go_wp2_with fail
  refine(implWide_is r false HR.out _).mono ?_
  rintro e w1 ⟨rfl,rfl⟩
  go_wp2
  go_ret
  rw[HV.out]
  exact⟨rfl,(Below.refl _ _).alloc (Nat.le_refl _) _⟩
 ·cases hs:wideB s
  ·have HV:Hid (markS r s=⟨#[]⟩):=markS_no (by rw[hr,hs];rfl)
   have HR:Hid (wideB r=true):=hr
   have HS:Hid (wideB s=false):=hs
   clear hr hs
   go_enter Tryz.func198,Tryz.ntmps198
   go_wp2_with fail
   refine(implWide_is r true HR.out _).mono ?_
   rintro e w1 ⟨rfl,rfl⟩
   go_wp2_with fail
   refine(implWide_is s false HS.out _).mono ?_
   rintro e w2 ⟨rfl,rfl⟩
   go_wp2
   go_ret
   rw[HV.out]
   exact⟨rfl,(Below.refl _ _).alloc (Nat.le_refl _) _⟩
  ·have HV:Hid (markS r s=wordS r.toNat++wordS s.toNat):=markS_yes (by rw[hr,hs];rfl)
   have HR:Hid (wideB r=true):=hr
   have HS:Hid (wideB s=true):=hs
   have hr1:=of_decide_eq_true hr
   have hs1:=of_decide_eq_true hs
   clear hr hs
   obtain⟨x,rfl⟩:=Int.eq_ofNat_of_zero_le hr1.1
   obtain⟨y,rfl⟩:=Int.eq_ofNat_of_zero_le hs1.1
   rw[Int.toNat_natCast,Int.toNat_natCast]at HV
   have HX:Hid (∀w,_):=fun w=>implWord_wrap x w (by omega)
   have HY:Hid (∀w,_):=fun w=>implWord_wrap y w (by omega)
   have h8:¬((wordS x).size+(wordS y).size>9223372036854775807):=by rw[wordS_size,wordS_size];omega
   have L0:Below w.heap.size w (w.alloc (.cells #[.int .i64 x,.int .i64 y] 42)):=(Below.refl _ _).alloc (Nat.le_refl _) _
   go_enter Tryz.func198,Tryz.ntmps198
   go_wp2_with fail
   refine(implWide_is x true HR.out _).mono ?_
   rintro e w1 ⟨rfl,rfl⟩
   go_wp2_with fail
   refine(implWide_is y true HS.out _).mono ?_
   rintro e w2 ⟨rfl,rfl⟩
   go_wp2
   generalize hx:wordS x=X at*
   generalize hy:wordS y=Y at*
   clear hx hy
   go_region_with (first
    |(go_at_call 200;with_reducible refine(HX.out _).mono ?_;rintro e w3 ⟨rfl,L3⟩;have L4:=undrew L3;obtain⟨c0,c1⟩:=cells2 L4)
    |(go_at_call 200;with_reducible refine(HY.out _).mono ?_;rintro e w5 ⟨rfl,L5⟩))
   all_goals
    go_wp2
    go_ret
    rw[HV.out]
    exact⟨rfl,L0.trans ((L4.trans (L5.mono L4.size)).mono L0.size)⟩

end Num
end Go.Proofs.YtcjgkmhpeedhiaaGreatDoor

/- What is signed: the first draw that will do, that it verifies, and that its text tells it. -/
namespace Go.Proofs.YtcjgkmhpeedhiaaGreatDoor
namespace Num

theorem sg_cases (p q g x h:Int) (zs:List Int) (i:Int):sg p q g x h zs i=(0,0,-1,false)∨
 ∃(j:Nat) (hj:j<zs.length),doV p q g x h zs[j]=true∧(∀(d:Nat) (hd:d<zs.length),d<j→doV p q g x h zs[d]=false)∧sg p q g x h zs i=(rV p q g zs[j],sV p q g x h zs[j],i+j,true):=by
 induction zs generalizing i with
 |nil=>exact Or.inl rfl
 |cons k r ih=>
  cases hd:doV p q g x h k
  ·have e:sg p q g x h (k::r) i=sg p q g x h r (i+1):=by rw[sg,if_neg (by rw[hd];simp)]
   rw[e]
   rcases ih (i+1)with h1|⟨j,hj,h1,h2,h3⟩
   ·exact Or.inl h1
   ·refine Or.inr ⟨j+1,by simp;omega,h1,?_,?_⟩
    ·intro d hd2 hdj
     cases d with
     |zero=>exact hd
     |succ d=>exact h2 d (by simpa using hd2) (by omega)
    ·rw[h3,show i+1+(j:Int)=i+((j+1:Nat):Int) by omega]
     rfl
  ·refine Or.inr ⟨0,by simp,hd,fun d _ h=>by omega,?_⟩
   rw[sg,if_pos hd]
   simp

theorem word_two (a b:Nat):wordS a++wordS b=⟨#[UInt8.ofNat (a/16777216),UInt8.ofNat (a/65536),UInt8.ofNat (a/256),UInt8.ofNat a,UInt8.ofNat (b/16777216),UInt8.ofNat (b/65536),UInt8.ofNat (b/256),UInt8.ofNat b]⟩:=rfl

theorem ext_two (a b c d e f g h:UInt8):(⟨#[a,b,c,d,e,f,g,h]⟩:ByteArray).extract 4 8=⟨#[e,f,g,h]⟩:=by
 apply ByteArray.ext
 simp[ByteArray.data_extract]

theorem mark_back (r s:Int) (hr:0≤r∧r≤4294967295) (hs:0≤s∧s≤4294967295):(markS r s).size=8∧rmR (markS r s)=r∧rmS (markS r s)=s:=by
 obtain⟨a,rfl⟩:=Int.eq_ofNat_of_zero_le hr.1
 obtain⟨b,rfl⟩:=Int.eq_ofNat_of_zero_le hs.1
 have e:markS (a:Int) (b:Int)=wordS a++wordS b:=markS_yes (by unfold wideB;rw[decide_eq_true hr,decide_eq_true hs];rfl)
 rw[e,word_two]
 have h8:(⟨#[UInt8.ofNat (a/16777216),UInt8.ofNat (a/65536),UInt8.ofNat (a/256),UInt8.ofNat a,UInt8.ofNat (b/16777216),UInt8.ofNat (b/65536),UInt8.ofNat (b/256),UInt8.ofNat b]⟩:ByteArray).size=8:=rfl
 refine⟨h8,?_,?_⟩
 ·unfold rmR
  rw[if_pos h8]
  have h:part ⟨#[UInt8.ofNat (a/16777216),UInt8.ofNat (a/65536),UInt8.ofNat (a/256),UInt8.ofNat a,UInt8.ofNat (b/16777216),UInt8.ofNat (b/65536),UInt8.ofNat (b/256),UInt8.ofNat b]⟩ 4=a:=by
   simp only[part]
   show(((0*256+(UInt8.ofNat (a/16777216)).toNat)*256+(UInt8.ofNat (a/65536)).toNat)*256+(UInt8.ofNat (a/256)).toNat)*256+(UInt8.ofNat a).toNat=a
   simp only[UInt8.toNat_ofNat']
   omega
  rw[h]
 ·unfold rmS
  rw[if_pos h8,ext_two]
  have h:part ⟨#[UInt8.ofNat (b/16777216),UInt8.ofNat (b/65536),UInt8.ofNat (b/256),UInt8.ofNat b]⟩ 4=b:=by
   simp only[part]
   show(((0*256+(UInt8.ofNat (b/16777216)).toNat)*256+(UInt8.ofNat (b/65536)).toNat)*256+(UInt8.ofNat (b/256)).toNat)*256+(UInt8.ofNat b).toNat=b
   simp only[UInt8.toNat_ofNat']
   omega
  rw[h]

theorem ver_signed {p q g x k:Int} {t:ByteArray} (hok:okP p q g=true) (h1:1≤x) (h2:x≤q-1) (ht:t.size≤5000) (hk:doV p q g x (hV t q) k=true):verV p q g (powV g x p) (rV p q g k) (sV p q g x (hV t q) k) t=true:=by
 obtain⟨-,hq,-⟩:=okP_facts hok
 obtain⟨b1,b2⟩:=doV_bd hq hk
 unfold verV verOk
 rw[hok,open_ok hok h1 h2,b1,b2,decide_eq_true ht,signed_eq hok h1 h2 hk]
 simp

theorem key_yes {p q g x:Int} (hok:okP p q g=true) (h1:1≤x) (h2:x≤q-1):keyB p q g x=true∧keyI p q g x=powV g x p:=by
 have h:keyB p q g x=true:=by unfold keyB;rw[hok,decide_eq_true ⟨h1,h2⟩];rfl
 exact⟨h,if_pos h⟩

theorem sign_told {p q g x:Int} {t:ByteArray} {zs:List Int} (hok:okP p q g=true) (h1:1≤x) (h2:x≤q-1) (ht:t.size≤5000) (hz:zs.length≤100):
 signV p q g x t zs=(0,0,-1,false)∨
 ∃(r s:Int) (j:Nat),signV p q g x t zs=(r,s,(j:Int),true)∧j<zs.length∧(∀(d:Nat) (hd:d<zs.length),d<j→soB p q g x t zs[d]=false)∧(0≤r∧r≤4294967295)∧(0≤s∧s≤4294967295)∧verV p q g (powV g x p) r s t=true:=by
 obtain⟨hkb,-⟩:=key_yes hok h1 h2
 have hsb:signB p q g x t=true:=by unfold signB;rw[hkb,decide_eq_true (by omega)];rfl
 have e:signV p q g x t zs=sg p q g x (hV t q) zs 0:=by unfold signV;rw[if_pos ⟨hsb,hz⟩]
 rw[e]
 obtain⟨-,hq,-⟩:=okP_facts hok
 have hq1:=hq.1
 have hq2:=hq.2
 rcases sg_cases p q g x (hV t q) zs 0 with h|⟨j,hj,a1,a2,a3⟩
 ·exact Or.inl h
 ·have rb:=rV_bd (p:=p) (g:=g) (k:=zs[j]) hq
  have sb:=sV_bd (p:=p) (g:=g) (x:=x) (h:=hV t q) (k:=zs[j]) hq
  refine Or.inr ⟨_,_,j,by rw[a3,Int.zero_add],hj,?_,by omega,by omega,ver_signed hok h1 h2 (by omega) a1⟩
  intro d hd hdj
  unfold soB
  rw[hsb,a2 d hd hdj]
  rfl

end Num
end Go.Proofs.YtcjgkmhpeedhiaaGreatDoor

/- What is framed comes back: its issuer, its mark and its text. -/
namespace Go.Proofs.YtcjgkmhpeedhiaaGreatDoor
namespace Is4
open Fr (dg dg_at digI digI_some hd5 fC fN fR fS fP f_yes)
open Num (wideB markS rmR rmS)
open Pk (packS)
open Tk (Lg Hd putS okB)
set_option linter.unusedVariables false

def frB (n r s:Int) (t:ByteArray):Bool:=fourB n&&(wideB r&&wideB s)&&decide (t.size≤3000)
def frT (n r s:Int) (t:ByteArray):ByteArray:=if frB n r s t=true then hd5++fourS n.toNat++markS r s++(fourS (packS t).size++packS t)else⟨#[]⟩

theorem frB_parts {n r s:Int} {t:ByteArray} (h:frB n r s t=true):fourB n=true∧(wideB r&&wideB s)=true∧t.size≤3000:=by
 unfold frB at h
 rw[Bool.and_eq_true,Bool.and_eq_true]at h
 exact⟨h.1.1,h.1.2,of_decide_eq_true h.2⟩

theorem four_range {n:Int} (h:fourB n=true):0≤n∧n≤9999:=by
 unfold fourB at h
 rw[Bool.and_eq_true]at h
 exact⟨of_decide_eq_true h.1,of_decide_eq_true h.2⟩

theorem pack_small {t:ByteArray} (h:t.size≤3000):(packS t).size≤9999:=by
 have:=(Math.packS_bound t h).2
 omega

theorem four_size (n:Nat):(fourS n).size=4:=rfl

theorem dg_four (n:Nat) (h:n<10000):dg (fourS n) 4=some n:=by
 have h0:dg (fourS n) 0=some 0:=rfl
 have hz:=four_size n
 have e0:((fourS n)[0]'(by omega)).toNat=48+n/1000:=by
  show(UInt8.ofNat (48+n/1000)).toNat=_
  rw[UInt8.toNat_ofNat'];omega
 have e1:((fourS n)[1]'(by omega)).toNat=48+n/100%10:=by
  show(UInt8.ofNat (48+n/100%10)).toNat=_
  rw[UInt8.toNat_ofNat'];omega
 have e2:((fourS n)[2]'(by omega)).toNat=48+n/10%10:=by
  show(UInt8.ofNat (48+n/10%10)).toNat=_
  rw[UInt8.toNat_ofNat'];omega
 have e3:((fourS n)[3]'(by omega)).toNat=48+n%10:=by
  show(UInt8.ofNat (48+n%10)).toNat=_
  rw[UInt8.toNat_ofNat'];omega
 have d1:=dg_at (fourS n) 0 _ (by omega) h0
 rw[e0,if_pos (by omega)]at d1
 have d2:=dg_at (fourS n) 1 _ (by omega) d1
 rw[e1,if_pos (by omega)]at d2
 have d3:=dg_at (fourS n) 2 _ (by omega) d2
 rw[e2,if_pos (by omega)]at d3
 have d4:=dg_at (fourS n) 3 _ (by omega) d3
 rw[e3,if_pos (by omega)]at d4
 rw[d4]
 congr 1
 omega

theorem bl_ext (s:ByteArray) (a b:Nat):(s.extract a b).data.toList=(s.data.toList.take b).drop a:=by
 rw[ByteArray.data_extract,Array.toList_extract,List.extract_eq_take_drop,List.take_drop]
 by_cases h:a≤b
 ·congr 2
  omega
 ·rw[show b-a=0 by omega,List.drop_eq_nil_of_le (by rw[List.length_take];omega),List.drop_eq_nil_of_le (by rw[List.length_take];omega)]

theorem bl_app (a b:ByteArray):(a++b).data.toList=a.data.toList++b.data.toList:=by simp

theorem ba_of {a b:ByteArray} (h:a.data.toList=b.data.toList):a=b:=ByteArray.ext (Array.toList_inj.1 h)

theorem bl_size (a:ByteArray):a.data.toList.length=a.size:=Array.length_toList

theorem ext_mid (a b c:ByteArray) (i j:Nat) (hi:a.size=i) (hj:i+b.size=j):(a++(b++c)).extract i j=b:=by
 apply ba_of
 have h1:=bl_size a
 have h2:=bl_size b
 rw[bl_ext,bl_app,bl_app,List.take_append,List.take_of_length_le (by omega),List.take_append,List.take_of_length_le (by omega),List.drop_append,List.drop_eq_nil_of_le (by omega),List.nil_append,List.drop_append,show j-a.data.toList.length-b.data.toList.length=0 by omega,List.take_zero,List.drop_nil,List.append_nil,show i-a.data.toList.length=0 by omega,List.drop_zero]

theorem ext_last (a b:ByteArray) (i j:Nat) (hi:a.size=i) (hj:i+b.size=j):(a++b).extract i j=b:=by
 have h:=ext_mid a b ⟨#[]⟩ i j hi hj
 rw[show b++(⟨#[]⟩:ByteArray)=b from ba_of (by rw[bl_app];exact List.append_nil _)]at h
 exact h

theorem mark_size {r s:Int} (h:(wideB r&&wideB s)=true):(markS r s).size=8∧rmR (markS r s)=r∧rmS (markS r s)=s:=by
 rw[Bool.and_eq_true]at h
 exact Num.mark_back r s (of_decide_eq_true h.1) (of_decide_eq_true h.2)

theorem frame_back {n r s:Int} {t:ByteArray} (h:frB n r s t=true):(frT n r s t).size≤4000∧fC (frT n r s t)=0∧fN (frT n r s t)=n∧fR (frT n r s t)=r∧fS (frT n r s t)=s∧fP (frT n r s t)=t:=by
 obtain⟨h1,h2,h3⟩:=frB_parts h
 obtain⟨h0,h9⟩:=four_range h1
 obtain⟨k,rfl⟩:=Int.eq_ofNat_of_zero_le h0
 obtain⟨m1,m2,m3⟩:=mark_size h2
 obtain⟨u1,u2⟩:=Math.unp_pack t h3
 have hp:=(Math.packS_bound t h3).2
 have e:frT (k:Int) r s t=hd5++(fourS k++(markS r s++(fourS (packS t).size++packS t))):=by
  unfold frT
  rw[if_pos h]
  apply ba_of
  simp only[bl_app,List.append_assoc]
  rfl
 have e2:frT (k:Int) r s t=(hd5++fourS k)++(markS r s++(fourS (packS t).size++packS t)):=by
  rw[e];apply ba_of;simp only[bl_app,List.append_assoc]
 have e3:frT (k:Int) r s t=(hd5++fourS k++markS r s)++(fourS (packS t).size++packS t):=by
  rw[e];apply ba_of;simp only[bl_app,List.append_assoc]
 have e4:frT (k:Int) r s t=(hd5++fourS k++markS r s++fourS (packS t).size)++packS t:=by
  rw[e];apply ba_of;simp only[bl_app,List.append_assoc]
 have z5:hd5.size=5:=rfl
 have z9:(hd5++fourS k).size=9:=by rw[ByteArray.size_append];rfl
 have z17:(hd5++fourS k++markS r s).size=17:=by rw[ByteArray.size_append,z9,m1]
 have z21:(hd5++fourS k++markS r s++fourS (packS t).size).size=21:=by rw[ByteArray.size_append,z17];rfl
 have zz:(frT (k:Int) r s t).size=21+(packS t).size:=by rw[e4,ByteArray.size_append,z21]
 have x5:(frT (k:Int) r s t).extract 0 5=hd5:=by
  have:=ext_mid ⟨#[]⟩ hd5 (fourS k++(markS r s++(fourS (packS t).size++packS t))) 0 5 rfl rfl
  rw[show(⟨#[]⟩:ByteArray)++(hd5++(fourS k++(markS r s++(fourS (packS t).size++packS t))))=frT (k:Int) r s t by rw[e];apply ba_of;rw[bl_app];rfl]at this
  exact this
 have x9:(frT (k:Int) r s t).extract 5 9=fourS k:=by rw[e];exact ext_mid _ _ _ 5 9 z5 rfl
 have x17:(frT (k:Int) r s t).extract 9 17=markS r s:=by rw[e2];exact ext_mid _ _ _ 9 17 z9 (by rw[m1])
 have x21:(frT (k:Int) r s t).extract 17 21=fourS (packS t).size:=by rw[e3];exact ext_mid _ _ _ 17 21 z17 rfl
 have xe:(frT (k:Int) r s t).extract 21 (frT (k:Int) r s t).size=packS t:=by
  rw[zz,e4]
  exact ext_last _ _ 21 _ z21 rfl
 have d1:=dg_four k (by omega)
 have d2:=dg_four (packS t).size (by omega)
 have hc:fC (frT (k:Int) r s t)=0:=by
  unfold fC
  rw[x5,x9,x21,xe,d1,d2,u1,zz,if_neg (by simp<;>omega),if_neg (by simp<;>omega),if_neg (by simp<;>omega),if_neg (by simp)]
 obtain⟨g1,g2,g3,g4⟩:=f_yes hc
 refine⟨by omega,hc,?_,?_,?_,?_⟩
 ·rw[g1,x9,digI_some d1]
 ·rw[g2,x17,m2]
 ·rw[g3,x17,m3]
 ·rw[g4,xe,u2]

abbrev iV (v:ByteArray×Int×Bool):Value:= .tuple #[.string v.1,.int .i64 v.2.1,.bool v.2.2]
abbrev iNo:ByteArray×Int×Bool:=(⟨#[]⟩,-1,false)

def isV (ok:Bool) (P:ByteArray) (v:Int×Int×Int×Bool) (n:Int):ByteArray×Int×Bool:=if(ok&&v.2.2.2&&frB n v.1 v.2.1 P)=true then(frT n v.1 v.2.1 P,v.2.2.1,true)else iNo

theorem is_cases (ok:Bool) (P:ByteArray) (r s i:Int) (fine:Bool) (n:Int):
 (ok=false∧isV ok P (r,s,i,fine) n=iNo)∨(ok=true∧fine=false∧isV ok P (r,s,i,fine) n=iNo)∨(ok=true∧fine=true∧frB n r s P=false∧isV ok P (r,s,i,fine) n=iNo)∨(ok=true∧fine=true∧frB n r s P=true∧isV ok P (r,s,i,fine) n=(frT n r s P,i,true)):=by
 unfold isV
 cases ok
 ·exact Or.inl ⟨rfl,rfl⟩
 ·cases fine
  ·exact Or.inr (Or.inl ⟨rfl,rfl,rfl⟩)
  ·show _∨_∨(_∧_∧_∧(if frB n r s P=true then _ else _)=_)∨(_∧_∧_∧(if frB n r s P=true then _ else _)=_)
   cases h:frB n r s P
   ·exact Or.inr (Or.inr (Or.inl ⟨rfl,rfl,rfl,rfl⟩))
   ·exact Or.inr (Or.inr (Or.inr ⟨rfl,rfl,rfl,rfl⟩))

theorem frT_no {n r s:Int} {t:ByteArray} (h:frB n r s t=false):frT n r s t=⟨#[]⟩:=by
 unfold frT
 rw[if_neg (by rw[h];simp)]

theorem frT_size (n r s:Int) (t:ByteArray):(frT n r s t).size≤4000:=by
 cases h:frB n r s t
 ·rw[frT_no h];exact Nat.zero_le _
 ·exact(frame_back h).1

theorem isV_size (ok:Bool) (P:ByteArray) (v:Int×Int×Int×Bool) (n:Int):(isV ok P v n).1.size≤4000:=by
 unfold isV
 split
 ·exact frT_size _ _ _ _
 ·exact Nat.zero_le _

theorem put_small (t:Hd) (nm:ByteArray) (ls:List Lg):(putS t nm ls).size≤1000:=by
 unfold putS
 split
 ·rename_i h
  have h1:=Tk.putT_size t nm ls h ls.length (Nat.le_refl _)
  have h2:=(Tk.okB_parts t nm ls h).2.2.1.2
  omega
 ·exact Nat.zero_le _

end Is4
end Go.Proofs.YtcjgkmhpeedhiaaGreatDoor

/- Contracts of the two functions that count like bytes, of the program and of its model. -/
namespace Go.Proofs.YtcjgkmhpeedhiaaGreatDoor
namespace Pk
open Go.ChangeShapes Go.WideShapes Go.ChangeAt Go.RowKit
set_option linter.unusedSimpArgs false
set_option linter.unusedVariables false

theorem bytes_eq (s:ByteArray) (j m:Nat) (hj:j<s.size) (hm:m<s.size):(s[j]? =s[m]?)↔((s[j].toNat:Int)==(s[m].toNat:Int))=true:=by
 rw[getElem?_pos s j hj,getElem?_pos s m hm,Option.some.injEq,beq_iff_eq]
 constructor
 ·intro h;rw[h]
 ·intro h
  apply UInt8.toNat_inj.1
  omega

theorem beq_turn {a b:Int} (h:(a==b)=true):(b==a)=true:=by
 rw[beq_iff_eq]at h⊢
 exact h.symm

set_option maxHeartbeats 1000000 in
theorem alike_val (s:ByteArray) (e l:Nat) (w:World) (hs:s.size≤3000) (hel:e<l) (hl:l≤s.size):
 Calls Tryz.prog 216 #[.string s,.int .i64 e,.int .i64 l] w fun r w'=>r= .returned (.int .i64 (Math.run s e l))∧Drawn w w':=by
 go_enter Tryz.func216,Tryz.ntmps216
 go_wp2
 go_loopw [7] (fun i wr=>∃(n m:Nat),n≤258∧l+n≤s.size∧i= .int .i64 n∧wr=w.drewN m∧Hid (Math.runFrom s e l (258-n) n=Math.run s e l)) (fun i _=>258-(intOf i).toNat)
 case atStart=>exact⟨0,0,by omega,by omega,rfl,rfl,rfl⟩
 case round=>
  obtain⟨n,q,hn,hln,rfl,rfl,H⟩:=hrel
  by_cases h1:n<258
  ·have hd1:decide ((n:Int)<258)=true:=decide_eq_true (by omega)
   have H1:Hid (n<258):=h1
   by_cases h2:l+n<s.size
   ·have hj:e+n<s.size:=by omega
    have hbe:=bytes_eq s (e+n) (l+n) hj h2
    have i1:(e:Int)+(n:Int)=((e+n:Nat):Int):=by omega
    have i2:(l:Int)+(n:Int)=((l+n:Nat):Int):=by omega
    by_cases h3:s[e+n]? =s[l+n]?
    ·have hx:=hbe.1 h3
     have HS:Hid (_):=(Math.runFrom_yes s e l n h1 h2 h3).symm.trans H.out
     clear hbe h3 H h1
     generalize hJ:e+n=j at*
     generalize hM:l+n=m at*
     have HM:Hid (l+n=m):=hM
     clear hJ hM
     go_wp2
     go_quiet (fail)
     go_wp2
     go_roundw
     case rel=>exact⟨n+1,q+nq,H1.out,by have:=HM.out;omega,by go_num,by first|rfl|rw[World.drewN_drewN],HS⟩
     case measure=>have:=H1.out;simp[intOf];omega
    ·have hx:((s[e+n].toNat:Int)==(s[l+n].toNat:Int))=false:=by
      rw[Bool.eq_false_iff]
      intro h
      exact h3 (hbe.2 h)
     have HS:Hid (_):=(Math.runFrom_no s e l n (by intro h;exact h3 h.2.2)).symm.trans H.out
     clear hbe h3 H h1
     generalize hJ:e+n=j at*
     generalize hM:l+n=m at*
     clear hJ hM
     go_wp2
     go_quiet (fail)
     go_wp2
     go_ret
     exact⟨ret_int (by rw[←HS.out]),q+nq,by first|rfl|rw[World.drewN_drewN]⟩
   ·have HS:Hid (_):=(Math.runFrom_no s e l n (by intro h;exact h2 h.2.1)).symm.trans H.out
    have hd:decide ((l:Int)+(n:Int)<(s.size:Int))=false:=decide_eq_false (by omega)
    clear H h1
    go_wp2
    go_quiet (fail)
    go_wp2
    go_ret
    exact⟨ret_int (by rw[←HS.out]),q+nq,by first|rfl|rw[World.drewN_drewN]⟩
  ·have HS:Hid (_):=(Math.runFrom_no s e l n (by intro h;exact h1 h.1)).symm.trans H.out
   have hd:decide ((n:Int)<258)=false:=decide_eq_false (by omega)
   clear H
   go_wp2
   go_quiet (fail)
   go_wp2
   go_ret
   exact⟨ret_int (by rw[←HS.out]),q+nq,by first|rfl|rw[World.drewN_drewN]⟩

set_option maxHeartbeats 1000000 in
theorem specRun_val (s:ByteArray) (l d:Nat) (w:World) (hs:s.size≤3000) (hd0:1≤d) (hdl:d≤l) (hl:l≤s.size):
 Calls Tryz.prog 126 #[.string s,.int .i64 l,.int .i64 d] w fun r w'=>r= .returned (.int .i64 (Math.run s (l-d) l))∧Drawn w w':=by
 generalize he:l-d=e
 have hed:(l:Int)-d=e:=by omega
 have hel:e<l:=by omega
 go_enter Tryz.func126,Tryz.ntmps126
 go_wp2
 go_loopw [7] (fun i wr=>∃(n m:Nat),n≤258∧l+n≤s.size∧i= .int .i64 n∧wr=w.drewN m∧Hid (Math.runFrom s e l (258-n) n=Math.run s e l)) (fun i _=>258-(intOf i).toNat)
 case atStart=>exact⟨0,0,by omega,by omega,rfl,rfl,rfl⟩
 case round=>
  obtain⟨n,q,hn,hln,rfl,rfl,H⟩:=hrel
  by_cases h1:n<258
  ·have hd1:decide ((n:Int)<258)=true:=decide_eq_true (by omega)
   have H1:Hid (n<258):=h1
   by_cases h2:l+n<s.size
   ·have hj:e+n<s.size:=by omega
    have hbe:=bytes_eq s (e+n) (l+n) hj h2
    have i1:(e:Int)+(n:Int)=((e+n:Nat):Int):=by omega
    have i2:(l:Int)+(n:Int)=((l+n:Nat):Int):=by omega
    have i3:((l+n:Nat):Int)-(d:Int)=((e+n:Nat):Int):=by omega
    by_cases h3:s[e+n]? =s[l+n]?
    ·have hx:=beq_turn (hbe.1 h3)
     have HS:Hid (_):=(Math.runFrom_yes s e l n h1 h2 h3).symm.trans H.out
     clear hbe h3 H h1
     generalize hJ:e+n=j at*
     generalize hM:l+n=m at*
     have HM:Hid (l+n=m):=hM
     clear hJ hM
     go_wp2
     go_quiet (fail)
     go_wp2
     go_roundw
     case rel=>exact⟨n+1,q+nq,H1.out,by have:=HM.out;omega,by go_num,by first|rfl|rw[World.drewN_drewN],HS⟩
     case measure=>have:=H1.out;simp[intOf];omega
    ·have hx:((s[l+n].toNat:Int)==(s[e+n].toNat:Int))=false:=by
      rw[Bool.eq_false_iff]
      intro h
      exact h3 (hbe.2 (beq_turn h))
     have HS:Hid (_):=(Math.runFrom_no s e l n (by intro h;exact h3 h.2.2)).symm.trans H.out
     clear hbe h3 H h1
     generalize hJ:e+n=j at*
     generalize hM:l+n=m at*
     clear hJ hM
     go_wp2
     go_quiet (fail)
     go_wp2
     go_ret
     exact⟨ret_int (by rw[←HS.out]),q+nq,by first|rfl|rw[World.drewN_drewN]⟩
   ·have HS:Hid (_):=(Math.runFrom_no s e l n (by intro h;exact h2 h.2.1)).symm.trans H.out
    have hd:decide ((l:Int)+(n:Int)<(s.size:Int))=false:=decide_eq_false (by omega)
    clear H h1
    go_wp2
    go_quiet (fail)
    go_wp2
    go_ret
    exact⟨ret_int (by rw[←HS.out]),q+nq,by first|rfl|rw[World.drewN_drewN]⟩
  ·have HS:Hid (_):=(Math.runFrom_no s e l n (by intro h;exact h1 h.1)).symm.trans H.out
   have hd:decide ((n:Int)<258)=false:=decide_eq_false (by omega)
   clear H
   go_wp2
   go_quiet (fail)
   go_wp2
   go_ret
   exact⟨ret_int (by rw[←HS.out]),q+nq,by first|rfl|rw[World.drewN_drewN]⟩

end Pk
end Go.Proofs.YtcjgkmhpeedhiaaGreatDoor

/- Contracts of the laws' own helpers over pieces: a copy of a slice of them, and two such slices held against each other. -/
namespace Go.Proofs.YtcjgkmhpeedhiaaGreatDoor
namespace Pk
open Go.ChangeShapes Go.WideShapes Go.ChangeAt Go.RowKit
open Math (Pc)
set_option linter.unusedSimpArgs false
set_option linter.unusedVariables false

theorem info_pc:(Tryz.prog.info? 143).map (fun i=>(i.zero,i.size,i.bytes))=some (some (pcV 0 0 0),3,24):=by kernel_rfl

def Laid3 (w:World) (g n k:Nat) (ps:List Pc):Prop:=(∀j,j<n*3→(∃v,w.cell? ⟨g,j,none⟩=some v)∧w.frozen? ⟨g,j,none⟩=false)∧
 ∀i (h:i<ps.length),i<k→w.cell? ⟨g,i*3,none⟩=some (.int .i64 ps[i].x)∧w.cell? ⟨g,i*3+1,none⟩=some (.int .i64 ps[i].n)∧w.cell? ⟨g,i*3+2,none⟩=some (.int .i64 ps[i].d)

theorem set_cell {w:World} {g i j:Nat} {u v:Value} (h:w.cell? ⟨g,i,none⟩=some v):(w.setCell ⟨g,j,none⟩ u).cell? ⟨g,i,none⟩=some (if i=j then u else v):=by
 by_cases e:i=j
 ·subst e
  rw[if_pos rfl]
  exact World.cell?_setCell_same _ _ _ h
 ·rw[if_neg e,World.cell?_setCell_other _ _ _ _ (by intro h;apply e;simpa using h.symm)]
  exact h

def set3 (w:World) (g j:Nat) (p:Pc):World:=((w.setCell ⟨g,j,none⟩ (.int .i64 p.x)).setCell ⟨g,j+1,none⟩ (.int .i64 p.n)).setCell ⟨g,j+2,none⟩ (.int .i64 p.d)

theorem set3_cell {w:World} {g i j:Nat} {p:Pc} {v:Value} (h:w.cell? ⟨g,i,none⟩=some v):(set3 w g j p).cell? ⟨g,i,none⟩=some (if i=j+2 then .int .i64 p.d else if i=j+1 then .int .i64 p.n else if i=j then .int .i64 p.x else v):=set_cell (set_cell (set_cell h))

theorem Laid3.on {w w1:World} {g n k:Nat} {ps:List Pc} (h:Laid3 w g n k ps) {B:Nat} (L:Below B w w1) (hg:g<B):Laid3 w1 g n k ps:=by
 refine⟨fun j hj=> ?_,fun i hi hk=> ?_⟩
 ·rw[L.cell (p:=⟨g,j,none⟩) hg,L.frozen (p:=⟨g,j,none⟩) hg]
  exact h.1 j hj
 ·rw[L.cell (p:=⟨g,i*3,none⟩) hg,L.cell (p:=⟨g,i*3+1,none⟩) hg,L.cell (p:=⟨g,i*3+2,none⟩) hg]
  exact h.2 i hi hk

theorem Laid3.step {w:World} {g n k:Nat} {ps:List Pc} (h:Laid3 w g n k ps) (hk:k<n) (hkp:k<ps.length):Laid3 (set3 w g (k*3) ps[k]) g n (k+1) ps:=by
 refine⟨fun j hj=> ?_,fun i hi hik=> ?_⟩
 ·obtain⟨⟨v,hv⟩,hf⟩:=h.1 j hj
  exact⟨⟨_,set3_cell hv⟩,by unfold set3;rw[World.frozen?_setCell,World.frozen?_setCell,World.frozen?_setCell];exact hf⟩
 ·by_cases e:i=k
  ·subst e
   obtain⟨⟨v0,h0⟩,-⟩:=h.1 (i*3) (by omega)
   obtain⟨⟨v1,h1⟩,-⟩:=h.1 (i*3+1) (by omega)
   obtain⟨⟨v2,h2⟩,-⟩:=h.1 (i*3+2) (by omega)
   rw[set3_cell h0,set3_cell h1,set3_cell h2]
   simp
  ·obtain⟨h0,h1,h2⟩:=h.2 i hi (by omega)
   rw[set3_cell h0,set3_cell h1,set3_cell h2]
   rw[if_neg (by omega),if_neg (by omega),if_neg (by omega),if_neg (by omega),if_neg (by omega),if_neg (by omega),if_neg (by omega),if_neg (by omega),if_neg (by omega)]
   exact⟨rfl,rfl,rfl⟩

end Pk
end Go.Proofs.YtcjgkmhpeedhiaaGreatDoor

/- The contract of the model's Pieces. -/
namespace Go.Proofs.YtcjgkmhpeedhiaaGreatDoor
namespace Pk
open Go.ChangeShapes Go.WideShapes Go.ChangeAt Go.RowKit
open Math (Pc)
set_option linter.unusedSimpArgs false
set_option linter.unusedVariables false

def pcells (l:List Pc):List Value:=l.flatMap fun p=> [.int .i64 p.x,.int .i64 p.n,.int .i64 p.d]

theorem pcells_snoc (l:List Pc) (p:Pc):pcells l++ [.int .i64 p.x,.int .i64 p.n,.int .i64 p.d]=pcells (l++ [p]):=by simp[pcells]

theorem far_more (i k:Nat) (h1:k+1≤i) (h2:k+1≤1024):k<Math.far i:=by unfold Math.far;omega
theorem far_end (i k:Nat) (hk:k≤Math.far i) (h:¬(k+1≤i∧k+1≤1024)):k=Math.far i:=by unfold Math.far at*;omega
theorem far_le (i:Nat):Math.far i≤i∧Math.far i≤1024:=by unfold Math.far;omega

set_option maxHeartbeats 4000000 in
set_option maxRecDepth 100000 in
theorem specPieces_val (s:ByteArray) (w:World) (hs:s.size≤maxLen):
 Calls Tryz.prog 99 #[.string s] w fun e w'=>∃v,e= .returned v∧w'.ownsRow w.heap.size 143 3 v (Math.pieces s).length (pcells (Math.pieces s))∧Below w.heap.size w w':=by
 unfold maxLen at hs
 obtain⟨i0,hi,hz0,hz1,hz2⟩:=info_of info_pc
 by_cases h3:s.size≤3000
 ·have e0:Math.pieces s=Math.pcsFrom s s.size 0:=if_pos h3
  rw[e0]
  have hd3:decide ((3000:Int)<(s.size:Int))=false:=decide_eq_false (by omega)
  have H3:Hid (s.size≤3000):=h3
  have hs4:s.size≤100000:=by omega
  clear h3 e0 hs
  go_enter Tryz.func99,Tryz.ntmps99
  go_wp2
  go_loopw [3,4] (fun v i wr=>∃(k:Nat) (l:List Pc),k≤s.size∧l.length≤k∧i= .int .i64 k∧wr.ownsRow w.heap.size 143 3 v l.length (pcells l)∧Below w.heap.size w wr∧Hid (l++Math.pcsFrom s (s.size-l.length) k=Math.pcsFrom s s.size 0)) (fun _ i _=>s.size-(intOf i).toNat)
  case atStart=>exact⟨0,[],by omega,by simp,rfl,⟨rfl,Or.inr ⟨w.heap.size,0,#[],rfl,Nat.le_refl _,heap_new w _,by simp,by unfold maxLen;omega,rfl,rfl⟩⟩,new_below _ _,rfl⟩
  case round=>
   obtain⟨k,l,hk,hl,rfl,hown,LR,H⟩:=hrel
   by_cases hks:k<s.size
   ·have HS:Hid (_):=Math.pcsFrom_step s l.length k hks hl
    have HSt:Hid (_):=Math.stepAt_fits s k hks
    go_wp2
    go_loopw [5,6,7] (fun bs bk d w2=>∃(j q:Nat),j≤Math.far k∧d= .int .i64 ((j:Int)+1)∧bs= .int .i64 ((Math.best s k j).1:Int)∧bk= .int .i64 ((Math.best s k j).2:Int)∧w2=wr.drewN q) (fun _ _ d _=>Math.far k+1-(intOf d).toNat)
    case atStart=>exact⟨0,0,by omega,rfl,rfl,rfl,rfl⟩
    case round=>
     obtain⟨j,q,hj,rfl,rfl,rfl,rfl⟩:=hrel
     have hfar:=far_le k
     have hbl:=Math.best_le s k j
     by_cases hjf:j+1≤k∧j+1≤1024
     ·have hmore:=far_more k j hjf.1 hjf.2
      have e1:(j:Int)+1=((j+1:Nat):Int):=by omega
      have t1:decide (((j+1:Nat):Int)≤(k:Int))=true:=decide_eq_true (by omega)
      have t2:decide (((j+1:Nat):Int)≤1024)=true:=decide_eq_true (by omega)
      have HR:Hid (∀w,_):=fun w=>specRun_val s k (j+1) w H3.out (by omega) hjf.1 hk
      have HB:Hid (Math.best s k (j+1)=if(Math.best s k j).1<Math.run s (k-(j+1)) k then(Math.run s (k-(j+1)) k,j+1)else Math.best s k j):=rfl
      have hrl:=Math.run_le s (k-(j+1)) k
      generalize Math.run s (k-(j+1)) k=r at*
      rw[e1]
      clear e1 hjf
      by_cases hgt:(Math.best s k j).1<r
      ·rw[if_pos hgt]at HB
       generalize (Math.best s k j).1=B1 at*
       generalize (Math.best s k j).2=B2 at*
       have HB1:Hid (_):=congrArg Prod.fst HB.out
       have HB2:Hid (_):=congrArg Prod.snd HB.out
       clear HB
       generalize hJ1:j+1=j1 at*
       go_wp2_with fail
       refine(HR.out _).mono ?_
       rintro e w3 ⟨rfl,qq,rfl⟩
       go_wp2
       go_roundw
       case rel=>exact⟨j1,q+qq,by omega,by go_num,by rw[HB1.out],by rw[HB2.out],by first|rfl|rw[World.drewN_drewN]⟩
       case measure=>simp[intOf];omega
      ·rw[if_neg hgt]at HB
       have HB1:Hid (_):=HB.out
       generalize hBst:Math.best s k j=Bst at*
       obtain⟨B1,B2⟩:=Bst
       clear HB
       generalize hJ1:j+1=j1 at*
       go_wp2_with fail
       refine(HR.out _).mono ?_
       rintro e w3 ⟨rfl,qq,rfl⟩
       go_wp2
       go_roundw
       case rel=>exact⟨j1,q+qq,by omega,by go_num,by rw[HB1.out],by rw[HB1.out],by first|rfl|rw[World.drewN_drewN]⟩
       case measure=>simp[intOf];omega
     ·have hend:=far_end k j hj hjf
      have hfit:=Math.best_fits s k j hk
      have HP:Hid (Math.pieceAt s k=if 3≤(Math.best s k j).1 then⟨0,(Math.best s k j).1,(Math.best s k j).2⟩else⟨((s.data.toList.getD k 0).toNat:Int),0,0⟩):=by rw[hend];rfl
      have HT:Hid (Math.stepAt s k=if 3≤(Math.best s k j).1 then(Math.best s k j).1 else 1):=by rw[hend];rfl
      have tt:decide ((j:Int)+1≤(k:Int))=false∨(decide ((j:Int)+1≤(k:Int))=true∧decide ((j:Int)+1≤1024)=false):=by
       by_cases g:j+1≤k
       ·exact Or.inr ⟨decide_eq_true (by omega),decide_eq_false (by omega)⟩
       ·exact Or.inl (decide_eq_false (by omega))
      have hjb:j≤1024:=by omega
      clear hjf hend hj hfar
      generalize (Math.best s k j).1=B1 at*
      generalize (Math.best s k j).2=B2 at*
      have LQ:Below w.heap.size w (wr.drewN q):=LR.trans ((Drawn.refl wr).more q|>.below _)
      have hownq:(wr.drewN q).ownsRow w.heap.size 143 3 _ l.length (pcells l):=own_below hown ((Drawn.refl wr).more q|>.below wr.heap.size) (Nat.le_refl _)
      generalize wr.drewN q=w2 at*
      have hB2:w.heap.size≤w2.heap.size:=LQ.size
      clear hown LR
      by_cases hb3:3≤B1
      ·rw[if_pos hb3]at HP HT
       have HN:Hid (l++ [(⟨0,B1,B2⟩:Pc)]++Math.pcsFrom s (s.size-(l++ [(⟨0,B1,B2⟩:Pc)]).length) (k+B1)=Math.pcsFrom s s.size 0):=by
        show _=_
        rw[←H.out,HS.out,HP.out,HT.out,List.length_append,List.append_assoc]
        rfl
       have HSN:Hid (_):=pcells_snoc l ⟨0,B1,B2⟩
       clear H HS HP HT
       rcases tt with tt|⟨tt,tt2⟩
       all_goals
        go_wp2_with (at_builtin;refine wpList_append_own _ rfl _ _ 140 rfl w.heap.size 143 i0 (pcV 0 0 0) 3 24 Tryz.underlying140 hi hz0 hz1 hz2 rfl (by decide) _ _ _ rfl (hownq.alloc _) ⟨w2.heap.size,0,none⟩ 1 1 [.int .i64 0,.int .i64 B1,.int .i64 B2] rfl rfl ?c1 ?c2 ?c3 ?c4 ?c5 ?_)
        case c2=>exact⟨rfl,rfl,rfl⟩
        case c3=>unfold maxLen;omega
        case c4=>omega
        case c5=>first|omega|(simp;omega)
        ·intro v' w4 hown4 hgrow _
         have L4:Below w.heap.size w w4:=(LQ.alloc hB2 _).grown hgrow (by simp;omega) (fun m h=>own_ge hownq m h)
         rw[HSN.out]at hown4
         clear hownq hgrow HSN
         go_wp2
         go_roundw
         case rel=>exact⟨k+B1,l++ [⟨0,B1,B2⟩],by omega,by rw[List.length_append];simp;omega,by go_num,by rw[List.length_append];exact hown4,L4,HN⟩
         case measure=>simp[intOf];omega
      ·rw[if_neg hb3]at HP HT
       have hgd:s.data.toList.getD k 0=s[k]:=by
        rw[List.getD_eq_getElem?_getD,Array.getElem?_toList,Array.getElem?_eq_getElem hks]
        rfl
       rw[hgd]at HP
       have HN:Hid (l++ [(⟨(s[k].toNat:Int),0,0⟩:Pc)]++Math.pcsFrom s (s.size-(l++ [(⟨(s[k].toNat:Int),0,0⟩:Pc)]).length) (k+1)=Math.pcsFrom s s.size 0):=by
        show _=_
        rw[←H.out,HS.out,HP.out,HT.out,List.length_append,List.append_assoc]
        rfl
       have HSN:Hid (_):=pcells_snoc l ⟨(s[k].toNat:Int),0,0⟩
       have hbt:=s[k].toNat_lt
       have hb3':decide ((3:Int)≤(B1:Int))=false:=decide_eq_false (by omega)
       clear H HS HP HT hgd
       rcases tt with tt|⟨tt,tt2⟩
       all_goals
        go_wp2_with (at_builtin;refine wpList_append_own _ rfl _ _ 140 rfl w.heap.size 143 i0 (pcV 0 0 0) 3 24 Tryz.underlying140 hi hz0 hz1 hz2 rfl (by decide) _ _ _ rfl (hownq.alloc _) ⟨w2.heap.size,0,none⟩ 1 1 [.int .i64 (s[k].toNat:Int),.int .i64 0,.int .i64 0] rfl rfl ?d1 ?d2 ?d3 ?d4 ?d5 ?_)
        case d2=>first|exact⟨rfl,rfl,rfl⟩|exact⟨rfl,rfl⟩|(refine⟨?_,?_⟩<;>rfl)|rfl
        case d3=>unfold maxLen;omega
        case d4=>omega
        case d5=>first|omega|(simp;omega)
        ·intro v' w4 hown4 hgrow _
         have L4:Below w.heap.size w w4:=(LQ.alloc hB2 _).grown hgrow (by simp;omega) (fun m h=>own_ge hownq m h)
         rw[HSN.out]at hown4
         clear hownq hgrow HSN
         go_wp2
         go_roundw
         case rel=>exact⟨k+1,l++ [⟨(s[k].toNat:Int),0,0⟩],by omega,by rw[List.length_append];simp;omega,by go_num,by rw[List.length_append];exact hown4,L4,HN⟩
         case measure=>simp[intOf];omega
   ·obtain rfl:k=s.size:=by omega
    have HF:Hid (l=Math.pcsFrom s s.size 0):=by
     show _=_
     have:=H.out
     rw[Math.pcsFrom_end s _ _ (by omega),List.append_nil]at this
     exact this
    go_wp2
    go_ret
    rw[←HF.out]
    exact⟨_,rfl,hown,LR⟩
 ·have e0:Math.pieces s= []:=if_neg h3
  rw[e0]
  have hd3:decide ((3000:Int)<(s.size:Int))=true:=decide_eq_true (by omega)
  clear h3 e0
  go_enter Tryz.func99,Tryz.ntmps99
  go_wp2
  go_ret
  exact⟨_,rfl,⟨rfl,Or.inr ⟨w.heap.size,0,#[],rfl,Nat.le_refl _,heap_new w _,by simp,by unfold maxLen;omega,rfl,rfl⟩⟩,new_below _ _⟩

end Pk
end Go.Proofs.YtcjgkmhpeedhiaaGreatDoor

/- Three bytes of a text as a key, and what is known of a map of such keys. -/
namespace Go.Proofs.YtcjgkmhpeedhiaaGreatDoor
namespace Pk
open Go.ChangeShapes Go.WideShapes Go.ChangeAt Go.RowKit
set_option linter.unusedSimpArgs false
set_option linter.unusedVariables false

abbrev triV (a b c:UInt8):Value:= .agg #[.int .u8 (a.toNat:Int),.int .u8 (b.toNat:Int),.int .u8 (c.toNat:Int)]

set_option maxHeartbeats 1000000 in
theorem triple_is (s:ByteArray) (i i1 i2:Nat) (w:World) (hs:s.size≤3000) (h0:i<s.size) (h1:i1<s.size) (h2:i2<s.size) (e1:(i:Int)+1=i1) (e2:(i:Int)+2=i2):
 Calls Tryz.prog 215 #[.string s,.int .i64 i] w fun e w'=>e= .returned (triV s[i] s[i1] s[i2])∧Below w.heap.size w w':=by
 have b0:=s[i].toNat_lt
 have b1:=s[i1].toNat_lt
 have b2:=s[i2].toNat_lt
 have m0:=heap_new w (.cells #[.int .u8 0,.int .u8 0,.int .u8 0] 241)
 have L0:=new_below w (.cells #[.int .u8 0,.int .u8 0,.int .u8 0] 241)
 go_enter Tryz.func215,Tryz.ntmps215
 go_wp2
 generalize w.alloc (.cells #[.int .u8 0,.int .u8 0,.int .u8 0] 241)=w1 at*
 have d0:w1.cell? ⟨w.heap.size,0,none⟩=some (.int .u8 0):=cell_at m0 0
 have d1:w1.cell? ⟨w.heap.size,1,none⟩=some (.int .u8 0):=cell_at m0 1
 have d2:w1.cell? ⟨w.heap.size,2,none⟩=some (.int .u8 0):=cell_at m0 2
 have f0:w1.frozen? ⟨w.heap.size,0,none⟩=false:=frozen_at m0 0
 have f1:w1.frozen? ⟨w.heap.size,1,none⟩=false:=frozen_at m0 1
 have f2:w1.frozen? ⟨w.heap.size,2,none⟩=false:=frozen_at m0 2
 go_region
 go_wp2
 refine bodyPost_ret (v:=triV s[i] s[i1] s[i2]) (by simp[results,Tryz.results215,go_sem,d0,d1,d2]) rfl ?_
 exact⟨rfl,(((L0.setCell (Nat.le_refl _) _).setCell (Nat.le_refl _) _).setCell (Nat.le_refl _) _).drew⟩

theorem keyLaw:WideMaps.KeyLaw Tryz.prog 241:=deep_law_laid (m:=3) (by kernel_rfl) (by omega) (of_decide_eq_true (by kernel_rfl)) (by kernel_rfl) (by kernel_rfl)

abbrev Key:=UInt8×UInt8×UInt8

def kv (k:Key):Value:=triV k.1 k.2.1 k.2.2

theorem kv_inj {a b:Key} (h:kv a=kv b):a=b:=by
 obtain⟨a1,a2,a3⟩:=a
 obtain⟨b1,b2,b3⟩:=b
 simp only[kv,triV,Value.agg.injEq,Array.mk.injEq,List.cons.injEq,Value.int.injEq,true_and,and_true]at h
 obtain⟨h1,h2,h3⟩:=h
 have e1:a1=b1:=UInt8.toNat_inj.1 (by omega)
 have e2:a2=b2:=UInt8.toNat_inj.1 (by omega)
 have e3:a3=b3:=UInt8.toNat_inj.1 (by omega)
 rw[e1,e2,e3]

theorem wf_u8' (a:UInt8):(Lit.int .u8 (a.toNat:Int)).wf=true:=by
 have:=a.toNat_lt
 refine WalkArith.wf_u8 ?_
 omega

theorem kv_key (k:Key):∃l,keyOf Tryz.prog 241 (kv k)=some l:=by
 obtain⟨a,b,c⟩:=k
 have c3:Tryz.prog.cellsOf 241=3:=by kernel_rfl
 have c1:Tryz.prog.cellsOf 5=1:=by kernel_rfl
 have wa:=wf_u8' a
 have wb:=wf_u8' b
 have wc:=wf_u8' c
 have kl:∀d,Tryz.prog.keyLits (d+2) 241 [.int .u8 (a.toNat:Int),.int .u8 (b.toNat:Int),.int .u8 (c.toNat:Int)]=some [.int .u8 (a.toNat:Int),.int .u8 (b.toNat:Int),.int .u8 (c.toNat:Int)]:=by
  intro d
  simp[Program.keyLits,Tryz.underlying241,Tryz.underlying5,c3,c1,List.range,List.range.loop,wa,wb,wc]
 unfold kv keyOf
 simp[go_sem]
 refine⟨⟨by kernel_rfl,?_⟩,_,_,kl _,rfl⟩
 simp[Value.formed,Tryz.underlying241,c3]

end Pk
end Go.Proofs.YtcjgkmhpeedhiaaGreatDoor

/- A map from three bytes to the places where they stand, each in a row of its own. -/
namespace Go.Proofs.YtcjgkmhpeedhiaaGreatDoor
namespace Pk
open Go.ChangeShapes Go.WideShapes Go.ChangeAt Go.RowKit
open Go.ChangeMaps (setBlock)
set_option linter.unusedSimpArgs false
set_option linter.unusedVariables false

structure Mp (B b:Nat) (f:Key→List Nat) (es:Array MapEntry) (clock:Nat) (w:World):Prop where
 blk:w.heap[b]? =some (.map es clock)
 born:∀e∈es.toList,e.born<clock
 nodup:(es.toList.map (·.born)).Nodup
 keys:∀e∈es.toList,∃k,e.key=kv k
 rows:∀e∈es.toList,∀k,e.key=kv k→f k≠ []∧w.ownsRow B 3 1 e.val (f k).length (icells (f k))
 has:∀k,f k≠ []→∃e∈es.toList,e.key=kv k
 apart:∀(i j:Nat) (x y:MapEntry),es.toList[i]? =some x→es.toList[j]? =some y→i≠j→x.key≠y.key∧x.val.ownBlock≠y.val.ownBlock

theorem mp_new (B:Nat) (w:World):Mp B w.heap.size (fun _=> []) #[] 0 (w.alloc (.map #[] 0)):=
 ⟨heap_new w _,by simp,by simp,by simp,by simp,fun k h=>absurd rfl h,by intro i j x y h;simp at h⟩

theorem Mp.on {B b:Nat} {f:Key→List Nat} {es:Array MapEntry} {clock:Nat} {w w1:World} (M:Mp B b f es clock w) (L:Below w.heap.size w w1):Mp B b f es clock w1:=
 ⟨kept L (lt_of M.blk) M.blk,M.born,M.nodup,M.keys,fun e he k hk=>⟨(M.rows e he k hk).1,own_below (M.rows e he k hk).2 L (Nat.le_refl _)⟩,M.has,M.apart⟩

theorem zero_ints (w:World):(zeroValue 29).run Tryz.prog w= .ok (.slice none 0 0) w:=by
 simp[go_sem,Tryz.zeroValue29]

theorem Mp.lookup {B b:Nat} {f:Key→List Nat} {es:Array MapEntry} {clock:Nat} {w:World} (M:Mp B b f es clock w) (k:Key):
 ∃v,(Instr.lookup 238 (.map (some b)) (kv k) false).run Tryz.prog w= .ok v w∧w.ownsRow B 3 1 v (f k).length (icells (f k)):=by
 obtain⟨l,hl⟩:=kv_key k
 have hks:∀e∈es.toList,∃l,keyOf Tryz.prog 241 e.key=some l:=by
  intro e he
  obtain⟨k',hk'⟩:=M.keys e he
  rw[hk']
  exact kv_key k'
 rcases keyLaw.find w hl es.toList hks with⟨h1,h2⟩|⟨j,e0,h1,h2,h3⟩
 ·refine⟨.slice none 0 0,?_,?_⟩
  ·simp[Instr.lookup,run_underlying Tryz.underlying238,MapKept.run_getObj_map M.blk,keyLaw.check w _ hl,h1,zero_ints,Result.andThen]
  ·have:f k= []:=by
    apply Classical.byContradiction
    intro hn
    obtain⟨e,he,hk⟩:=M.has k hn
    exact h2 e he hk
   rw[this]
   exact World.ownsRow_nil _ _ _ _
 ·refine⟨e0.val,?_,(M.rows e0 (List.mem_of_getElem? h2) k h3).2⟩
  simp[Instr.lookup,run_underlying Tryz.underlying238,MapKept.run_getObj_map M.blk,keyLaw.check w _ hl,h1,Result.andThen]

theorem own_setBlock {w:World} {b base e size:Nat} {o o':Obj} {v:Value} {n:Nat} {xs:List Value} (h:w.ownsRow base e size v n xs) (hb:w.heap[b]? =some o) (ho:∀cs t fz,o≠ .cells cs t fz):(setBlock w b o').ownsRow base e size v n xs:=by
 obtain⟨h1,h2⟩:=h
 refine⟨h1,?_⟩
 rcases h2 with h2|⟨g,cap,cur,hv,hg,hh,hr⟩
 ·exact Or.inl h2
 ·refine Or.inr ⟨g,cap,cur,hv,hg,?_,hr⟩
  have hne:g≠b:=by
   intro e
   subst e
   rw[hb]at hh
   exact ho _ _ _ (Option.some.inj hh)
  show(w.heap.setIfInBounds b o')[g]? =_
  rw[(MapKept.heap_set (o':=o') hb).2 g hne]
  exact hh

theorem map_not_cells (es:Array MapEntry) (clock:Nat):∀cs t fz,Obj.map es clock≠ .cells cs t fz:=by
 intro cs t fz h
 cases h

theorem own_some {w:World} {base e:Nat} {v:Value} {l:List Nat} (h:w.ownsRow base e 1 v l.length (icells l)) (hl:l≠ []):∃g,v.ownBlock=some g∧g<w.heap.size:=by
 obtain⟨g,cap,rfl,-,hg,-⟩:=own_at h 0 (by cases l with|nil=>exact absurd rfl hl|cons a l=>simp)
 exact⟨g,rfl,hg⟩

def more (f:Key→List Nat) (k:Key) (x:Nat):Key→List Nat:=fun q=>if q=k then f k++ [x]else f q

theorem more_same (f:Key→List Nat) (k:Key) (x:Nat):more f k x k=f k++ [x]:=if_pos rfl
theorem more_other (f:Key→List Nat) (k q:Key) (x:Nat) (h:q≠k):more f k x q=f q:=if_neg h

theorem Mp.entry {B b:Nat} {f:Key→List Nat} {es:Array MapEntry} {clock:Nat} {w:World} (M:Mp B b f es clock w) (k:Key):
 ∃(v0:Value) (st:Nat) (es1:Array MapEntry) (clock1:Nat),(Instr.mapEntry 238 (.map (some b)) (kv k)).run Tryz.prog w= .ok (.tuple #[v0,goInt st]) (setBlock w b (.map es1 clock1))∧
  (setBlock w b (.map es1 clock1)).ownsRow B 3 1 v0 (f k).length (icells (f k))∧
  ∀(w2:World) (v':Value) (x:Nat),w2.heap[b]? =some (.map es1 clock1)→w2.ownsRow B 3 1 v' (f k++ [x]).length (icells (f k++ [x]))→
   ((∃g,v'.ownBlock=some g∧v0.ownBlock=some g)∨∃g,v'.ownBlock=some g∧w.heap.size≤g)→
   (∀u n xs,w.ownsRow B 3 1 u n xs→u.ownBlock≠v0.ownBlock→w2.ownsRow B 3 1 u n xs)→
   ∃es' clock',(Instr.entryStore 238 (.map (some b)) (goInt st) v').run Tryz.prog w2= .ok () (setBlock w2 b (.map es' clock'))∧Mp B b (more f k x) es' clock' (setBlock w2 b (.map es' clock')):=by
 obtain⟨l,hl⟩:=kv_key k
 have hks:∀e∈es.toList,∃l,keyOf Tryz.prog 241 e.key=some l:=by
  intro e he
  obtain⟨k',hk'⟩:=M.keys e he
  rw[hk']
  exact kv_key k'
 rcases keyLaw.find w hl es.toList hks with⟨h1,h2⟩|⟨j,e0,h1,h2,h3⟩
 ·have hfk:f k= []:=by
   apply Classical.byContradiction
   intro hn
   obtain⟨e,he,hk⟩:=M.has k hn
   exact h2 e he hk
  refine⟨.slice none 0 0,clock,es.push ⟨kv k,.slice none 0 0,clock⟩,clock+1,?_,by rw[hfk];exact World.ownsRow_nil _ _ _ _,?_⟩
  ·simp[Instr.mapEntry,run_underlying Tryz.underlying238,MapKept.run_getObj_map M.blk,keyLaw.check w false hl,h1,zero_ints,MapKept.run_setObj_map _ M.blk,Result.andThen,setBlock]
  ·intro w2 v' x hw2 hown hblk hkeep
   have hnd:((es.push ⟨kv k,.slice none 0 0,clock⟩).toList.map (·.born)).Nodup:=by
    simp only[Array.toList_push,List.map_append,List.map_cons,List.map_nil]
    refine List.nodup_append.2 ⟨M.nodup,by simp,fun a ha c hc e1=> ?_⟩
    simp only[List.mem_singleton]at hc
    obtain⟨x,hx,rfl⟩:=List.mem_map.1 ha
    have:=M.born x hx
    omega
   refine⟨es.push ⟨kv k,v',clock⟩,clock+1,?_,?_⟩
   ·have hidx:(es.push ⟨kv k,.slice none 0 0,clock⟩).findIdx? (fun e=>((e.born:Nat):Int)==((clock:Nat):Int))=some es.size:=by
     rw[Go.WideElems.findIdx_arr]
     exact Go.WideElems.findIdx_born (l:=(es.push ⟨kv k,.slice none 0 0,clock⟩).toList) (j:=es.size) (e0:=⟨kv k,.slice none 0 0,clock⟩) hnd (by simp)
    have hmod:(es.push ⟨kv k,.slice none 0 0,clock⟩).modify es.size (fun e=> { e with val:=v' })=es.push ⟨kv k,v',clock⟩:=by
     apply Array.ext'
     rw[Array.toList_modify,Array.toList_push,Array.toList_push,←Array.length_toList,Go.WideElems.modify_last]
    simp[Instr.entryStore,MapKept.run_getObj_map hw2,asInt,asIntOf,goInt,hidx,hmod,MapKept.run_setObj_map _ hw2,Result.andThen,setBlock]
   ·have hrow:∀e∈es.toList,∀q,e.key=kv q→q≠k∧f q≠ []∧w2.ownsRow B 3 1 e.val (f q).length (icells (f q)):=by
     intro e he q hq
     obtain⟨r1,r2⟩:=M.rows e he q hq
     obtain⟨g,hg,-⟩:=own_some r2 r1
     refine⟨fun e1=>h2 e he (by rw[hq,e1]),r1,hkeep _ _ _ r2 (by rw[hg];simp[Value.ownBlock])⟩
    have hmem:∀e,e∈(es.push ⟨kv k,v',clock⟩).toList→e∈es.toList∨e=⟨kv k,v',clock⟩:=by
     intro e he
     simpa using he
    refine⟨(MapKept.heap_set hw2).1,?_,?_,?_,?_,?_,?_⟩
    ·intro e he
     rcases hmem e he with h|rfl
     ·have:=M.born e h;omega
     ·show clock<clock+1;omega
    ·simpa using hnd
    ·intro e he
     rcases hmem e he with h|rfl
     ·exact M.keys e h
     ·exact⟨k,rfl⟩
    ·intro e he q hq
     rcases hmem e he with h|rfl
     ·obtain⟨n1,n2,n3⟩:=hrow e h q hq
      rw[more_other f k q x n1]
      exact⟨n2,own_setBlock n3 hw2 (map_not_cells _ _)⟩
     ·have e1:q=k:=(kv_inj hq).symm
      subst e1
      rw[more_same]
      exact⟨by simp,own_setBlock hown hw2 (map_not_cells _ _)⟩
    ·intro q hq
     by_cases e1:q=k
     ·subst e1
      exact⟨⟨kv q,v',clock⟩,by simp,rfl⟩
     ·rw[more_other f k q x e1]at hq
      obtain⟨e,he,hk⟩:=M.has q hq
      exact⟨e,by simp[he],hk⟩
    ·have hnew:∀e∈es.toList,e.key≠kv k∧e.val.ownBlock≠v'.ownBlock:=by
      intro e he
      obtain⟨q,hq⟩:=M.keys e he
      obtain⟨r1,r2⟩:=M.rows e he q hq
      obtain⟨g,hg,hlt⟩:=own_some r2 r1
      refine⟨h2 e he,?_⟩
      rcases hblk with⟨g',-,h⟩|⟨g',h,hge⟩
      ·cases h
      ·rw[hg,h]
       intro h4
       have:=Option.some.inj h4
       omega
     intro i j a c ha hc hij
     rw[Array.toList_push]at ha hc
     by_cases hi:i<es.toList.length
     ·rw[List.getElem?_append_left hi]at ha
      by_cases hj:j<es.toList.length
      ·rw[List.getElem?_append_left hj]at hc
       exact M.apart i j a c ha hc hij
      ·rw[List.getElem?_append_right (by omega)]at hc
       have:c=⟨kv k,v',clock⟩:=by
        have:=List.mem_of_getElem? hc
        simpa using this
       subst this
       exact hnew a (List.mem_of_getElem? ha)
     ·rw[List.getElem?_append_right (by omega)]at ha
      have e1:a=⟨kv k,v',clock⟩:=by
       have:=List.mem_of_getElem? ha
       simpa using this
      have hi2:i=es.toList.length:=by
       have h5:=(List.getElem?_eq_some_iff.1 ha).1
       rw[List.length_singleton]at h5
       omega
      by_cases hj:j<es.toList.length
      ·rw[List.getElem?_append_left hj]at hc
       subst e1
       obtain⟨n1,n2⟩:=hnew c (List.mem_of_getElem? hc)
       exact⟨Ne.symm n1,Ne.symm n2⟩
      ·rw[List.getElem?_append_right (by omega)]at hc
       have h5:=(List.getElem?_eq_some_iff.1 hc).1
       rw[List.length_singleton]at h5
       omega
 ·have hj:es[j]? =some e0:=by simpa using h2
  have hsame:es.modify j (fun e=> { e with key:=kv k })=es:=by
   apply Array.ext'
   rw[Array.toList_modify,Go.ChangeMaps.modify_eq_set _ _ _ _ h2]
   have:({ e0 with key:=kv k }:MapEntry)=e0:=by rw[←h3]
   rw[this]
   exact Go.WideElems.set_self _ _ _ h2
  have he0:e0∈es.toList:=List.mem_of_getElem? h2
  obtain⟨r1,r2⟩:=M.rows e0 he0 k h3
  refine⟨e0.val,e0.born,es,clock,?_,own_setBlock r2 M.blk (map_not_cells _ _),?_⟩
  ·simp[Instr.mapEntry,run_underlying Tryz.underlying238,MapKept.run_getObj_map M.blk,keyLaw.check w false hl,h1,hj,h3,keyLaw.stays w hl,hsame,MapKept.run_setObj_map _ M.blk,Result.andThen,setBlock]
  ·intro w2 v' x hw2 hown hblk hkeep
   have hset:(es.modify j (fun e=> { e with val:=v' })).toList=es.toList.set j { e0 with val:=v' }:=by
    rw[Array.toList_modify,Go.ChangeMaps.modify_eq_set _ _ _ _ h2]
   have hjl:j<es.toList.length:=(List.getElem?_eq_some_iff.1 h2).1
   have hat:∀(i:Nat) (a:MapEntry),(es.modify j (fun e=> { e with val:=v' })).toList[i]? =some a→(i=j∧a= { e0 with val:=v' })∨(i≠j∧es.toList[i]? =some a):=by
    intro i a ha
    rw[hset,List.getElem?_set]at ha
    by_cases e1:j=i
    ·subst e1
     rw[if_pos rfl,if_pos hjl]at ha
     exact Or.inl ⟨rfl,(Option.some.inj ha).symm⟩
    ·rw[if_neg e1]at ha
     exact Or.inr ⟨Ne.symm e1,ha⟩
   have hmem:∀a,a∈(es.modify j (fun e=> { e with val:=v' })).toList→a= { e0 with val:=v' }∨∃i,i≠j∧es.toList[i]? =some a:=by
    intro a ha
    obtain⟨i,hi⟩:=List.getElem?_of_mem ha
    rcases hat i a hi with⟨-,h⟩|⟨h,h'⟩
    ·exact Or.inl h
    ·exact Or.inr ⟨i,h,h'⟩
   have hrow:∀i a,i≠j→es.toList[i]? =some a→∀q,a.key=kv q→q≠k∧f q≠ []∧w2.ownsRow B 3 1 a.val (f q).length (icells (f q)):=by
    intro i a hij ha q hq
    obtain⟨s1,s2⟩:=M.rows a (List.mem_of_getElem? ha) q hq
    obtain⟨n1,n2⟩:=M.apart i j a e0 ha h2 hij
    exact⟨fun e1=>n1 (by rw[hq,h3,e1]),s1,hkeep _ _ _ s2 n2⟩
   refine⟨es.modify j (fun e=> { e with val:=v' }),clock,?_,?_⟩
   ·have hidx:es.findIdx? (fun e=>((e.born:Nat):Int)==((e0.born:Nat):Int))=some j:=by
     rw[Go.WideElems.findIdx_arr]
     exact Go.WideElems.findIdx_born M.nodup h2
    simp[Instr.entryStore,MapKept.run_getObj_map hw2,asInt,asIntOf,goInt,hidx,MapKept.run_setObj_map _ hw2,Result.andThen,setBlock]
   ·refine⟨(MapKept.heap_set hw2).1,?_,?_,?_,?_,?_,?_⟩
    ·intro a ha
     rcases hmem a ha with rfl|⟨i,-,hi⟩
     ·exact M.born e0 he0
     ·exact M.born a (List.mem_of_getElem? hi)
    ·have:(es.modify j (fun e=> { e with val:=v' })).toList.map (·.born)=es.toList.map (·.born):=by
      rw[hset,List.map_set]
      exact Go.WideElems.set_self _ _ _ (by rw[List.getElem?_map,h2];rfl)
     rw[this]
     exact M.nodup
    ·intro a ha
     rcases hmem a ha with rfl|⟨i,-,hi⟩
     ·exact⟨k,h3⟩
     ·exact M.keys a (List.mem_of_getElem? hi)
    ·intro a ha q hq
     rcases hmem a ha with rfl|⟨i,hij,hi⟩
     ·have e1:q=k:=kv_inj (by rw[←hq];exact h3)
      subst e1
      rw[more_same]
      exact⟨by simp,own_setBlock hown hw2 (map_not_cells _ _)⟩
     ·obtain⟨n1,n2,n3⟩:=hrow i a hij hi q hq
      rw[more_other f k q x n1]
      exact⟨n2,own_setBlock n3 hw2 (map_not_cells _ _)⟩
    ·intro q hq
     by_cases e1:q=k
     ·subst e1
      refine⟨{ e0 with val:=v' },?_,h3⟩
      rw[hset]
      exact List.mem_of_getElem? (i:=j) (by rw[List.getElem?_set,if_pos rfl,if_pos hjl])
     ·rw[more_other f k q x e1]at hq
      obtain⟨a,ha,hk⟩:=M.has q hq
      obtain⟨i,hi⟩:=List.getElem?_of_mem ha
      have hij:j≠i:=by
       intro e2
       subst e2
       rw[h2]at hi
       have:=Option.some.inj hi
       subst this
       exact e1 (kv_inj (by rw[←hk];exact h3))
      refine⟨a,?_,hk⟩
      rw[hset]
      exact List.mem_of_getElem? (i:=i) (by rw[List.getElem?_set,if_neg hij];exact hi)
    ·have hnew:∀i a,i≠j→es.toList[i]? =some a→a.key≠e0.key∧a.val.ownBlock≠v'.ownBlock:=by
      intro i a hij ha
      obtain⟨n1,n2⟩:=M.apart i j a e0 ha h2 hij
      refine⟨n1,?_⟩
      rcases hblk with⟨g,g1,g2⟩|⟨g,g1,g2⟩
      ·rw[g1,←g2]
       exact n2
      ·obtain⟨q,hq⟩:=M.keys a (List.mem_of_getElem? ha)
       obtain⟨s1,s2⟩:=M.rows a (List.mem_of_getElem? ha) q hq
       obtain⟨g',hg',hlt⟩:=own_some s2 s1
       rw[hg',g1]
       intro h4
       have:=Option.some.inj h4
       omega
     intro i1 i2 a c ha hc hne
     rcases hat i1 a ha with⟨rfl,rfl⟩|⟨k1,ha'⟩
     ·rcases hat i2 c hc with⟨rfl,-⟩|⟨k2,hc'⟩
      ·exact absurd rfl hne
      ·obtain⟨n1,n2⟩:=hnew i2 c k2 hc'
       exact⟨Ne.symm n1,Ne.symm n2⟩
     ·rcases hat i2 c hc with⟨rfl,rfl⟩|⟨k2,hc'⟩
      ·exact hnew i1 a k1 ha'
      ·exact M.apart i1 i2 a c ha' hc' hne

end Pk
end Go.Proofs.YtcjgkmhpeedhiaaGreatDoor

/- The contract of the program's learn: the places up to one are known. -/
namespace Go.Proofs.YtcjgkmhpeedhiaaGreatDoor
namespace Pk
open Go.ChangeShapes Go.WideShapes Go.ChangeAt Go.RowKit
open Go.ChangeMaps (setBlock)
set_option linter.unusedSimpArgs false
set_option linter.unusedVariables false

def keyAt (s:ByteArray) (i:Nat):Key:=(s.data.toList.getD i 0,s.data.toList.getD (i+1) 0,s.data.toList.getD (i+2) 0)

def learnt (s:ByteArray):Nat→Key→List Nat
 |0=>fun _=> []
 |i+1=>if i+3≤s.size then more (learnt s i) (keyAt s i) i else learnt s i

theorem learnt_end (s:ByteArray) (i m:Nat) (h:¬i+3≤s.size) (hm:i≤m):learnt s m=learnt s i:=by
 induction m with
 |zero=>rw[show i=0 by omega]
 |succ m ih=>
  by_cases e:i=m+1
  ·rw[e]
  ·rw[learnt,if_neg (by omega),ih (by omega)]

theorem learnt_step (s:ByteArray) (i:Nat) (h:i+3≤s.size):learnt s (i+1)=more (learnt s i) (keyAt s i) i:=if_pos h

theorem learnt_length (s:ByteArray) (i:Nat) (k:Key):(learnt s i k).length≤i:=by
 induction i with
 |zero=>simp[learnt]
 |succ i ih=>
  unfold learnt
  split
  ·by_cases e:k=keyAt s i
   ·rw[e]at ih⊢
    rw[more_same,List.length_append]
    simp
    omega
   ·rw[more_other _ _ _ _ e]
    omega
  ·omega

theorem keyAt_is (s:ByteArray) (i i1 i2:Nat) (h0:i<s.size) (h1:i1<s.size) (h2:i2<s.size) (e1:i+1=i1) (e2:i+2=i2):kv (keyAt s i)=triV s[i] s[i1] s[i2]:=by
 subst e1 e2
 have g:∀j (hj:j<s.size),s.data.toList.getD j 0=s[j]:=by
  intro j hj
  rw[List.getD_eq_getElem?_getD,Array.getElem?_toList,Array.getElem?_eq_getElem hj]
  rfl
 unfold kv keyAt
 rw[g i h0,g (i+1) h1,g (i+2) h2]

def KeptBut (b:Nat) (w w':World):Prop:=Below b w w'∧∀(g:Nat) (o:Obj),w.heap[g]? =some o→g≠b→(∀cs fz,o≠ .cells cs 3 fz)→w'.heap[g]? =some o

theorem KeptBut.refl (b:Nat) (w:World):KeptBut b w w:=⟨Below.refl _ _,fun _ _ h _ _=>h⟩

theorem KeptBut.trans {b:Nat} {w w1 w2:World} (h:KeptBut b w w1) (k:KeptBut b w1 w2):KeptBut b w w2:=⟨h.1.trans k.1,fun g o hg hb ho=>k.2 g o (h.2 g o hg hb ho) hb ho⟩

theorem KeptBut.of_below {b:Nat} {w w1:World} (L:Below w.heap.size w w1) (hb:b≤w.heap.size):KeptBut b w w1:=⟨L.mono hb,fun g o hg _ _=>kept L (lt_of hg) hg⟩

theorem KeptBut.setBlock {b:Nat} {w:World} {o o':Obj} (h:w.heap[b]? =some o):KeptBut b w (setBlock w b o'):=
 ⟨⟨rfl,rfl,rfl,by show w.heap.size≤(w.heap.setIfInBounds b o').size;simp,fun k hk=>(MapKept.heap_set h).2 k (by omega)⟩,fun g o1 hg hb _=>by
   show(w.heap.setIfInBounds b o')[g]? =_
   rw[(MapKept.heap_set h).2 g hb]
   exact hg⟩

theorem put_row {B b:Nat} {X1 w4:World} {v0 v':Value} {n:Nat} {xs ys:List Value} (hB:b<B) (hbX:b<X1.heap.size) (I:X1.ownsRow B 3 1 v0 n xs) (G:X1.grownBy w4 v0.ownBlock):KeptBut b X1 w4:=by
 refine⟨⟨G.os,G.tape,G.output,G.size,fun k hk=> ?_⟩,fun g o hg hb ho=> ?_⟩
 ·exact G.block k (by omega) (fun h=>by have:=(I.lt k h.symm).1;omega)
 ·rw[G.block g (lt_of hg) ?_]
  ·exact hg
  ·intro h
   obtain⟨-,h2⟩:=I
   rcases h2 with⟨hv,-⟩|⟨g',cap,cur,hv,-,hh,-⟩
   ·rw[hv]at h;cases h
   ·rw[hv]at h
    simp only[Value.ownBlock,Option.some.injEq]at h
    subst h
    rw[hg]at hh
    exact ho _ _ (Option.some.inj hh)

set_option maxHeartbeats 2000000 in
theorem learn_val (B b:Nat) (s:ByteArray) (from_ to_:Nat) (es:Array MapEntry) (clock:Nat) (w:World) (hs:s.size≤3000) (hft:from_≤to_) (hto:to_≤s.size) (hbB:b<B) (hBw:B≤w.heap.size) (M:Mp B b (learnt s from_) es clock w):
 Calls Tryz.prog 210 #[.map (some b),.string s,.int .i64 from_,.int .i64 to_] w fun e w'=>e= .returned (.tuple #[])∧(∃es' clock',Mp B b (learnt s to_) es' clock' w')∧KeptBut b w w':=by
 obtain⟨i0,hi,hz0,hz1,hz2⟩:=info_of info_int
 go_enter Tryz.func210,Tryz.ntmps210
 go_wp2
 go_loopw [8] (fun i wr=>∃(k:Nat),from_≤k∧k≤to_∧i= .int .i64 k∧Hid (∃es' clock',Mp B b (learnt s k) es' clock' wr)∧KeptBut b w wr) (fun i _=>to_-(intOf i).toNat)
 case atStart=>exact⟨from_,by omega,hft,rfl,⟨es,clock,M⟩,KeptBut.refl _ _⟩
 case round=>
  obtain⟨k,hk1,hk2,rfl,HM,KB⟩:=hrel
  by_cases h1:k<to_
  ·by_cases h2:k+3≤s.size
   ·obtain⟨es1,clock1,M1⟩:=HM.out
    have hBr:B≤wr.heap.size:=Nat.le_trans hBw KB.1.size
    have e1:(k:Int)+1=((k+1:Nat):Int):=by omega
    have e2:(k:Int)+2=((k+2:Nat):Int):=by omega
    have t2:decide ((k:Int)+3≤(s.size:Int))=true:=decide_eq_true (by omega)
    have HK:Hid (_):=keyAt_is s k (k+1) (k+2) (by omega) (by omega) (by omega) rfl rfl
    have HL:=learnt_length s k (keyAt s k)
    have HT:Hid (_):=learnt_step s k h2
    go_wp2_with fail
    refine(triple_is s k (k+1) (k+2) _ hs (by omega) (by omega) (by omega) e1 e2).mono ?_
    rintro e w2 ⟨rfl,L2⟩
    have L3:Below wr.heap.size wr ((w2.alloc (.cells #[.int .u8 (s[k].toNat:Int),.int .u8 (s[k+1].toNat:Int),.int .u8 (s[k+2].toNat:Int)] 241)).alloc (.cells #[.int .i64 k] 3)):=(L2.alloc L2.size _).alloc (by simp;have:=L2.size;omega) _
    have M3:=M1.on L3
    have KB3:=KB.trans (KeptBut.of_below L3 (by omega))
    obtain⟨v0,st,es2,clock2,hrun,hown0,hstore⟩:=M3.entry (keyAt s k)
    rw[HK.out]at hrun
    clear HK HM M1 e1 e2
    have hc1:(setBlock ((w2.alloc (.cells #[.int .u8 (s[k].toNat:Int),.int .u8 (s[k+1].toNat:Int),.int .u8 (s[k+2].toNat:Int)] 241)).alloc (.cells #[.int .i64 k] 3)) b (.map es2 clock2)).heap[w2.heap.size+1]? =some (.cells #[.int .i64 k] 3):=by
     have h5:=heap_new (w2.alloc (.cells #[.int .u8 (s[k].toNat:Int),.int .u8 (s[k+1].toNat:Int),.int .u8 (s[k+2].toNat:Int)] 241)) (.cells #[.int .i64 k] 3)
     have h6:(w2.alloc (.cells #[.int .u8 (s[k].toNat:Int),.int .u8 (s[k+1].toNat:Int),.int .u8 (s[k+2].toNat:Int)] 241)).heap.size=w2.heap.size+1:=by simp
     rw[h6]at h5
     have h7:=L2.size
     show(Array.setIfInBounds _ b _)[w2.heap.size+1]? =_
     rw[(MapKept.heap_set M3.blk).2 (w2.heap.size+1) (by omega)]
     exact h5
    have KB4:=KB3.trans (KeptBut.setBlock (o':= .map es2 clock2) M3.blk)
    have hb4:(setBlock ((w2.alloc (.cells #[.int .u8 (s[k].toNat:Int),.int .u8 (s[k+1].toNat:Int),.int .u8 (s[k+2].toNat:Int)] 241)).alloc (.cells #[.int .i64 k] 3)) b (.map es2 clock2)).heap[b]? =some (.map es2 clock2):=(MapKept.heap_set M3.blk).1
    have hB4:B≤(setBlock ((w2.alloc (.cells #[.int .u8 (s[k].toNat:Int),.int .u8 (s[k+1].toNat:Int),.int .u8 (s[k+2].toNat:Int)] 241)).alloc (.cells #[.int .i64 k] 3)) b (.map es2 clock2)).heap.size:=Nat.le_trans hBw KB4.1.size
    have HF:Hid (_):=hstore
    have M3b:=M3.blk
    obtain⟨va,vc,rfl,-⟩:=own_form hown0
    clear hstore
    go_wp2_with (at_builtin;refine wpList_append_own_at _ rfl _ _ 29 rfl B 3 i0 (.int .i64 0) 1 8 Tryz.underlying29 hi hz0 hz1 hz2 rfl (by decide) _ _ _ rfl hown0 ⟨w2.heap.size+1,0,none⟩ 1 1 [.int .i64 k] rfl rfl ?c1 ?c2 ?c3 ?c4 ?c5 ?_)
    case c1=>
     intro j u hu
     match j with
     |0=>
      simp at hu
      subst hu
      simpa [Addr.add]using cell_at hc1 0
     |j+1=>simp at hu
    case c2=>intro u hu;simp at hu;subst hu;rfl
    case c3=>unfold maxLen;omega
    case c4=>omega
    case c5=>exact hB4
    intro v' w4 hown4 hgrow _ hat
    have hw4:w4.heap[b]? =some (.map es2 clock2):=by
     rw[hgrow.block b (lt_of hb4) (fun h=>by have:=own_ge hown0 b h.symm;omega)]
     exact hb4
    have K4:=put_row hbB (lt_of hb4) hown0 hgrow (v':=v') (ys:= [])
    rw[icells_snoc]at hown4
    have hown5:w4.ownsRow B 3 1 v' (learnt s k (keyAt s k)++ [k]).length (icells (learnt s k (keyAt s k)++ [k])):=by rw[List.length_append];exact hown4
    obtain⟨es3,clock3,hst,M4⟩:=HF.out w4 v' k hw4 hown5 (by
     rcases hat with h|h
     ·obtain⟨g,hg,-⟩:=own_some hown5 (by simp)
      exact Or.inl ⟨g,hg,by rw[←h];exact hg⟩
     ·refine Or.inr ⟨_,h,?_⟩
      show _≤(Array.setIfInBounds _ b _).size
      simp) (fun u n xs hu hne=>(own_setBlock hu M3b (map_not_cells _ _)).kept hgrow (Or.inr hne))
    have hst2:(Instr.entryStore 238 (.map (some b)) (.int .i64 (st:Int)) v').run Tryz.prog w4= .ok () (setBlock w4 b (.map es3 clock3)):=hst
    clear hst
    rw[←HT.out]at M4
    have HM4:Hid (∃es' clock',Mp B b (learnt s (k+1)) es' clock' _):=⟨es3,clock3,M4⟩
    have KB5:=KB4.trans (K4.trans (KeptBut.setBlock (o':= .map es3 clock3) hw4))
    clear M4 hown4 hown5 hgrow hat K4 HF hown0 hc1 KB4 KB3 M3 M3b hrun hw4
    go_wp2
    go_roundw
    case rel=>exact⟨k+1,by omega,by omega,by go_num,HM4,KB5⟩
    case measure=>simp[intOf];omega
   ·have t2:decide ((k:Int)+3≤(s.size:Int))=false:=decide_eq_false (by omega)
    have HE:Hid (_):=learnt_end s k to_ h2 hk2
    go_wp2
    go_end0
    exact⟨rfl,by rw[HE.out];exact HM.out,KB⟩
  ·obtain rfl:k=to_:=by omega
   go_wp2
   go_end0
   exact⟨rfl,HM.out,KB⟩

end Pk
end Go.Proofs.YtcjgkmhpeedhiaaGreatDoor

/- What the program's longest finds: the pure part. -/
namespace Go.Proofs.YtcjgkmhpeedhiaaGreatDoor
namespace Pk
open Math (run runFrom best far)
set_option linter.unusedSimpArgs false
set_option linter.unusedVariables false

def bestW (s:ByteArray) (i:Nat):Nat→Nat×Nat
 |0=>(0,0)
 |k+1=>if 3≤run s (i-(k+1)) i∧(bestW s i k).1<run s (i-(k+1)) i then(run s (i-(k+1)) i,k+1)else bestW s i k

theorem bestW_is (s:ByteArray) (i k:Nat):bestW s i k=if 3≤(best s i k).1 then best s i k else(0,0):=by
 induction k with
 |zero=>simp[bestW,best]
 |succ k ih=>
  unfold bestW best
  rw[ih]
  generalize run s (i-(k+1)) i=r
  generalize best s i k=b
  by_cases h1:3≤b.1
  ·rw[if_pos h1]
   by_cases h2:b.1<r
   ·rw[if_pos ⟨by omega,h2⟩,if_pos h2,if_pos (show 3≤r by omega)]
   ·rw[if_neg (by intro h;exact h2 h.2),if_neg h2,if_pos h1]
  ·rw[if_neg h1]
   by_cases h2:b.1<r
   ·rw[if_pos h2]
    by_cases h3:3≤r
    ·rw[if_pos ⟨h3,by show 0<r;omega⟩,if_pos h3]
    ·rw[if_neg (by intro h;exact h3 h.1),if_neg h3]
   ·rw[if_neg h2,if_neg (by intro h;have:=h.1;omega),if_neg h1]

theorem bestW_gap (s:ByteArray) (i a b:Nat) (hab:a≤b) (h:∀d,a<d→d≤b→run s (i-d) i<3):bestW s i b=bestW s i a:=by
 induction b with
 |zero=>rw[show a=0 by omega]
 |succ b ih=>
  by_cases e:a=b+1
  ·rw[e]
  ·have h1:=h (b+1) (by omega) (Nat.le_refl _)
   rw[bestW,if_neg (by intro h2;omega),ih (by omega) (fun d hd1 hd2=>h d hd1 (by omega))]

def longV (s:ByteArray) (i:Nat):Nat×Nat:=bestW s i (far i)

theorem longV_piece (s:ByteArray) (i:Nat):(3≤(longV s i).1→Math.pieceAt s i=⟨0,(longV s i).1,(longV s i).2⟩∧Math.stepAt s i=(longV s i).1)∧(¬3≤(longV s i).1→longV s i=(0,0)∧Math.pieceAt s i=⟨((s.data.toList.getD i 0).toNat:Int),0,0⟩∧Math.stepAt s i=1):=by
 unfold longV Math.pieceAt Math.stepAt
 rw[bestW_is]
 by_cases h:3≤(best s i (far i)).1
 ·rw[if_pos h]
  exact⟨fun _=>by rw[if_pos h,if_pos h];exact⟨rfl,rfl⟩,fun h2=>absurd h h2⟩
 ·rw[if_neg h]
  exact⟨fun h2=>by have:3≤0:=h2;omega,fun _=>by rw[if_neg h,if_neg h];exact⟨rfl,rfl,rfl⟩⟩

theorem getD_at (s:ByteArray) (j:Nat) (hj:j<s.size):s[j]? =some (s.data.toList.getD j 0):=by
 rw[getElem?_pos s j hj,List.getD_eq_getElem?_getD,Array.getElem?_toList,Array.getElem?_eq_getElem hj]
 rfl

theorem run_three (s:ByteArray) (e l:Nat) (hel:e<l) (hl:l+3≤s.size):3≤run s e l↔keyAt s e=keyAt s l:=by
 have q:∀n,n<3→(s[e+n]? =s[l+n]? ↔s.data.toList.getD (e+n) 0=s.data.toList.getD (l+n) 0):=by
  intro n hn
  rw[getD_at s (e+n) (by omega),getD_at s (l+n) (by omega),Option.some.injEq]
 have q0:=q 0 (by omega)
 have q1:=q 1 (by omega)
 have q2:=q 2 (by omega)
 unfold run keyAt
 constructor
 ·intro h
  have s0:s[e+0]? =s[l+0]? :=by
   apply Classical.byContradiction
   intro hn
   have:runFrom s e l 258 0=0:=Math.runFrom_no s e l 0 (by intro g;exact hn g.2.2)
   omega
  have f0:runFrom s e l 258 0=runFrom s e l 257 1:=Math.runFrom_yes s e l 0 (by omega) (by omega) s0
  have s1:s[e+1]? =s[l+1]? :=by
   apply Classical.byContradiction
   intro hn
   have:runFrom s e l 257 1=1:=Math.runFrom_no s e l 1 (by intro g;exact hn g.2.2)
   omega
  have f1:runFrom s e l 257 1=runFrom s e l 256 2:=Math.runFrom_yes s e l 1 (by omega) (by omega) s1
  have s2:s[e+2]? =s[l+2]? :=by
   apply Classical.byContradiction
   intro hn
   have:runFrom s e l 256 2=2:=Math.runFrom_no s e l 2 (by intro g;exact hn g.2.2)
   omega
  rw[Prod.mk.injEq,Prod.mk.injEq]
  exact⟨q0.1 s0,q1.1 s1,q2.1 s2⟩
 ·intro h
  rw[Prod.mk.injEq,Prod.mk.injEq]at h
  have f0:runFrom s e l 258 0=runFrom s e l 257 1:=Math.runFrom_yes s e l 0 (by omega) (by omega) (q0.2 h.1)
  have f1:runFrom s e l 257 1=runFrom s e l 256 2:=Math.runFrom_yes s e l 1 (by omega) (by omega) (q1.2 h.2.1)
  have f2:runFrom s e l 256 2=runFrom s e l 255 3:=Math.runFrom_yes s e l 2 (by omega) (by omega) (q2.2 h.2.2)
  have g:∀f n,n≤runFrom s e l f n:=by
   intro f
   induction f with
   |zero=>intro n;exact Nat.le_refl _
   |succ f ih=>
    intro n
    unfold runFrom
    split
    ·have:=ih (n+1);omega
    ·exact Nat.le_refl _
  have:=g 255 3
  omega

theorem learnt_mem (s:ByteArray) (i:Nat) (k:Key) (p:Nat):p∈learnt s i k↔p<i∧p+3≤s.size∧keyAt s p=k:=by
 induction i with
 |zero=>simp[learnt]
 |succ i ih=>
  unfold learnt
  by_cases h:i+3≤s.size
  ·rw[if_pos h]
   by_cases e:k=keyAt s i
   ·subst e
    rw[more_same,List.mem_append,List.mem_singleton,ih]
    constructor
    ·rintro(⟨h1,h2,h3⟩|rfl)
     ·exact⟨by omega,h2,h3⟩
     ·exact⟨by omega,h,rfl⟩
    ·rintro⟨h1,h2,h3⟩
     by_cases e2:p=i
     ·exact Or.inr e2
     ·exact Or.inl ⟨by omega,h2,h3⟩
   ·rw[more_other _ _ _ _ e,ih]
    constructor
    ·rintro⟨h1,h2,h3⟩
     exact⟨by omega,h2,h3⟩
    ·rintro⟨h1,h2,h3⟩
     refine⟨?_,h2,h3⟩
     by_cases e2:p=i
     ·subst e2;exact absurd h3.symm e
     ·omega
  ·rw[if_neg h,ih]
   constructor
   ·rintro⟨h1,h2,h3⟩
    exact⟨by omega,h2,h3⟩
   ·rintro⟨h1,h2,h3⟩
    exact⟨by omega,h2,h3⟩

theorem learnt_sorted (s:ByteArray) (i:Nat) (k:Key):(learnt s i k).Pairwise (· < ·):=by
 induction i with
 |zero=>simp[learnt]
 |succ i ih=>
  unfold learnt
  split
  ·by_cases e:k=keyAt s i
   ·subst e
    rw[more_same,List.pairwise_append]
    refine⟨ih,by simp,?_⟩
    intro a ha b hb
    rw[List.mem_singleton]at hb
    have:=((learnt_mem s i _ a).1 ha).1
    omega
   ·rw[more_other _ _ _ _ e]
    exact ih
  ·exact ih

theorem longV_short (s:ByteArray) (i:Nat) (hi:i≤s.size) (h:¬i+3≤s.size):longV s i=(0,0):=by
 unfold longV
 rw[bestW_gap s i 0 (far i) (Nat.zero_le _) (fun d _ _=>by have:=Math.run_fits s (i-d) i hi;omega)]
 rfl

def dAt (P:List Nat) (i j:Nat):Nat:=match P[j]? with|some p=>i-p|none=>0

theorem dAt_some (P:List Nat) (i j p:Nat) (h:P[j]? =some p):dAt P i j=i-p:=by unfold dAt;rw[h]

theorem dAt_none (P:List Nat) (i j:Nat) (h:P[j]? =none):dAt P i j=0:=by unfold dAt;rw[h]

theorem sorted_lt {P:List Nat} (h:P.Pairwise (· < ·)) {a b x y:Nat} (ha:P[a]? =some x) (hb:P[b]? =some y) (hab:a<b):x<y:=by
 obtain⟨ha1,ha2⟩:=List.getElem?_eq_some_iff.1 ha
 obtain⟨hb1,hb2⟩:=List.getElem?_eq_some_iff.1 hb
 have:=List.pairwise_iff_getElem.1 h a b ha1 hb1 hab
 rw[ha2,hb2]at this
 exact this

theorem gap (s:ByteArray) (i j D:Nat) (hi:i+3≤s.size) (hj:j≤(learnt s i (keyAt s i)).length) (hD1:dAt (learnt s i (keyAt s i)) i j≤D) (hD2:D≤i) (hp:∀m p,j=m+1→(learnt s i (keyAt s i))[m]? =some p→D<i-p):bestW s i D=bestW s i (dAt (learnt s i (keyAt s i)) i j):=by
 have hsort:=learnt_sorted s i (keyAt s i)
 have hmem:=learnt_mem s i (keyAt s i)
 generalize hP:learnt s i (keyAt s i)=P at*
 refine bestW_gap s i _ D hD1 (fun d hd1 hd2=> ?_)
 apply Nat.lt_of_not_le
 intro h3
 have hd0:0<d:=by omega
 have hk:=(run_three s (i-d) i (by omega) hi).1 h3
 have hin:=(hmem (i-d)).2 ⟨by omega,by omega,hk⟩
 obtain⟨m,hm⟩:=List.getElem?_of_mem hin
 by_cases hmj:j≤m
 ·cases hx:P[j]? with
  |none=>
   have:=List.getElem?_eq_none_iff.1 hx
   have:=(List.getElem?_eq_some_iff.1 hm).1
   omega
  |some x=>
   rw[dAt_some P i j x hx]at hd1
   have hxm:=(hmem x).1 (List.mem_of_getElem? hx)
   by_cases e:j=m
   ·subst e
    rw[hx]at hm
    have:=Option.some.inj hm
    omega
   ·have:=sorted_lt hsort hx hm (by omega)
    omega
 ·obtain⟨q,rfl⟩:∃q,j=q+1:=⟨j-1,by omega⟩
  have hq:q<P.length:=by omega
  have hpq:=hp q P[q] rfl (List.getElem?_eq_getElem hq)
  have hxm:=(hmem P[q]).1 (List.getElem_mem hq)
  by_cases e:m=q
  ·subst e
   rw[List.getElem?_eq_getElem hq]at hm
   have:=Option.some.inj hm
   omega
  ·have:=sorted_lt hsort hm (List.getElem?_eq_getElem hq) (by omega)
   omega

theorem dAt_lt (s:ByteArray) (i j p:Nat) (hp:(learnt s i (keyAt s i))[j]? =some p):dAt (learnt s i (keyAt s i)) i (j+1)<i-p:=by
 have hpm:=(learnt_mem s i (keyAt s i) p).1 (List.mem_of_getElem? hp)
 cases hx:(learnt s i (keyAt s i))[j+1]? with
 |none=>rw[dAt_none _ _ _ hx];omega
 |some x=>
  rw[dAt_some _ _ _ x hx]
  have hxm:=(learnt_mem s i (keyAt s i) x).1 (List.mem_of_getElem? hx)
  have:=sorted_lt (learnt_sorted s i (keyAt s i)) hp hx (by omega)
  omega

theorem long_step (s:ByteArray) (i j p:Nat) (hi:i+3≤s.size) (hp:(learnt s i (keyAt s i))[j]? =some p):
 bestW s i (i-p)=if(bestW s i (dAt (learnt s i (keyAt s i)) i (j+1))).1<run s p i then(run s p i,i-p)else bestW s i (dAt (learnt s i (keyAt s i)) i (j+1)):=by
 have hpm:=(learnt_mem s i (keyAt s i) p).1 (List.mem_of_getElem? hp)
 have hlt:=dAt_lt s i j p hp
 have hjl:=(List.getElem?_eq_some_iff.1 hp).1
 have hg:=gap s i (j+1) (i-p-1) hi (by omega) (by omega) (by omega) (by
  intro m q hm hq
  obtain rfl:j=m:=by omega
  rw[hp]at hq
  have:=Option.some.inj hq
  omega)
 have hr:3≤run s p i:=(run_three s p i (by omega) hi).2 hpm.2.2
 obtain⟨k,hk⟩:∃k,i-p=k+1:=⟨i-p-1,by omega⟩
 have hpk:i-(k+1)=p:=by omega
 rw[hk,show k+1-1=k by omega]at hg
 rw[hk,bestW,hpk,hg]
 by_cases h:(bestW s i (dAt (learnt s i (keyAt s i)) i (j+1))).1<run s p i
 ·rw[if_pos ⟨hr,h⟩,if_pos h]
 ·rw[if_neg (by intro g;exact h g.2),if_neg h]

theorem long_end (s:ByteArray) (i j:Nat) (hi:i+3≤s.size) (hj:j≤(learnt s i (keyAt s i)).length) (hd:dAt (learnt s i (keyAt s i)) i j≤1024) (hp:∀m p,j=m+1→(learnt s i (keyAt s i))[m]? =some p→1024<i-p):longV s i=bestW s i (dAt (learnt s i (keyAt s i)) i j):=by
 have hdi:dAt (learnt s i (keyAt s i)) i j≤i:=by
  unfold dAt
  split<;>omega
 exact gap s i j (far i) hi hj (by unfold far;omega) (by unfold far;omega) (fun m p h1 h2=>by have:=hp m p h1 h2;unfold far;omega)

end Pk
end Go.Proofs.YtcjgkmhpeedhiaaGreatDoor

/- The contract of the program's longest. -/
namespace Go.Proofs.YtcjgkmhpeedhiaaGreatDoor
namespace Pk
open Go.ChangeShapes Go.WideShapes Go.ChangeAt Go.RowKit
open Go.ChangeMaps (setBlock)
set_option linter.unusedSimpArgs false
set_option linter.unusedVariables false

theorem two_new' (w:World) (a b:Obj):Below w.heap.size w ((w.alloc a).alloc b)∧((w.alloc a).alloc b).heap[w.heap.size]? =some a∧((w.alloc a).alloc b).heap[w.heap.size+1]? =some b:=by
 refine⟨((Below.refl _ _).alloc (Nat.le_refl _) _).alloc (by simp) _,heap_old (heap_new w a) b,?_⟩
 have:=heap_new (w.alloc a) b
 simpa using this

abbrev pcB (x n d:Int):Obj:= .cells #[.int .i64 x,.int .i64 n,.int .i64 d] 143

set_option maxHeartbeats 2000000 in
theorem longest_val (B b:Nat) (s:ByteArray) (i:Nat) (es:Array MapEntry) (clock:Nat) (w:World) (hs:s.size≤3000) (hi:i≤s.size) (M:Mp B b (learnt s i) es clock w):
 Calls Tryz.prog 209 #[.map (some b),.string s,.int .i64 i] w fun e w'=>e= .returned (pcV 0 ((longV s i).1:Int) ((longV s i).2:Int))∧Below w.heap.size w w':=by
 obtain⟨L0,m0,m1⟩:=two_new' w (pcB 0 0 0) (pcB 0 0 0)
 by_cases h3:i+3≤s.size
 ·have t3:decide ((s.size:Int)<(i:Int)+3)=false:=decide_eq_false (by omega)
  have e1:(i:Int)+1=((i+1:Nat):Int):=by omega
  have e2:(i:Int)+2=((i+2:Nat):Int):=by omega
  have HK:Hid (_):=keyAt_is s i (i+1) (i+2) (by omega) (by omega) (by omega) rfl rfl
  go_enter Tryz.func209,Tryz.ntmps209
  go_wp2_with fail
  refine(triple_is s i (i+1) (i+2) _ hs (by omega) (by omega) (by omega) e1 e2).mono ?_
  rintro e w2 ⟨rfl,L2⟩
  have n0:=kept L2 (lt_of m0) m0
  have n1:=kept L2 (lt_of m1) m1
  have L3:=join_below L0 L2
  have M3:=M.on L3
  obtain⟨v,hrun,hown⟩:=M3.lookup (keyAt s i)
  rw[HK.out]at hrun
  obtain⟨va,vc,rfl,-⟩:=own_form hown
  have hlen:=learnt_length s i (keyAt s i)
  clear HK e1 e2 m0 m1 L0 L2 M3
  go_wp2
  generalize hP:learnt s i (keyAt s i)=P at*
  have HP:Hid (learnt s i (keyAt s i)=P):=hP
  clear hP
  go_loopw [9] (fun t wr=>∃(j b1 b2:Nat),j≤P.length∧t= .int .i64 ((j:Int)-1)∧b1≤258∧b2≤3000∧wr.heap[w.heap.size]? =some (pcB 0 0 0)∧wr.heap[w.heap.size+1]? =some (pcB 0 b1 b2)∧wr.ownsRow B 3 1 (.slice va P.length vc) P.length (icells P)∧Below w.heap.size w wr∧Hid (bestW s i (dAt P i j)=(b1,b2)∧dAt P i j≤1024)) (fun t _=>(intOf t+1).toNat)
  case atStart=>exact⟨P.length,0,0,Nat.le_refl _,rfl,by omega,by omega,n0,n1,hown,L3,by
   show _∧_
   rw[dAt_none P i P.length (by simp)]
   exact⟨rfl,by omega⟩⟩
  case round=>
   obtain⟨j,b1,b2,hj,rfl,hb1,hb2,q0,q1,hownr,LR,H⟩:=hrel
   have c1:wr.cell? ⟨w.heap.size+1,1,none⟩=some (.int .i64 b1):=cell_at q1 1
   by_cases hj0:j=0
   ·subst hj0
    have HV:Hid (longV s i=(b1,b2)):=by
     show _=_
     have:=long_end s i 0 h3 (by omega) (by rw[HP.out];exact H.out.2) (fun m p h=>by omega)
     rw[this,HP.out,H.out.1]
    have em:((0:Nat):Int)-1= -1:=rfl
    rw[em]
    have z0:wr.cell? ⟨w.heap.size,0,none⟩=some (.int .i64 0):=cell_at q0 0
    have z1:wr.cell? ⟨w.heap.size,1,none⟩=some (.int .i64 0):=cell_at q0 1
    have z2:wr.cell? ⟨w.heap.size,2,none⟩=some (.int .i64 0):=cell_at q0 2
    have f0:wr.frozen? ⟨w.heap.size,0,none⟩=false:=frozen_at q0 0
    have f1:wr.frozen? ⟨w.heap.size,1,none⟩=false:=frozen_at q0 1
    have f2:wr.frozen? ⟨w.heap.size,2,none⟩=false:=frozen_at q0 2
    have c0:wr.cell? ⟨w.heap.size+1,0,none⟩=some (.int .i64 0):=cell_at q1 0
    have c2:wr.cell? ⟨w.heap.size+1,2,none⟩=some (.int .i64 b2):=cell_at q1 2
    go_wp2
    refine bodyPost_ret (v:=pcV 0 b1 b2) (by simp[results,Tryz.results209,go_sem,z0,z1,z2]) rfl ?_
    refine⟨by rw[HV.out],((LR.setCell (Nat.le_refl _) _).setCell (Nat.le_refl _) _).setCell (Nat.le_refl _) _⟩
   ·obtain⟨m,rfl⟩:∃m,j=m+1:=⟨j-1,by omega⟩
    have ej:((m+1:Nat):Int)-1=(m:Int):=by omega
    rw[ej]
    obtain⟨g,cp,he,hg1,hg2,y,hy,hc⟩:=own_at hownr m (by omega)
    simp only[Value.slice.injEq]at he
    obtain⟨rfl,-,-⟩:=he
    rw[icells_at P m (by omega)]at hy
    simp only[Option.some.injEq]at hy
    subst hy
    have hpm:=(learnt_mem s i (keyAt s i) P[m]).1 (by rw[HP.out];exact List.getElem_mem _)
    have hpe:P[m]? =some P[m]:=List.getElem?_eq_getElem (by omega)
    have hst:=long_step s i m P[m] h3 (by rw[HP.out];exact hpe)
    rw[HP.out,H.out.1]at hst
    have hrl:=Math.run_le s P[m] i
    have HD:Hid (dAt P i m=i-P[m]):=dAt_some P i m P[m] hpe
    have HR:Hid (∀w,_):=fun w=>alike_val s P[m] i w hs hpm.1 hi
    have HE:=long_end s i (m+1) h3 (by rw[HP.out];omega) (by rw[HP.out];exact H.out.2)
    rw[HP.out,H.out.1]at HE
    have HE2:Hid (1024<i-P[m]→longV s i=(b1,b2)):=fun h=>HE (fun q p h1 h2=>by
     obtain rfl:m=q:=by omega
     rw[hpe]at h2
     have:=Option.some.inj h2
     omega)
    have hpi:=hpm.1
    generalize P[m]=pp at*
    generalize Math.run s pp i=r at*
    have ed:(i:Int)-(pp:Int)=((i-pp:Nat):Int):=by omega
    have hdb:i-pp≤3000:=by omega
    clear HE hpe hpm
    have HST:Hid (_):=hst
    clear hst
    generalize hdd:i-pp=dd at*
    have HDD:Hid (i-pp=dd):=hdd
    clear hdd
    by_cases hfar:dd≤1024
    ·have tf:decide ((dd:Int)≤1024)=true:=decide_eq_true (by omega)
     have HFR:Hid (dd≤1024):=hfar
     clear hfar HE2
     by_cases hgt:b1<r
     ·rw[if_pos hgt]at HST
      go_wp2_with fail
      refine(HR.out _).mono ?_
      rintro e w3 ⟨rfl,D3⟩
      have k0:=kept (D3.below wr.heap.size) (lt_of q0) q0
      have k1:=kept (D3.below wr.heap.size) (lt_of q1) q1
      have hown3:=own_below hownr (D3.below wr.heap.size) (Nat.le_refl _)
      have L4:=LR.trans (D3.below _)
      have hcc:w3.cell? ⟨g,m,none⟩=some (.int .i64 pp):=by rw[(D3.below wr.heap.size).cell (p:=⟨g,m,none⟩) hg2];exact hc
      clear hc hownr LR D3 c1
      have y0:w3.cell? ⟨w.heap.size+1,0,none⟩=some (.int .i64 0):=cell_at k1 0
      have y1:w3.cell? ⟨w.heap.size+1,1,none⟩=some (.int .i64 b1):=cell_at k1 1
      have y2:w3.cell? ⟨w.heap.size+1,2,none⟩=some (.int .i64 b2):=cell_at k1 2
      have x0:w3.frozen? ⟨w.heap.size+1,0,none⟩=false:=frozen_at k1 0
      have x1:w3.frozen? ⟨w.heap.size+1,1,none⟩=false:=frozen_at k1 1
      have x2:w3.frozen? ⟨w.heap.size+1,2,none⟩=false:=frozen_at k1 2
      have hne:=own_ne' hown3 k1 (by decide)
      have K1:=heap_set (i:=2) (heap_set (i:=1) (heap_set (i:=0) k1 (.int .i64 0)) (.int .i64 r)) (.int .i64 dd)
      have K0:=heap_set_other (g:=w.heap.size+1) (i:=2) (heap_set_other (g:=w.heap.size+1) (i:=1) (heap_set_other (g:=w.heap.size+1) (i:=0) k0 (by omega) (.int .i64 0)) (by omega) (.int .i64 r)) (by omega) (.int .i64 dd)
      have O3:=ownsRow_setCell_other (ownsRow_setCell_other (ownsRow_setCell_other hown3 (a:=⟨w.heap.size+1,0,none⟩) hne (.int .i64 0)) (a:=⟨w.heap.size+1,1,none⟩) hne (.int .i64 r)) (a:=⟨w.heap.size+1,2,none⟩) hne (.int .i64 dd)
      have L5:=((L4.setCell (p:=⟨w.heap.size+1,0,none⟩) (Nat.le_succ _) (.int .i64 0)).setCell (p:=⟨w.heap.size+1,1,none⟩) (Nat.le_succ _) (.int .i64 r)).setCell (p:=⟨w.heap.size+1,2,none⟩) (Nat.le_succ _) (.int .i64 dd)
      clear hown3 L4 k0
      go_wp2
      go_roundw
      case rel=>exact⟨m,r,dd,by omega,by go_num,hrl,hdb,K0,K1,O3,L5,by show _∧_;rw[HD.out];exact⟨HST.out,HFR.out⟩⟩
      case measure=>simp[intOf]<;>omega
     ·rw[if_neg hgt]at HST
      go_wp2_with fail
      refine(HR.out _).mono ?_
      rintro e w3 ⟨rfl,D3⟩
      have k0:=kept (D3.below wr.heap.size) (lt_of q0) q0
      have k1:=kept (D3.below wr.heap.size) (lt_of q1) q1
      have hown3:=own_below hownr (D3.below wr.heap.size) (Nat.le_refl _)
      have L4:=LR.trans (D3.below _)
      have y1:w3.cell? ⟨w.heap.size+1,1,none⟩=some (.int .i64 b1):=cell_at k1 1
      clear hc hownr LR D3 c1
      go_wp2
      go_roundw
      case rel=>exact⟨m,b1,b2,by omega,by go_num,hb1,hb2,k0,k1,hown3,L4,by show _∧_;rw[HD.out];exact⟨HST.out,HFR.out⟩⟩
      case measure=>simp[intOf]<;>omega
    ·have tf:decide ((dd:Int)≤1024)=false:=decide_eq_false (by omega)
     have HV:Hid (longV s i=(b1,b2)):=HE2.out (by omega)
     clear hfar HE2
     have z0:wr.cell? ⟨w.heap.size,0,none⟩=some (.int .i64 0):=cell_at q0 0
     have z1:wr.cell? ⟨w.heap.size,1,none⟩=some (.int .i64 0):=cell_at q0 1
     have z2:wr.cell? ⟨w.heap.size,2,none⟩=some (.int .i64 0):=cell_at q0 2
     have f0:wr.frozen? ⟨w.heap.size,0,none⟩=false:=frozen_at q0 0
     have f1:wr.frozen? ⟨w.heap.size,1,none⟩=false:=frozen_at q0 1
     have f2:wr.frozen? ⟨w.heap.size,2,none⟩=false:=frozen_at q0 2
     have c0:wr.cell? ⟨w.heap.size+1,0,none⟩=some (.int .i64 0):=cell_at q1 0
     have c2:wr.cell? ⟨w.heap.size+1,2,none⟩=some (.int .i64 b2):=cell_at q1 2
     go_wp2
     refine bodyPost_ret (v:=pcV 0 b1 b2) (by simp[results,Tryz.results209,go_sem,z0,z1,z2]) rfl ?_
     refine⟨by rw[HV.out],((LR.setCell (Nat.le_refl _) _).setCell (Nat.le_refl _) _).setCell (Nat.le_refl _) _⟩
 ·have t3:decide ((s.size:Int)<(i:Int)+3)=true:=decide_eq_true (by omega)
  have HV:Hid (_):=longV_short s i hi h3
  have d0:((w.alloc (pcB 0 0 0)).alloc (pcB 0 0 0)).cell? ⟨w.heap.size,0,none⟩=some (.int .i64 0):=cell_at m0 0
  have d1:((w.alloc (pcB 0 0 0)).alloc (pcB 0 0 0)).cell? ⟨w.heap.size,1,none⟩=some (.int .i64 0):=cell_at m0 1
  have d2:((w.alloc (pcB 0 0 0)).alloc (pcB 0 0 0)).cell? ⟨w.heap.size,2,none⟩=some (.int .i64 0):=cell_at m0 2
  clear h3
  go_enter Tryz.func209,Tryz.ntmps209
  go_wp2
  rw[HV.out]
  refine bodyPost_ret (v:=pcV 0 0 0) (by simp[results,Tryz.results209,go_sem,d0,d1,d2]) rfl ?_
  exact⟨rfl,L0⟩

end Pk
end Go.Proofs.YtcjgkmhpeedhiaaGreatDoor

/- The contract of the program's Pieces. -/
namespace Go.Proofs.YtcjgkmhpeedhiaaGreatDoor
namespace Pk
open Go.ChangeShapes Go.WideShapes Go.ChangeAt Go.RowKit
open Go.ChangeMaps (setBlock)
open Math (Pc)
set_option linter.unusedSimpArgs false
set_option linter.unusedVariables false

theorem cells_at3 {w:World} {g:Nat} {a b c:Value} {t:TypeId} {fz:Nat×Nat} (h:w.heap[g]? =some (.cells #[a,b,c] t fz)):∀(j:Nat) (u:Value),[a,b,c][j]? =some u→w.cell? (Addr.add ⟨g,0,none⟩ j)=some u:=by
 intro j u hu
 rw[show Addr.add ⟨g,0,none⟩ j=⟨g,j,none⟩from by simp[Addr.add];exact Eq.symm,cell_at h j,←hu]
 simp

theorem KeptBut.row {b C:Nat} {w w':World} (K:KeptBut b w w') {v:Value} {n:Nat} {xs:List Value} {es:Array MapEntry} {clock:Nat} (hb:w.heap[b]? =some (.map es clock)) (h:w.ownsRow C 143 3 v n xs):w'.ownsRow C 143 3 v n xs:=by
 obtain⟨h1,h2⟩:=h
 refine⟨h1,?_⟩
 rcases h2 with h2|⟨g,cap,cur,hv,hg,hh,hr⟩
 ·exact Or.inl h2
 ·refine Or.inr ⟨g,cap,cur,hv,hg,K.2 g _ hh ?_ ?_,hr⟩
  ·intro e
   subst e
   rw[hb]at hh
   cases hh
  ·intro cs fz e
   cases e

theorem Mp.grown {B b C:Nat} {f:Key→List Nat} {es:Array MapEntry} {clock:Nat} {w w4:World} (M:Mp B b f es clock w) {v:Value} {n:Nat} {xs:List Value} (I:w.ownsRow C 143 3 v n xs) (G:w.grownBy w4 v.ownBlock):Mp B b f es clock w4:=by
 have hI:∀g,v.ownBlock=some g→∃cur fz,w.heap[g]? =some (.cells cur 143 fz):=by
  intro g hg
  obtain⟨-,h2⟩:=I
  rcases h2 with⟨hv,-⟩|⟨g',cap,cur,hv,-,hh,-⟩
  ·rw[hv]at hg;cases hg
  ·rw[hv]at hg
   simp only[Value.ownBlock,Option.some.injEq]at hg
   subst hg
   exact⟨cur,_,hh⟩
 refine⟨?_,M.born,M.nodup,M.keys,fun e he k hk=>⟨(M.rows e he k hk).1,?_⟩,M.has,M.apart⟩
 ·rw[G.block b (lt_of M.blk) (fun h=>by
   obtain⟨cur,fz,hh⟩:=hI b h.symm
   rw[M.blk]at hh
   cases hh)]
  exact M.blk
 ·obtain⟨r1,r2⟩:=M.rows e he k hk
  refine r2.kept G (Or.inr ?_)
  intro h
  obtain⟨g,cap,he2,-,-,-,-,-⟩:=own_at r2 0 (by cases hf:f k with|nil=>exact absurd hf r1|cons a l=>simp)
  have hg:v.ownBlock=some g:=by rw[←h,he2];rfl
  obtain⟨cur,fz,hh⟩:=hI g hg
  obtain⟨-,h2⟩:=r2
  rcases h2 with⟨hv,-⟩|⟨g',cap',cur',hv,-,hh',-⟩
  ·rw[hv]at he2;cases he2
  ·rw[hv]at he2
   simp only[Value.slice.injEq,Option.some.injEq,Addr.mk.injEq]at he2
   obtain⟨⟨rfl,-⟩,-⟩:=he2
   rw[hh]at hh'
   simp only[Option.some.injEq,Obj.cells.injEq]at hh'
   exact absurd hh'.2.1 (by decide)

set_option maxHeartbeats 4000000 in
set_option maxRecDepth 100000 in
theorem implPieces_val (s:ByteArray) (w:World) (hs:s.size≤maxLen):
 Calls Tryz.prog 204 #[.string s] w fun e w'=>∃v,e= .returned v∧w'.ownsRow w.heap.size 143 3 v (Math.pieces s).length (pcells (Math.pieces s))∧Below w.heap.size w w':=by
 unfold maxLen at hs
 obtain⟨i0,hi,hz0,hz1,hz2⟩:=info_of info_pc
 by_cases h3:s.size≤3000
 ·have e0:Math.pieces s=Math.pcsFrom s s.size 0:=if_pos h3
  rw[e0]
  have hd3:decide ((3000:Int)<(s.size:Int))=false:=decide_eq_false (by omega)
  have H3:Hid (s.size≤3000):=h3
  have hs4:s.size≤100000:=by omega
  have hmk:∀w:World,(Instr.makeMap 238 none).run Tryz.prog w= .ok (.map (some w.heap.size)) (w.alloc (.map #[] 0)):=fun w=>by simp[Instr.makeMap,go_sem]
  clear h3 e0 hs
  go_enter Tryz.func204,Tryz.ntmps204
  go_wp2
  go_loopw [3,5] (fun v i wr=>∃(k:Nat) (l:List Pc),k≤s.size∧l.length≤k∧i= .int .i64 k∧wr.ownsRow w.heap.size 143 3 v l.length (pcells l)∧Below w.heap.size w wr∧w.heap.size+2≤wr.heap.size∧Hid (∃es clock,Mp (w.heap.size+2) (w.heap.size+1) (learnt s k) es clock wr)∧Hid (l++Math.pcsFrom s (s.size-l.length) k=Math.pcsFrom s s.size 0)) (fun _ i _=>s.size-(intOf i).toNat)
  case atStart=>
   obtain⟨L0,m0,m1⟩:=two_new' w (.cells #[] 143) (.map #[] 0)
   exact⟨0,[],by omega,by simp,rfl,⟨rfl,Or.inr ⟨w.heap.size,0,#[],rfl,Nat.le_refl _,m0,by simp,by unfold maxLen;omega,rfl,rfl⟩⟩,L0,by simp,⟨#[],0,by
    have:=mp_new (w.heap.size+2) (w.alloc (.cells #[] 143))
    simpa [learnt]using this⟩,rfl⟩
  case round=>
   obtain⟨k,l,hk,hl,rfl,hown,LR,hB,HM,H⟩:=hrel
   by_cases hks:k<s.size
   ·obtain⟨es,clock,M⟩:=HM.out
    have HS:Hid (_):=Math.pcsFrom_step s l.length k hks hl
    have HSt:Hid (_):=Math.stepAt_fits s k hks
    have HLP:Hid (_):=longV_piece s k
    have HLG:Hid (_):=longest_val (w.heap.size+2) (w.heap.size+1) s k es clock wr H3.out hk M
    generalize longV s k=V at*
    obtain⟨N,D⟩:=V
    dsimp only at HLP HLG
    go_wp2_with fail
    refine(Calls.mono HLG.out ?_)
    rintro e w2 ⟨rfl,L2⟩
    have L3:=LR.trans (L2.mono LR.size)
    have M2:=M.on L2
    have hown2:=own_below hown L2 (Nat.le_refl _)
    have hB2:w.heap.size+2≤w2.heap.size:=Nat.le_trans hB L2.size
    obtain⟨va,vc,rfl,-⟩:=own_form hown2
    clear hown LR M L2 HM HLG
    by_cases hN:3≤N
    ·obtain⟨p1,p2⟩:=HLP.out.1 hN
     have HPA:Hid (_):=p1
     have HST2:Hid (_):=p2
     have hN0:decide ((0:Int)<(N:Int))=true:=decide_eq_true (by omega)
     clear p1 p2 HLP
     have X1:=two_new' w2 (pcB 0 N D) (.cells #[.int .i64 0,.int .i64 N,.int .i64 D] 143)
     have m2:=heap_new w2 (pcB 0 N D)
     have HN:Hid (l++ [(⟨0,N,D⟩:Pc)]++Math.pcsFrom s (s.size-(l++ [(⟨0,N,D⟩:Pc)]).length) (k+N)=Math.pcsFrom s s.size 0):=by
      show _=_
      rw[←H.out,HS.out,HPA.out,HST2.out,List.length_append,List.append_assoc]
      rfl
     have hfit:k+N≤s.size:=by have:=HSt.out;rw[HST2.out]at this;exact this
     have HSN:Hid (_):=pcells_snoc l ⟨0,N,D⟩
     have LX:Below w.heap.size w ((w2.alloc (pcB 0 N D)).alloc (.cells #[.int .i64 0,.int .i64 N,.int .i64 D] 143)):=L3.trans (X1.1.mono L3.size)
     have MX:=M2.on X1.1
     have hownX:=own_below hown2 X1.1 (Nat.le_refl _)
     have hBX:w.heap.size+2≤((w2.alloc (pcB 0 N D)).alloc (.cells #[.int .i64 0,.int .i64 N,.int .i64 D] 143)).heap.size:=Nat.le_trans hB2 X1.1.size
     have c1:(w2.alloc (pcB 0 N D)).cell? ⟨w2.heap.size,1,none⟩=some (.int .i64 N):=cell_at m2 1
     clear M2 hown2 L3
     go_wp2_with (at_builtin;refine wpList_append_own _ rfl _ _ 140 rfl w.heap.size 143 i0 (pcV 0 0 0) 3 24 Tryz.underlying140 hi hz0 hz1 hz2 rfl (by decide) _ _ _ rfl hownX ⟨w2.heap.size+1,0,none⟩ 1 1 [.int .i64 0,.int .i64 N,.int .i64 D] rfl rfl ?c1 ?c2 ?c3 ?c4 ?c5 ?_)
     case c1=>exact cells_at3 X1.2.2
     case c2=>first|exact⟨rfl,rfl,rfl⟩|exact⟨rfl,rfl⟩|(intro u hu;simp at hu;rcases hu with rfl|rfl|rfl<;>rfl)|rfl
     case c3=>unfold maxLen;omega
     case c4=>omega
     case c5=>first|omega|(simp;omega)
     intro v' w4 hown4 hgrow _
     have L5:Below w.heap.size w w4:=LX.grown hgrow (by have:=LX.size;omega) (fun m h=>own_ge hownX m h)
     have M5:=MX.grown hownX hgrow
     have hB5:w.heap.size+2≤w4.heap.size:=Nat.le_trans hBX hgrow.size
     rw[HSN.out]at hown4
     obtain⟨q,hq⟩:∃q,k+N=q:=⟨_,rfl⟩
     have HQ:Hid (k+N=q):=hq
     have hfq:q≤s.size:=by omega
     have hkq:k<q:=by omega
     have HLE:Hid (_):=learn_val (w.heap.size+2) (w.heap.size+1) s k q es clock w4 H3.out (by omega) hfq (by omega) hB5 M5
     have hb5:=M5.blk
     clear hgrow MX LX hownX M5 HSN H HS HSt HPA HST2
     have ek:(k:Int)+(N:Int)=(q:Int):=by omega
     clear hq hfit
     go_wp2_with fail
     refine(Calls.mono HLE.out ?_)
     rintro e w6 ⟨rfl,M6,K6⟩
     have HM6:Hid (_):=M6
     have L7:=L5.trans (K6.1.mono (by omega))
     have hown7:=K6.row hb5 hown4
     have hB7:w.heap.size+2≤w6.heap.size:=Nat.le_trans hB5 K6.1.size
     clear M6 K6 L5 hown4 HLE hb5
     go_wp2
     go_roundw
     case rel=>exact⟨q,l++ [⟨0,N,D⟩],hfq,by rw[List.length_append];simp;omega,by first|rfl|go_num,by rw[List.length_append];exact hown7,L7,hB7,HM6,by rw[←HQ.out];exact HN⟩
     case measure=>simp[intOf];omega
    ·obtain⟨hV0,p1,p2⟩:=HLP.out.2 hN
     obtain⟨rfl,rfl⟩:=Prod.mk.inj hV0
     have hgd:s.data.toList.getD k 0=s[k]:=by
      rw[List.getD_eq_getElem?_getD,Array.getElem?_toList,Array.getElem?_eq_getElem hks]
      rfl
     rw[hgd]at p1
     have HPA:Hid (_):=p1
     have HST2:Hid (_):=p2
     have hbt:=s[k].toNat_lt
     have m2:=heap_new w2 (pcB 0 0 0)
     have z0:(w2.alloc (pcB 0 0 0)).cell? ⟨w2.heap.size,0,none⟩=some (.int .i64 0):=cell_at m2 0
     have z1:(w2.alloc (pcB 0 0 0)).cell? ⟨w2.heap.size,1,none⟩=some (.int .i64 0):=cell_at m2 1
     have y0:(w2.alloc (pcB 0 0 0)).frozen? ⟨w2.heap.size,0,none⟩=false:=frozen_at m2 0
     clear p1 p2 HLP hgd
     have X1:=two_new' w2 (pcB (s[k].toNat:Int) 0 0) (.cells #[.int .i64 (s[k].toNat:Int),.int .i64 0,.int .i64 0] 143)
     have HN:Hid (l++ [(⟨(s[k].toNat:Int),0,0⟩:Pc)]++Math.pcsFrom s (s.size-(l++ [(⟨(s[k].toNat:Int),0,0⟩:Pc)]).length) (k+1)=Math.pcsFrom s s.size 0):=by
      show _=_
      rw[←H.out,HS.out,HPA.out,HST2.out,List.length_append,List.append_assoc]
      rfl
     have hfit:k+1≤s.size:=by omega
     have HSN:Hid (_):=pcells_snoc l ⟨(s[k].toNat:Int),0,0⟩
     have LX:Below w.heap.size w ((w2.alloc (pcB (s[k].toNat:Int) 0 0)).alloc (.cells #[.int .i64 (s[k].toNat:Int),.int .i64 0,.int .i64 0] 143)):=L3.trans (X1.1.mono L3.size)
     have MX:=M2.on X1.1
     have hownX:=own_below hown2 X1.1 (Nat.le_refl _)
     have hBX:w.heap.size+2≤((w2.alloc (pcB (s[k].toNat:Int) 0 0)).alloc (.cells #[.int .i64 (s[k].toNat:Int),.int .i64 0,.int .i64 0] 143)).heap.size:=Nat.le_trans hB2 X1.1.size
     clear M2 hown2 L3
     go_wp2_with (at_builtin;refine wpList_append_own _ rfl _ _ 140 rfl w.heap.size 143 i0 (pcV 0 0 0) 3 24 Tryz.underlying140 hi hz0 hz1 hz2 rfl (by decide) _ _ _ rfl hownX ⟨w2.heap.size+1,0,none⟩ 1 1 [.int .i64 (s[k].toNat:Int),.int .i64 0,.int .i64 0] rfl rfl ?d1 ?d2 ?d3 ?d4 ?d5 ?_)
     case d1=>exact cells_at3 X1.2.2
     case d2=>first|exact⟨rfl,rfl,rfl⟩|exact⟨rfl,rfl⟩|(intro u hu;simp at hu;rcases hu with rfl|rfl|rfl<;>rfl)|rfl
     case d3=>unfold maxLen;omega
     case d4=>omega
     case d5=>first|omega|(simp;omega)
     intro v' w4 hown4 hgrow _
     have L5:Below w.heap.size w w4:=LX.grown hgrow (by have:=LX.size;omega) (fun m h=>own_ge hownX m h)
     have M5:=MX.grown hownX hgrow
     have hB5:w.heap.size+2≤w4.heap.size:=Nat.le_trans hBX hgrow.size
     rw[HSN.out]at hown4
     obtain⟨q,hq⟩:∃q,k+1=q:=⟨_,rfl⟩
     have HQ:Hid (k+1=q):=hq
     have hfq:q≤s.size:=by omega
     have hkq:k<q:=by omega
     have HLE:Hid (_):=learn_val (w.heap.size+2) (w.heap.size+1) s k q es clock w4 H3.out (by omega) hfq (by omega) hB5 M5
     have hb5:=M5.blk
     clear hgrow MX LX hownX M5 HSN H HS HSt HPA HST2
     have ek:(k:Int)+1=(q:Int):=by omega
     clear hq
     go_wp2_with fail
     refine(Calls.mono HLE.out ?_)
     rintro e w6 ⟨rfl,M6,K6⟩
     have HM6:Hid (_):=M6
     have L7:=L5.trans (K6.1.mono (by omega))
     have hown7:=K6.row hb5 hown4
     have hB7:w.heap.size+2≤w6.heap.size:=Nat.le_trans hB5 K6.1.size
     clear M6 K6 L5 hown4 HLE hb5
     go_wp2
     go_roundw
     case rel=>exact⟨q,l++ [⟨(s[k].toNat:Int),0,0⟩],hfq,by rw[List.length_append];simp;omega,by first|rfl|go_num,by rw[List.length_append];exact hown7,L7,hB7,HM6,by rw[←HQ.out];exact HN⟩
     case measure=>simp[intOf];omega
   ·obtain rfl:k=s.size:=by omega
    have HF:Hid (l=Math.pcsFrom s s.size 0):=by
     show _=_
     have:=H.out
     rw[Math.pcsFrom_end s _ _ (by omega),List.append_nil]at this
     exact this
    go_wp2
    go_ret
    rw[←HF.out]
    exact⟨_,rfl,hown,LR⟩
 ·have e0:Math.pieces s= []:=if_neg h3
  rw[e0]
  have hd3:decide ((3000:Int)<(s.size:Int))=true:=decide_eq_true (by omega)
  clear h3 e0
  go_enter Tryz.func204,Tryz.ntmps204
  go_wp2
  go_ret
  exact⟨_,rfl,⟨rfl,Or.inr ⟨w.heap.size,0,#[],rfl,Nat.le_refl _,heap_new w _,by simp,by unfold maxLen;omega,rfl,rfl⟩⟩,new_below _ _⟩

end Pk
end Go.Proofs.YtcjgkmhpeedhiaaGreatDoor

/- Contracts of the laws' own helpers over rows of pieces that a function has made: one marked, one held against its marks. -/
namespace Go.Proofs.YtcjgkmhpeedhiaaGreatDoor
namespace Pk
open Go.ChangeShapes Go.WideShapes Go.ChangeAt Go.RowKit
open Math (Pc)
set_option linter.unusedSimpArgs false
set_option linter.unusedVariables false

theorem pcells_cons (p:Pc) (l:List Pc):pcells (p::l)= .int .i64 p.x:: .int .i64 p.n:: .int .i64 p.d::pcells l:=by simp[pcells]

theorem pcells_at (l:List Pc) (k:Nat) (p:Pc) (h:l[k]? =some p):(pcells l)[k*3]? =some (.int .i64 p.x)∧(pcells l)[k*3+1]? =some (.int .i64 p.n)∧(pcells l)[k*3+2]? =some (.int .i64 p.d):=by
 induction l generalizing k with
 |nil=>simp at h
 |cons q l ih=>
  rw[pcells_cons]
  cases k with
  |zero=>
   simp at h
   subst h
   exact⟨rfl,rfl,rfl⟩
  |succ k=>
   have:=ih k (by simpa using h)
   rw[show(k+1)*3=k*3+3 by omega]
   exact this

theorem own_pc {w:World} {base:Nat} {v:Value} {n:Nat} {l:List Pc} (h:w.ownsRow base 143 3 v n (pcells l)) (k:Nat) (hk:k<n) (p:Pc) (hp:l[k]? =some p):
 ∃g cap,v= .slice (some ⟨g,0,none⟩) n cap∧base≤g∧g<w.heap.size∧w.cell? ⟨g,k*3,none⟩=some (.int .i64 p.x)∧w.cell? ⟨g,k*3+1,none⟩=some (.int .i64 p.n)∧w.cell? ⟨g,k*3+2,none⟩=some (.int .i64 p.d)∧∀o,w.frozen? ⟨g,o,none⟩=false:=by
 obtain⟨hl,h2⟩:=h
 rcases h2 with⟨hv,h0⟩|⟨g,cap,cur,hv,hg,hh,h1,h3,h4,h5⟩
 ·omega
 ·obtain⟨a0,a1,a2⟩:=pcells_at l k p hp
  have hc:∀o,o<n*3→w.cell? ⟨g,o,none⟩=(pcells l)[o]? :=by
   intro o ho
   rw[cell_at hh,←h5,List.getElem?_take,if_pos ho,Array.getElem?_toList]
  exact⟨g,cap,hv,hg,lt_of hh,by rw[hc _ (by omega)];exact a0,by rw[hc _ (by omega)];exact a1,by rw[hc _ (by omega)];exact a2,fun o=>frozen_at hh o⟩

theorem pcsFrom_length (s:ByteArray) (f i:Nat):(Math.pcsFrom s f i).length≤f:=by
 induction f generalizing i with
 |zero=>simp[Math.pcsFrom]
 |succ f ih=>
  unfold Math.pcsFrom
  split
  ·rw[List.length_cons]
   have:=ih (i+Math.stepAt s i)
   omega
  ·simp

theorem pieces_length (s:ByteArray):(Math.pieces s).length≤3000:=by
 unfold Math.pieces
 split
 ·have:=pcsFrom_length s s.size 0
  omega
 ·simp

def mk (i:Nat):Pc:=⟨(i:Int)*3+1,(i:Int)*3+2,(i:Int)*3+3⟩

end Pk
end Go.Proofs.YtcjgkmhpeedhiaaGreatDoor

/- Contracts of the program's Pack. -/
namespace Go.Proofs.YtcjgkmhpeedhiaaGreatDoor
namespace Pk
open Go.ChangeShapes Go.WideShapes Go.ChangeAt Go.RowKit
open Math (Pc Bits bytesOf lowL highL)
set_option linter.unusedSimpArgs false
set_option linter.unusedVariables false

theorem Wr.on {B c:Nat} {l:List Nat} {w w1:World} (H:Wr B c l w) (L:Below w.heap.size w w1):Wr B c l w1:=by
 obtain⟨h1,h2,v,m,hown⟩:=H
 exact⟨h1,h2,v,kept L (lt_of m) m,own_below hown L (Nat.le_refl _)⟩

theorem Wr.bits {B c:Nat} {l:List Nat} {w:World} (H:Wr B c l w):Bits l:=H.2.1

set_option maxHeartbeats 1000000 in
theorem symbol_val (B c:Nat) (l:List Nat) (s:Int) (w:World) (H:Wr B c l w) (R:Runs w) (hG:6<B) (hB:B≤w.heap.size) (hN:l.length≤800000):
 Calls Tryz.prog 206 #[.pointer (some ⟨c,0,none⟩),.int .i64 s] w fun e w'=>e= .returned (.tuple #[])∧Wr B c (l++fixL s) w'∧Below B w w'∧KeepT w w':=by
 have hfb:=fixL_bits s
 have hfl:=fixL_length s
 have HF:Hid (_):=implFix_val s w R
 generalize fixL s=F at*
 generalize hn:F.length=n at*
 have HL:Hid (F.length=n):=hn
 clear hn
 go_enter Tryz.func206,Tryz.ntmps206
 go_wp2_with fail
 refine(Calls.mono HF.out ?_)
 rintro e w1 ⟨v,rfl,hown,L1⟩
 have H1:=H.on L1
 have L1':Below B w w1:=L1.mono hB
 have K1:KeepT w w1:=KeepT.of L1
 have hB1:B≤w1.heap.size:=Nat.le_trans hB L1.size
 obtain⟨va,vc,rfl,-⟩:=own_form hown
 clear HF L1
 go_wp2
 go_loopw [9] (fun i wr=>∃(j:Nat),j≤n∧i= .int .i64 j∧Hid (Wr B c (l++F.take j) wr)∧Below B w wr∧KeepT w wr∧wr.ownsRow w.heap.size 3 1 (.slice va n vc) n (icells F)) (fun i _=>n-(intOf i).toNat)
 case atStart=>exact⟨0,by omega,rfl,by show Wr B c (l++ []) w1;rw[List.append_nil];exact H1,L1',K1,hown⟩
 case round=>
  obtain⟨j,hj,rfl,HW,L,K,hown2⟩:=hrel
  by_cases hjn:j<n
  ·obtain⟨g,cp,he,-,-,y,hy,hc⟩:=own_at hown2 j hjn
   simp only[Value.slice.injEq]at he
   obtain⟨rfl,-,-⟩:=he
   have hjF:j<F.length:=by rw[HL.out];exact hjn
   rw[icells_at F j hjF]at hy
   simp only[Option.some.injEq]at hy
   subst hy
   have hb1:F[j]≤1:=hfb _ (List.getElem_mem hjF)
   have HS:Hid (F.take (j+1)=F.take j++ [F[j]]):=by
    show _=_
    rw[List.take_add_one,List.getElem?_eq_getElem hjF]
    rfl
   generalize F[j]=b at*
   have hBr:B≤wr.heap.size:=Nat.le_trans hB L.size
   have HB:Hid (_):=bit_val B c (l++F.take j) b wr HW.out hBr hb1 (by rw[List.length_append,List.length_take];omega)
   clear hjF HW
   go_wp2_with fail
   refine(Calls.mono HB.out ?_)
   rintro e w2 ⟨rfl,W2,L2,K2⟩
   rw[List.append_assoc,←HS.out]at W2
   have W3:Hid (_):=W2
   have L3:=L.trans L2
   have K3:=K.trans K2
   have hown3:=K2.row hown2 (by decide) (by decide)
   clear W2 L2 HB L K K2 hown2 hc
   go_wp2
   go_roundw
   case rel=>exact⟨j+1,by omega,by go_num,W3,L3,K3,hown3⟩
   case measure=>simp[intOf];omega
  ·obtain rfl:j=n:=by omega
   have HT:Hid (F.take j=F):=by show _=_;rw[←HL.out];exact List.take_length
   rw[HT.out]at HW
   go_wp2
   go_end0
   exact⟨rfl,HW.out,L,K⟩

theorem pcBits_byte (x d:Int):pcBits ⟨x,0,d⟩=fixL x:=if_pos rfl

theorem pcBits_copy (x n d:Int) (h:n≠0):pcBits ⟨x,n,d⟩=fixL (lenC n)++lowL (lenX n).toNat (lenB n).toNat++highL (backC d).toNat 5++lowL (backX d).toNat (backB d).toNat:=if_neg h

set_option maxHeartbeats 2000000 in
theorem piece_val (B c:Nat) (l:List Nat) (x n d:Int) (w:World) (hok:PcOk ⟨x,n,d⟩) (H:Wr B c l w) (R:Runs w) (hG:6<B) (hB:B≤w.heap.size) (hN:l.length≤700000):
 Calls Tryz.prog 205 #[.pointer (some ⟨c,0,none⟩),pcV x n d] w fun e w'=>e= .returned (.tuple #[])∧Wr B c (l++pcBits ⟨x,n,d⟩) w'∧Below B w w'∧KeepT w w':=by
 have m1:=heap_new w (.cells #[.int .i64 x,.int .i64 n,.int .i64 d] 143)
 have N1:=new_below w (.cells #[.int .i64 x,.int .i64 n,.int .i64 d] 143)
 have W1:=H.on N1
 have R1:=R.on N1 R.lt
 have L1:=N1.mono hB
 have K1:=KeepT.of N1
 have hB1:B≤(w.alloc (.cells #[.int .i64 x,.int .i64 n,.int .i64 d] 143)).heap.size:=Nat.le_trans hB N1.size
 by_cases h0:n=0
 ·subst h0
  rw[pcBits_byte]
  go_enter Tryz.func205,Tryz.ntmps205
  go_wp2_with fail
  refine(symbol_val B c l x _ W1 R1 hG hB1 (by omega)).mono ?_
  rintro e w2 ⟨rfl,W2,L2,K2⟩
  go_wp2
  (try simp only[Exit.inBlock,Exit.then])
  refine bodyPost_ret (results_none rfl _ _ _) rfl ?_
  exact⟨rfl,W2,L1.trans L2,K1.trans K2⟩
 ·rw[pcBits_copy x n d h0]
  have hc:3≤n∧n≤258∧1≤d∧d≤1024:=by
   rcases hok with h|h
   ·exact absurd h.1 h0
   ·exact h.2
  have hn0:(n==0)=false:=beq_eq_false_iff_ne.2 h0
  obtain⟨⟨a1,a2⟩,⟨b1,b2⟩,⟨x1,x2⟩,⟨c1,c2⟩,⟨d1,d2⟩,⟨y1,y2⟩⟩:=copy_nums n d hc
  have HLen:Hid (∀w,_):=fun w=>implLen_val n w
  have HBack:Hid (∀w,_):=fun w=>implBack_val d w
  clear hok hc h0
  generalize lenC n=A at*
  obtain⟨b,hb⟩:=Int.eq_ofNat_of_zero_le b1
  obtain⟨X,hx⟩:=Int.eq_ofNat_of_zero_le x1
  obtain⟨C,hC⟩:=Int.eq_ofNat_of_zero_le c1
  obtain⟨D,hD⟩:=Int.eq_ofNat_of_zero_le d1
  obtain⟨Y,hY⟩:=Int.eq_ofNat_of_zero_le y1
  rw[hb]at b2 HLen⊢
  rw[hx]at x2 HLen⊢
  rw[hC]at c2 HBack⊢
  rw[hD]at d2 HBack⊢
  rw[hY]at y2 HBack⊢
  simp only[Int.toNat_natCast]
  clear b1 x1 c1 d1 y1 hb hx hC hD hY
  have hfl:=fixL_length A
  go_enter Tryz.func205,Tryz.ntmps205
  go_wp2_with fail
  refine(HLen.out _).mono ?_
  rintro e w2 ⟨rfl,D2⟩
  have N2:=D2.below (w.alloc (.cells #[.int .i64 x,.int .i64 n,.int .i64 d] 143)).heap.size
  have W2:=W1.on N2
  have R2:=R1.on N2 R1.lt
  have m2:=kept N2 (lt_of m1) m1
  have L2:=L1.trans (N2.mono hB1)
  have K2:=K1.trans (KeepT.of N2)
  have hB2:B≤w2.heap.size:=Nat.le_trans hB1 N2.size
  clear W1 R1 N1 D2 N2 L1 K1 m1 hB1
  go_wp2_with fail
  refine(symbol_val B c l A _ W2 R2 hG hB2 (by omega)).mono ?_
  rintro e w3 ⟨rfl,W3,L3,K3⟩
  have m3:=K3 _ _ _ _ m2 (by decide) (by decide)
  have L4:=L2.trans L3
  have K4:=K2.trans K3
  have hB3:B≤w3.heap.size:=Nat.le_trans hB2 L3.size
  clear W2 R2 L2 L3 K2 K3 m2 hB2
  go_wp2_with fail
  refine(low_val B c (l++fixL A) X b _ W3 hB3 (by omega) (by omega) (by rw[List.length_append];omega)).mono ?_
  rintro e w5 ⟨rfl,W5,L5,K5⟩
  have m5:=K5 _ _ _ _ m3 (by decide) (by decide)
  have L6:=L4.trans L5
  have K6:=K4.trans K5
  have hB5:B≤w5.heap.size:=Nat.le_trans hB3 L5.size
  clear W3 L4 L5 K4 K5 m3 hB3
  have e2:w5.cell? ⟨w.heap.size,2,none⟩=some (.int .i64 d):=cell_at m5 2
  go_wp2_with fail
  refine(HBack.out _).mono ?_
  rintro e w7 ⟨rfl,D7⟩
  have N7:=D7.below w5.heap.size
  have W7:=W5.on N7
  have L8:=L6.trans (N7.mono hB5)
  have K8:=K6.trans (KeepT.of N7)
  have hB7:B≤w7.heap.size:=Nat.le_trans hB5 N7.size
  clear W5 N7 D7 L6 K6 e2 m5 hB5
  go_wp2_with fail
  refine(high_val B c (l++fixL A++lowL X b) C 5 _ W7 hB7 (by omega) (by omega) (by rw[List.length_append,List.length_append,Math.lowL_length];omega)).mono ?_
  rintro e w9 ⟨rfl,W9,L9,K9⟩
  have L10:=L8.trans L9
  have K10:=K8.trans K9
  have hB9:B≤w9.heap.size:=Nat.le_trans hB7 L9.size
  clear W7 L8 L9 K8 K9 hB7
  go_wp2_with fail
  refine(low_val B c (l++fixL A++lowL X b++highL C 5) Y D _ W9 hB9 (by omega) (by omega) (by rw[List.length_append,List.length_append,List.length_append,Math.lowL_length,Math.highL_length];omega)).mono ?_
  rintro e w11 ⟨rfl,W11,L11,K11⟩
  have L12:=L10.trans L11
  have K12:=K10.trans K11
  clear W9 L10 L11 K10 K11 hB9
  have eA:l++fixL A++lowL X b++highL C 5++lowL Y D=l++(fixL A++lowL X b++highL C 5++lowL Y D):=by simp only[List.append_assoc]
  rw[eA]at W11
  clear eA
  go_wp2
  go_end0
  exact⟨rfl,W11,L12,K12⟩

set_option maxHeartbeats 2000000 in
theorem implPack_val (s:ByteArray) (w:World) (hs:s.size≤maxLen) (R:Runs w):
 Calls Tryz.prog 202 #[.string s] w fun e w'=>e= .returned (t2' (packS s) (decide (s.size≤3000)))∧Below w.heap.size w w':=by
 have hs':=hs
 unfold maxLen at hs
 by_cases h:s.size≤3000
 ·rw[packS_yes s h,decide_eq_true h]
  have hd:decide ((3000:Int)<(s.size:Int))=false:=decide_eq_false (by omega)
  have W0:=wr_new w
  have L0:=new_below w (.cells #[.slice none 0 0,.int .i64 0] 233)
  have hG:=R.lt
  have HP:Hid (∀w,_):=fun w=>implPieces_val s w hs'
  have hok:=pieces_ok s
  have hpl:=pieces_length s
  have HK:Hid (packL s= [1]++lowL 1 2++pcsBits (Math.pieces s)++fixL 256):=rfl
  generalize Math.pieces s=ps at*
  have HOK:Hid (_):=hok
  generalize hn:ps.length=n at*
  have HL:Hid (ps.length=n):=hn
  have hbl:=pcsBits_length
  clear h hn hok
  generalize hSS:(⟨(bytesOf (packL s)).toArray⟩:ByteArray)=S at*
  have HSS:Hid (_):=hSS
  clear hSS
  go_enter Tryz.func202,Tryz.ntmps202
  go_wp2_with fail
  refine(head_val _ _ 1 _ W0 L0.size (by omega)).mono ?_
  rintro e w1 ⟨rfl,W1,L1,K1⟩
  have hB1:w.heap.size≤w1.heap.size:=Nat.le_trans L0.size L1.size
  have L2:=L0.trans L1
  clear W0 L0 L1 K1
  go_wp2_with fail
  refine(HP.out _).mono ?_
  rintro e w3 ⟨v,rfl,hown,L3⟩
  have W3:=W1.on L3
  have L4:=L2.trans (L3.mono L2.size)
  obtain⟨va,vc,rfl,-⟩:=own_form hown
  clear L2 L3 W1
  go_wp2
  go_loopw [15] (fun i wr=>∃(j:Nat),j≤n∧i= .int .i64 j∧Hid (Wr w.heap.size w.heap.size ([1]++lowL 1 2++pcsBits (ps.take j)) wr)∧Below w.heap.size w wr∧wr.ownsRow w1.heap.size 143 3 (.slice va n vc) n (pcells ps)) (fun i _=>n-(intOf i).toNat)
  case atStart=>exact⟨0,by omega,rfl,by show Wr _ _ ([1]++lowL 1 2++ []) w3;rw[List.append_nil];exact W3,L4,hown⟩
  case round=>
   obtain⟨j,hj,rfl,HW,L,hown2⟩:=hrel
   have hlen:∀j,(([1]++lowL 1 2++pcsBits (ps.take j):List Nat)).length≤200000:=by
    intro j
    have h1:=hbl (ps.take j) fun p hp=>HOK.out p (List.mem_of_mem_take hp)
    have h2:(ps.take j).length≤3000:=by rw[List.length_take,HL.out];omega
    rw[List.length_append,List.length_append,Math.lowL_length]
    simp
    omega
   by_cases hjn:j<n
   ·have hjp:j<ps.length:=by rw[HL.out];exact hjn
    obtain⟨g,cp,he,hg1,hg2,c0,c1,c2,-⟩:=own_pc hown2 j hjn ps[j] (List.getElem?_eq_getElem hjp)
    simp only[Value.slice.injEq]at he
    obtain⟨rfl,-,-⟩:=he
    have hpo:=HOK.out ps[j] (List.getElem_mem hjp)
    have HS:Hid (_):=pcsBits_take ps j hjp
    generalize ps[j]=p at*
    obtain⟨x,m,d⟩:=p
    dsimp only at c0 c1 c2
    have N1:=new_below wr (.cells #[.int .i64 x,.int .i64 m,.int .i64 d] 143)
    have L5:=L.trans (N1.mono L.size)
    have W5:=HW.out.on N1
    have hown5:=own_below hown2 N1 (Nat.le_refl _)
    have HPV:Hid (_):=piece_val w.heap.size w.heap.size _ x m d _ hpo W5 (R.on L5 hG) hG L5.size (Nat.le_trans (hlen j) (by omega))
    clear hlen hbl hjp hpo W5 HW L N1 hown2
    go_wp2_with fail
    refine(Calls.mono HPV.out ?_)
    rintro e w6 ⟨rfl,W6,L6,K6⟩
    rw[List.append_assoc,←HS.out]at W6
    have W7:Hid (_):=W6
    have L7:=L5.trans L6
    have hown7:=K6.row hown5 (by decide) (by decide)
    clear W6 L6 K6 L5 hown5 HPV c0 c1 c2
    go_wp2
    go_roundw
    case rel=>exact⟨j+1,by omega,by go_num,W7,L7,hown7⟩
    case measure=>simp[intOf];omega
   ·obtain rfl:j=n:=by omega
    have HT:Hid (ps.take j=ps):=by show _=_;rw[←HL.out];exact List.take_length
    have hl2:=hlen j
    rw[HT.out]at HW hl2
    have HSY:Hid (_):=symbol_val w.heap.size w.heap.size _ 256 _ HW.out (R.on L hG) hG L.size (Nat.le_trans hl2 (by omega))
    clear hlen hl2 hbl HW hown2
    go_wp2_with fail
    refine(Calls.mono HSY.out ?_)
    rintro e w6 ⟨rfl,W6,L6,-⟩
    rw[←HK.out]at W6
    have L7:=L.trans L6
    obtain⟨-,-,v,m7,hown7⟩:=W6
    have hconv:=conv_own hown7
    have c0:w6.cell? ⟨w.heap.size,0,none⟩=some v:=cell_at m7 0
    obtain⟨va',vc',rfl,-⟩:=own_form hown7
    clear m7 hown7 L L6 HSY HK
    rw[HSS.out]at hconv
    generalize (bytesOf (packL s)).length=M at*
    go_wp2
    go_ret2
    exact⟨rfl,L7⟩
 ·rw[packS_no s h,decide_eq_false h]
  have hd:decide ((3000:Int)<(s.size:Int))=true:=decide_eq_true (by omega)
  clear h
  go_enter Tryz.func202,Tryz.ntmps202
  go_wp2
  go_ret2
  exact⟨rfl,Below.refl _ _⟩

end Pk
end Go.Proofs.YtcjgkmhpeedhiaaGreatDoor

/- What stands behind the head of a frame, put, of the program. -/
namespace Go.Proofs.YtcjgkmhpeedhiaaGreatDoor
namespace Is4
open Go.ChangeShapes Go.WideShapes Go.ChangeAt Go.RowKit
open Pk (new_below join_below cell_at heap_new frozen_at lt_of kept heap_old packS Runs)
open Num (wideB markS Tens)
set_option linter.unusedSimpArgs false
set_option linter.unusedVariables false

theorem putIssuer_val (n:Int) (w:World) (T:Tens w):
 Calls Tryz.prog 195 #[.int .i64 n] w fun e w'=>e= .returned (.tuple #[.string (fourT n),.bool (fourB n)])∧Below w.heap.size w w':=by
 have HF:Hid (∀_:Unit,_):=fun _=>fourDigits_val n w T
 go_enter Tryz.func195,Tryz.ntmps195
 go_wp2_with fail
 refine(HF.out ()).mono ?_
 rintro e w1 ⟨rfl,L1⟩
 go_wp2
 go_ret2
 exact⟨rfl,L1⟩

theorem mark_none {r s:Int} (h:(wideB r&&wideB s)=false):markS r s=⟨#[]⟩:=Num.markS_no h

theorem txt_some {t:ByteArray} (h:t.size=8):(t.toList== [])=false:=by
 rw[beq_eq_false_iff_ne,ByteArray.toList_eq]
 intro e
 have h1:=bl_size t
 have h2:t.data.toList=t.data.toList:=rfl
 have h3:=congrArg List.length e
 rw[List.length_nil]at h3
 omega

theorem putMark_val (r s:Int) (w:World):
 Calls Tryz.prog 197 #[.agg #[.int .i64 r,.int .i64 s]] w fun e w'=>e= .returned (.tuple #[.string (markS r s),.bool (wideB r&&wideB s)])∧Below w.heap.size w w':=by
 have N:=new_below w (.cells #[.int .i64 r,.int .i64 s] 98)
 have m0:=heap_new w (.cells #[.int .i64 r,.int .i64 s] 98)
 have q0:(w.alloc (.cells #[.int .i64 r,.int .i64 s] 98)).cell? ⟨w.heap.size,0,none⟩=some (.int .i64 r):=cell_at m0 0
 have q1:(w.alloc (.cells #[.int .i64 r,.int .i64 s] 98)).cell? ⟨w.heap.size,1,none⟩=some (.int .i64 s):=cell_at m0 1
 have HM:Hid (∀W:World,_):=fun W=>Num.implMarkText_val r s W
 cases hb:(wideB r&&wideB s)
 ·rw[mark_none hb]at HM⊢
  clear hb
  go_enter Tryz.func197,Tryz.ntmps197
  go_wp2_with fail
  refine(HM.out _).mono ?_
  rintro e w1 ⟨rfl,L1⟩
  have L2:=join_below N L1
  go_wp2
  go_ret2
  exact⟨rfl,L2⟩
 ·have z:=txt_some (mark_size hb).1
  generalize markS r s=M at*
  clear hb
  go_enter Tryz.func197,Tryz.ntmps197
  go_wp2_with fail
  refine(HM.out _).mono ?_
  rintro e w1 ⟨rfl,L1⟩
  have L2:=join_below N L1
  go_wp2
  go_ret2
  exact⟨by simp[z],L2⟩

def plT (t:ByteArray):ByteArray:=if t.size≤3000 then fourS (packS t).size++packS t else⟨#[]⟩

theorem putPlain_val (t:ByteArray) (w:World) (ht:t.size≤maxLen) (R:Runs w) (T:Tens w):
 Calls Tryz.prog 201 #[.string t] w fun e w'=>e= .returned (.tuple #[.string (plT t),.bool (decide (t.size≤3000))])∧Below w.heap.size w w':=by
 have HP:Hid (∀_:Unit,_):=fun _=>Pk.implPack_val t w ht R
 by_cases h:t.size≤3000
 ·have hp:=pack_small h
  have e1:plT t=fourS (packS t).size++packS t:=if_pos h
  have HF:Hid (∀W:World,Below w.heap.size w W→_):=fun W L=>fourDigits_val ((packS t).size:Int) W (T.on L)
  have e2:fourB ((packS t).size:Int)=true:=by unfold fourB;rw[decide_eq_true (by omega),decide_eq_true (by omega)];rfl
  have e3:fourT ((packS t).size:Int)=fourS (packS t).size:=by unfold fourT;rw[if_pos e2];rfl
  have e4:decide (t.size≤3000)=true:=decide_eq_true h
  have e5:(fourS (packS t).size).size=4:=rfl
  rw[e2,e3]at HF
  rw[e4]at HP
  rw[e1,e4]
  generalize fourS (packS t).size=F at*
  generalize packS t=P at*
  clear e1 e2 e3 e4 h ht R T
  go_enter Tryz.func201,Tryz.ntmps201
  go_wp2_with fail
  refine(HP.out ()).mono ?_
  rintro e w1 ⟨rfl,L1⟩
  go_wp2_with fail
  refine(HF.out _ L1).mono ?_
  rintro e w2 ⟨rfl,L2⟩
  have L3:=join_below L1 L2
  go_wp2
  go_ret2
  exact⟨rfl,L3⟩
 ·have e1:plT t=⟨#[]⟩:=if_neg h
  have e4:decide (t.size≤3000)=false:=decide_eq_false h
  rw[e4]at HP
  rw[e1,e4]
  clear e1 e4 h ht R T
  go_enter Tryz.func201,Tryz.ntmps201
  go_wp2_with fail
  refine(HP.out ()).mono ?_
  rintro e w1 ⟨rfl,L1⟩
  go_wp2
  go_ret2
  exact⟨rfl,L1⟩

end Is4
end Go.Proofs.YtcjgkmhpeedhiaaGreatDoor

/- Contracts of the model's Pack. -/
namespace Go.Proofs.YtcjgkmhpeedhiaaGreatDoor
namespace Pk
open Go.ChangeShapes Go.WideShapes Go.ChangeAt Go.RowKit
open Math (Pc Bits bytesOf lowL highL)
set_option linter.unusedSimpArgs false
set_option linter.unusedVariables false

theorem own_nn {w:World} {base e size:Nat} {v:Value} {n:Nat} {xs:List Value} (h:w.ownsRow base e size v n xs) (hv:v≠ .slice none 0 0):∃g cap,v= .slice (some ⟨g,0,none⟩) n cap:=by
 obtain⟨-,h2⟩:=h
 rcases h2 with⟨h0,-⟩|⟨g,cap,cur,h1,-⟩
 ·exact absurd h0 hv
 ·exact⟨g,cap,h1⟩

theorem own_pos {w:World} {base e size:Nat} {v:Value} {n:Nat} {xs:List Value} (h:w.ownsRow base e size v n xs) (hn:0<n):∃g cap,v= .slice (some ⟨g,0,none⟩) n cap:=by
 obtain⟨-,h2⟩:=h
 rcases h2 with⟨-,h0⟩|⟨g,cap,cur,h1,-⟩
 ·omega
 ·exact⟨g,cap,h1⟩

theorem own_news {w:World} {base e g n cap:Nat} {xs:List Value} (h:w.ownsRow base e 1 (.slice (some ⟨g,0,none⟩) n cap) n xs):∀j u,xs[j]? =some u→w.cell? (Addr.add ⟨g,0,none⟩ j)=some u:=by
 intro j u hu
 have hj:j<n:=by
  have h1:=h.1
  have:=(List.getElem?_eq_some_iff.1 hu).1
  omega
 obtain⟨g',cap',e1,-,-,u',hu',hc⟩:=own_at h j hj
 simp only[Value.slice.injEq,Option.some.injEq,Addr.mk.injEq]at e1
 rw[show Addr.add ⟨g,0,none⟩ j=⟨g,j,none⟩from by simp[Addr.add];exact Eq.symm,e1.1.1,hc,←hu',hu]

theorem icells_one (l:List Nat):∀u∈icells l,u.oneCell'=true:=by
 intro u hu
 obtain⟨b,-,rfl⟩:=List.mem_map.1 hu
 rfl

theorem icells_news (l:List Nat) (n:Nat) (h:l.length=n):(icells l).length=n*1:=by rw[icells_length];omega

set_option maxHeartbeats 1000000 in
theorem low_made (x n:Nat) (w:World) (hx:x<1099511627776) (hn:n≤40):
 Calls Tryz.prog 102 #[.int .i64 x,.int .i64 n] w fun e w'=>∃g cap,e= .returned (.slice (some ⟨g,0,none⟩) n cap)∧w'.ownsRow w.heap.size 3 1 (.slice (some ⟨g,0,none⟩) n cap) n (icells (lowL x n))∧Below w.heap.size w w':=by
 obtain⟨i0,hi,hz0,hz1,hz2⟩:=info_of info_int
 go_enter Tryz.func102,Tryz.ntmps102
 go_wp2
 go_loopw [5,6] (fun v i wr=>∃(j:Nat),j≤n∧i= .int .i64 j∧wr.ownsRow w.heap.size 3 1 v j (icells (lowL x j))∧Below w.heap.size w wr∧Hid (v≠ .slice none 0 0)) (fun _ i _=>n-(intOf i).toNat)
 case atStart=>exact⟨0,by omega,rfl,own_new w _,new_below _ _,by show _≠_;intro h;cases h⟩
 case round=>
  obtain⟨j,hj,rfl,hown,L,HV⟩:=hrel
  by_cases hjn:j<n
  ·have HS:Hid (_):=Math.lowL_succ x j
   have hdiv:=div_p2 x j
   have hb1:x/2^j%2≤1:=by omega
   have hzb:x/2^j≤x:=Nat.div_le_self _ _
   have hP:=p2_pos j
   have hP2:=p2_bd j (by omega)
   generalize x/2^j=z at*
   have hzm:(z:Int)%2=((z%2:Nat):Int):=by omega
   generalize z%2=b at*
   have HP:Hid (∀w,_):=fun w=>pow2_val j w (by omega)
   generalize p2 j=Q at*
   have hBr:w.heap.size≤wr.heap.size:=L.size
   go_wp2_with fail
   refine(HP.out _).mono ?_
   rintro e w2 ⟨rfl,rfl⟩
   go_wp2_with (at_builtin;refine wpList_append_own _ rfl _ _ 29 rfl w.heap.size 3 i0 (.int .i64 0) 1 8 Tryz.underlying29 hi hz0 hz1 hz2 rfl (by decide) _ _ _ rfl (hown.alloc _) ⟨w2.heap.size,0,none⟩ 1 1 [.int .i64 b] rfl rfl ?c1 ?c2 ?c3 ?c4 ?c5 ?_)
   case c1=>exact cell_one_new _ _ _
   case c2=>intro u hu;simp at hu;subst hu;rfl
   case c3=>unfold maxLen;omega
   case c4=>omega
   case c5=>simp;omega
   ·intro v' w3 hown3 hgrow hnil
    have HV3:Hid (v'≠ .slice none 0 0):=by show _≠_;intro h;first|exact hnil h|(have:=(hnil.1 h).2;omega)
    have L3:Below w.heap.size w w3:=(L.alloc hBr _).grown hgrow (by simp;omega) (fun m h=>own_ge hown m h)
    rw[icells_snoc,←HS.out]at hown3
    clear hown hgrow hnil HV
    go_wp2
    go_roundw
    case rel=>exact⟨j+1,by omega,by go_num,hown3,L3,HV3⟩
    case measure=>simp[intOf];omega
  ·obtain rfl:j=n:=by omega
   obtain⟨g,cap,rfl⟩:=own_nn hown HV.out
   go_wp2
   go_ret
   exact⟨g,cap,rfl,hown,L⟩

def byteTop (l:List Nat) (i:Nat):Nat→Nat
 |0=>0
 |t+1=>2*byteTop l i t+l.getD (8*i+(7-t)) 0

theorem byteTop_all (l:List Nat) (i:Nat):byteTop l i 8=Math.byteAt l i:=by
 unfold Math.byteAt
 simp only[byteTop,Nat.sub_zero,Nat.reduceSub,Nat.add_zero]
 omega

theorem byteTop_bd {l:List Nat} (h:Bits l) (i t:Nat) (ht:t≤8):byteTop l i t<2^t:=by
 induction t with
 |zero=>simp[byteTop]
 |succ t ih=>
  have h1:=ih (by omega)
  have h2:=h.at (8*i+(7-t))
  rw[byteTop,Nat.pow_succ]
  omega

theorem byteTop_256 {l:List Nat} (h:Bits l) (i t:Nat) (ht:t≤8):byteTop l i t<256:=by
 have h1:=byteTop_bd h i t ht
 have h2:2^t≤2^8:=Nat.pow_le_pow_right (by omega) ht
 omega

theorem bytesOf_take (l:List Nat) (k:Nat) (h:8*k<l.length):(bytesOf l).take (k+1)=(bytesOf l).take k++ [UInt8.ofNat (Math.byteAt l k)]:=by
 have hk:k<(bytesOf l).length:=by rw[Math.bytesOf_length];omega
 rw[List.take_add_one,List.getElem?_eq_getElem hk]
 simp[bytesOf]

theorem bytesOf_take_all (l:List Nat) (k:Nat) (h:l.length≤8*k):(bytesOf l).take k=bytesOf l:=by
 apply List.take_of_length_le
 rw[Math.bytesOf_length]
 omega

theorem u8_byte {l:List Nat} (h:Bits l) (k:Nat):((UInt8.ofNat (Math.byteAt l k)).toNat:Int)=(Math.byteAt l k:Int):=by
 have:=Math.byteAt_lt h k
 rw[UInt8.toNat_ofNat',Nat.mod_eq_of_lt this]

set_option maxHeartbeats 2000000 in
theorem bytesS_val (B:Nat) (v:Value) (l:List Nat) (n:Nat) (w:World) (hl:l.length=n) (hn:n≤1000000) (hb:Bits l) (hown:w.ownsRow B 3 1 v n (icells l)):
 Calls Tryz.prog 105 #[v] w fun e w'=>e= .returned (.string ⟨(bytesOf l).toArray⟩)∧Below w.heap.size w w':=by
 obtain⟨i0,hi,hz0,hz1,hz2⟩:=info_of info_u8
 obtain⟨va,vc,rfl,-⟩:=own_form hown
 have HLN:Hid (l.length=n):=hl
 have HBB:Hid (Bits l):=hb
 clear hl hb
 generalize hSS:(⟨(bytesOf l).toArray⟩:ByteArray)=S at*
 have HSS:Hid (_):=hSS
 clear hSS
 go_enter Tryz.func105,Tryz.ntmps105
 go_wp2
 go_loopw [3,4] (fun o i wr=>∃(k:Nat),k≤1000000∧Hid (8*k≤n+7)∧i= .int .i64 (8*(k:Int))∧wr.ownsRow w.heap.size 5 1 o k (bcells ((bytesOf l).take k))∧Below w.heap.size w wr) (fun _ i _=>n+8-(intOf i).toNat)
 case atStart=>exact⟨0,by omega,by show _≤_;omega,rfl,own_new w _,new_below _ _⟩
 case round=>
  obtain⟨k,hk,HK8,rfl,ho,L⟩:=hrel
  by_cases hkn:8*k<n
  ·have hd8:decide (8*(k:Int)<(n:Int))=true:=decide_eq_true (by omega)
   have HKN:Hid (8*k<n):=hkn
   clear hkn
   have hown2:=own_below hown L (Nat.le_refl _)
   go_wp2
   go_loop [5,6] (fun x t=>∃(j y:Nat),j≤8∧y<256∧x= .int .i64 y∧t= .int .i64 (7-(j:Int))∧Hid (y=byteTop l k j)) (fun _ t=>(intOf t+1).toNat)
   case atStart=>exact⟨0,0,by omega,by omega,rfl,rfl,rfl⟩
   case round=>
    obtain⟨j,y,hj,hy,rfl,rfl,HY⟩:=hrel
    by_cases hj8:j<8
    ·have hz:=byteTop_256 HBB.out k (j+1) (by omega)
     have HZ:Hid (byteTop l k (j+1)=2*y+l.getD (8*k+(7-j)) 0):=by show _=_;rw[HY.out];rfl
     rw[HZ.out]at hz
     have e1:(7:Int)-(j:Int)=((7-j:Nat):Int):=by omega
     have HQ:Hid ((7-j:Nat)+j=7):=by show _=_;omega
     have hq:(7-j:Nat)≤7:=by omega
     rw[e1]
     clear e1
     generalize 7-j=q at*
     by_cases hin:8*k+q<n
     ·obtain⟨g,cp,he,-,-,u,hu,hc⟩:=own_at hown2 (8*k+q) hin
      simp only[Value.slice.injEq]at he
      obtain⟨rfl,-,-⟩:=he
      have hqL:8*k+q<l.length:=by rw[HLN.out];exact hin
      rw[icells_at l _ hqL]at hu
      simp only[Option.some.injEq]at hu
      subst hu
      have hgd:l.getD (8*k+q) 0=l[8*k+q]:=by rw[List.getD_eq_getElem?_getD,List.getElem?_eq_getElem hqL];rfl
      rw[hgd]at HZ hz
      clear hgd
      generalize l[8*k+q]'hqL=b at*
      clear hqL
      generalize hm:8*k+q=m at*
      have HM:Hid (8*k+q=m):=hm
      have em:8*(k:Int)+(q:Int)=(m:Int):=by omega
      clear hm
      go_wp2
      go_round
      case rel=>exact⟨j+1,2*y+b,by omega,by omega,by go_num,by have:=HQ.out;go_num,HZ.out.symm⟩
      case measure=>simp[intOf]<;>omega
     ·have hgd:l.getD (8*k+q) 0=0:=Math.getD_far l _ (by rw[HLN.out];omega)
      rw[hgd]at HZ hz
      clear hgd
      generalize hm:8*k+q=m at*
      have HM:Hid (8*k+q=m):=hm
      have em:8*(k:Int)+(q:Int)=(m:Int):=by omega
      clear hm
      go_wp2
      go_round
      case rel=>exact⟨j+1,2*y,by omega,by omega,by go_num,by have:=HQ.out;go_num,by show _=_;rw[HZ.out];rfl⟩
      case measure=>simp[intOf]<;>omega
    ·obtain rfl:j=8:=by omega
     have HT:Hid (_):=bytesOf_take l k (by rw[HLN.out];exact HKN.out)
     have HU:Hid (_):=u8_byte HBB.out k
     rw[byteTop_all]at HY
     have hBr:w.heap.size≤wr.heap.size:=L.size
     go_wp2_with (at_builtin;refine wpList_append_own _ rfl _ _ 22 rfl w.heap.size 5 i0 (.int .u8 0) 1 1 Tryz.underlying22 hi hz0 hz1 hz2 rfl (by decide) _ _ _ rfl (ho.alloc _) ⟨wr.heap.size,0,none⟩ 1 1 [.int .u8 y] rfl rfl ?c1 ?c2 ?c3 ?c4 ?c5 ?_)
     try (case c1=>exact cell_one_new _ _ _)
     case c2=>first|(intro u hu;simp at hu;subst hu;rfl)|rfl|(simp;done)
     case c3=>unfold maxLen;omega
     case c4=>omega
     case c5=>first|omega|(simp;omega)
     ·intro v' w3 hown3 hgrow _
      have L3:Below w.heap.size w w3:=(L.alloc hBr _).grown hgrow (by simp;omega) (fun m h=>own_ge ho m h)
      have hs:=bcells_snoc ((bytesOf l).take k) (UInt8.ofNat (Math.byteAt l k))
      rw[HU.out,←HT.out,←HY.out]at hs
      rw[hs]at hown3
      clear ho hgrow hs hown2
      go_wp2
      go_roundw
      case rel=>exact⟨k+1,by have:=HKN.out;omega,by show _≤_;have:=HKN.out;omega,by go_num,hown3,L3⟩
      case measure=>have:=HKN.out;simp[intOf];omega
  ·have hd8:decide (8*(k:Int)<(n:Int))=false:=decide_eq_false (by omega)
   have HKN:Hid (¬8*k<n):=hkn
   clear hkn
   have HT:Hid (_):=bytesOf_take_all l k (by rw[HLN.out];have:=HKN.out;omega)
   rw[HT.out]at ho
   have hconv:=conv_own ho
   obtain⟨oa,oc,rfl,-⟩:=own_form ho
   clear ho
   rw[HSS.out]at hconv
   go_wp2
   go_ret
   exact⟨rfl,L⟩

def KeepI (w w1:World):Prop:=∀(k:Nat) (cs:Array Value) (t:TypeId) (f:Nat×Nat),w.heap[k]? =some (.cells cs t f)→t≠3→w1.heap[k]? =some (.cells cs t f)

theorem KeepI.refl (w:World):KeepI w w:=fun _ _ _ _ h _=>h

theorem KeepI.trans {w w1 w2:World} (h:KeepI w w1) (g:KeepI w1 w2):KeepI w w2:=fun k cs t f m h1=>g k cs t f (h k cs t f m h1) h1

theorem KeepI.of {w w1:World} (L:Below w.heap.size w w1):KeepI w w1:=fun _ _ _ _ m _=>kept L (lt_of m) m

theorem KeepI.row {w w1:World} {base e size:Nat} {v:Value} {n:Nat} {xs:List Value} (K:KeepI w w1) (h:w.ownsRow base e size v n xs) (h1:e≠3):w1.ownsRow base e size v n xs:=by
 obtain⟨ha,hb⟩:=h
 refine⟨ha,?_⟩
 rcases hb with hb|⟨g,cap,cur,hv,hg,hh,hr⟩
 ·exact Or.inl hb
 ·exact Or.inr ⟨g,cap,cur,hv,hg,K _ _ _ _ hh h1,hr⟩

theorem KeepI.grown {w w1 w2:World} {o:Option Nat} (K:KeepI w w1) (G:w1.grownBy w2 o) (ho:∀g,o=some g→∃cur,w1.heap[g]? =some (.cells cur 3)):KeepI w w2:=by
 intro k cs t f m h1
 have m1:=K k cs t f m h1
 rw[G.block k (lt_of m1) (by
  intro e
  obtain⟨cur,hc⟩:=ho k e.symm
  rw[hc]at m1
  simp only[Option.some.injEq,Obj.cells.injEq]at m1
  exact h1 m1.2.1.symm)]
 exact m1

theorem three_new (w:World):(w.alloc (.cells #[.int .i64 1,.int .i64 1,.int .i64 0] 3)).ownsRow w.heap.size 3 1 (.slice (some ⟨w.heap.size,0,none⟩) 3 3) 3 (icells [1,1,0]):=
 ⟨rfl,Or.inr ⟨w.heap.size,3,#[.int .i64 1,.int .i64 1,.int .i64 0],rfl,Nat.le_refl _,heap_new w _,by omega,by unfold maxLen;omega,rfl,rfl⟩⟩

theorem pcBits_byteS (p:Pc) (h:p.n=0):pcBits p=fixL p.x:=if_pos h

theorem pcBits_copyS (p:Pc) (h:p.n≠0):pcBits p=fixL (lenC p.n)++lowL (lenX p.n).toNat (lenB p.n).toNat++highL (backC p.d).toNat 5++lowL (backX p.d).toNat (backB p.d).toNat:=if_neg h

set_option maxHeartbeats 4000000 in
theorem specPack_val (s:ByteArray) (w:World) (hs:s.size≤maxLen):
 Calls Tryz.prog 59 #[.string s] w fun e w'=>e= .returned (t2' (packS s) (decide (s.size≤3000)))∧Below w.heap.size w w':=by
 obtain⟨i0,hi,hz0,hz1,hz2⟩:=info_of info_int
 have hs':=hs
 unfold maxLen at hs
 by_cases h:s.size≤3000
 ·rw[packS_yes s h,decide_eq_true h]
  have hd:decide ((3000:Int)<(s.size:Int))=false:=decide_eq_false (by omega)
  have O0:=three_new w
  have L0:=new_below w (.cells #[.int .i64 1,.int .i64 1,.int .i64 0] 3)
  have HP:Hid (∀w,_):=fun w=>specPieces_val s w hs'
  have HOK:Hid (_):=pieces_ok s
  have hpl:=pieces_length s
  have HK:Hid (packL s= [1,1,0]++pcsBits (Math.pieces s)++fixL 256):=rfl
  generalize Math.pieces s=ps at*
  generalize hn:ps.length=n at*
  have HL:Hid (ps.length=n):=hn
  clear h hn
  go_enter Tryz.func59,Tryz.ntmps59
  go_wp2_with fail
  refine(HP.out _).mono ?_
  rintro e w1 ⟨v,rfl,hown,L1⟩
  have O1:=own_below O0 L1 (Nat.le_refl _)
  have L2:=L0.trans (L1.mono L0.size)
  obtain⟨va,vc,rfl,-⟩:=own_form hown
  generalize hw0:(w.alloc (.cells #[.int .i64 1,.int .i64 1,.int .i64 0] 3)).heap.size=B1 at*
  clear L0 L1 O0 HP hw0
  go_wp2
  go_loopw [4,6] (fun u i wr=>∃(k m:Nat) (l:List Nat),k≤n∧m≤3+44*k∧i= .int .i64 k∧wr.ownsRow w.heap.size 3 1 u m (icells l)∧Below w.heap.size w wr∧wr.ownsRow B1 143 3 (.slice va n vc) n (pcells ps)∧Hid (l.length=m∧Bits l∧l= [1,1,0]++pcsBits (ps.take k))) (fun _ i _=>n-(intOf i).toNat)
  case atStart=>exact⟨0,3,[1,1,0],by omega,by omega,rfl,O1,L2,hown,rfl,by intro b hb;simp at hb;omega,rfl⟩
  case round=>
   obtain⟨k,m,l,hk,hm,rfl,O,L,HR,H⟩:=hrel
   by_cases hkn:k<n
   ·have hkp:k<ps.length:=by rw[HL.out];exact hkn
    have hkp0:=hkp
    obtain⟨gp,cpp,he,hg1,hg2,c0,c1,c2,-⟩:=own_pc HR k hkn ps[k] (List.getElem?_eq_getElem hkp)
    simp only[Value.slice.injEq]at he
    obtain⟨rfl,-,-⟩:=he
    have hpo:=HOK.out ps[k] (List.getElem_mem hkp)
    have HS:Hid (_):=pcsBits_take ps k hkp
    have hpl2:=pcBits_length ps[k] hpo
    have HBP:Hid (_):=pcBits_bits ps[k]
    have HN:Hid (∀q,(pcBits ps[k]).length=q→(l++pcBits ps[k]).length=m+q∧Bits (l++pcBits ps[k])∧l++pcBits ps[k]= [1,1,0]++pcsBits (ps.take (k+1))):=by
     intro q hq
     obtain⟨a1,a2,a3⟩:=H.out
     refine⟨by rw[List.length_append,a1,hq],a2.append HBP.out,?_⟩
     rw[HS.out,a3,List.append_assoc]
    clear hkp HS HBP H
    have HPK:Hid (ps[k]? =some (ps[k]'hkp0)):=List.getElem?_eq_getElem hkp0
    generalize ps[k]=p at*
    by_cases h0:p.n=0
    ·rw[h0]at c1
     rw[pcBits_byteS p h0]at HN hpl2
     have hx:0≤p.x∧p.x≤255:=by
      rcases hpo with h|h
      ·exact⟨h.2.2.1,h.2.2.2⟩
      ·omega
     have hfp:=fixL_pos p.x hx.1 (by omega)
     have HF:Hid (∀w,_):=fun w=>specFix_val p.x w
     clear hpo h0 hx
     generalize fixL p.x=F at*
     generalize hq:F.length=q at*
     have HQ:Hid (F.length=q):=hq
     have HN2:Hid (_):=HN.out q rfl
     clear hq HN
     go_wp2_with fail
     refine(HF.out _).mono ?_
     rintro e w3 ⟨vf,rfl,ownf,L3⟩
     obtain⟨gA,cpA,rfl⟩:=own_pos ownf (by omega)
     have OA:=own_below O L3 (Nat.le_refl _)
     have L4:=L.trans (L3.mono L.size)
     have RA:=own_below HR L3 (Nat.le_refl _)
     have KA:=KeepI.refl w3
     clear L3 L O HR HF c0 c1 c2
     go_wp2_with (at_builtin;refine wpList_append_own _ rfl _ _ 29 rfl w.heap.size 3 i0 (.int .i64 0) 1 8 Tryz.underlying29 hi hz0 hz1 hz2 rfl (by decide) _ _ _ rfl OA ⟨gA,0,none⟩ q cpA (icells (F)) rfl ?pAa ?pAb (icells_one _) ?pAc ?pAd ?pAe ?_)
     case pAa=>exact icells_news _ _ HQ.out
     case pAb=>exact own_news ownf
     case pAc=>unfold maxLen;omega
     case pAd=>omega
     case pAe=>exact L4.size
     intro vA xA ownA growA _
     have LLA:Below w.heap.size w xA:=L4.grown growA L4.size (fun m h=>own_ge OA m h)
     have KKA:=KA.grown growA (own_type OA)
     rw[icells_append]at ownA
     clear growA
     have RB:=KKA.row RA (by decide)
     clear OA L4 RA KA ownf KKA
     go_wp2
     go_roundw
     case rel=>exact⟨k+1,m+q,l++F,by omega,by omega,by go_num,ownA,LLA,RB,HN2⟩
     case measure=>simp[intOf];omega
    ·rw[pcBits_copyS p h0]at HN hpl2
     have hc:3≤p.n∧p.n≤258∧1≤p.d∧p.d≤1024:=by
      rcases hpo with h|h
      ·exact absurd h.1 h0
      ·exact h.2
     have hn0:(p.n==0)=false:=beq_eq_false_iff_ne.2 h0
     obtain⟨⟨a1,a2⟩,⟨b1,b2⟩,⟨x1,x2⟩,⟨d1,d2⟩,⟨e1,e2⟩,⟨y1,y2⟩⟩:=copy_nums p.n p.d hc
     have HLen:Hid (∀w,_):=fun w=>specLen_val p.n w
     have HBack:Hid (∀w,_):=fun w=>specBack_val p.d w
     clear hpo h0 hc
     generalize lenC p.n=A at*
     obtain⟨b,hb⟩:=Int.eq_ofNat_of_zero_le b1
     obtain⟨X,hx⟩:=Int.eq_ofNat_of_zero_le x1
     obtain⟨C,hC⟩:=Int.eq_ofNat_of_zero_le d1
     obtain⟨D,hD⟩:=Int.eq_ofNat_of_zero_le e1
     obtain⟨Y,hY⟩:=Int.eq_ofNat_of_zero_le y1
     rw[hb]at b2 HLen HN hpl2
     rw[hx]at x2 HLen HN hpl2
     rw[hC]at d2 HBack HN hpl2
     rw[hD]at e2 HBack HN hpl2
     rw[hY]at y2 HBack HN hpl2
     simp only[Int.toNat_natCast]at HN hpl2
     clear b1 x1 d1 e1 y1 hb hx hC hD hY
     have hfp:=fixL_pos A (by omega) a2
     have HF:Hid (∀w,_):=fun w=>specFix_val A w
     generalize fixL A=F at*
     generalize hq:F.length=q at*
     have HQ:Hid (F.length=q):=hq
     have hq4:q+b+5+D≤44:=by
      rw[List.length_append,List.length_append,List.length_append,Math.lowL_length,Math.lowL_length,Math.highL_length,hq]at hpl2
      exact hpl2
     have HN2:Hid (_):=HN.out (q+b+5+D) (by rw[List.length_append,List.length_append,List.length_append,Math.lowL_length,Math.lowL_length,Math.highL_length,hq])
     have HLB:Hid (_):=Math.lowL_length X b
     have HLD:Hid (_):=Math.lowL_length Y D
     have HLC:Hid (_):=Math.highL_length C 5
     clear hq HN hpl2
     go_wp2_with fail
     refine(HLen.out _).mono ?_
     rintro e w3 ⟨rfl,rfl⟩
     go_wp2_with fail
     refine(HF.out _).mono ?_
     rintro e w4 ⟨vf,rfl,ownf,L3⟩
     obtain⟨gA,cpA,rfl⟩:=own_pos ownf (by omega)
     have OA:=own_below O L3 (Nat.le_refl _)
     have L4:=L.trans (L3.mono L.size)
     have RA:=own_below HR L3 (Nat.le_refl _)
     have KA:=KeepI.refl w4
     clear L3 L O HR HF c0 c1 c2 HLen
     go_wp2_with (at_builtin;refine wpList_append_own _ rfl _ _ 29 rfl w.heap.size 3 i0 (.int .i64 0) 1 8 Tryz.underlying29 hi hz0 hz1 hz2 rfl (by decide) _ _ _ rfl OA ⟨gA,0,none⟩ q cpA (icells (F)) rfl ?pAa ?pAb (icells_one _) ?pAc ?pAd ?pAe ?_)
     case pAa=>exact icells_news _ _ HQ.out
     case pAb=>exact own_news ownf
     case pAc=>unfold maxLen;omega
     case pAd=>omega
     case pAe=>exact L4.size
     intro vA xA ownA growA _
     have LLA:Below w.heap.size w xA:=L4.grown growA L4.size (fun m h=>own_ge OA m h)
     have KKA:=KA.grown growA (own_type OA)
     rw[icells_append]at ownA
     clear growA
     have RB:=KKA.row RA (by decide)
     clear OA L4 RA KA ownf KKA
     go_wp2_with fail
     refine(low_made X b _ (by omega) (by omega)).mono ?_
     rintro e w5 ⟨gB,cpB,rfl,ownb,L5⟩
     have OB:=own_below ownA L5 (Nat.le_refl _)
     have L6:=LLA.trans (L5.mono LLA.size)
     have RC:=own_below RB L5 (Nat.le_refl _)
     have KB:=KeepI.refl w5
     clear L5 LLA ownA RB
     go_wp2_with (at_builtin;refine wpList_append_own _ rfl _ _ 29 rfl w.heap.size 3 i0 (.int .i64 0) 1 8 Tryz.underlying29 hi hz0 hz1 hz2 rfl (by decide) _ _ _ rfl OB ⟨gB,0,none⟩ b cpB (icells (lowL X b)) rfl ?pBa ?pBb (icells_one _) ?pBc ?pBd ?pBe ?_)
     case pBa=>exact icells_news _ _ HLB.out
     case pBb=>exact own_news ownb
     case pBc=>unfold maxLen;omega
     case pBd=>omega
     case pBe=>exact L6.size
     intro vB xB ownB growB _
     have LLB:Below w.heap.size w xB:=L6.grown growB L6.size (fun m h=>own_ge OB m h)
     have KKB:=KB.grown growB (own_type OB)
     rw[icells_append]at ownB
     clear growB
     have RD:=KKB.row RC (by decide)
     clear OB L6 RC KB ownb KKB
     obtain⟨gq,cq,heq,hq1,hq2,c0,c1,c2,-⟩:=own_pc RD k hkn p HPK.out
     simp only[Value.slice.injEq,Option.some.injEq,Addr.mk.injEq]at heq
     obtain⟨⟨rfl,-⟩,-,-⟩:=heq
     go_wp2_with fail
     refine(HBack.out _).mono ?_
     rintro e w7 ⟨rfl,rfl⟩
     clear c0 c1 c2
     go_wp2_with fail
     refine(high_made C 5 _ (by omega) (by omega)).mono ?_
     rintro e w8 ⟨vh,rfl,ownc,L7⟩
     obtain⟨gC,cpC,rfl⟩:=own_pos ownc (by omega)
     have OC:=own_below ownB L7 (Nat.le_refl _)
     have L8:=LLB.trans (L7.mono LLB.size)
     have RE:=own_below RD L7 (Nat.le_refl _)
     have KC:=KeepI.refl w8
     clear L7 LLB ownB RD
     go_wp2_with (at_builtin;refine wpList_append_own _ rfl _ _ 29 rfl w.heap.size 3 i0 (.int .i64 0) 1 8 Tryz.underlying29 hi hz0 hz1 hz2 rfl (by decide) _ _ _ rfl OC ⟨gC,0,none⟩ 5 cpC (icells (highL C 5)) rfl ?pCa ?pCb (icells_one _) ?pCc ?pCd ?pCe ?_)
     case pCa=>exact icells_news _ _ HLC.out
     case pCb=>exact own_news ownc
     case pCc=>unfold maxLen;omega
     case pCd=>omega
     case pCe=>exact L8.size
     intro vC xC ownC growC _
     have LLC:Below w.heap.size w xC:=L8.grown growC L8.size (fun m h=>own_ge OC m h)
     have KKC:=KC.grown growC (own_type OC)
     rw[icells_append]at ownC
     clear growC
     have RF:=KKC.row RE (by decide)
     clear OC L8 RE KC ownc KKC
     go_wp2_with fail
     refine(low_made Y D _ (by omega) (by omega)).mono ?_
     rintro e w9 ⟨gD,cpD,rfl,ownd,L9⟩
     have OD:=own_below ownC L9 (Nat.le_refl _)
     have L10:=LLC.trans (L9.mono LLC.size)
     have RG:=own_below RF L9 (Nat.le_refl _)
     have KD:=KeepI.refl w9
     clear L9 LLC ownC RF
     go_wp2_with (at_builtin;refine wpList_append_own _ rfl _ _ 29 rfl w.heap.size 3 i0 (.int .i64 0) 1 8 Tryz.underlying29 hi hz0 hz1 hz2 rfl (by decide) _ _ _ rfl OD ⟨gD,0,none⟩ D cpD (icells (lowL Y D)) rfl ?pDa ?pDb (icells_one _) ?pDc ?pDd ?pDe ?_)
     case pDa=>exact icells_news _ _ HLD.out
     case pDb=>exact own_news ownd
     case pDc=>unfold maxLen;omega
     case pDd=>omega
     case pDe=>exact L10.size
     intro vD xD ownD growD _
     have LLD:Below w.heap.size w xD:=L10.grown growD L10.size (fun m h=>own_ge OD m h)
     have KKD:=KD.grown growD (own_type OD)
     rw[icells_append]at ownD
     clear growD
     have RH:=KKD.row RG (by decide)
     clear OD L10 RG KD ownd KKD
     rw[List.append_assoc,List.append_assoc,List.append_assoc,←List.append_assoc F,←List.append_assoc (F++lowL X b)]at ownD
     have em:m+q+b+5+D=m+(q+b+5+D):=by omega
     rw[em]at ownD
     generalize hQQ:m+(q+b+5+D)=QQ at*
     have hQ2:QQ≤3+44*(k+1):=by omega
     go_wp2
     go_roundw
     case rel=>exact⟨k+1,QQ,_,by omega,hQ2,by go_num,ownD,LLD,RH,HN2⟩
     case measure=>simp[intOf];omega
   ·obtain rfl:k=n:=by omega
    have HT:Hid (ps.take k=ps):=by show _=_;rw[←HL.out];exact List.take_length
    obtain⟨a1,a2,a3⟩:=H.out
    rw[HT.out]at a3
    have hfp:7≤(fixL 256).length:=by decide
    have hfl:=fixL_length 256
    have HB2:Hid (Bits (l++fixL 256)):=a2.append (fixL_bits 256)
    rw[←a3]at HK
    have HA1:Hid (_):=a1
    clear a1 a2 a3 H
    go_wp2_with fail
    refine(specFix_val 256 _).mono ?_
    rintro e w3 ⟨vf,rfl,ownf,L3⟩
    generalize fixL 256=F at*
    generalize hq:F.length=q at*
    have HQ:Hid (F.length=q):=hq
    clear hq
    obtain⟨gA,cpA,rfl⟩:=own_pos ownf (by omega)
    have OA:=own_below O L3 (Nat.le_refl _)
    have L4:=L.trans (L3.mono L.size)
    have KA:=KeepI.refl w3
    clear L3 L O HR
    go_wp2_with (at_builtin;refine wpList_append_own _ rfl _ _ 29 rfl w.heap.size 3 i0 (.int .i64 0) 1 8 Tryz.underlying29 hi hz0 hz1 hz2 rfl (by decide) _ _ _ rfl OA ⟨gA,0,none⟩ q cpA (icells (F)) rfl ?pAa ?pAb (icells_one _) ?pAc ?pAd ?pAe ?_)
    case pAa=>exact icells_news _ _ HQ.out
    case pAb=>exact own_news ownf
    case pAc=>unfold maxLen;omega
    case pAd=>omega
    case pAe=>exact L4.size
    intro vA xA ownA growA _
    have LLA:Below w.heap.size w xA:=L4.grown growA L4.size (fun m h=>own_ge OA m h)
    have KKA:=KA.grown growA (own_type OA)
    rw[icells_append]at ownA
    clear growA
    clear OA L4 KA ownf KKA
    have HBV:Hid (_):=bytesS_val _ _ (l++F) (m+q) _ (by rw[List.length_append,HA1.out,HQ.out]) (by omega) HB2.out ownA
    go_wp2_with fail
    refine(Calls.mono HBV.out ?_)
    rw[←HK.out]
    rintro e w5 ⟨rfl,L5⟩
    have L6:=join_below LLA L5
    clear HBV ownA LLA L5
    go_wp2
    go_ret2
    exact⟨rfl,L6⟩
 ·rw[packS_no s h,decide_eq_false h]
  have hd:decide ((3000:Int)<(s.size:Int))=true:=decide_eq_true (by omega)
  clear h
  go_enter Tryz.func59,Tryz.ntmps59
  go_wp2
  go_ret2
  exact⟨rfl,Below.refl _ _⟩

end Pk
end Go.Proofs.YtcjgkmhpeedhiaaGreatDoor

/- Frame, of the program and of its model. -/
namespace Go.Proofs.YtcjgkmhpeedhiaaGreatDoor
namespace Is4
open Go.ChangeShapes Go.WideShapes Go.ChangeAt Go.RowKit
open Pk (new_below join_below cell_at heap_new frozen_at lt_of kept heap_old packS Runs)
open Num (wideB markS Tens)
open Fr (hd5)
set_option linter.unusedSimpArgs false
set_option linter.unusedVariables false

theorem meth1 (n:Int) (w:World):(Go.method 365 97 (.int .i64 n) "loop.example/g00211/impl.put").run Tryz.prog w= .ok (195,.int .i64 n) w:=by kernel_rfl
theorem meth2 (v:Value) (w:World):(Go.method 365 98 v "loop.example/g00211/impl.put").run Tryz.prog w= .ok (197,v) w:=by kernel_rfl
theorem meth3 (v:Value) (w:World):(Go.method 365 99 v "loop.example/g00211/impl.put").run Tryz.prog w= .ok (201,v) w:=by kernel_rfl

theorem ix0 (a b c:Value) (w:World):(Instr.index 102 (.agg #[a,b,c]) (.int .i64 0)).run Tryz.prog w= .ok a w:=by kernel_rfl
theorem ix1 (a b c:Value) (w:World):(Instr.index 102 (.agg #[a,b,c]) (.int .i64 1)).run Tryz.prog w= .ok b w:=by kernel_rfl
theorem ix2 (a b c:Value) (w:World):(Instr.index 102 (.agg #[a,b,c]) (.int .i64 2)).run Tryz.prog w= .ok c w:=by kernel_rfl

theorem fr_no {n r s:Int} {t:ByteArray} (h:frB n r s t=false):frT n r s t=⟨#[]⟩∧frB n r s t=false:=⟨by unfold frT;rw[if_neg (by rw[h];simp)],h⟩

theorem fr_parts (n r s:Int) (t:ByteArray):(fourB n=false→frT n r s t=⟨#[]⟩∧frB n r s t=false)∧((wideB r&&wideB s)=false→frT n r s t=⟨#[]⟩∧frB n r s t=false)∧(decide (t.size≤3000)=false→frT n r s t=⟨#[]⟩∧frB n r s t=false)∧(fourB n=true→(wideB r&&wideB s)=true→decide (t.size≤3000)=true→frT n r s t=hd5++fourT n++markS r s++plT t∧frB n r s t=true):=by
 refine⟨fun h=>fr_no (by unfold frB;rw[h];rfl),fun h=>fr_no (by unfold frB;rw[h];simp),fun h=>fr_no (by unfold frB;rw[h];simp),fun h1 h2 h3=> ?_⟩
 have hb:frB n r s t=true:=by unfold frB;rw[h1,h2,h3];rfl
 have e1:fourT n=fourS n.toNat:=if_pos h1
 have e2:plT t=fourS (packS t).size++packS t:=if_pos (of_decide_eq_true h3)
 exact⟨by unfold frT;rw[if_pos hb,e1,e2],hb⟩

theorem part_sizes (n r s:Int) (t:ByteArray):(fourT n).size≤4∧(markS r s).size≤8∧(plT t).size≤10003:=by
 refine⟨?_,?_,?_⟩
 ·unfold fourT
  split
  ·exact Nat.le_refl 4
  ·exact Nat.zero_le _
 ·cases h:(wideB r&&wideB s)
  ·rw[mark_none h];exact Nat.zero_le _
  ·rw[(mark_size h).1];exact Nat.le_refl _
 ·unfold plT
  split
  ·rename_i h
   have:=pack_small h
   rw[ByteArray.size_append,four_size]
   omega
  ·exact Nat.zero_le _

set_option maxRecDepth 100000 in
set_option maxHeartbeats 2000000 in
theorem implFrame_val (n r s:Int) (t:ByteArray) (w:World) (ht:t.size≤maxLen) (R:Runs w) (T:Tens w):
 Calls Tryz.prog 22 #[.int .i64 n,.agg #[.int .i64 r,.int .i64 s],.string t] w fun e w'=>e= .returned (.tuple #[.string (frT n r s t),.bool (frB n r s t)])∧Below w.heap.size w w':=by
 have N:=new_below w (.cells #[.int .i64 r,.int .i64 s] 42)
 have m0:=heap_new w (.cells #[.int .i64 r,.int .i64 s] 42)
 have q0:(w.alloc (.cells #[.int .i64 r,.int .i64 s] 42)).cell? ⟨w.heap.size,0,none⟩=some (.int .i64 r):=cell_at m0 0
 have q1:(w.alloc (.cells #[.int .i64 r,.int .i64 s] 42)).cell? ⟨w.heap.size,1,none⟩=some (.int .i64 s):=cell_at m0 1
 have y1:=meth1 n
 have y2:=meth2 (.agg #[.int .i64 r,.int .i64 s])
 have y3:=meth3 (.string t)
 have x0:=ix0 (.iface 97 (.int .i64 n)) (.iface 98 (.agg #[.int .i64 r,.int .i64 s])) (.iface 99 (.string t))
 have x1:=ix1 (.iface 97 (.int .i64 n)) (.iface 98 (.agg #[.int .i64 r,.int .i64 s])) (.iface 99 (.string t))
 have x2:=ix2 (.iface 97 (.int .i64 n)) (.iface 98 (.agg #[.int .i64 r,.int .i64 s])) (.iface 99 (.string t))
 have hRL:=R.lt
 have HI:Hid (∀W:World,Below w.heap.size w W→_):=fun W L=>putIssuer_val n W (T.on L)
 have HM:Hid (∀W:World,_):=fun W=>putMark_val r s W
 have HP:Hid (∀W:World,Below w.heap.size w W→_):=fun W L=>putPlain_val t W ht (R.on L hRL) (T.on L)
 have HQ:Hid (_∧_∧_∧_):=fr_parts n r s t
 obtain⟨hz1,hz2,hz3⟩:=part_sizes n r s t
 have hz5:hd5.size=5:=rfl
 generalize frT n r s t=FT at*
 generalize frB n r s t=FB at*
 generalize fourT n=A at*
 generalize fourB n=aB at*
 generalize markS r s=M at*
 generalize (wideB r&&wideB s)=mB at*
 generalize plT t=P at*
 generalize decide (t.size≤3000)=pB at*
 clear ht R T m0
 go_enter Tryz.func22,Tryz.ntmps22
 go_wp2
 generalize w.alloc (.cells #[.int .i64 r,.int .i64 s] 42)=W at*
 clear q0 q1
 go_loopw [8,20] (fun f i wr=>∃(k:Nat) (X:ByteArray),i= .int .i64 k∧f= .string X∧Below w.heap.size w wr∧Hid ((k=0∧X=hd5)∨(k=1∧X=hd5++A∧aB=true)∨(k=2∧X=hd5++A++M∧aB=true∧mB=true)∨(k=3∧X=hd5++A++M++P∧aB=true∧mB=true∧pB=true))) (fun _ i _=>3-(intOf i).toNat)
 case atStart=>exact⟨0,hd5,rfl,rfl,N,Or.inl ⟨rfl,rfl⟩⟩
 case round=>
  clear N
  obtain⟨k,X,rfl,rfl,LR,HX⟩:=hrel
  rcases HX.out with⟨rfl,hX⟩|⟨rfl,hX,h1⟩|⟨rfl,hX,h1,h2⟩|⟨rfl,hX,h1,h2,h3⟩
  ·have hXs:X.size=5:=by rw[hX];rfl
   clear HX
   go_wp2_with fail
   refine(HI.out _ LR).mono ?_
   rintro e w1 ⟨rfl,L1⟩
   have L2:=join_below LR L1
   cases aB
   ·have HF:Hid (FT=⟨#[]⟩∧FB=false):=HQ.out.1 rfl
    clear HQ
    go_wp2
    go_ret2
    exact⟨by rw[HF.out.1,HF.out.2];rfl,L2⟩
   ·go_wp2
    go_roundw
    case rel=>exact⟨1,hd5++A,rfl,rfl,L2,Or.inr (Or.inl ⟨rfl,rfl,by simp⟩)⟩
    case measure=>simp[intOf]
  ·have hXs:X.size≤9:=by rw[hX,ByteArray.size_append];omega
   clear HX
   go_wp2_with fail
   refine(HM.out _).mono ?_
   rintro e w1 ⟨rfl,L1⟩
   have L2:=join_below LR L1
   cases mB
   ·have HF:Hid (FT=⟨#[]⟩∧FB=false):=HQ.out.2.1 rfl
    clear HQ
    go_wp2
    go_ret2
    exact⟨by rw[HF.out.1,HF.out.2];rfl,L2⟩
   ·go_wp2
    go_roundw
    case rel=>exact⟨2,hd5++A++M,rfl,rfl,L2,Or.inr (Or.inr (Or.inl ⟨rfl,rfl,h1,by simp⟩))⟩
    case measure=>simp[intOf]
  ·have hXs:X.size≤17:=by rw[hX,ByteArray.size_append,ByteArray.size_append];omega
   clear HX
   go_wp2_with fail
   refine(HP.out _ LR).mono ?_
   rintro e w1 ⟨rfl,L1⟩
   have L2:=join_below LR L1
   cases pB
   ·have HF:Hid (FT=⟨#[]⟩∧FB=false):=HQ.out.2.2.1 rfl
    clear HQ
    go_wp2
    go_ret2
    exact⟨by rw[HF.out.1,HF.out.2];rfl,L2⟩
   ·go_wp2
    go_roundw
    case rel=>exact⟨3,hd5++A++M++P,rfl,rfl,L2,Or.inr (Or.inr (Or.inr ⟨rfl,rfl,h1,h2,by simp⟩))⟩
    case measure=>simp[intOf]
  ·have HF:Hid (FT=X∧FB=true):=⟨by rw[(HQ.out.2.2.2 h1 h2 h3).1,hX],(HQ.out.2.2.2 h1 h2 h3).2⟩
   clear HX HQ
   go_wp2
   go_ret2
   exact⟨by rw[HF.out.1,HF.out.2];rfl,LR⟩

set_option maxRecDepth 100000 in
set_option maxHeartbeats 2000000 in
theorem specFrame_val (n r s:Int) (t:ByteArray) (w:World) (ht:t.size≤maxLen):
 Calls Tryz.prog 25 #[.int .i64 n,.agg #[.int .i64 r,.int .i64 s],.string t] w fun e w'=>e= .returned (.tuple #[.string (frT n r s t),.bool (frB n r s t)])∧Below w.heap.size w w':=by
 have N:=new_below w (.cells #[.int .i64 r,.int .i64 s] 42)
 have m0:=heap_new w (.cells #[.int .i64 r,.int .i64 s] 42)
 have q0:(w.alloc (.cells #[.int .i64 r,.int .i64 s] 42)).cell? ⟨w.heap.size,0,none⟩=some (.int .i64 r):=cell_at m0 0
 have q1:(w.alloc (.cells #[.int .i64 r,.int .i64 s] 42)).cell? ⟨w.heap.size,1,none⟩=some (.int .i64 s):=cell_at m0 1
 have HM:Hid (∀W:World,_):=fun W=>Num.specMarkText_val r s W
 have HP:Hid (∀W:World,_):=fun W=>Pk.specPack_val t W ht
 obtain⟨g1,g2,g3,g4⟩:=fr_parts n r s t
 have HI:Hid (∀W:World,_):=fun W=>Pk.in_is n 0 9999 (fourB n) (by unfold fourB;exact Bool.decide_and _ _) W
 cases ha:fourB n
 ·rw[(g1 ha).1,(g1 ha).2]
  rw[ha]at HI
  clear g1 g2 g3 g4 ha m0
  generalize markS r s=M at*
  generalize packS t=P at*
  generalize decide (t.size≤3000)=pB at*
  go_enter Tryz.func25,Tryz.ntmps25
  go_wp2_with fail
  refine(HM.out _).mono ?_
  rintro e w1 ⟨rfl,L1⟩
  have L2:=join_below N L1
  go_wp2_with fail
  refine(HP.out _).mono ?_
  rintro e w2 ⟨rfl,L3⟩
  have L4:=join_below L2 L3
  go_wp2_with fail
  refine(HI.out _).mono ?_
  rintro e w3 ⟨rfl,rfl⟩
  go_wp2
  go_ret2
  exact⟨rfl,L4⟩
 ·rw[ha]at HI
  have hr:=four_range ha
  cases hm:(wideB r&&wideB s)
  ·rw[(g2 hm).1,(g2 hm).2]
   rw[mark_none hm]at HM
   clear g1 g2 g3 g4 ha hm m0
   generalize packS t=P at*
   generalize decide (t.size≤3000)=pB at*
   go_enter Tryz.func25,Tryz.ntmps25
   go_wp2_with fail
   refine(HM.out _).mono ?_
   rintro e w1 ⟨rfl,L1⟩
   have L2:=join_below N L1
   go_wp2_with fail
   refine(HP.out _).mono ?_
   rintro e w2 ⟨rfl,L3⟩
   have L4:=join_below L2 L3
   go_wp2_with fail
   refine(HI.out _).mono ?_
   rintro e w3 ⟨rfl,rfl⟩
   go_wp2
   go_ret2
   exact⟨rfl,L4⟩
  ·have z:=txt_some (mark_size hm).1
   have hms:=(mark_size hm).1
   cases hp:decide (t.size≤3000)
   ·rw[(g3 hp).1,(g3 hp).2]
    rw[hp]at HP
    clear g1 g2 g3 g4 ha hm hp m0 hms
    generalize packS t=P at*
    generalize markS r s=M at*
    go_enter Tryz.func25,Tryz.ntmps25
    go_wp2_with fail
    refine(HM.out _).mono ?_
    rintro e w1 ⟨rfl,L1⟩
    have L2:=join_below N L1
    go_wp2_with fail
    refine(HP.out _).mono ?_
    rintro e w2 ⟨rfl,L3⟩
    have L4:=join_below L2 L3
    go_wp2_with fail
    refine(HI.out _).mono ?_
    rintro e w3 ⟨rfl,rfl⟩
    go_wp2
    go_ret2
    exact⟨rfl,L4⟩
   ·rw[(g4 ha hm hp).1,(g4 ha hm hp).2]
    rw[hp]at HP
    have hk:=pack_small (of_decide_eq_true hp)
    have e2:plT t=fourS (packS t).size++packS t:=if_pos (of_decide_eq_true hp)
    have e1:fourT n=fourS n.toNat:=if_pos ha
    rw[e1,e2]
    obtain⟨k,rfl⟩:=Int.eq_ofNat_of_zero_le hr.1
    have HF:Hid (∀W:World,_):=fun W=>specFour_val k W (by omega)
    have HG:Hid (∀W:World,_):=fun W=>specFour_val (packS t).size W (by omega)
    have e3:((k:Int)).toNat=k:=rfl
    have z1:(fourS k).size=4:=rfl
    have z2:(fourS (packS t).size).size=4:=rfl
    have hkI:¬((9999:Int)<((packS t).size:Int)):=by omega
    have HC:Hid (∀a b c d:ByteArray,hd5++a++b++(c++d)=hd5++a++b++c++d):=fun a b c d=>by
     apply ba_of
     simp only[bl_app,List.append_assoc]
    rw[e3,HC.out]
    clear g1 g2 g3 g4 ha hm hp m0 e1 e2 e3
    generalize fourS (packS t).size=B at*
    generalize fourS k=A at*
    generalize packS t=P at*
    generalize markS r s=M at*
    go_enter Tryz.func25,Tryz.ntmps25
    go_wp2_with fail
    refine(HM.out _).mono ?_
    rintro e w1 ⟨rfl,L1⟩
    have L2:=join_below N L1
    go_wp2_with fail
    refine(HP.out _).mono ?_
    rintro e w2 ⟨rfl,L3⟩
    have L4:=join_below L2 L3
    go_wp2_with fail
    refine(HI.out _).mono ?_
    rintro e w3 ⟨rfl,rfl⟩
    go_wp2_with fail
    refine(HF.out _).mono ?_
    rintro e w4 ⟨rfl,rfl⟩
    go_wp2_with fail
    refine(HG.out _).mono ?_
    rintro e w5 ⟨rfl,rfl⟩
    go_wp2
    go_ret2
    exact⟨rfl,L4⟩

end Is4
end Go.Proofs.YtcjgkmhpeedhiaaGreatDoor

/- Contracts of the program's functions of chapter 2: parameters; below the heap's old size nothing has turned. -/
namespace Go.Proofs.YtcjgkmhpeedhiaaGreatDoor
namespace Num
open Go.ChangeShapes Go.WideShapes Go.ChangeAt Go.RowKit
set_option linter.unusedSimpArgs false
set_option linter.unusedVariables false

def liesV (p q x:Int):Bool:=decide (1≤x)&&decide (x<p)&&(powV x q p==1)

theorem new_below (w:World) (o:Obj):Below w.heap.size w (w.alloc o):=(Below.refl _ _).alloc (Nat.le_refl _) _

theorem join_below {w w1 w2:World} (h:Below w.heap.size w w1) (k:Below w1.heap.size w1 w2):Below w.heap.size w w2:=h.trans (k.mono h.size)

theorem lies_val (p q g x:Int) (w:World):
 Calls Tryz.prog 83 #[.agg #[.int .i64 p,.int .i64 q,.int .i64 g],.int .i64 x] w fun e w'=>e= .returned (.bool (liesV p q x))∧Below w.heap.size w w':=by
 by_cases h1:1≤x
 ·by_cases h2:x<p
  ·have HV:Hid (liesV p q x=(powV x q p==1)):=by show _=_;simp[liesV,h1,h2]
   go_enter Tryz.func83,Tryz.ntmps83
   go_wp2_with fail
   refine(implPowMod_val x q p _).mono ?_
   rintro e w1 ⟨rfl,rfl⟩
   go_wp2
   go_ret
   rw[HV.out]
   exact⟨rfl,new_below _ _⟩
  ·have HV:Hid (liesV p q x=false):=by show _=_;simp[liesV,h2]
   have hd:decide (x<p)=false:=decide_eq_false h2
   go_enter Tryz.func83,Tryz.ntmps83
   go_wp2
   go_ret
   rw[HV.out]
   exact⟨by simp,new_below _ _⟩
 ·have HV:Hid (liesV p q x=false):=by show _=_;simp[liesV,h1]
  have hd:decide (1≤x)=false:=decide_eq_false h1
  go_enter Tryz.func83,Tryz.ntmps83
  go_wp2
  go_ret
  rw[HV.out]
  exact⟨by simp,new_below _ _⟩

theorem belowQ_val (p q g x:Int) (w:World) (c:Bool) (hc:decide (1≤x∧x<q)=c):
 Calls Tryz.prog 62 #[.agg #[.int .i64 p,.int .i64 q,.int .i64 g],.int .i64 x] w fun e w'=>e= .returned (.bool c)∧Below w.heap.size w w':=by
 subst hc
 by_cases h1:1≤x
 ·go_enter Tryz.func62,Tryz.ntmps62
  go_wp2
  go_ret
  exact⟨by simp[h1],new_below _ _⟩
 ·have hd:decide (1≤x)=false:=decide_eq_false h1
  go_enter Tryz.func62,Tryz.ntmps62
  go_wp2
  go_ret
  exact⟨by simp[h1],new_below _ _⟩

theorem lies_is (p q g x:Int) (b:Bool) (h:liesV p q x=b) (w:World):
 Calls Tryz.prog 83 #[.agg #[.int .i64 p,.int .i64 q,.int .i64 g],.int .i64 x] w fun e w'=>e= .returned (.bool b)∧Below w.heap.size w w':=by
 subst h
 exact lies_val p q g x w

theorem implPrime_is (n:Int) (b:Bool) (h:primeV n=b) (w:World):
 Calls Tryz.prog 106 #[.int .i64 n] w fun e w'=>e= .returned (.bool b)∧w'=w:=by
 subst h
 exact implPrime_val n w

theorem cells3 {w w1:World} {p q g:Int} {t:TypeId} (L:Below (w.alloc (.cells #[.int .i64 p,.int .i64 q,.int .i64 g] t)).heap.size (w.alloc (.cells #[.int .i64 p,.int .i64 q,.int .i64 g] t)) w1):
 w1.cell? ⟨w.heap.size,0,none⟩=some (.int .i64 p)∧w1.cell? ⟨w.heap.size,1,none⟩=some (.int .i64 q)∧w1.cell? ⟨w.heap.size,2,none⟩=some (.int .i64 g):=by
 refine⟨?_,?_,?_⟩
 ·rw[L.cell (by simp)];exact World.cell?_alloc_mark _ _ _ _ 0
 ·rw[L.cell (by simp)];exact World.cell?_alloc_mark _ _ _ _ 1
 ·rw[L.cell (by simp)];exact World.cell?_alloc_mark _ _ _ _ 2

theorem implParamsOk_val (p q g:Int) (w:World):
 Calls Tryz.prog 61 #[.agg #[.int .i64 p,.int .i64 q,.int .i64 g]] w fun e w'=>e= .returned (.bool (okP p q g))∧Below w.heap.size w w':=by
 by_cases hm:Meas p
 ·obtain⟨hm1,hm2⟩:=hm
  by_cases h2:100≤q
  ·by_cases h3:(p-1)%q=0
   ·have h3':((p-1)%q !=0)=false:=by rw[bne_eq_false_iff_eq];exact h3
    by_cases h4:2≤g
    ·cases h5:liesV p q g
     ·have HV:Hid (okP p q g=false):=by
       show _=_
       by_cases hx:g≤p-1
       ·have e:powV g q p≠1:=by
         intro hh
         rw[liesV,hh]at h5
         simp at h5
         omega
        simp[okP,e]
       ·simp[okP,hx]
      have H5:Hid (liesV p q g=false):=h5
      clear h5 h3
      go_enter Tryz.func61,Tryz.ntmps61
      go_wp2_with (go_at_call 63;refine(isMeasure_yes _ _ hm1 hm2).mono ?_;rintro e w' ⟨rfl,rfl⟩)
      refine(lies_is p q g g false H5.out _).mono ?_
      rintro e w1 ⟨rfl,L1⟩
      go_wp2
      go_ret
      rw[HV.out]
      exact⟨rfl,(new_below w _).trans (L1.mono (new_below w _).size)⟩
     ·have hg:g≤p-1∧powV g q p=1:=by
       simp only[liesV,Bool.and_eq_true,decide_eq_true_eq,beq_iff_eq]at h5
       exact⟨by omega,h5.2⟩
      have H5:Hid (liesV p q g=true):=h5
      have HP:Hid (powV g q p=1):=hg.2
      have hg1:=hg.1
      clear h5 hg
      cases h6:primeV q
      ·have HV:Hid (okP p q g=false):=by show _=_;simp[okP,h6]
       have H6:Hid (primeV q=false):=h6
       clear h6 h3
       go_enter Tryz.func61,Tryz.ntmps61
       go_wp2_with (go_at_call 63;refine(isMeasure_yes _ _ hm1 hm2).mono ?_;rintro e w' ⟨rfl,rfl⟩)
       refine(lies_is p q g g true H5.out _).mono ?_
       rintro e w1 ⟨rfl,L1⟩
       obtain⟨c0,c1,c2⟩:=cells3 L1
       go_wp2_with fail
       refine(implPrime_is q false H6.out _).mono ?_
       rintro e w2 ⟨rfl,rfl⟩
       go_wp2
       go_ret
       rw[HV.out]
       exact⟨rfl,(new_below w _).trans (L1.mono (new_below w _).size)⟩
      ·have HV:Hid (okP p q g=primeV p):=by show _=_;rw[Bool.eq_iff_iff];simp[okP,h6,h2,h3,h4,hg1,HP.out]
       have H6:Hid (primeV q=true):=h6
       clear h6 h3
       go_enter Tryz.func61,Tryz.ntmps61
       go_wp2_with (go_at_call 63;refine(isMeasure_yes _ _ hm1 hm2).mono ?_;rintro e w' ⟨rfl,rfl⟩)
       refine(lies_is p q g g true H5.out _).mono ?_
       rintro e w1 ⟨rfl,L1⟩
       obtain⟨c0,c1,c2⟩:=cells3 L1
       go_wp2_with fail
       refine(implPrime_is q true H6.out _).mono ?_
       rintro e w2 ⟨rfl,rfl⟩
       go_wp2_with fail
       refine(implPrime_val p _).mono ?_
       rintro e w3 ⟨rfl,rfl⟩
       go_wp2
       go_ret
       rw[HV.out]
       exact⟨rfl,(new_below w _).trans (L1.mono (new_below w _).size)⟩
    ·have HV:Hid (okP p q g=false):=by show _=_;simp[okP,h4]
     have hd:decide (2≤g)=false:=decide_eq_false h4
     clear h3
     go_enter Tryz.func61,Tryz.ntmps61
     go_wp2_with (go_at_call 63;refine(isMeasure_yes _ _ hm1 hm2).mono ?_;rintro e w' ⟨rfl,rfl⟩)
     go_ret
     rw[HV.out]
     exact⟨by simp,new_below _ _⟩
   ·have HV:Hid (okP p q g=false):=by show _=_;simp[okP,h3]
    have h3':((p-1)%q !=0)=true:=by rw[bne_iff_ne];exact h3
    clear h3
    go_enter Tryz.func61,Tryz.ntmps61
    go_wp2_with (go_at_call 63;refine(isMeasure_yes _ _ hm1 hm2).mono ?_;rintro e w' ⟨rfl,rfl⟩)
    go_ret
    rw[HV.out]
    exact⟨rfl,new_below _ _⟩
  ·have HV:Hid (okP p q g=false):=by show _=_;simp[okP,h2]
   go_enter Tryz.func61,Tryz.ntmps61
   go_wp2_with (go_at_call 63;refine(isMeasure_yes _ _ hm1 hm2).mono ?_;rintro e w' ⟨rfl,rfl⟩)
   go_ret
   rw[HV.out]
   exact⟨rfl,new_below _ _⟩
 ·have HV:Hid (okP p q g=false):=by show _=_;simp[okP,primeV_no hm]
  have hm':=not_meas hm
  clear hm
  go_enter Tryz.func61,Tryz.ntmps61
  go_wp2_with (go_at_call 63;refine(isMeasure_no _ _ hm').mono ?_;rintro e w' ⟨rfl,rfl⟩)
  go_ret
  rw[HV.out]
  exact⟨rfl,new_below _ _⟩

end Num
end Go.Proofs.YtcjgkmhpeedhiaaGreatDoor

/- Contracts of the program's functions of chapter 2: secrets and open keys. -/
namespace Go.Proofs.YtcjgkmhpeedhiaaGreatDoor
namespace Num
open Go.ChangeShapes Go.WideShapes Go.ChangeAt Go.RowKit
set_option linter.unusedSimpArgs false
set_option linter.unusedVariables false

theorem implParamsOk_is (p q g:Int) (b:Bool) (h:okP p q g=b) (w:World):
 Calls Tryz.prog 61 #[pv p q g] w fun e w'=>e= .returned (.bool b)∧Below w.heap.size w w':=by
 subst h
 exact implParamsOk_val p q g w

theorem err_cell {g:Nat} {w:World} (E:Errs.ErrAt g w):∃a:Addr,w.cell? ⟨g,0,none⟩=some (.iface 217 (.pointer (some a))):=E

theorem checkSecret_yes (p q g x:Int) (w:World) (hk:keyB p q g x=true):
 Calls Tryz.prog 26 #[pv p q g,.int .i64 x] w fun e w'=>e= .returned .nilIface∧Below w.heap.size w w':=by
 obtain⟨h1,hx⟩:=keyB_facts hk
 have H1:Hid (okP p q g=true):=h1
 have hd:decide (1≤x∧x<q)=true:=decide_eq_true (by omega)
 clear h1 hk
 go_enter Tryz.func26,Tryz.ntmps26
 go_wp2_with fail
 refine(implParamsOk_is p q g true H1.out _).mono ?_
 rintro e w1 ⟨rfl,L1⟩
 obtain⟨c0,c1,c2⟩:=cells3 L1
 go_wp2_with fail
 refine(belowQ_val p q g x _ true hd).mono ?_
 rintro e w2 ⟨rfl,L2⟩
 go_wp2
 go_ret
 exact⟨rfl,join_below (join_below (new_below w _) L1) L2⟩

theorem checkSecret_no (p q g x:Int) (w:World) (hk:keyB p q g x=false) (E1:Errs.ErrAt 1 w) (E2:Errs.ErrAt 2 w):
 Calls Tryz.prog 26 #[pv p q g,.int .i64 x] w fun e w'=>(∃a,e= .returned (.iface 217 (.pointer (some a))))∧Below w.heap.size w w':=by
 cases h1:okP p q g
 ·have H1:Hid (okP p q g=false):=h1
  clear h1 hk
  go_enter Tryz.func26,Tryz.ntmps26
  go_wp2_with fail
  refine(implParamsOk_is p q g false H1.out _).mono ?_
  rintro e w1 ⟨rfl,L1⟩
  have L2:=join_below (new_below w _) L1
  obtain⟨a,ha⟩:=err_cell (E1.on L2)
  go_wp2
  go_ret
  exact⟨⟨a,rfl⟩,L2⟩
 ·have hx:decide (1≤x∧x<q)=false:=by
   apply decide_eq_false
   intro hh
   rw[keyB,h1,decide_eq_true (show 1≤x∧x≤q-1 by omega)]at hk
   cases hk
  have H1:Hid (okP p q g=true):=h1
  clear h1 hk
  go_enter Tryz.func26,Tryz.ntmps26
  go_wp2_with fail
  refine(implParamsOk_is p q g true H1.out _).mono ?_
  rintro e w1 ⟨rfl,L1⟩
  obtain⟨c0,c1,c2⟩:=cells3 L1
  go_wp2_with fail
  refine(belowQ_val p q g x _ false hx).mono ?_
  rintro e w2 ⟨rfl,L2⟩
  have L3:=join_below (join_below (new_below w _) L1) L2
  obtain⟨a,ha⟩:=err_cell (E2.on L3)
  go_wp2
  go_ret
  exact⟨⟨a,rfl⟩,L3⟩

theorem implOpenKey_val (p q g x:Int) (w:World) (E1:Errs.ErrAt 1 w) (E2:Errs.ErrAt 2 w):
 Calls Tryz.prog 8 #[pv p q g,.int .i64 x] w fun e w'=>e= .returned (.tuple #[.int .i64 (keyI p q g x),.bool (keyB p q g x)])∧Below w.heap.size w w':=by
 cases hk:keyB p q g x
 ·have HK:Hid (keyB p q g x=false):=hk
  have HI:Hid (_):=keyI_no hk
  clear hk
  go_enter Tryz.func8,Tryz.ntmps8
  go_wp2_with fail
  refine(checkSecret_no p q g x _ HK.out (E1.on (new_below w _)) (E2.on (new_below w _))).mono ?_
  rintro e w1 ⟨⟨a,rfl⟩,L1⟩
  go_wp2
  go_ret2
  rw[HI.out]
  exact⟨rfl,join_below (new_below w _) L1⟩
 ·have HK:Hid (keyB p q g x=true):=hk
  have HI:Hid (_):=keyI_yes hk
  obtain⟨h1,hx⟩:=keyB_facts hk
  clear hk h1
  go_enter Tryz.func8,Tryz.ntmps8
  go_wp2_with fail
  refine(checkSecret_yes p q g x _ HK.out).mono ?_
  rintro e w1 ⟨rfl,L1⟩
  obtain⟨c0,c1,c2⟩:=cells3 L1
  go_wp2_with fail
  refine(implPowMod_val g x p _).mono ?_
  rintro e w2 ⟨rfl,rfl⟩
  go_wp2
  go_ret2
  rw[HI.out]
  exact⟨rfl,join_below (new_below w _) L1⟩

end Num
end Go.Proofs.YtcjgkmhpeedhiaaGreatDoor

/- Contracts of the program's functions of chapter 2: a mark by one draw. -/
namespace Go.Proofs.YtcjgkmhpeedhiaaGreatDoor
namespace Num
open Go.ChangeShapes Go.WideShapes Go.ChangeAt Go.RowKit
set_option linter.unusedSimpArgs false
set_option linter.unusedVariables false

abbrev gv (p q g x h:Int):Value:= .agg #[.int .i64 p,.int .i64 q,.int .i64 g,.int .i64 x,.int .i64 h]

abbrev gb (p q g x h:Int):Obj:= .cells #[.int .i64 p,.int .i64 q,.int .i64 g,.int .i64 x,.int .i64 h] 91

def errV (a:Addr):Bool→Value
 |true=> .nilIface
 |false=> .iface 217 (.pointer (some a))

theorem implInverse_is (a m:Int) (w:World):
 Calls Tryz.prog 85 #[.int .i64 a,.int .i64 m] w fun e w'=>e= .returned (.tuple #[.int .i64 (invI a m),.bool (invB a m)])∧Drawn w w':=implInverse_val a m w

theorem three (w:World) (a b c:Obj):Below w.heap.size w (((w.alloc a).alloc b).alloc c)∧(((w.alloc a).alloc b).alloc c).heap[w.heap.size]? =some a∧(((w.alloc a).alloc b).alloc c).heap[w.heap.size+1]? =some b∧(((w.alloc a).alloc b).alloc c).heap[w.heap.size+2]? =some c:=by
 refine⟨join_below (join_below (new_below _ _) (new_below _ _)) (new_below _ _),heap_old (heap_old (heap_new w a) b) c,?_,?_⟩
 ·have:=heap_old (heap_new (w.alloc a) b) c
  simpa using this
 ·have:=heap_new ((w.alloc a).alloc b) c
  simpa using this

theorem markBy_out (p q g x h k:Int) (w:World) (hk:¬(1≤k∧k≤q-1)) (a:Addr) (hE:w.cell? ⟨0,0,none⟩=some (.iface 217 (.pointer (some a)))) (hlt:0<w.heap.size):
 Calls Tryz.prog 50 #[gv p q g x h,.int .i64 k] w fun e w'=>e= .returned (.tuple #[mv 0 0,.iface 217 (.pointer (some a))])∧Below w.heap.size w w':=by
 have hd:decide (1≤k∧k<q)=false:=decide_eq_false (by omega)
 obtain⟨L0,b1,b2,b3⟩:=three w (gb p q g x h) (mb 0 0) (pb p q g)
 go_enter Tryz.func50,Tryz.ntmps50
 go_wp2_with fail
 refine(belowQ_val p q g k _ false hd).mono ?_
 rintro e w3 ⟨rfl,L1⟩
 have hB:=kept_new L1 b2
 have L2:=join_below L0 L1
 have hE3:=(L2.cell (p:=⟨0,0,none⟩) hlt).trans hE
 have d0:w3.cell? ⟨w.heap.size+1,0,none⟩=some (.int .i64 0):=cell_at hB 0
 have d1:w3.cell? ⟨w.heap.size+1,1,none⟩=some (.int .i64 0):=cell_at hB 1
 have f0:w3.frozen? ⟨w.heap.size+1,0,none⟩=false:=frozen_at hB 0
 have f1:w3.frozen? ⟨w.heap.size+1,1,none⟩=false:=frozen_at hB 1
 clear L0 b1 b2 b3 L1 hB
 have hn1:0≠w.heap.size+1:=by omega
 have hn2:w.heap.size+1≠0:=by omega
 go_wp2
 go_region
 all_goals
  go_wp2
  refine bodyPost_ret (v:= .tuple #[mv 0 0,.iface 217 (.pointer (some a))]) (by simp[results,Tryz.results50,go_sem,d0,d1]) rfl ?_
  exact⟨rfl,(L2.drew.setCell (by simp) _).setCell (by simp) _⟩

end Num
end Go.Proofs.YtcjgkmhpeedhiaaGreatDoor

/- Contracts of the program's functions of chapter 2: a mark by one draw, further. -/
namespace Go.Proofs.YtcjgkmhpeedhiaaGreatDoor
namespace Num
open Go.ChangeShapes Go.WideShapes Go.ChangeAt Go.RowKit
set_option linter.unusedSimpArgs false
set_option linter.unusedVariables false

set_option maxHeartbeats 1000000 in
theorem markBy_in (p q g x h k:Int) (w:World) (hok:okP p q g=true) (hx:1≤x∧x≤q-1) (hh:0≤h∧h<q) (hk:1≤k∧k≤q-1) (a:Addr) (hE:w.cell? ⟨0,0,none⟩=some (.iface 217 (.pointer (some a)))) (hlt:0<w.heap.size):
 Calls Tryz.prog 50 #[gv p q g x h,.int .i64 k] w fun e w'=>e= .returned (.tuple #[mv (onceR p q g x h k) (onceS p q g x h k),errV a (doV p q g x h k)])∧Below w.heap.size w w':=by
 obtain⟨hp,hq,hq1,hq2,hd',hg1,hg2,hpow,hpr,-⟩:=okP_facts hok
 have hm1:=hp.1
 have hm2:=hp.2
 have hm3:=hq.2
 have hd:decide (1≤k∧k<q)=true:=decide_eq_true (by omega)
 have HR:Hid (rV p q g k=modV (powV g k p) q):=rfl
 have HS:Hid (mulV (invI k q) (h+x*rV p q g k) q=sV p q g x h k):=sV_impl p q g x h k hq
 have HD:Hid (doV p q g x h k=(!(rV p q g k==0)&& !(sV p q g x h k==0))):=by show _=_;simp[doV,hk]
 have HO:Hid (∀b,doV p q g x h k=b→onceR p q g x h k=(if b=true then rV p q g k else 0)∧onceS p q g x h k=(if b=true then sV p q g x h k else 0)):=by
  intro b hb
  subst hb
  exact⟨rfl,rfl⟩
 have rb:=rV_bd (p:=p) (g:=g) (k:=k) hq
 have hmul:=Math.mul_bd' x (rV p q g k) (by omega) rb.1 (by omega) (by omega)
 obtain⟨rb1,rb2⟩:=rb
 obtain⟨hmul1,hmul2⟩:=hmul
 clear hd' hpow hpr hp hq hok
 obtain⟨L0,b1,b2,b3⟩:=three w (gb p q g x h) (mb 0 0) (pb p q g)
 go_enter Tryz.func50,Tryz.ntmps50
 go_wp2_with fail
 refine(belowQ_val p q g k _ true hd).mono ?_
 rintro e w3 ⟨rfl,L1⟩
 have hA:=kept_new L1 b1
 have hB:=kept_new L1 b2
 have hC:=kept_new L1 b3
 have L2:=join_below L0 L1
 have c0:w3.cell? ⟨w.heap.size+2,0,none⟩=some (.int .i64 p):=cell_at hC 0
 have c1:w3.cell? ⟨w.heap.size+2,1,none⟩=some (.int .i64 q):=cell_at hC 1
 have c2:w3.cell? ⟨w.heap.size+2,2,none⟩=some (.int .i64 g):=cell_at hC 2
 clear L0 b1 b2 b3 L1
 go_wp2
 go_quiet (first|(go_at_call 27;exact Calls.quiet_of_same (implPowMod_val _ _ _ _))|(go_at_call 87;exact Calls.quiet_of_same (implMod_val _ _ _)))
 rw[←HR.out]
 clear c0 c1 c2
 have D1:Drawn w3 (w3.drewN nq):=⟨nq,rfl⟩
 generalize w3.drewN nq=w4 at*
 have cq:w4.cell? ⟨w.heap.size+2,1,none⟩=some (.int .i64 q):=cell_at (kept_drawn D1 hC) 1
 go_wp2_with fail
 refine(implInverse_is k q _).mono ?_
 rintro e w5 ⟨rfl,D2⟩
 have hA5:=kept_drawn D2 (kept_drawn D1 hA)
 have hB5:=kept_drawn D2 (kept_drawn D1 hB)
 have hC5:=kept_drawn D2 (kept_drawn D1 hC)
 have L5:=L2.trans ((drawn_below _ D1).trans (drawn_below _ D2))
 have hE5:=(L5.cell (p:=⟨0,0,none⟩) hlt).trans hE
 have hl5:w.heap.size+2<w5.heap.size:=(Array.getElem?_eq_some_iff.1 hC5).1
 clear hA hB hC L2 D1 D2 cq hE
 have x0:w5.cell? ⟨w.heap.size,3,none⟩=some (.int .i64 x):=cell_at hA5 3
 have x1:w5.cell? ⟨w.heap.size,4,none⟩=some (.int .i64 h):=cell_at hA5 4
 have d0:w5.cell? ⟨w.heap.size+1,0,none⟩=some (.int .i64 0):=cell_at hB5 0
 have d1:w5.cell? ⟨w.heap.size+1,1,none⟩=some (.int .i64 0):=cell_at hB5 1
 have f0:w5.frozen? ⟨w.heap.size+1,0,none⟩=false:=frozen_at hB5 0
 have f1:w5.frozen? ⟨w.heap.size+1,1,none⟩=false:=frozen_at hB5 1
 have cq:w5.cell? ⟨w.heap.size+2,1,none⟩=some (.int .i64 q):=cell_at hC5 1
 have glt:0<w5.heap.size:=Nat.lt_of_lt_of_le hlt L5.size
 clear hA5 hC5
 generalize rV p q g k=r at*
 go_wp2_with fail
 refine(implMulMod_val (invI k q) (h+x*r) q _).mono ?_
 rw[HS.out]
 rintro e w6 ⟨rfl,rfl⟩
 generalize sV p q g x h k=s at*
 clear HR HS
 have hB6:=heap_old hB5 (mb r s)
 have y0:(w6.alloc (mb r s)).cell? ⟨w.heap.size+1,0,none⟩=some (.int .i64 0):=cell_at hB6 0
 have y1:(w6.alloc (mb r s)).cell? ⟨w.heap.size+1,1,none⟩=some (.int .i64 0):=cell_at hB6 1
 have z0:(w6.alloc (mb r s)).frozen? ⟨w.heap.size+1,0,none⟩=false:=frozen_at hB6 0
 have z1:(w6.alloc (mb r s)).frozen? ⟨w.heap.size+1,1,none⟩=false:=frozen_at hB6 1
 have hE6:(w6.alloc (mb r s)).cell? ⟨0,0,none⟩=some (.iface 217 (.pointer (some a))):=((new_below w6 _).cell (p:=⟨0,0,none⟩) glt).trans hE5
 have hn1:0≠w.heap.size+1:=by omega
 have hn2:w.heap.size+1≠0:=by omega
 clear hB5 hB6 d0 d1 f0 f1
 cases hr:r==0
 ·cases hs:s==0
  ·have he:=HD.out
   rw[hr,hs]at he
   have ho:=HO.out _ he
   have HE:Hid (_∧_∧_):=⟨he,ho.1,ho.2⟩
   clear he ho HO HD
   go_wp2
   refine bodyPost_ret (v:= .tuple #[mv r s,.nilIface]) (by simp[results,Tryz.results50,go_sem,y0,y1]) rfl ?_
   rw[HE.out.1,HE.out.2.1,HE.out.2.2]
   exact⟨rfl,((L5.alloc L5.size _).setCell (by simp) _).setCell (by simp) _⟩
  ·have he:=HD.out
   rw[hr,hs]at he
   have ho:=HO.out _ he
   have HE:Hid (_∧_∧_):=⟨he,ho.1,ho.2⟩
   clear he ho HO HD
   go_wp2
   go_region
   all_goals
    go_wp2
    refine bodyPost_ret (v:= .tuple #[mv 0 0,.iface 217 (.pointer (some a))]) (by simp[results,Tryz.results50,go_sem,y0,y1]) rfl ?_
    rw[HE.out.1,HE.out.2.1,HE.out.2.2]
    exact⟨rfl,((L5.alloc L5.size _).drew.setCell (by simp) _).setCell (by simp) _⟩
 ·have he:=HD.out
  rw[hr,Bool.not_true,Bool.false_and]at he
  have ho:=HO.out _ he
  have HE:Hid (_∧_∧_):=⟨he,ho.1,ho.2⟩
  clear he ho HO HD
  go_wp2
  go_region
  all_goals
   go_wp2
   refine bodyPost_ret (v:= .tuple #[mv 0 0,.iface 217 (.pointer (some a))]) (by simp[results,Tryz.results50,go_sem,y0,y1]) rfl ?_
   rw[HE.out.1,HE.out.2.1,HE.out.2.2]
   exact⟨rfl,((L5.alloc L5.size _).drew.setCell (by simp) _).setCell (by simp) _⟩

end Num
end Go.Proofs.YtcjgkmhpeedhiaaGreatDoor

/- Contracts of the program's functions of chapter 2: a signer, and SignOnce. -/
namespace Go.Proofs.YtcjgkmhpeedhiaaGreatDoor
namespace Num
open Go.ChangeShapes Go.WideShapes Go.ChangeAt Go.RowKit
set_option linter.unusedSimpArgs false
set_option linter.unusedVariables false

theorem markBy_val (p q g x h k:Int) (w:World) (hok:okP p q g=true) (hx:1≤x∧x≤q-1) (hh:0≤h∧h<q) (a:Addr) (hE:w.cell? ⟨0,0,none⟩=some (.iface 217 (.pointer (some a)))) (hlt:0<w.heap.size):
 Calls Tryz.prog 50 #[gv p q g x h,.int .i64 k] w fun e w'=>e= .returned (.tuple #[mv (onceR p q g x h k) (onceS p q g x h k),errV a (doV p q g x h k)])∧Below w.heap.size w w':=by
 by_cases hk:1≤k∧k≤q-1
 ·exact markBy_in p q g x h k w hok hx hh hk a hE hlt
 ·have he:doV p q g x h k=false:=by unfold doV;rw[decide_eq_false hk];rfl
  rw[(once_no he).1,(once_no he).2,he]
  exact markBy_out p q g x h k w hk a hE hlt

theorem two (w:World) (a b:Obj):Below w.heap.size w ((w.alloc a).alloc b)∧((w.alloc a).alloc b).heap[w.heap.size]? =some a∧((w.alloc a).alloc b).heap[w.heap.size+1]? =some b:=by
 refine⟨join_below (new_below _ _) (new_below _ _),heap_old (heap_new w a) b,?_⟩
 have:=heap_new (w.alloc a) b
 simpa using this

theorem err_lt {g:Nat} {w:World} {v:Value} (h:w.cell? ⟨g,0,none⟩=some v):g<w.heap.size:=by
 apply Nat.lt_of_not_le
 intro hle
 unfold World.cell? at h
 rw[Array.getElem?_eq_none hle]at h
 simp at h

set_option maxHeartbeats 1000000 in
theorem signerOf_no (p q g x:Int) (t:ByteArray) (w:World) (ht:t.size≤maxLen) (hs:signB p q g x t=false) (E1:Errs.ErrAt 1 w) (E2:Errs.ErrAt 2 w) (E3:Errs.ErrAt 5 w):
 Calls Tryz.prog 49 #[pv p q g,.int .i64 x,.string t] w fun e w'=>(∃a,e= .returned (.tuple #[gv 0 0 0 0 0,.iface 217 (.pointer (some a))]))∧Below w.heap.size w w':=by
 unfold maxLen at ht
 obtain⟨L0,b1,b2⟩:=two w (pb p q g) (gb 0 0 0 0 0)
 cases hk:keyB p q g x
 ·have HK:Hid (keyB p q g x=false):=hk
  clear hk hs
  go_enter Tryz.func49,Tryz.ntmps49
  go_wp2_with fail
  refine(checkSecret_no p q g x _ HK.out (E1.on L0) (E2.on L0)).mono ?_
  rintro e w3 ⟨⟨a,rfl⟩,L1⟩
  have hB:=kept_new L1 b2
  have L2:=join_below L0 L1
  have d0:w3.cell? ⟨w.heap.size+1,0,none⟩=some (.int .i64 0):=cell_at hB 0
  have d1:w3.cell? ⟨w.heap.size+1,1,none⟩=some (.int .i64 0):=cell_at hB 1
  have d2:w3.cell? ⟨w.heap.size+1,2,none⟩=some (.int .i64 0):=cell_at hB 2
  have d3:w3.cell? ⟨w.heap.size+1,3,none⟩=some (.int .i64 0):=cell_at hB 3
  have d4:w3.cell? ⟨w.heap.size+1,4,none⟩=some (.int .i64 0):=cell_at hB 4
  have f0:=frozen_at hB 0
  have f1:=frozen_at hB 1
  have f2:=frozen_at hB 2
  have f3:=frozen_at hB 3
  have f4:=frozen_at hB 4
  clear L0 b1 b2 L1 hB
  go_wp2
  refine bodyPost_ret (v:= .tuple #[gv 0 0 0 0 0,.iface 217 (.pointer (some a))]) (by simp[results,Tryz.results49,go_sem,d0,d1,d2,d3,d4]) rfl ?_
  exact⟨⟨a,rfl⟩,((((L2.setCell (by simp) _).setCell (by simp) _).setCell (by simp) _).setCell (by simp) _).setCell (by simp) _⟩
 ·have h5:5000<t.size:=by
   apply Nat.lt_of_not_le
   intro h
   rw[signB,hk,decide_eq_true h]at hs
   cases hs
  have HK:Hid (keyB p q g x=true):=hk
  have hd:decide ((5000:Int)<t.size)=true:=by simp;omega
  clear hk hs
  go_enter Tryz.func49,Tryz.ntmps49
  go_wp2_with fail
  refine(checkSecret_yes p q g x _ HK.out).mono ?_
  rintro e w3 ⟨rfl,L1⟩
  have hB:=kept_new L1 b2
  have L2:=join_below L0 L1
  obtain⟨a,ha⟩:=err_cell (E3.on L2)
  have hgl:=err_lt (err_cell E3).choose_spec
  have hn1:5≠w.heap.size+1:=by omega
  have hn2:w.heap.size+1≠5:=by omega
  have d0:w3.cell? ⟨w.heap.size+1,0,none⟩=some (.int .i64 0):=cell_at hB 0
  have d1:w3.cell? ⟨w.heap.size+1,1,none⟩=some (.int .i64 0):=cell_at hB 1
  have d2:w3.cell? ⟨w.heap.size+1,2,none⟩=some (.int .i64 0):=cell_at hB 2
  have d3:w3.cell? ⟨w.heap.size+1,3,none⟩=some (.int .i64 0):=cell_at hB 3
  have d4:w3.cell? ⟨w.heap.size+1,4,none⟩=some (.int .i64 0):=cell_at hB 4
  have f0:=frozen_at hB 0
  have f1:=frozen_at hB 1
  have f2:=frozen_at hB 2
  have f3:=frozen_at hB 3
  have f4:=frozen_at hB 4
  clear L0 b1 b2 L1 hB
  go_wp2
  go_region
  all_goals
   go_wp2
   refine bodyPost_ret (v:= .tuple #[gv 0 0 0 0 0,.iface 217 (.pointer (some a))]) (by simp[results,Tryz.results49,go_sem,d0,d1,d2,d3,d4]) rfl ?_
   exact⟨⟨a,rfl⟩,((((L2.drew.setCell (by simp) _).setCell (by simp) _).setCell (by simp) _).setCell (by simp) _).setCell (by simp) _⟩

set_option maxHeartbeats 1000000 in
theorem signerOf_yes (p q g x:Int) (t:ByteArray) (w:World) (hs:signB p q g x t=true):
 Calls Tryz.prog 49 #[pv p q g,.int .i64 x,.string t] w fun e w'=>e= .returned (.tuple #[gv p q g x (hV t q),.nilIface])∧Below w.heap.size w w':=by
 obtain⟨L0,b1,b2⟩:=two w (pb p q g) (gb 0 0 0 0 0)
 obtain⟨hok,hx,h5⟩:=signB_facts hs
 obtain⟨-,hq,-⟩:=okP_facts hok
 have HK:Hid (keyB p q g x=true):=by show _=_;simp[keyB,hok,hx]
 have HF:Hid (∀w,Calls Tryz.prog 84 #[.string t,.int .i64 q] w fun e w'=>e= .returned (.int .i64 (hV t q))∧Drawn w w'):=fun w=>implFold_yes t q w hq.1 hq.2 h5
 have hd:decide ((5000:Int)<t.size)=false:=by simp;omega
 clear hok hs hq
 generalize hV t q=h at*
 go_enter Tryz.func49,Tryz.ntmps49
 go_wp2_with fail
 refine(checkSecret_yes p q g x _ HK.out).mono ?_
 rintro e w3 ⟨rfl,L1⟩
 have hA:=kept_new L1 b1
 have hB:=kept_new L1 b2
 have L2:=join_below L0 L1
 have c0:w3.cell? ⟨w.heap.size,0,none⟩=some (.int .i64 p):=cell_at hA 0
 have c1:w3.cell? ⟨w.heap.size,1,none⟩=some (.int .i64 q):=cell_at hA 1
 have c2:w3.cell? ⟨w.heap.size,2,none⟩=some (.int .i64 g):=cell_at hA 2
 clear L0 b1 b2 L1
 go_wp2
 go_region_with ((go_at_call 84;refine(HF.out _).mono ?_;rintro e w4 ⟨rfl,D4⟩;have L4:=L2.drew.trans (drawn_below _ D4);have hA4:=kept_drawn D4 hA;have hB4:=kept_drawn D4 hB;have c0:w4.cell? ⟨w.heap.size,0,none⟩=some (.int .i64 p):=cell_at hA4 0;have c1:w4.cell? ⟨w.heap.size,1,none⟩=some (.int .i64 q):=cell_at hA4 1;have c2:w4.cell? ⟨w.heap.size,2,none⟩=some (.int .i64 g):=cell_at hA4 2;have d0:w4.cell? ⟨w.heap.size+1,0,none⟩=some (.int .i64 0):=cell_at hB4 0;have d1:w4.cell? ⟨w.heap.size+1,1,none⟩=some (.int .i64 0):=cell_at hB4 1;have d2:w4.cell? ⟨w.heap.size+1,2,none⟩=some (.int .i64 0):=cell_at hB4 2;have d3:w4.cell? ⟨w.heap.size+1,3,none⟩=some (.int .i64 0):=cell_at hB4 3;have d4:w4.cell? ⟨w.heap.size+1,4,none⟩=some (.int .i64 0):=cell_at hB4 4;have f0:=frozen_at hB4 0;have f1:=frozen_at hB4 1;have f2:=frozen_at hB4 2;have f3:=frozen_at hB4 3;have f4:=frozen_at hB4 4;clear hA4 hB4))
 all_goals
  go_wp2
  refine bodyPost_ret (v:= .tuple #[gv p q g x h,.nilIface]) (by simp[results,Tryz.results49,go_sem,d0,d1,d2,d3,d4]) rfl ?_
  exact⟨rfl,((((L4.setCell (by simp) _).setCell (by simp) _).setCell (by simp) _).setCell (by simp) _).setCell (by simp) _⟩

end Num
end Go.Proofs.YtcjgkmhpeedhiaaGreatDoor

/- errors.Is by its contracts, for what the program hands it: the very error of a variable, and nil. Go's own text of errors.Is is walked. -/
namespace Go.Proofs.YtcjgkmhpeedhiaaGreatDoor
namespace Num
open Go.RowKit Go.Extern.Stop Go.Stop Go.Extern

theorem isTypeOf (v:Value) (w:World):(Extern.ReflectliteType.typeOf #[.iface 217 v]).run Tryz.prog w= .ok (.iface 167 (.agg #[.pointer (some ⟨13,217,none⟩)])) w:=by kernel_rfl

theorem isComparable (w:World):(callFunc 225 #[.agg #[.pointer (some ⟨13,217,none⟩)]]).run Tryz.prog w= .ok (Next.value (.bool true)) w:=by
 rw[@run_callFunc_extern Tryz.prog 225 _ (Extern.ReflectliteType.method fun t=>do Go.Extern.Rtype.noPackHeld "Comparable" t;pure (.bool (←typeInfo t).comparable)) Tryz.func225 (by kernel_rfl) (by kernel_rfl) (by kernel_rfl) (by kernel_rfl)]
 kernel_rfl

theorem isMethodComparable (v:Value) (w:World):(Go.method 365 167 v "Comparable").run Tryz.prog w= .ok (225,v) w:=by kernel_rfl

theorem isComp:(Tryz.prog.info? 217).map (·.comparable)=some true:=by kernel_rfl

theorem isSize:(Tryz.prog.info? 253).map (·.size)=some 1:=by kernel_rfl

set_option maxRecDepth 100000 in
theorem is_same (a:Addr) (w:World):
 Calls Tryz.prog 51 #[.iface 217 (.pointer (some a)),.iface 217 (.pointer (some a))] w fun e w'=>e= .returned (.bool true)∧w'=w:=by
 obtain⟨i,hi,hcmp⟩:=Option.map_eq_some_iff.1 isComp
 obtain⟨j,hj,hjs⟩:=Option.map_eq_some_iff.1 isSize
 have h8:= @run_callFunc_extern Tryz.prog 90 _ Extern.ReflectliteType.typeOf Tryz.func90 (by kernel_rfl) (by kernel_rfl) (by kernel_rfl) (by kernel_rfl)
 have tT:=isTypeOf
 have cT:=isComparable
 have mR:=isMethodComparable
 have heq:=run_eql_iface_ptr_same (P:=Tryz.prog) w a Tryz.underlying58 Tryz.underlying217 hi hcmp hj
 go_enter Tryz.func51,Tryz.ntmps51
 go_wp2
 refine wp_loop_rounds 1 ?_
 rw[rounds_succ]
 go_wp2
 go_ret
 exact⟨rfl,rfl⟩

set_option maxRecDepth 100000 in
theorem is_nil (b:Addr) (w:World):
 Calls Tryz.prog 51 #[.nilIface,.iface 217 (.pointer (some b))] w fun e w'=>e= .returned (.bool false)∧w'=w:=by
 have hn:=run_eql_iface_nil_left (P:=Tryz.prog) w 217 (.pointer (some b)) Tryz.underlying58
 go_enter Tryz.func51,Tryz.ntmps51
 go_wp2
 go_ret
 exact⟨rfl,rfl⟩

end Num
end Go.Proofs.YtcjgkmhpeedhiaaGreatDoor

/- Contract of the program's Sign: the first draw that will do. -/
namespace Go.Proofs.YtcjgkmhpeedhiaaGreatDoor
namespace Num
open Go.ChangeShapes Go.WideShapes Go.ChangeAt Go.RowKit
set_option linter.unusedSimpArgs false
set_option linter.unusedVariables false

theorem signI_rel {w wr w':World} {p q g x h:Int} {a:Option Addr} {ea:Addr} {zs:List Int} {k gn:Nat} (LR:Below w.heap.size w wr) (RC:wr.heap[gn]? =some (gb p q g x h)) (RB:wr.heap[w.heap.size+1]? =some (mb 0 0)) (RI:Ints wr a zs) (RE:wr.cell? ⟨0,0,none⟩=some (.iface 217 (.pointer (some ea)))) (K:Below wr.heap.size wr w') (H:Hid (sg p q g x h zs 0=sg p q g x h (zs.drop k) k)):
 Below w.heap.size w w'∧w'.heap[gn]? =some (gb p q g x h)∧w'.heap[w.heap.size+1]? =some (mb 0 0)∧Ints w' a zs∧w'.cell? ⟨0,0,none⟩=some (.iface 217 (.pointer (some ea)))∧Hid (sg p q g x h zs 0=sg p q g x h (zs.drop k) k):=
 ⟨LR.trans (K.mono LR.size),kept_new K RC,kept_new K RB,RI.on K,(K.cell (p:=⟨0,0,none⟩) (err_lt RE)).trans RE,H⟩

set_option maxHeartbeats 4000000 in
theorem implSign_val (p q g x:Int) (t:ByteArray) (a:Option Addr) (zs:List Int) (cap:Nat) (w:World) (ht:t.size≤maxLen) (hz:zs.length≤9223372036854775807) (I:Ints w a zs) (E1:Errs.ErrAt 1 w) (E2:Errs.ErrAt 2 w) (E3:Errs.ErrAt 5 w) (E4:Errs.ErrAt 0 w):
 Calls Tryz.prog 21 #[pv p q g,.int .i64 x,.string t,.slice a zs.length cap] w fun e w'=>e= .returned (sv (signV p q g x t zs))∧Below w.heap.size w w':=by
 obtain⟨L0,b1,b2⟩:=two w (pb p q g) (mb 0 0)
 cases hs:signB p q g x t
 ·have HE:Hid (_):=signV_no (zs:=zs) (Or.inl hs)
  have HS:Hid (signB p q g x t=false):=hs
  clear hs I
  go_enter Tryz.func21,Tryz.ntmps21
  go_wp2_with fail
  refine(signerOf_no p q g x t _ ht HS.out (E1.on L0) (E2.on L0) (E3.on L0)).mono ?_
  rintro e w3 ⟨⟨ea,rfl⟩,L1⟩
  have hB6:=heap_old (kept_new L1 b2) (gb 0 0 0 0 0)
  have L2:=join_below L0 L1
  have d0:(w3.alloc (gb 0 0 0 0 0)).cell? ⟨w.heap.size+1,0,none⟩=some (.int .i64 0):=cell_at hB6 0
  have d1:(w3.alloc (gb 0 0 0 0 0)).cell? ⟨w.heap.size+1,1,none⟩=some (.int .i64 0):=cell_at hB6 1
  have f0:(w3.alloc (gb 0 0 0 0 0)).frozen? ⟨w.heap.size+1,0,none⟩=false:=frozen_at hB6 0
  have f1:(w3.alloc (gb 0 0 0 0 0)).frozen? ⟨w.heap.size+1,1,none⟩=false:=frozen_at hB6 1
  clear L0 b1 b2 L1 hB6
  go_wp2
  refine bodyPost_ret (v:=sv (0,0,-1,false)) (by simp[results,Tryz.results21,go_sem,d0,d1]) rfl ?_
  rw[HE.out]
  exact⟨rfl,((L2.alloc L2.size _).setCell (by simp) _).setCell (by simp) _⟩
 ·have HS:Hid (signB p q g x t=true):=hs
  obtain⟨hok,hx,h5⟩:=signB_facts hs
  obtain⟨-,hq,-⟩:=okP_facts hok
  have hh:=hV_bd t hq
  have HOK:Hid (okP p q g=true):=hok
  have HH:Hid (0≤hV t q∧hV t q<q):=hh
  by_cases hn:zs.length≤100
  ·have HE:Hid (signV p q g x t zs=sg p q g x (hV t q) zs 0):=if_pos ⟨hs,hn⟩
   have hd2:decide ((100:Int)<zs.length)=false:=by simp;omega
   clear hs hok hq hh
   go_enter Tryz.func21,Tryz.ntmps21
   go_wp2_with fail
   refine(signerOf_yes p q g x t _ HS.out).mono ?_
   rintro e w3 ⟨rfl,L1⟩
   generalize hV t q=h at*
   have L2:=join_below L0 L1
   have L3:=join_below L2 (new_below w3 (gb p q g x h))
   obtain⟨ea,ha⟩:=err_cell (E4.on L3)
   have hB6:=heap_old (kept_new L1 b2) (gb p q g x h)
   have hG:=heap_new w3 (gb p q g x h)
   have I3:=I.on L3
   clear L0 b1 b2 L1 L2 I
   generalize hgn:w3.heap.size=gn at*
   go_wp2
   generalize w3.alloc (gb p q g x h)=w4 at*
   clear hgn
   go_loopw [34] (fun i wr=>∃k:Nat,k≤zs.length∧i= .int .i64 k∧Below w.heap.size w wr∧wr.heap[gn]? =some (gb p q g x h)∧wr.heap[w.heap.size+1]? =some (mb 0 0)∧Ints wr a zs∧wr.cell? ⟨0,0,none⟩=some (.iface 217 (.pointer (some ea)))∧Hid (sg p q g x h zs 0=sg p q g x h (zs.drop k) k)) (fun i _=>zs.length-(intOf i).toNat)
   case atStart=>exact⟨0,by omega,rfl,L3,hG,hB6,I3,ha,by show _=_;simp⟩
   case round=>
    obtain⟨k,hk,rfl,LR,RC,RB,RI,RE,HN⟩:=hrel
    clear L3 hG hB6 I3 ha
    have g0:wr.cell? ⟨gn,0,none⟩=some (.int .i64 p):=cell_at RC 0
    have g1:wr.cell? ⟨gn,1,none⟩=some (.int .i64 q):=cell_at RC 1
    have g2:wr.cell? ⟨gn,2,none⟩=some (.int .i64 g):=cell_at RC 2
    have g3:wr.cell? ⟨gn,3,none⟩=some (.int .i64 x):=cell_at RC 3
    have g4:wr.cell? ⟨gn,4,none⟩=some (.int .i64 h):=cell_at RC 4
    by_cases hkn:k<zs.length
    ·obtain⟨b,o,rfl,hlt,hcell⟩:=RI.at k hkn
     cases hdo:doV p q g x h zs[k]
     ·have HC:Hid (∀w,w.cell? ⟨0,0,none⟩=some (.iface 217 (.pointer (some ea)))→Calls Tryz.prog 50 #[gv p q g x h,.int .i64 zs[k]] w fun e w'=>e= .returned (.tuple #[mv 0 0,.iface 217 (.pointer (some ea))])∧Below w.heap.size w w'):=by
       intro w hw
       have:=markBy_val p q g x h zs[k] w HOK.out hx HH.out ea hw (err_lt hw)
       rwa [(once_no hdo).1,(once_no hdo).2,hdo]at this
      have HR:Hid (_):=HN.out.trans (sg_no hkn hdo)
      clear hdo HN
      generalize zs[k]=z at*
      go_wp2_with fail
      refine(HC.out _ RE).mono ?_
      rintro e w5 ⟨rfl,L5⟩
      have K:=join_below L5 (new_below w5 (mb 0 0))
      have e5:=(K.cell (p:=⟨0,0,none⟩) (err_lt RE)).trans RE
      go_wp2_with fail
      refine(is_same ea _).mono ?_
      rintro e w6 ⟨rfl,rfl⟩
      go_wp2
      go_roundw
      case rel=>exact⟨k+1,by omega,by go_num,signI_rel LR RC RB RI RE K HR⟩
      case measure=>simp[intOf];omega
     ·have HC:Hid (∀w,w.cell? ⟨0,0,none⟩=some (.iface 217 (.pointer (some ea)))→Calls Tryz.prog 50 #[gv p q g x h,.int .i64 zs[k]] w fun e w'=>e= .returned (.tuple #[mv (rV p q g zs[k]) (sV p q g x h zs[k]),.nilIface])∧Below w.heap.size w w'):=by
       intro w hw
       have:=markBy_val p q g x h zs[k] w HOK.out hx HH.out ea hw (err_lt hw)
       rwa [(once_yes hdo).1,(once_yes hdo).2,hdo]at this
      have HR:Hid (_):=HE.out.trans (HN.out.trans (sg_yes hkn hdo))
      clear hdo HN HE
      generalize rV p q g zs[k]=r at*
      generalize sV p q g x h zs[k]=s at*
      generalize zs[k]=z at*
      go_wp2_with fail
      refine(HC.out _ RE).mono ?_
      rintro e w5 ⟨rfl,L5⟩
      have K:=join_below L5 (new_below w5 (mb r s))
      have e5:=(K.cell (p:=⟨0,0,none⟩) (err_lt RE)).trans RE
      have hB7:=kept_new K RB
      have d0:(w5.alloc (mb r s)).cell? ⟨w.heap.size+1,0,none⟩=some (.int .i64 0):=cell_at hB7 0
      have d1:(w5.alloc (mb r s)).cell? ⟨w.heap.size+1,1,none⟩=some (.int .i64 0):=cell_at hB7 1
      have f0:(w5.alloc (mb r s)).frozen? ⟨w.heap.size+1,0,none⟩=false:=frozen_at hB7 0
      have f1:(w5.alloc (mb r s)).frozen? ⟨w.heap.size+1,1,none⟩=false:=frozen_at hB7 1
      clear hB7
      go_wp2_with fail
      refine(is_nil ea _).mono ?_
      rintro e w6 ⟨rfl,rfl⟩
      go_wp2
      refine bodyPost_ret (v:=sv (r,s,(k:Int),true)) (by simp[results,Tryz.results21,go_sem,d0,d1]) rfl ?_
      rw[HR.out]
      exact⟨rfl,((join_below LR K).setCell (by simp) _).setCell (by simp) _⟩
    ·have HR:Hid (signV p q g x t zs=(0,0,-1,false)):=by
      have e:k=zs.length:=by omega
      subst e
      have:=HE.out.trans HN.out
      rw[List.drop_length]at this
      exact this
     have h0:wr.cell? ⟨w.heap.size+1,0,none⟩=some (.int .i64 0):=cell_at RB 0
     have h1:wr.cell? ⟨w.heap.size+1,1,none⟩=some (.int .i64 0):=cell_at RB 1
     have k0:wr.frozen? ⟨w.heap.size+1,0,none⟩=false:=frozen_at RB 0
     have k1:wr.frozen? ⟨w.heap.size+1,1,none⟩=false:=frozen_at RB 1
     go_wp2
     refine bodyPost_ret (v:=sv (0,0,-1,false)) (by simp[results,Tryz.results21,go_sem,h0,h1]) rfl ?_
     rw[HR.out]
     exact⟨rfl,(LR.setCell (by simp) _).setCell (by simp) _⟩
  ·have HE:Hid (_):=signV_no (p:=p) (q:=q) (g:=g) (x:=x) (t:=t) (zs:=zs) (Or.inr (by omega))
   have hd2:decide ((100:Int)<zs.length)=true:=by simp;omega
   clear hs hok hq hh I
   go_enter Tryz.func21,Tryz.ntmps21
   go_wp2_with fail
   refine(signerOf_yes p q g x t _ HS.out).mono ?_
   rintro e w3 ⟨rfl,L1⟩
   generalize hV t q=h at*
   have hB6:=heap_old (kept_new L1 b2) (gb p q g x h)
   have L2:=join_below L0 L1
   have d0:(w3.alloc (gb p q g x h)).cell? ⟨w.heap.size+1,0,none⟩=some (.int .i64 0):=cell_at hB6 0
   have d1:(w3.alloc (gb p q g x h)).cell? ⟨w.heap.size+1,1,none⟩=some (.int .i64 0):=cell_at hB6 1
   have f0:(w3.alloc (gb p q g x h)).frozen? ⟨w.heap.size+1,0,none⟩=false:=frozen_at hB6 0
   have f1:(w3.alloc (gb p q g x h)).frozen? ⟨w.heap.size+1,1,none⟩=false:=frozen_at hB6 1
   clear L0 b1 b2 L1 hB6
   go_wp2
   refine bodyPost_ret (v:=sv (0,0,-1,false)) (by simp[results,Tryz.results21,go_sem,d0,d1]) rfl ?_
   rw[HE.out]
   exact⟨rfl,((L2.alloc L2.size _).setCell (by simp) _).setCell (by simp) _⟩

end Num
end Go.Proofs.YtcjgkmhpeedhiaaGreatDoor

/- Issue, of the program and of its model. -/
namespace Go.Proofs.YtcjgkmhpeedhiaaGreatDoor
namespace Is4
open Go.ChangeShapes Go.WideShapes Go.ChangeAt Go.RowKit
open Pk (new_below join_below cell_at heap_new frozen_at lt_of kept heap_old packS Runs)
open Num (pv pb mb signV Tens Ints)
open Tk (Lg Hd tkV tkB putS okB Legs)
set_option linter.unusedSimpArgs false
set_option linter.unusedVariables false

set_option maxRecDepth 100000 in
set_option maxHeartbeats 2000000 in
theorem implIssue_val (p q g x n:Int) (t:Hd) (nm:ByteArray) (a:Option Addr) (ls:List Lg) (cap:Nat) (za:Option Addr) (zs:List Int) (zc:Nat) (w:World) (hn:nm.size≤maxLen) (hl:ls.length≤1048576) (hz:zs.length≤9223372036854775807) (I:Legs w a ls) (J:Ints w za zs) (T:Tens w) (R:Runs w) (E1:Errs.ErrAt 1 w) (E2:Errs.ErrAt 2 w) (E3:Errs.ErrAt 5 w) (E4:Errs.ErrAt 0 w):
 Calls Tryz.prog 6 #[pv p q g,.int .i64 x,.int .i64 n,tkV t nm a ls.length cap,.slice za zs.length zc] w fun e w'=>e= .returned (iV (isV (okB t nm ls) (putS t nm ls) (signV p q g x (putS t nm ls) zs) n))∧Below w.heap.size w w':=by
 have hps:=put_small t nm ls
 have hpm:(putS t nm ls).size≤maxLen:=by unfold maxLen;omega
 have N1:=new_below w (pb p q g)
 have b1:=heap_new w (pb p q g)
 have N2:=new_below (w.alloc (pb p q g)) (tkB t nm a ls.length cap 28)
 have b2:=heap_old b1 (tkB t nm a ls.length cap 28)
 have L0:=join_below N1 N2
 clear N1 N2 b1
 have hRL:=R.lt
 have HPI:Hid (∀W:World,Below w.heap.size w W→_):=fun W L=>Tk.implPut_val t nm a ls cap W hn hl (I.on L) (T.on L)
 have HSI:Hid (∀W:World,Below w.heap.size w W→_):=fun W L=>Num.implSign_val p q g x (putS t nm ls) za zs zc W hpm hz (J.on L) (E1.on L) (E2.on L) (E3.on L) (E4.on L)
 obtain⟨r,s,i,fine,hv⟩:∃r s i f,signV p q g x (putS t nm ls) zs=(r,s,i,f):=⟨_,_,_,_,rfl⟩
 rw[hv]at HSI⊢
 clear hv
 generalize putS t nm ls=P at*
 generalize okB t nm ls=ok at*
 have HFR:Hid (∀W:World,Below w.heap.size w W→_):=fun W L=>implFrame_val n r s P W hpm (R.on L hRL) (T.on L)
 rcases is_cases ok P r s i fine n with⟨rfl,he⟩|⟨rfl,rfl,he⟩|⟨rfl,rfl,hf,he⟩|⟨rfl,rfl,hf,he⟩
 all_goals
  rw[he]
  clear he hps hpm I J T R E1 E2 E3 E4
 ·go_enter Tryz.func6,Tryz.ntmps6
  go_wp2_with fail
  refine(HPI.out _ L0).mono ?_
  rintro e w1 ⟨rfl,L1⟩
  have b3:=kept L1 (lt_of b2) b2
  have L2:=join_below L0 L1
  go_wp2
  go_ret3
  exact⟨rfl,L2⟩
 ·go_enter Tryz.func6,Tryz.ntmps6
  go_wp2_with fail
  refine(HPI.out _ L0).mono ?_
  rintro e w1 ⟨rfl,L1⟩
  have b3:=kept L1 (lt_of b2) b2
  have L2:=join_below L0 L1
  have c0:w1.cell? ⟨w.heap.size,0,none⟩=some (.int .i64 p):=cell_at b3 0
  have c1:w1.cell? ⟨w.heap.size,1,none⟩=some (.int .i64 q):=cell_at b3 1
  have c2:w1.cell? ⟨w.heap.size,2,none⟩=some (.int .i64 g):=cell_at b3 2
  go_wp2_with fail
  refine(HSI.out _ L2).mono ?_
  rintro e w2 ⟨rfl,L3⟩
  have N4:=new_below w2 (mb r s)
  have m4:=heap_new w2 (mb r s)
  have L4:=join_below (join_below L2 L3) N4
  go_wp2
  go_ret3
  exact⟨rfl,L4⟩
 ·rw[hf,frT_no hf]at HFR
  go_enter Tryz.func6,Tryz.ntmps6
  go_wp2_with fail
  refine(HPI.out _ L0).mono ?_
  rintro e w1 ⟨rfl,L1⟩
  have b3:=kept L1 (lt_of b2) b2
  have L2:=join_below L0 L1
  have c0:w1.cell? ⟨w.heap.size,0,none⟩=some (.int .i64 p):=cell_at b3 0
  have c1:w1.cell? ⟨w.heap.size,1,none⟩=some (.int .i64 q):=cell_at b3 1
  have c2:w1.cell? ⟨w.heap.size,2,none⟩=some (.int .i64 g):=cell_at b3 2
  go_wp2_with fail
  refine(HSI.out _ L2).mono ?_
  rintro e w2 ⟨rfl,L3⟩
  have N4:=new_below w2 (mb r s)
  have m4:=heap_new w2 (mb r s)
  have L4:=join_below (join_below L2 L3) N4
  go_wp2_with fail
  refine(HFR.out _ L4).mono ?_
  rintro e w3 ⟨rfl,L5⟩
  have L6:=join_below L4 L5
  go_wp2
  go_ret3
  exact⟨rfl,L6⟩
 ·rw[hf]at HFR
  generalize frT n r s P=F at*
  go_enter Tryz.func6,Tryz.ntmps6
  go_wp2_with fail
  refine(HPI.out _ L0).mono ?_
  rintro e w1 ⟨rfl,L1⟩
  have b3:=kept L1 (lt_of b2) b2
  have L2:=join_below L0 L1
  have c0:w1.cell? ⟨w.heap.size,0,none⟩=some (.int .i64 p):=cell_at b3 0
  have c1:w1.cell? ⟨w.heap.size,1,none⟩=some (.int .i64 q):=cell_at b3 1
  have c2:w1.cell? ⟨w.heap.size,2,none⟩=some (.int .i64 g):=cell_at b3 2
  go_wp2_with fail
  refine(HSI.out _ L2).mono ?_
  rintro e w2 ⟨rfl,L3⟩
  have N4:=new_below w2 (mb r s)
  have m4:=heap_new w2 (mb r s)
  have L4:=join_below (join_below L2 L3) N4
  go_wp2_with fail
  refine(HFR.out _ L4).mono ?_
  rintro e w3 ⟨rfl,L5⟩
  have L6:=join_below L4 L5
  go_wp2
  go_ret3
  exact⟨rfl,L6⟩

set_option maxRecDepth 100000 in
set_option maxHeartbeats 2000000 in
theorem specIssue_val (p q g x n:Int) (t:Hd) (nm:ByteArray) (a:Option Addr) (ls:List Lg) (cap:Nat) (za:Option Addr) (zs:List Int) (zc:Nat) (w:World) (hn:nm.size≤maxLen) (hl:ls.length≤1048576) (hz:zs.length≤9223372036854775807) (I:Legs w a ls) (J:Ints w za zs):
 Calls Tryz.prog 7 #[pv p q g,.int .i64 x,.int .i64 n,tkV t nm a ls.length cap,.slice za zs.length zc] w fun e w'=>e= .returned (iV (isV (okB t nm ls) (putS t nm ls) (signV p q g x (putS t nm ls) zs) n))∧Below w.heap.size w w':=by
 have hps:=put_small t nm ls
 have hpm:(putS t nm ls).size≤maxLen:=by unfold maxLen;omega
 have N1:=new_below w (pb p q g)
 have b1:=heap_new w (pb p q g)
 have N2:=new_below (w.alloc (pb p q g)) (tkB t nm a ls.length cap 28)
 have b2:=heap_old b1 (tkB t nm a ls.length cap 28)
 have L0:=join_below N1 N2
 clear N1 N2 b1
 have HPI:Hid (∀W:World,Below w.heap.size w W→_):=fun W L=>Tk.specPut_val t nm a ls cap W hn hl (I.on L)
 have HSI:Hid (∀W:World,Below w.heap.size w W→_):=fun W L=>Num.specSign_val p q g x (putS t nm ls) za zs zc W hpm hz (J.on L)
 obtain⟨r,s,i,fine,hv⟩:∃r s i f,signV p q g x (putS t nm ls) zs=(r,s,i,f):=⟨_,_,_,_,rfl⟩
 rw[hv]at HSI⊢
 clear hv
 generalize putS t nm ls=P at*
 generalize okB t nm ls=ok at*
 have HFR:Hid (∀W:World,_):=fun W=>specFrame_val n r s P W hpm
 rcases is_cases ok P r s i fine n with⟨rfl,he⟩|⟨rfl,rfl,he⟩|⟨rfl,rfl,hf,he⟩|⟨rfl,rfl,hf,he⟩
 all_goals
  rw[he]
  clear he hps hpm I J
 ·generalize frT n r s P=F at*
  generalize frB n r s P=B at*
  go_enter Tryz.func7,Tryz.ntmps7
  go_wp2_with fail
  refine(HPI.out _ L0).mono ?_
  rintro e w1 ⟨rfl,L1⟩
  have b3:=kept L1 (lt_of b2) b2
  have L2:=join_below L0 L1
  have c0:w1.cell? ⟨w.heap.size,0,none⟩=some (.int .i64 p):=cell_at b3 0
  have c1:w1.cell? ⟨w.heap.size,1,none⟩=some (.int .i64 q):=cell_at b3 1
  have c2:w1.cell? ⟨w.heap.size,2,none⟩=some (.int .i64 g):=cell_at b3 2
  go_wp2_with fail
  refine(HSI.out _ L2).mono ?_
  rintro e w2 ⟨rfl,L3⟩
  have N4:=new_below w2 (mb r s)
  have m4:=heap_new w2 (mb r s)
  have L4:=join_below (join_below L2 L3) N4
  go_wp2_with fail
  refine(HFR.out _).mono ?_
  rintro e w3 ⟨rfl,L5⟩
  have L6:=join_below L4 L5
  go_wp2
  go_ret3
  exact⟨rfl,L6⟩
 ·generalize frT n r s P=F at*
  generalize frB n r s P=B at*
  go_enter Tryz.func7,Tryz.ntmps7
  go_wp2_with fail
  refine(HPI.out _ L0).mono ?_
  rintro e w1 ⟨rfl,L1⟩
  have b3:=kept L1 (lt_of b2) b2
  have L2:=join_below L0 L1
  have c0:w1.cell? ⟨w.heap.size,0,none⟩=some (.int .i64 p):=cell_at b3 0
  have c1:w1.cell? ⟨w.heap.size,1,none⟩=some (.int .i64 q):=cell_at b3 1
  have c2:w1.cell? ⟨w.heap.size,2,none⟩=some (.int .i64 g):=cell_at b3 2
  go_wp2_with fail
  refine(HSI.out _ L2).mono ?_
  rintro e w2 ⟨rfl,L3⟩
  have N4:=new_below w2 (mb r s)
  have m4:=heap_new w2 (mb r s)
  have L4:=join_below (join_below L2 L3) N4
  go_wp2_with fail
  refine(HFR.out _).mono ?_
  rintro e w3 ⟨rfl,L5⟩
  have L6:=join_below L4 L5
  go_wp2
  go_ret3
  exact⟨rfl,L6⟩
 ·rw[hf,frT_no hf]at HFR
  go_enter Tryz.func7,Tryz.ntmps7
  go_wp2_with fail
  refine(HPI.out _ L0).mono ?_
  rintro e w1 ⟨rfl,L1⟩
  have b3:=kept L1 (lt_of b2) b2
  have L2:=join_below L0 L1
  have c0:w1.cell? ⟨w.heap.size,0,none⟩=some (.int .i64 p):=cell_at b3 0
  have c1:w1.cell? ⟨w.heap.size,1,none⟩=some (.int .i64 q):=cell_at b3 1
  have c2:w1.cell? ⟨w.heap.size,2,none⟩=some (.int .i64 g):=cell_at b3 2
  go_wp2_with fail
  refine(HSI.out _ L2).mono ?_
  rintro e w2 ⟨rfl,L3⟩
  have N4:=new_below w2 (mb r s)
  have m4:=heap_new w2 (mb r s)
  have L4:=join_below (join_below L2 L3) N4
  go_wp2_with fail
  refine(HFR.out _).mono ?_
  rintro e w3 ⟨rfl,L5⟩
  have L6:=join_below L4 L5
  go_wp2
  go_ret3
  exact⟨rfl,L6⟩
 ·rw[hf]at HFR
  generalize frT n r s P=F at*
  go_enter Tryz.func7,Tryz.ntmps7
  go_wp2_with fail
  refine(HPI.out _ L0).mono ?_
  rintro e w1 ⟨rfl,L1⟩
  have b3:=kept L1 (lt_of b2) b2
  have L2:=join_below L0 L1
  have c0:w1.cell? ⟨w.heap.size,0,none⟩=some (.int .i64 p):=cell_at b3 0
  have c1:w1.cell? ⟨w.heap.size,1,none⟩=some (.int .i64 q):=cell_at b3 1
  have c2:w1.cell? ⟨w.heap.size,2,none⟩=some (.int .i64 g):=cell_at b3 2
  go_wp2_with fail
  refine(HSI.out _ L2).mono ?_
  rintro e w2 ⟨rfl,L3⟩
  have N4:=new_below w2 (mb r s)
  have m4:=heap_new w2 (mb r s)
  have L4:=join_below (join_below L2 L3) N4
  go_wp2_with fail
  refine(HFR.out _).mono ?_
  rintro e w3 ⟨rfl,L5⟩
  have L6:=join_below L4 L5
  go_wp2
  go_ret3
  exact⟨rfl,L6⟩

end Is4
end Go.Proofs.YtcjgkmhpeedhiaaGreatDoor

/- The draw of a text with a byte changed, cut or put in: some text, hardly longer. -/
namespace Go.Proofs.YtcjgkmhpeedhiaaGreatDoor
namespace Cur
open Go.ChangeShapes Go.WideShapes Go.ChangeAt Go.RowKit
set_option linter.unusedSimpArgs false
set_option linter.unusedVariables false

theorem size_join (a b c:ByteArray):(a++b++c).size=a.size+b.size+c.size:=by rw[ByteArray.size_append,ByteArray.size_append]

set_option maxRecDepth 100000 in
set_option maxHeartbeats 4000000 in
theorem spoil_any {W0:World} {a:Option Addr} {n cap c:Nat} {w:World} (C:Is W0 a n cap c w) (s:ByteArray) (hs:s.size≤1000000):
 Calls Tryz.prog 31 #[.pointer (some ⟨c,0,none⟩),.string s] w fun e w'=>(∃r:ByteArray,e= .returned (.string r)∧r.size≤s.size+1)∧Is W0 a n cap c w'∧Kb c w w':=by
 have HB1:Hid (∀_:Unit,_):=fun _=>below_any C ((s.size:Int)+1)
 go_enter Tryz.func31,Tryz.ntmps31
 go_wp2_with fail
 refine(HB1.out ()).mono ?_
 rintro e w1 ⟨⟨x,rfl,hx0,hx1⟩,C1,M1⟩
 have hx2:=hx1 (by omega)
 obtain⟨i,rfl⟩:∃i:Nat,x=i:=⟨x.toNat,by omega⟩
 have K1:=Kb.moved M1
 clear HB1 hx1 hx0 M1
 go_wp2_with fail
 refine(below_any C1 8).mono ?_
 rintro e w2 ⟨⟨y,rfl,hy0,hy1⟩,C2,M2⟩
 have hy2:=hy1 (by omega)
 have K2:=K1.trans (Kb.moved M2)
 have hi0:(0:Int)≤(i:Int):=by omega
 have hi1:(i:Int)≤(s.size:Int):=by omega
 clear C1 K1 M2 hy1
 by_cases y0:y=0
 ·subst y0
  go_wp2
  go_ret
  exact⟨⟨_,rfl,by rw[ByteArray.size_extract];omega⟩,C2,K2⟩
 ·by_cases y1:y=1
  ·subst y1
   have CP:Is W0 a n cap c (w2.alloc (.cells #[.string ⟨#[32]⟩,.string ⟨#[48]⟩,.string ⟨#[10]⟩,.string ⟨#[120]⟩] 9)).drew:=(C2.alloc (.cells #[.string ⟨#[32]⟩,.string ⟨#[48]⟩,.string ⟨#[10]⟩,.string ⟨#[120]⟩] 9)).drewN 1
   have RW:RowOfS (fun z=>z.size=1) (w2.alloc (.cells #[.string ⟨#[32]⟩,.string ⟨#[48]⟩,.string ⟨#[10]⟩,.string ⟨#[120]⟩] 9)).drew w2.heap.size 4:=rowOfS_new (fun z=>z.size=1) w2 [⟨#[32]⟩,⟨#[48]⟩,⟨#[10]⟩,⟨#[120]⟩] 9 (by
    intro z hz
    simp at hz
    rcases hz with rfl|rfl|rfl|rfl<;>rfl)
   have hwc:w2.heap.size≠c:=by have:=C2.lt;omega
   have HPK:Hid (∀_:Unit,_):=fun _=>pick_any CP (fun z=>z.size=1) w2.heap.size 4 4 hwc (by omega) (by omega) RW
   clear RW CP
   go_wp2
   go_region_with (go_at_call 46;(with_reducible refine(HPK.out ()).mono ?_);rintro e x5 ⟨⟨d,rfl,hd⟩,C5,M5⟩;have KD:Kb c w x5:=(K2.alloc _).drew.trans (Kb.moved M5);have hq1:¬9223372036854775807<(s.extract 0 i).size+d.size:=(by rw[ByteArray.size_extract];omega);have hq2:¬9223372036854775807<(s.extract 0 i).size+d.size+(s.extract i s.size).size:=(by rw[ByteArray.size_extract,ByteArray.size_extract];omega))
   all_goals
    go_wp2
    go_ret
    exact⟨⟨_,rfl,by rw[size_join,ByteArray.size_extract,ByteArray.size_extract];omega⟩,C5,KD⟩
  ·by_cases y3:y=2
   ·subst y3
    by_cases hlt:i<s.size
    ·have hlI:(i:Int)<(s.size:Int):=by omega
     have hi2:(i:Int)+1≤(s.size:Int):=by omega
     have hi3:(0:Int)≤(i:Int)+1:=by omega
     have hi4:((i:Int)+1).toNat=i+1:=by omega
     have hwr:IntKind.i64.wrap ((i:Int)+1)=(i:Int)+1:=by rw[IntKind.wrap_i64];omega
     have hi5:decide ((i:Int)+1≤(s.size:Int))=true:=decide_eq_true hi2
     have hi6:¬(s.size:Int)<(i:Int)+1:=by omega
     have hsl:∀W,(Instr.slice 9 (.string s) (some (.int .i64 ((i:Int)+1))) none none).run Tryz.prog W= .ok (.string (s.extract (i+1) s.size)) W:=fun W=>by
      simp[go_sem,Tryz.underlying9,hi2,hi3,hi4]
      try omega
     have HBK:Hid (∀wx,Is W0 a n cap c wx→_):=fun wx hC=>bytes_kb hC 1 (by omega)
     rw[show((1:Nat):Int)=1 from rfl]at HBK
     go_wp2
     go_region_with (go_at_call 70;(with_reducible refine(HBK.out _ ?_).mono ?_);(first|exact C2|exact C2.drewN 1);rintro e x5 ⟨⟨d,rfl,hd⟩,C5,M5⟩;have KD:Kb c w x5:=(by first|exact K2.trans M5|exact K2.drew.trans M5);have hq1:¬9223372036854775807<(s.extract 0 i).size+d.size:=(by rw[ByteArray.size_extract];omega);have hq2:¬9223372036854775807<(s.extract 0 i).size+d.size+(s.extract (i+1) s.size).size:=(by rw[ByteArray.size_extract,ByteArray.size_extract];omega))
     all_goals
      go_wp2
      go_ret
      exact⟨⟨_,rfl,by rw[size_join,ByteArray.size_extract,ByteArray.size_extract];omega⟩,C5,KD⟩
    ·have hlI:¬(i:Int)<(s.size:Int):=by omega
     go_wp2
     go_ret
     exact⟨⟨s,rfl,by omega⟩,C2,K2⟩
   ·have z0:(y==0)=false:=beq_eq_false_iff_ne.2 y0
    have z1:(y==1)=false:=beq_eq_false_iff_ne.2 y1
    have z2:(y==2)=false:=beq_eq_false_iff_ne.2 y3
    go_wp2
    go_ret
    exact⟨⟨s,rfl,by omega⟩,C2,K2⟩

end Cur
end Go.Proofs.YtcjgkmhpeedhiaaGreatDoor

/- The draw of what is read. -/
namespace Go.Proofs.YtcjgkmhpeedhiaaGreatDoor
namespace Cur
open Go.ChangeShapes Go.WideShapes Go.ChangeAt Go.RowKit
open Pk (own_form new_below join_below heap_new lt_of kept cell_at heap_old frozen_at info_of own_below own_ne own_ne')
open Tk (Lg Hd tkV tkB Legs)
open Gt (lcells lc1)
open Num (pv mv pb mb)
set_option linter.unusedSimpArgs false
set_option linter.unusedVariables false

theorem own_legs' {w:World} {base:Nat} {va:Option Addr} {vc:Nat} {ls:List Lg} (h:w.ownsRow base 64 6 (.slice va ls.length vc) ls.length (lcells ls)):Legs w va ls:=by
 obtain⟨a,c,e,I⟩:=Gt.own_legs h
 simp only[Value.slice.injEq,true_and]at e
 rw[e.1]
 exact I

theorem issue_any (p q g x n:Int) (t:Hd) (nm:ByteArray) (va:Option Addr) (ls:List Lg) (vc:Nat) (za:Option Addr) (zs:List Int) (zc:Nat) (w:World) (hn:nm.size≤40) (hl:ls.length≤3) (hz:zs.length=4) (I:Legs w va ls) (J:Num.Ints w za zs):
 Calls Tryz.prog 7 #[pv p q g,.int .i64 x,.int .i64 n,tkV t nm va ls.length vc,.slice za 4 zc] w fun e w'=>(∃(s:ByteArray) (i:Int) (b:Bool),e= .returned (.tuple #[.string s,.int .i64 i,.bool b])∧s.size≤4000)∧Below w.heap.size w w':=by
 have h:=Is4.specIssue_val p q g x n t nm va ls vc za zs zc w (by unfold maxLen;omega) (by omega) (by omega) I J
 rw[hz]at h
 exact h.mono fun e w' h=>⟨⟨_,_,_,h.1,Is4.isV_size _ _ _ _⟩,h.2⟩

theorem frame_any (n r s:Int) (t:ByteArray) (w:World) (ht:t.size≤100):
 Calls Tryz.prog 25 #[.int .i64 n,.agg #[.int .i64 r,.int .i64 s],.string t] w fun e w'=>(∃(f:ByteArray) (b:Bool),e= .returned (.tuple #[.string f,.bool b])∧f.size≤4000)∧Below w.heap.size w w':=
 (Is4.specFrame_val n r s t w (by unfold maxLen;omega)).mono fun e w' h=>⟨⟨_,_,h.1,Is4.frT_size _ _ _ _⟩,h.2⟩

theorem signed_any (p q g x:Int) (t:ByteArray) (za:Option Addr) (zs:List Int) (zc:Nat) (w:World) (ht:t.size≤100) (hz:zs.length=4) (J:Num.Ints w za zs):
 Calls Tryz.prog 24 #[pv p q g,.int .i64 x,.string t,.slice za 4 zc] w fun e w'=>(∃(r s i:Int) (b:Bool),e= .returned (.tuple #[mv r s,.int .i64 i,.bool b]))∧Below w.heap.size w w':=by
 have h:=Num.specSign_val p q g x t za zs zc w (by unfold maxLen;omega) (by omega) J
 rw[hz]at h
 exact h.mono fun e w' h=>⟨⟨_,_,_,_,h.1⟩,h.2⟩

set_option maxRecDepth 100000 in
set_option maxHeartbeats 8000000 in
theorem drawRead (w:World) (a:Option Addr) (n cap:Nat) (hn:n≤1048576) (B:Bytes w a n):
 Calls Tryz.prog 11 #[.slice a n cap] w fun e w'=>(∃(p q g o i:Int) (r:ByteArray),e= .returned (.tuple #[pv p q g,.int .i64 o,.int .i64 i,.string r])∧r.size≤4001)∧Below w.heap.size w w':=by
 have N0:=new_below w (pb 0 0 0)
 have r0:=heap_new w (pb 0 0 0)
 have hs0:(w.alloc (pb 0 0 0)).heap.size=w.heap.size+1:=Array.size_push ..
 have B0:=B.on N0
 have NB:=N0
 clear N0 B
 go_enter Tryz.func11,Tryz.ntmps11
 go_wp2_with fail
 refine(new_any (w.alloc (pb 0 0 0)) a n cap hn B0).mono ?_
 rintro e w1 ⟨rfl,C1⟩
 have mR1:=(C1.below.block w.heap.size (by omega)).trans r0
 generalize w.alloc (pb 0 0 0)=W0 at*
 rw[hs0]at C1⊢
 obtain⟨c,hc⟩:∃c,w.heap.size+1=c:=⟨_,rfl⟩
 rw[hc]at C1 hs0⊢
 clear r0 B0
 go_wp2_with fail
 refine(params_any C1).mono ?_
 rintro e w2 ⟨⟨p,q,g,rfl,hL⟩,C2,K2⟩
 have hb:=listed_bd hL
 have HL:Hid (Listed p q g):=hL
 have mR3:=heap_old (K2.at (show w.heap.size≠c by omega) mR1) (pb p q g)
 have mP2:=heap_new w2 (pb p q g)
 have C3:=C2.alloc (pb p q g)
 have hc2:=C2.lt
 clear mR1 C1 C2 K2 hL
 generalize hP:w2.heap.size=P at*
 have c1:(w2.alloc (pb p q g)).cell? ⟨P,1,none⟩=some (.int .i64 q):=cs_cell mP2 1
 go_wp2_with fail
 refine(below_any C3 _).mono ?_
 rintro e w3 ⟨⟨x,rfl,hx0,hx1⟩,C4,M4⟩
 have hx2:=hx1 (by omega)
 have mP4:=(M4.block P (by omega)).trans mP2
 have mR4:=(M4.block w.heap.size (by omega)).trans mR3
 clear hx1 mP2 mR3 C3 M4 c1 hP
 have hkb:=key_bd (x:=1+x) HL.out (by omega) (by omega)
 have HKV:Hid (∀W:World,_):=fun W=>Num.specOpenKey_val p q g (1+x) W
 generalize Num.keyI p q g (1+x)=o at*
 generalize Num.keyB p q g (1+x)=ob at*
 have c0:w3.cell? ⟨P,0,none⟩=some (.int .i64 p):=cs_cell mP4 0
 have c1:w3.cell? ⟨P,1,none⟩=some (.int .i64 q):=cs_cell mP4 1
 have c2:w3.cell? ⟨P,2,none⟩=some (.int .i64 g):=cs_cell mP4 2
 go_wp2_with fail
 refine(HKV.out _).mono ?_
 rintro e w5 ⟨rfl,L5⟩
 have C5:=C4.kept L5
 have mP5:=kept L5 (lt_of mP4) mP4
 have mR5:=kept L5 (lt_of mR4) mR4
 have hc5:=C5.lt
 clear c0 c1 c2 L5 C4 mP4 mR4 HKV
 have hpc:¬P=c:=by omega
 have hrc:¬w.heap.size=c:=by omega
 have hrp:¬w.heap.size=P:=by omega
 have hpr:¬P=w.heap.size:=by omega
 have hw1:IntKind.i64.wrap (q-1)=q-1:=wrap_is _ (by omega)
 have hw2:IntKind.i64.wrap (o+1)=o+1:=wrap_is _ (by omega)
 have HIS:Hid (∀(t:Hd) (nm:ByteArray) (va:Option Addr) (ls:List Lg) (vc:Nat) (b:Nat) (z:Int) (k:Nat) (W:World),nm.size≤40→ls.length≤3→Legs W va ls→Num.Ints W (some ⟨b,0,none⟩) [z,2,3,5]→_):=fun t nm va ls vc b z k W h1 h2 I J=>issue_any p q g (1+x) 80 t nm va ls vc (some ⟨b,0,none⟩) [z,2,3,5] k W h1 h2 rfl I J
 have HSN:Hid (∀(b:Nat) (k:Nat) (W:World),Num.Ints W (some ⟨b,0,none⟩) [2,3,5,7]→_):=fun b k W J=>signed_any p q g (1+x) ⟨#[110,111,32,116,105,99,107,101,116]⟩ (some ⟨b,0,none⟩) [2,3,5,7] k W (by decide) rfl J
 have HFA:Hid (∀(r s:Int) (W:World),_):=fun r s W=>frame_any 80 r s ⟨#[110,111,32,116,105,99,107,101,116]⟩ W (by decide)
 have C5d:Is W0 a n cap c w5.drew:=C5.drewN 1
 have c0:w5.cell? ⟨P,0,none⟩=some (.int .i64 p):=cs_cell mP5 0
 have c1:w5.cell? ⟨P,1,none⟩=some (.int .i64 q):=cs_cell mP5 1
 have c2:w5.cell? ⟨P,2,none⟩=some (.int .i64 g):=cs_cell mP5 2
 go_wp2
 go_cut [11,12,13]from 14 (fun s11 s12 s13 wc=>∃(s:ByteArray) (i:Int) (b:Bool),s11= .string s∧s12= .int .i64 i∧s13= .bool b∧s.size≤4000∧Is W0 a n cap c wc∧wc.heap[P]? =some (pb p q g)∧wc.heap[w.heap.size]? =some (pb 0 0 0))
 case first=>
  go_region_held3 (fun w'=>w'.cell? ⟨P,0,none⟩=some (.int .i64 p)∧w'.cell? ⟨P,1,none⟩=some (.int .i64 q)∧w'.cell? ⟨P,2,none⟩=some (.int .i64 g)) (go_keep) (first
   |(go_at_call 19;(with_reducible refine(right_any C5d).mono ?_);rintro e w6 ⟨⟨t,nm,va,vc,ls,rfl,hnm,hl1,hl2,O6⟩,C6,K6⟩;have mP6:=K6.at hpc mP5;have mR6:=K6.at hrc mR5;have e3:w6.cell? ⟨P,0,none⟩=some (.int .i64 p):=cs_cell mP6 0;have e4:w6.cell? ⟨P,1,none⟩=some (.int .i64 q):=cs_cell mP6 1;have e5:w6.cell? ⟨P,2,none⟩=some (.int .i64 g):=cs_cell mP6 2;clear C5d K6)
   |(go_at_call 18;(with_reducible refine(below_any C6 _).mono ?_);rintro e w7 ⟨⟨z,rfl,hz0,hz1⟩,C7,M7⟩;have hz2:=hz1 (by omega);have hw3:IntKind.i64.wrap (1+z)=1+z:=wrap_is _ (by omega);have O7:=own_kb O6 (Kb.moved M7) hc5;have mP7:=(M7.block P hpc).trans mP6;have mR7:=(M7.block w.heap.size hrc).trans mR6;have N8:=new_below w7 (.cells #[.int .i64 (1+z),.int .i64 2,.int .i64 3,.int .i64 5] 3);have IZ:Num.Ints (w7.alloc (.cells #[.int .i64 (1+z),.int .i64 2,.int .i64 3,.int .i64 5] 3)) (some ⟨w7.heap.size,0,none⟩) [1+z,2,3,5]:=ints_new w7 [1+z,2,3,5] 3;have I8:=(own_legs' O7).on N8;have mP8:=kept N8 (lt_of mP7) mP7;have mR8:=kept N8 (lt_of mR7) mR7;have C8:=C7.alloc (.cells #[.int .i64 (1+z),.int .i64 2,.int .i64 3,.int .i64 5] 3);have e6:w7.cell? ⟨P,0,none⟩=some (.int .i64 p):=cs_cell mP7 0;have e7:w7.cell? ⟨P,1,none⟩=some (.int .i64 q):=cs_cell mP7 1;have e8:w7.cell? ⟨P,2,none⟩=some (.int .i64 g):=cs_cell mP7 2;have hPl7:P<w7.heap.size:=lt_of mP7;clear hz1 C6)
   |(go_at_call 7;(with_reducible refine(HIS.out t nm va ls vc _ _ _ _ hnm hl2 I8 IZ).mono ?_);rintro e w9 ⟨⟨s,i,b,rfl,hs⟩,L9⟩;have mP9:=kept L9 (lt_of mP8) mP8;have mR9:=kept L9 (lt_of mR8) mR8;have C9:=C8.kept L9;have e9:w9.cell? ⟨P,0,none⟩=some (.int .i64 p):=cs_cell mP9 0;have e10:w9.cell? ⟨P,1,none⟩=some (.int .i64 q):=cs_cell mP9 1;have e11:w9.cell? ⟨P,2,none⟩=some (.int .i64 g):=cs_cell mP9 2))
  all_goals
   go_wp2_with fail
   go_meet
   case rel=>exact⟨s,i,b,rfl,rfl,rfl,hs,C9,mP9,mR9⟩
 case rest=>
  obtain⟨s,i,b,rfl,rfl,rfl,hs,C9,mP9,mR9⟩:=hcut
  rename_i wc
  clear C5 C5d mP5 mR5 c0 c1 c2 hc5 HIS
  go_wp2_with fail
  refine(below_any C9 _).mono ?_
  rintro e w10 ⟨⟨v,rfl,hv0,hv1⟩,C10,M10⟩
  have mP10:=(M10.block P hpc).trans mP9
  have mR10:=(M10.block w.heap.size hrc).trans mR9
  clear hv1 C9 M10 mP9 mR9
  by_cases v0:v=0
  ·subst v0
   clear HSN HFA hw1 hw2
   have c0:w10.cell? ⟨P,0,none⟩=some (.int .i64 p):=cs_cell mP10 0
   have c1:w10.cell? ⟨P,1,none⟩=some (.int .i64 q):=cs_cell mP10 1
   have c2:w10.cell? ⟨P,2,none⟩=some (.int .i64 g):=cs_cell mP10 2
   have Cd:Is W0 a n cap c w10.drew:=C10.drewN 1
   have HSP:Hid (∀_:Unit,_):=fun _=>spoil_any Cd s (by omega)
   go_wp2
   go_region_held3 (fun w'=>w'.cell? ⟨P,0,none⟩=some (.int .i64 p)∧w'.cell? ⟨P,1,none⟩=some (.int .i64 q)∧w'.cell? ⟨P,2,none⟩=some (.int .i64 g)) (go_keep) (first
    |(go_at_call 31;(with_reducible refine(HSP.out ()).mono ?_);rintro e w20 ⟨⟨r,rfl,hr⟩,C20,K20⟩;have mP20:=K20.at hpc mP10;have mR20:=K20.at hrc mR10;have e0:w20.cell? ⟨P,0,none⟩=some (.int .i64 p):=cs_cell mP20 0;have e1:w20.cell? ⟨P,1,none⟩=some (.int .i64 q):=cs_cell mP20 1;have e2:w20.cell? ⟨P,2,none⟩=some (.int .i64 g):=cs_cell mP20 2;have b0:w20.cell? ⟨w.heap.size,0,none⟩=some (.int .i64 0):=cs_cell mR20 0;have b1:w20.cell? ⟨w.heap.size,1,none⟩=some (.int .i64 0):=cs_cell mR20 1;have b2:w20.cell? ⟨w.heap.size,2,none⟩=some (.int .i64 0):=cs_cell mR20 2;have f0:=cs_frozen mR20 0;have f1:=cs_frozen mR20 1;have f2:=cs_frozen mR20 2))
   all_goals
    have mR9:=put3_heap mR20 p q g
    have LL:Below w.heap.size w w20:=NB.trans (C20.below.mono NB.size)
    have L9:=put3_below LL (Nat.le_refl _) p q g
    have hr9:r.size≤4001:=by omega
    change Exit.then _ _ _ _ (put3 w20 w.heap.size p q g)
    generalize put3 w20 w.heap.size p q g=W9 at*
    clear LL C20 K20 mP20 mR20 e0 e1 e2 b0 b1 b2 f0 f1 f2 HSP Cd
    have k0:W9.cell? ⟨w.heap.size,0,none⟩=some (.int .i64 p):=cell_at mR9 0
    have k1:W9.cell? ⟨w.heap.size,1,none⟩=some (.int .i64 q):=cell_at mR9 1
    have k2:W9.cell? ⟨w.heap.size,2,none⟩=some (.int .i64 g):=cell_at mR9 2
    go_wp2
    refine bodyPost_ret (v:= .tuple #[pv p q g,.int .i64 o,.int .i64 81,.string r]) (by simp[results,Tryz.results11,go_sem,k0,k1,k2]) rfl ?_
    exact⟨⟨p,q,g,o,81,r,rfl,hr9⟩,L9⟩
  by_cases v1:v=1
  ·subst v1
   clear HSN HFA
   have RW:=row_any w10 [1,o+1,g] (fun _=>True) (fun _ _=>trivial)
   have N11:=new_below w10 (.cells (([1,o+1,g]:List Int).map (Value.int .i64)).toArray 3)
   have C11:=C10.alloc (.cells (([1,o+1,g]:List Int).map (Value.int .i64)).toArray 3)
   have mP11:=kept N11 (lt_of mP10) mP10
   have mR11:=kept N11 (lt_of mR10) mR10
   have hc10:=C10.lt
   have HPI:Hid (∀_:Unit,_):=fun _=>pickInt_any C11 (fun _=>True) w10.heap.size 3 3 (by omega) (by omega) (by omega) RW
   have i0:w10.cell? ⟨P,0,none⟩=some (.int .i64 p):=cs_cell mP10 0
   have i1:w10.cell? ⟨P,1,none⟩=some (.int .i64 q):=cs_cell mP10 1
   have i2:w10.cell? ⟨P,2,none⟩=some (.int .i64 g):=cs_cell mP10 2
   go_wp2_with fail
   refine(HPI.out ()).mono ?_
   rintro e w12 ⟨⟨o2,rfl,-⟩,C12,M12⟩
   have mP12:=(M12.block P hpc).trans mP11
   have mR12:=(M12.block w.heap.size hrc).trans mR11
   clear i0 i1 i2 HPI RW N11 C11 mP11 mR11 M12 C10 mP10 mR10 hc10
   have c0:w12.cell? ⟨P,0,none⟩=some (.int .i64 p):=cs_cell mP12 0
   have c1:w12.cell? ⟨P,1,none⟩=some (.int .i64 q):=cs_cell mP12 1
   have c2:w12.cell? ⟨P,2,none⟩=some (.int .i64 g):=cs_cell mP12 2
   have Cd:Is W0 a n cap c w12.drew:=C12.drewN 1
   have HSP:Hid (∀_:Unit,_):=fun _=>spoil_any Cd s (by omega)
   go_wp2
   go_region_held3 (fun w'=>w'.cell? ⟨P,0,none⟩=some (.int .i64 p)∧w'.cell? ⟨P,1,none⟩=some (.int .i64 q)∧w'.cell? ⟨P,2,none⟩=some (.int .i64 g)) (go_keep) (first
    |(go_at_call 31;(with_reducible refine(HSP.out ()).mono ?_);rintro e w20 ⟨⟨r,rfl,hr⟩,C20,K20⟩;have mP20:=K20.at hpc mP12;have mR20:=K20.at hrc mR12;have e0:w20.cell? ⟨P,0,none⟩=some (.int .i64 p):=cs_cell mP20 0;have e1:w20.cell? ⟨P,1,none⟩=some (.int .i64 q):=cs_cell mP20 1;have e2:w20.cell? ⟨P,2,none⟩=some (.int .i64 g):=cs_cell mP20 2;have b0:w20.cell? ⟨w.heap.size,0,none⟩=some (.int .i64 0):=cs_cell mR20 0;have b1:w20.cell? ⟨w.heap.size,1,none⟩=some (.int .i64 0):=cs_cell mR20 1;have b2:w20.cell? ⟨w.heap.size,2,none⟩=some (.int .i64 0):=cs_cell mR20 2;have f0:=cs_frozen mR20 0;have f1:=cs_frozen mR20 1;have f2:=cs_frozen mR20 2))
   all_goals
    have mR9:=put3_heap mR20 p q g
    have LL:Below w.heap.size w w20:=NB.trans (C20.below.mono NB.size)
    have L9:=put3_below LL (Nat.le_refl _) p q g
    have hr9:r.size≤4001:=by omega
    change Exit.then _ _ _ _ (put3 w20 w.heap.size p q g)
    generalize put3 w20 w.heap.size p q g=W9 at*
    clear LL C20 K20 mP20 mR20 e0 e1 e2 b0 b1 b2 f0 f1 f2 HSP Cd
    have k0:W9.cell? ⟨w.heap.size,0,none⟩=some (.int .i64 p):=cell_at mR9 0
    have k1:W9.cell? ⟨w.heap.size,1,none⟩=some (.int .i64 q):=cell_at mR9 1
    have k2:W9.cell? ⟨w.heap.size,2,none⟩=some (.int .i64 g):=cell_at mR9 2
    go_wp2
    refine bodyPost_ret (v:= .tuple #[pv p q g,.int .i64 o2,.int .i64 80,.string r]) (by simp[results,Tryz.results11,go_sem,k0,k1,k2]) rfl ?_
    exact⟨⟨p,q,g,o2,80,r,rfl,hr9⟩,L9⟩
  by_cases v2:v=2
  ·subst v2
   have IZ:=ints_new w10 [2,3,5,7] 3
   have N11:=new_below w10 (.cells (([2,3,5,7]:List Int).map (Value.int .i64)).toArray 3)
   have C11:=C10.alloc (.cells (([2,3,5,7]:List Int).map (Value.int .i64)).toArray 3)
   have mP11:=kept N11 (lt_of mP10) mP10
   have mR11:=kept N11 (lt_of mR10) mR10
   have i0:w10.cell? ⟨P,0,none⟩=some (.int .i64 p):=cs_cell mP10 0
   have i1:w10.cell? ⟨P,1,none⟩=some (.int .i64 q):=cs_cell mP10 1
   have i2:w10.cell? ⟨P,2,none⟩=some (.int .i64 g):=cs_cell mP10 2
   go_wp2_with fail
   refine(HSN.out _ _ _ IZ).mono ?_
   rintro e w12 ⟨⟨r1,s1,j1,d1,rfl⟩,L12⟩
   have N13:=new_below w12 (mb r1 s1)
   have C13:=(C11.kept L12).alloc (mb r1 s1)
   have mP13:=kept N13 (lt_of (kept L12 (lt_of mP11) mP11)) (kept L12 (lt_of mP11) mP11)
   have mR13:=kept N13 (lt_of (kept L12 (lt_of mR11) mR11)) (kept L12 (lt_of mR11) mR11)
   clear i0 i1 i2 IZ N11 C11 mP11 mR11 C10 mP10 mR10 N13 L12
   go_wp2_with fail
   refine(HFA.out _ _ _).mono ?_
   rintro e w14 ⟨⟨s2,d2,rfl,hs2⟩,L14⟩
   have C14:=C13.kept L14
   have mP14:=kept L14 (lt_of mP13) mP13
   have mR14:=kept L14 (lt_of mR13) mR13
   clear C13 mP13 mR13 L14 HSN HFA hs
   have c0:w14.cell? ⟨P,0,none⟩=some (.int .i64 p):=cs_cell mP14 0
   have c1:w14.cell? ⟨P,1,none⟩=some (.int .i64 q):=cs_cell mP14 1
   have c2:w14.cell? ⟨P,2,none⟩=some (.int .i64 g):=cs_cell mP14 2
   have Cd:Is W0 a n cap c w14.drew:=C14.drewN 1
   have HSP:Hid (∀_:Unit,_):=fun _=>spoil_any Cd s2 (by omega)
   go_wp2
   go_region_held3 (fun w'=>w'.cell? ⟨P,0,none⟩=some (.int .i64 p)∧w'.cell? ⟨P,1,none⟩=some (.int .i64 q)∧w'.cell? ⟨P,2,none⟩=some (.int .i64 g)) (go_keep) (first
    |(go_at_call 31;(with_reducible refine(HSP.out ()).mono ?_);rintro e w20 ⟨⟨r,rfl,hr⟩,C20,K20⟩;have mP20:=K20.at hpc mP14;have mR20:=K20.at hrc mR14;have e0:w20.cell? ⟨P,0,none⟩=some (.int .i64 p):=cs_cell mP20 0;have e1:w20.cell? ⟨P,1,none⟩=some (.int .i64 q):=cs_cell mP20 1;have e2:w20.cell? ⟨P,2,none⟩=some (.int .i64 g):=cs_cell mP20 2;have b0:w20.cell? ⟨w.heap.size,0,none⟩=some (.int .i64 0):=cs_cell mR20 0;have b1:w20.cell? ⟨w.heap.size,1,none⟩=some (.int .i64 0):=cs_cell mR20 1;have b2:w20.cell? ⟨w.heap.size,2,none⟩=some (.int .i64 0):=cs_cell mR20 2;have f0:=cs_frozen mR20 0;have f1:=cs_frozen mR20 1;have f2:=cs_frozen mR20 2))
   all_goals
    have mR9:=put3_heap mR20 p q g
    have LL:Below w.heap.size w w20:=NB.trans (C20.below.mono NB.size)
    have L9:=put3_below LL (Nat.le_refl _) p q g
    have hr9:r.size≤4001:=by omega
    change Exit.then _ _ _ _ (put3 w20 w.heap.size p q g)
    generalize put3 w20 w.heap.size p q g=W9 at*
    clear LL C20 K20 mP20 mR20 e0 e1 e2 b0 b1 b2 f0 f1 f2 HSP Cd
    have k0:W9.cell? ⟨w.heap.size,0,none⟩=some (.int .i64 p):=cell_at mR9 0
    have k1:W9.cell? ⟨w.heap.size,1,none⟩=some (.int .i64 q):=cell_at mR9 1
    have k2:W9.cell? ⟨w.heap.size,2,none⟩=some (.int .i64 g):=cell_at mR9 2
    go_wp2
    refine bodyPost_ret (v:= .tuple #[pv p q g,.int .i64 o,.int .i64 80,.string r]) (by simp[results,Tryz.results11,go_sem,k0,k1,k2]) rfl ?_
    exact⟨⟨p,q,g,o,80,r,rfl,hr9⟩,L9⟩
  have n0:(v==0)=false:=by simp[v0]
  have n1:(v==1)=false:=by simp[v1]
  have n2:(v==2)=false:=by simp[v2]
  clear HSN HFA hw1 hw2
  have c0:w10.cell? ⟨P,0,none⟩=some (.int .i64 p):=cs_cell mP10 0
  have c1:w10.cell? ⟨P,1,none⟩=some (.int .i64 q):=cs_cell mP10 1
  have c2:w10.cell? ⟨P,2,none⟩=some (.int .i64 g):=cs_cell mP10 2
  have Cd:Is W0 a n cap c w10.drew:=C10.drewN 1
  have HSP:Hid (∀_:Unit,_):=fun _=>spoil_any Cd s (by omega)
  go_wp2
  go_region_held3 (fun w'=>w'.cell? ⟨P,0,none⟩=some (.int .i64 p)∧w'.cell? ⟨P,1,none⟩=some (.int .i64 q)∧w'.cell? ⟨P,2,none⟩=some (.int .i64 g)) (go_keep) (first
   |(go_at_call 31;(with_reducible refine(HSP.out ()).mono ?_);rintro e w20 ⟨⟨r,rfl,hr⟩,C20,K20⟩;have mP20:=K20.at hpc mP10;have mR20:=K20.at hrc mR10;have e0:w20.cell? ⟨P,0,none⟩=some (.int .i64 p):=cs_cell mP20 0;have e1:w20.cell? ⟨P,1,none⟩=some (.int .i64 q):=cs_cell mP20 1;have e2:w20.cell? ⟨P,2,none⟩=some (.int .i64 g):=cs_cell mP20 2;have b0:w20.cell? ⟨w.heap.size,0,none⟩=some (.int .i64 0):=cs_cell mR20 0;have b1:w20.cell? ⟨w.heap.size,1,none⟩=some (.int .i64 0):=cs_cell mR20 1;have b2:w20.cell? ⟨w.heap.size,2,none⟩=some (.int .i64 0):=cs_cell mR20 2;have f0:=cs_frozen mR20 0;have f1:=cs_frozen mR20 1;have f2:=cs_frozen mR20 2))
  all_goals
   have mR9:=put3_heap mR20 p q g
   have LL:Below w.heap.size w w20:=NB.trans (C20.below.mono NB.size)
   have L9:=put3_below LL (Nat.le_refl _) p q g
   have hr9:r.size≤4001:=by omega
   change Exit.then _ _ _ _ (put3 w20 w.heap.size p q g)
   generalize put3 w20 w.heap.size p q g=W9 at*
   clear LL C20 K20 mP20 mR20 e0 e1 e2 b0 b1 b2 f0 f1 f2 HSP Cd
   have k0:W9.cell? ⟨w.heap.size,0,none⟩=some (.int .i64 p):=cell_at mR9 0
   have k1:W9.cell? ⟨w.heap.size,1,none⟩=some (.int .i64 q):=cell_at mR9 1
   have k2:W9.cell? ⟨w.heap.size,2,none⟩=some (.int .i64 g):=cell_at mR9 2
   go_wp2
   refine bodyPost_ret (v:= .tuple #[pv p q g,.int .i64 o,.int .i64 80,.string r]) (by simp[results,Tryz.results11,go_sem,k0,k1,k2]) rfl ?_
   exact⟨⟨p,q,g,o,80,r,rfl,hr9⟩,L9⟩

end Cur
end Go.Proofs.YtcjgkmhpeedhiaaGreatDoor

/- Blocks of cells that are told by a function of their number. -/
namespace Go.Proofs.YtcjgkmhpeedhiaaGreatDoor
namespace Sq
open Go.ChangeShapes Go.WideShapes Go.ChangeAt Go.RowKit
set_option linter.unusedSimpArgs false
set_option linter.unusedVariables false

def tab (c:Nat) (f:Nat→Value):Array Value:=((List.range c).map f).toArray

theorem tab_at (c:Nat) (f:Nat→Value) (i:Nat) (h:i<c):(tab c f)[i]? =some (f i):=by simp[tab,h]

theorem tab_congr {c:Nat} {f g:Nat→Value} (h:∀j,j<c→f j=g j):tab c f=tab c g:=by
 unfold tab
 congr 1
 exact List.map_congr_left fun j hj=>h j (List.mem_range.1 hj)

theorem tab_set (c:Nat) (f:Nat→Value) (i:Nat) (u:Value):(tab c f).setIfInBounds i u=tab c (fun j=>if j=i then u else f j):=by
 apply Array.ext
 ·simp[tab]
 ·intro j h1 h2
  have hj:j<c:=by simpa [tab]using h2
  by_cases e:i=j
  ·subst e;simp[tab]
  ·simp[tab,e,Ne.symm e,Array.getElem_setIfInBounds]

theorem row_at {w:World} {g c:Nat} {f:Nat→Value} {t:TypeId} (h:w.heap[g]? =some (.cells (tab c f) t)) (i:Nat) (hi:i<c):w.cell? ⟨g,i,none⟩=some (f i):=by
 rw[Pk.cell_at h i,tab_at c f i hi]

theorem row_set {w:World} {g c:Nat} {f f':Nat→Value} {t:TypeId} (h:w.heap[g]? =some (.cells (tab c f) t)) (i:Nat) (u:Value) (hf:∀j,j<c→f' j=if j=i then u else f j):(w.setCell ⟨g,i,none⟩ u).heap[g]? =some (.cells (tab c f') t):=by
 rw[tab_congr hf,←tab_set]
 unfold World.setCell
 simp[Array.getElem?_modify,h]

theorem made_tab (z:Value) (hz:z.cells= #[z]) (c:Nat):madeCells z.cells (c*1)=tab c (fun _=>z):=by
 apply Array.ext
 ·simp[madeCells,tab]
 ·intro i h1 h2
  simp[madeCells,tab,hz,Nat.mod_one]

theorem make_run (t e:TypeId) (z:Value) (b c:Nat) (ht:Tryz.prog.underlying t=some (.slice e)) (hi:(Tryz.prog.info? e).map (fun i=>(i.zero,i.size,i.bytes))=some (some z,1,b)) (hz:z.cells= #[z]) (hc:b*c≤281474976710656) (h63:c≤281474976710656) (w:World):
 (Instr.makeSlice t (.int .i64 c) (.int .i64 c)).run Tryz.prog w= .ok (.slice (some ⟨w.heap.size,0,none⟩) c c) (w.alloc (.cells (tab c (fun _=>z)) e)):=by
 obtain⟨i,h1,h2,h3,h4⟩:=Pk.info_of hi
 have h:=run_make (P:=Tryz.prog) w t e i z ht h1 h2 .i64 .i64 c c (by omega) (by omega) (by rw[h4];omega) (by omega)
 rw[Int.toNat_natCast,h3,made_tab z hz]at h
 exact h

end Sq
end Go.Proofs.YtcjgkmhpeedhiaaGreatDoor

/- The library's variable that its search reads; the number that a word tells. -/
namespace Go.Proofs.YtcjgkmhpeedhiaaGreatDoor
namespace Gt
open Go.ChangeShapes Go.WideShapes Go.ChangeAt Go.RowKit
set_option linter.unusedSimpArgs false
set_option linter.unusedVariables false

def ML (w:World):Prop:=∃m:Int,w.cell? ⟨7,0,none⟩=some (.int .i64 m)

theorem ML.on {w w1:World} (h:ML w) (L:Below w.heap.size w w1):ML w1:=by
 obtain⟨m,hm⟩:=h
 exact⟨m,by rw[L.cell (World.block_lt_of_cell? w _ hm)];exact hm⟩

theorem ML.drew {w:World} (h:ML w):ML w.drew:=h

open Classical in
noncomputable def rv (x:ByteArray):Nat:=if Rd x then vl x else 0

theorem rv_yes {x:ByteArray} (h:Rd x):rv x=vl x:=by unfold rv;rw[if_pos h]

theorem rv_no {x:ByteArray} (h:¬Rd x):rv x=0:=by unfold rv;rw[if_neg h]

theorem info_int':(Tryz.prog.info? 3).map (fun i=>(i.zero,i.size,i.bytes))=some (some (.int .i64 0),1,8):=by kernel_rfl

end Gt
end Go.Proofs.YtcjgkmhpeedhiaaGreatDoor

/- The numbers behind a word: the program's numbersIn. -/
namespace Go.Proofs.YtcjgkmhpeedhiaaGreatDoor
namespace Gt
open Go.ChangeShapes Go.WideShapes Go.ChangeAt Go.RowKit
open Pk (own_at own_ge own_below info_of new_below join_below heap_new info_int lt_of kept cell_at heap_old frozen_at)
open Sq (tab row_at row_set make_run tab_at)
set_option linter.unusedSimpArgs false
set_option linter.unusedVariables false

def wordsN (line:ByteArray) (c:Nat):List ByteArray:=Lib.splitB ⟨#[32]⟩ 0 (min (c+1) (line.size+1)-1) line

theorem wordsN_length (line:ByteArray) (c:Nat):1≤(wordsN line c).length∧(wordsN line c).length≤min (c+1) (line.size+1):=by
 have h1:=Lib.splitB_length_le ⟨#[32]⟩ 0 (min (c+1) (line.size+1)-1) line
 refine⟨?_,?_⟩
 ·show 1≤(Lib.splitB _ _ _ _).length
  cases min (c+1) (line.size+1)-1 with
  |zero=>exact Nat.le_refl _
  |succ k=>
   unfold Lib.splitB
   split
   ·exact Nat.le_refl _
   ·simp
 ·show(Lib.splitB _ _ _ _).length≤_
  omega

theorem splitB_size (sep:ByteArray) (v:Nat):∀(k:Nat) (s:ByteArray),∀x∈Lib.splitB sep v k s,x.size≤s.size
 |0,s=>by
  intro x hx
  simp only[Lib.splitB,List.mem_singleton]at hx
  subst hx
  exact Nat.le_refl _
 |k+1,s=>by
  intro x hx
  unfold Lib.splitB at hx
  split at hx
  ·simp only[List.mem_singleton]at hx
   subst hx
   exact Nat.le_refl _
  ·rcases List.mem_cons.1 hx with rfl|hx
   ·rw[ByteArray.size_extract]
    omega
   ·have:=splitB_size sep v k _ x hx
    rw[ByteArray.size_extract]at this
    omega

noncomputable def nAt (line:ByteArray) (c j:Nat):Nat:=if j+1<(wordsN line c).length then rv ((wordsN line c).getD (j+1) ⟨#[]⟩)else 0

noncomputable def inF (line:ByteArray) (c i j:Nat):Value:= .int .i64 ((if j<i then nAt line c j else 0:Nat):Int)

theorem inF_step (line:ByteArray) (c i j:Nat):inF line c (i+1) j=if j=i then .int .i64 ((nAt line c i:Nat):Int)else inF line c i j:=by
 unfold inF
 by_cases e:j=i
 ·rw[if_pos e,if_pos (by omega),e]
 ·rw[if_neg e]
  by_cases h:j<i
  ·rw[if_pos h,if_pos (by omega)]
  ·rw[if_neg h,if_neg (by omega)]

theorem cellsOf_at {l:List ByteArray} {N k:Nat} (h:k<l.length):(Lib.cellsOf l N)[k]? =some (.string l[k]):=by
 unfold Lib.cellsOf
 rw[List.getElem?_toArray,List.getElem?_append_left (by rw[List.length_map];exact h),List.getElem?_map,List.getElem?_eq_getElem h]
 rfl

set_option maxRecDepth 100000 in
set_option maxHeartbeats 4000000 in
theorem numbersIn_val (line:ByteArray) (c:Nat) (w:World) (hs:line.size≤1100000) (hc1:1≤c) (hc:c≤10) (M:ML w):
 Calls Tryz.prog 109 #[.string line,.int .i64 c] w fun e w'=>(∃g,e= .returned (.slice (some ⟨g,0,none⟩) c c)∧w.heap.size≤g∧g<w'.heap.size∧∀j,j<c→w'.cell? ⟨g,j,none⟩=some (.int .i64 ((nAt line c j:Nat):Int)))∧Below w.heap.size w w':=by
 have hmk:=make_run 29 3 _ 8 c Tryz.underlying29 info_int' rfl (by omega) (by omega)
 have N1:=new_below w (.cells (tab c (fun _=> .int .i64 0)) 3)
 have m1:=heap_new w (.cells (tab c (fun _=> .int .i64 0)) 3)
 have M1:=M.on N1
 obtain⟨mm,hmm⟩:=M1
 have HSN:Hid (∀_:Unit,_):=fun _=>Tryz.strings_SplitN line ⟨#[32]⟩ (c+1) mm (w.alloc (.cells (tab c (fun _=> .int .i64 0)) 3)) (by omega) hmm (by decide) (by omega) (by omega)
 rw[show Lib.splitB ⟨#[32]⟩ 0 (min (c+1) (line.size+1)-1) line=wordsN line c from rfl]at HSN
 rw[show(((c+1:Nat):Int))=(c:Int)+1 from by omega]at HSN
 obtain⟨hl1,hl2⟩:=wordsN_length line c
 have HSZ:Hid (∀x∈wordsN line c,x.size≤line.size):=splitB_size _ _ _ _
 have HNA:Hid (∀j,nAt line c j=if j+1<(wordsN line c).length then rv ((wordsN line c).getD (j+1) ⟨#[]⟩)else 0):=fun j=>rfl
 have HIS:Hid (∀i j,_):=inF_step line c
 have HIF:Hid (∀i j,inF line c i j= .int .i64 ((if j<i then nAt line c j else 0:Nat):Int)):=fun i j=>rfl
 generalize wordsN line c=ws at*
 obtain⟨N,hN⟩:∃N,min (c+1) (line.size+1)=N:=⟨_,rfl⟩
 rw[hN]at HSN hl2
 have hNc:N≤c+1:=by omega
 have H0:Hid (tab c (fun _=> .int .i64 0)=tab c (inF line c 0)):=by
  show _=_
  unfold tab
  congr 1
 go_enter Tryz.func109,Tryz.ntmps109
 go_wp2_with fail
 refine(HSN.out ()).mono ?_
 generalize w.alloc (.cells (tab c (fun _=> .int .i64 0)) 3)=w1 at*
 rintro e w2 ⟨rfl,rfl⟩
 have N2:=new_below w1 (.cells (Lib.cellsOf ws N) 9)
 have mS:=heap_new w1 (.cells (Lib.cellsOf ws N) 9)
 have m2:=kept N2 (lt_of m1) m1
 have K2:=join_below N1 N2
 have hne:w.heap.size≠w1.heap.size:=by have:=lt_of m1;omega
 rw[H0.out]at m2
 clear m1 N1 N2 HSN H0 hmk
 generalize w1.alloc (.cells (Lib.cellsOf ws N) 9)=w3 at*
 generalize w1.heap.size=gS at*
 have y1:(1:Int)≤(ws.length:Int):=by omega
 have y2:(ws.length:Int)≤(N:Int):=by omega
 obtain⟨aS,haS⟩:∃aS:Addr,(if N=1 then some (⟨gS,0,none⟩:Addr)else some ⟨gS,1,none⟩)=some aS:=by
  by_cases e:N=1
  ·exact⟨_,by rw[if_pos e]⟩
  ·exact⟨_,by rw[if_neg e]⟩
 have hA:2≤ws.length→aS=⟨gS,1,none⟩:=fun h=>by
  rw[if_neg (by omega)]at haS
  exact(Option.some.inj haS).symm
 have HA:Hid (2≤ws.length→aS=⟨gS,1,none⟩):=hA
 clear hA
 obtain⟨n1,hn1⟩:∃n1,ws.length-1=n1:=⟨_,rfl⟩
 go_wp2
 clear haS
 go_loopw [16] (fun i wr=>∃k:Nat,k≤n1∧i= .int .i64 k∧wr.heap[w.heap.size]? =some (.cells (tab c (inF line c k)) 3)∧wr.heap[gS]? =some (.cells (Lib.cellsOf ws N) 9)∧Hid (Below w.heap.size w wr)) (fun i _=>n1-(intOf i).toNat)
 case atStart=>exact⟨0,by omega,rfl,m2,mS,K2⟩
 case round=>
  clear m2 mS K2
  obtain⟨k,hk,rfl,m4,mS4,K4⟩:=hrel
  by_cases hlt:k<n1
  ·have hkw:k+1<ws.length:=by omega
   have hkc:k<c:=by omega
   have haS:=HA.out (by omega)
   have hki:(k:Int)<(n1:Int):=by omega
   have hkI:(k:Int)<(c:Int):=by omega
   have r0:wr.cell? ⟨gS,1+k,none⟩=some (.string ws[k+1]):=by
    rw[cell_at mS4 (1+k),show 1+k=k+1 from by omega]
    exact cellsOf_at hkw
   have hz:ws[k+1].size≤maxLen:=by
    have:=HSZ.out _ (List.getElem_mem hkw)
    unfold maxLen
    omega
   have HV:Hid (nAt line c k=rv ws[k+1]):=by
    show _=_
    rw[HNA.out,if_pos hkw,List.getD_eq_getElem?_getD,List.getElem?_eq_getElem hkw]
    rfl
   have f0:wr.frozen? ⟨w.heap.size,k,none⟩=false:=frozen_at m4 k
   have r1:wr.cell? ⟨w.heap.size,k,none⟩=some (inF line c k k):=row_at m4 k hkc
   have m5:=row_set (f':=inF line c (k+1)) m4 k (.int .i64 ((nAt line c k:Nat):Int)) (fun j _=>HIS.out k j)
   have mS5:=Tk.h_other (i:=k) mS4 (Ne.symm hne) (.int .i64 ((nAt line c k:Nat):Int))
   have K5:=K4.out.setCell (p:=⟨w.heap.size,k,none⟩) (Nat.le_refl _) (.int .i64 ((nAt line c k:Nat):Int))
   rw[HV.out]at m5 mS5 K5
   generalize ws[k+1]=x at*
   subst haS
   by_cases hr:Rd x
   ·have HRD:Hid (∀W,_):=fun W=>Num.implReadDec_yes x W hz hr
    rw[rv_yes hr,show vl x=Math.val x.data.toList from rfl]at m5 mS5 K5
    generalize Math.val x.data.toList=vx at*
    go_wp2_with fail
    refine(HRD.out _).mono ?_
    rintro e w4 ⟨rfl,hw4⟩
    subst hw4
    go_wp2
    go_roundw
    case rel=>exact⟨k+1,by omega,by go_num,m5,mS5,K5⟩
    case measure=>simp[intOf];omega
   ·have HRD:Hid (∀W,_):=fun W=>Num.implReadDec_no x W hz hr
    rw[rv_no hr]at m5 mS5 K5
    go_wp2_with fail
    refine(HRD.out _).mono ?_
    rintro e w4 ⟨rfl,hw4⟩
    subst hw4
    go_wp2
    go_roundw
    case rel=>exact⟨k+1,by omega,by go_num,m5,mS5,K5⟩
    case measure=>simp[intOf];omega
  ·obtain rfl:k=n1:=by omega
   have hG:∀j,j<c→wr.cell? ⟨w.heap.size,j,none⟩=some (.int .i64 ((nAt line c j:Nat):Int)):=by
    intro j hj
    rw[row_at m4 j hj,HIF.out]
    by_cases e:j<k
    ·rw[if_pos e]
    ·rw[if_neg e,HNA.out,if_neg (by omega)]
   have HG:Hid (_):=hG
   have hlt2:=lt_of m4
   clear hG m4 mS4
   go_wp2
   go_ret
   exact⟨⟨w.heap.size,rfl,Nat.le_refl _,hlt2,HG.out⟩,K4.out⟩

end Gt
end Go.Proofs.YtcjgkmhpeedhiaaGreatDoor
