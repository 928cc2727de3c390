/- Contracts of TicketOk, of the program and of its model. -/
import Derived.Test.YtcjgkmhpeedhiaaGreatDoorTkLegs
namespace Go.Proofs.YtcjgkmhpeedhiaaGreatDoor
namespace Tk
open Go.ChangeShapes Go.WideShapes Go.ChangeAt Go.RowKit
open Pk (new_below join_below cell_at heap_new frozen_at lt_of kept)
set_option linter.unusedSimpArgs false
set_option linter.unusedVariables false

def inB (x a b:Int):Bool:=decide (a≤x∧x≤b)

theorem inB_yes {x a b:Int} (h:inB x a b=true):a≤x∧x≤b:=of_decide_eq_true h

structure Hd where
 id:Int
 cl:Int
 pr:Int
 fi:Int
 la:Int

def headB (t:Hd):Bool:=inB t.id 1 999999999&&inB t.cl 1 2&&inB t.pr 0 100000000&&inB t.fi 0 99999&&inB t.la t.fi 99999

def nameFrom (s:ByteArray) (i:Nat):Bool:=(s.data.toList.drop i).all fun b=>decide (32≤b.toNat∧b.toNat≤126)

def nameB (s:ByteArray):Bool:=nameFrom s 0&&decide (s.size≤40)

def seatB (l:Lg):Bool:=(decide (l.co=0)&&decide (l.se=0))||(inB l.co 1 99&&inB l.se 1 99)

def legB (l:Lg) (fi la:Int):Bool:=inB l.tr 1 9999&&inB l.dy fi la&&inB l.fr 1 9999&&inB l.to 1 9999&& !decide (l.fr=l.to)&&seatB l

def legsFrom (ls:List Lg) (fi la:Int) (i:Nat):Bool:=(ls.drop i).all fun l=>legB l fi la

def okB (t:Hd) (s:ByteArray) (ls:List Lg):Bool:=headB t&&nameB s&&inB ls.length 1 6&&legsFrom ls t.fi t.la 0

theorem nameFrom_step (s:ByteArray) (i:Nat) (h:i<s.size):nameFrom s i=(decide (32≤s[i].toNat∧s[i].toNat≤126)&&nameFrom s (i+1)):=by
 unfold nameFrom
 have h1:i<s.data.toList.length:=by rw[Array.length_toList];exact h
 rw[List.drop_eq_getElem_cons h1,List.all_cons]
 rfl

theorem nameFrom_end (s:ByteArray) (i:Nat) (h:¬i<s.size):nameFrom s i=true:=by
 unfold nameFrom
 rw[List.drop_eq_nil_of_le (by rw[Array.length_toList];exact Nat.le_of_not_lt h)]
 rfl

theorem legsFrom_step (ls:List Lg) (fi la:Int) (i:Nat) (h:i<ls.length):legsFrom ls fi la i=(legB ls[i] fi la&&legsFrom ls fi la (i+1)):=by
 unfold legsFrom
 rw[List.drop_eq_getElem_cons h,List.all_cons]

theorem legsFrom_end (ls:List Lg) (fi la:Int) (i:Nat) (h:¬i<ls.length):legsFrom ls fi la i=true:=by
 unfold legsFrom
 rw[List.drop_eq_nil_of_le (Nat.le_of_not_lt h)]
 rfl

theorem between_val (x a b:Int) (w:World):
 Calls Tryz.prog 43 #[.int .i64 x,.int .i64 a,.int .i64 b] w fun e w'=>e= .returned (.bool (inB x a b))∧w'=w:=by
 by_cases h1:a≤x<;>by_cases h2:x≤b
 all_goals
  go_enter Tryz.func43,Tryz.ntmps43
  go_wp2
  go_ret
  exact⟨by simp[inB,h1,h2],rfl⟩

theorem in_val (x a b:Int) (w:World):
 Calls Tryz.prog 55 #[.int .i64 x,.int .i64 a,.int .i64 b] w fun e w'=>e= .returned (.bool (inB x a b))∧w'=w:=by
 by_cases h1:a≤x<;>by_cases h2:x≤b
 all_goals
  go_enter Tryz.func55,Tryz.ntmps55
  go_wp2
  go_ret
  exact⟨by simp[inB,h1,h2],rfl⟩

theorem nameOk_val (s:ByteArray) (w:World) (hs:s.size≤maxLen):
 Calls Tryz.prog 42 #[.string s] w fun e w'=>e= .returned (.bool (nameB s))∧w'=w:=by
 unfold maxLen at hs
 by_cases h40:s.size≤40
 ·have e40:nameB s=nameFrom s 0:=by unfold nameB;rw[decide_eq_true h40,Bool.and_true]
  rw[e40]
  have hd:decide ((40:Int)<(s.size:Int))=false:=decide_eq_false (by omega)
  clear e40
  go_enter Tryz.func42,Tryz.ntmps42
  go_wp2
  go_loop [9] (fun i=>∃(k:Nat),k≤s.size∧i= .int .i64 k∧Hid (nameFrom s 0=nameFrom s k)) (fun i=>s.size-(intOf i).toNat)
  case atStart=>exact⟨0,by omega,rfl,rfl⟩
  case round=>
   obtain⟨k,hk,rfl,H⟩:=hrel
   by_cases hks:k<s.size
   ·have HS:Hid (_):=nameFrom_step s k hks
    have hb:=s[k].toNat_lt
    by_cases h1:(s[k].toNat:Int)<32
    ·have HE:Hid (nameFrom s 0=false):=by show _=_;rw[H.out,HS.out,decide_eq_false (by omega)];rfl
     go_wp2
     go_ret
     exact⟨by rw[HE.out]<;>rfl,rfl⟩
    ·by_cases h2:(126:Int)<(s[k].toNat:Int)
     ·have HE:Hid (nameFrom s 0=false):=by show _=_;rw[H.out,HS.out,decide_eq_false (by omega)];rfl
      go_wp2
      go_ret
      exact⟨by rw[HE.out]<;>rfl,rfl⟩
     ·have HE:Hid (nameFrom s 0=nameFrom s (k+1)):=by show _=_;rw[H.out,HS.out,decide_eq_true (by omega)];rfl
      go_wp2
      go_round
      case rel=>exact⟨k+1,by omega,by go_num,HE⟩
      case measure=>simp[intOf];omega
   ·have HE:Hid (nameFrom s 0=true):=by show _=_;rw[H.out,nameFrom_end s k hks]
    go_wp2
    go_ret
    exact⟨by rw[HE.out]<;>rfl,rfl⟩
 ·have e40:nameB s=false:=by unfold nameB;rw[decide_eq_false h40,Bool.and_false]
  rw[e40]
  have hd:decide ((40:Int)<(s.size:Int))=true:=decide_eq_true (by omega)
  clear e40 h40
  go_enter Tryz.func42,Tryz.ntmps42
  go_wp2
  go_ret
  exact⟨rfl,rfl⟩

theorem nameIn (b:UInt8):inB (b.toNat:Int) 32 126=decide (32≤b.toNat∧b.toNat≤126):=by
 unfold inB
 by_cases h:32≤b.toNat∧b.toNat≤126
 ·rw[decide_eq_true h,decide_eq_true (by omega)]
 ·rw[decide_eq_false h,decide_eq_false (by omega)]

theorem name_val (s:ByteArray) (w:World) (hs:s.size≤maxLen):
 Calls Tryz.prog 92 #[.string s] w fun e w'=>e= .returned (.bool (nameB s))∧w'=w:=by
 unfold maxLen at hs
 go_enter Tryz.func92,Tryz.ntmps92
 go_wp2
 go_loop [3] (fun i=>∃(k:Nat),k≤s.size∧i= .int .i64 k∧Hid (nameFrom s 0=nameFrom s k)) (fun i=>s.size-(intOf i).toNat)
 case atStart=>exact⟨0,by omega,rfl,rfl⟩
 case round=>
  obtain⟨k,hk,rfl,H⟩:=hrel
  by_cases hks:k<s.size
  ·have HS:Hid (_):=nameFrom_step s k hks
   have hb:=s[k].toNat_lt
   have HI:Hid (∀w,_):=fun w=>in_val (s[k].toNat:Int) 32 126 w
   rw[nameIn s[k]]at HI
   generalize decide (32≤s[k].toNat∧s[k].toNat≤126)=b at*
   go_wp2_with fail
   refine(HI.out _).mono ?_
   rintro e w1 ⟨rfl,rfl⟩
   cases b
   ·have HE:Hid (nameB s=false):=by show _=_;unfold nameB;rw[H.out,HS.out];rfl
    go_wp2
    go_ret
    exact⟨by rw[HE.out]<;>rfl,rfl⟩
   ·have HE:Hid (nameFrom s 0=nameFrom s (k+1)):=by show _=_;rw[H.out,HS.out];rfl
    go_wp2
    go_round
    case rel=>exact⟨k+1,by omega,by go_num,HE⟩
    case measure=>simp[intOf];omega
  ·have HE:Hid (nameB s=decide ((s.size:Int)≤40)):=by
    show _=_
    unfold nameB
    rw[H.out,nameFrom_end s k hks,Bool.true_and]
    by_cases h:s.size≤40
    ·rw[decide_eq_true h,decide_eq_true (by omega)]
    ·rw[decide_eq_false h,decide_eq_false (by omega)]
   go_wp2
   go_ret
   exact⟨by rw[HE.out]<;>rfl,rfl⟩

theorem seatOk_val (l:Lg) (w:World):
 Calls Tryz.prog 88 #[lgV l] w fun e w'=>e= .returned (.bool (seatB l))∧Below w.heap.size w w':=by
 obtain⟨tr,dy,fr,to,co,se⟩:=l
 unfold seatB
 dsimp only
 have H1:Hid (∀w,_):=fun w=>between_val co 1 99 w
 have H2:Hid (∀w,_):=fun w=>between_val se 1 99 w
 generalize inB co 1 99=b1 at*
 generalize inB se 1 99=b2 at*
 have N:=new_below w (.cells #[.int .i64 tr,.int .i64 dy,.int .i64 fr,.int .i64 to,.int .i64 co,.int .i64 se] 64)
 by_cases hc:co=0
 ·by_cases hs:se=0
  ·subst hc hs
   go_enter Tryz.func88,Tryz.ntmps88
   go_wp2
   go_ret
   exact⟨rfl,N⟩
  ·subst hc
   have e2:(se==0)=false:=beq_eq_false_iff_ne.2 hs
   rw[decide_eq_false hs,Bool.and_false,Bool.false_or]
   go_enter Tryz.func88,Tryz.ntmps88
   go_wp2_with fail
   refine(H1.out _).mono ?_
   rintro e w1 ⟨rfl,rfl⟩
   cases b1
   ·go_wp2
    go_ret
    exact⟨rfl,N⟩
   ·go_wp2_with fail
    refine(H2.out _).mono ?_
    rintro e w1 ⟨rfl,rfl⟩
    go_wp2
    go_ret
    exact⟨rfl,N⟩
 ·have e2:(co==0)=false:=beq_eq_false_iff_ne.2 hc
  rw[decide_eq_false hc,Bool.false_and,Bool.false_or]
  go_enter Tryz.func88,Tryz.ntmps88
  go_wp2_with fail
  refine(H1.out _).mono ?_
  rintro e w1 ⟨rfl,rfl⟩
  cases b1
  ·go_wp2
   go_ret
   exact⟨rfl,N⟩
  ·go_wp2_with fail
   refine(H2.out _).mono ?_
   rintro e w1 ⟨rfl,rfl⟩
   go_wp2
   go_ret
   exact⟨rfl,N⟩

set_option maxHeartbeats 1000000 in
theorem okWithin_val (l:Lg) (fi la:Int) (w:World):
 Calls Tryz.prog 44 #[lgV l,.int .i64 fi,.int .i64 la] w fun e w'=>e= .returned (.bool (legB l fi la))∧Below w.heap.size w w':=by
 unfold legB
 have HS:Hid (∀w,_):=fun w=>seatOk_val l w
 generalize seatB l=b6 at*
 obtain⟨tr,dy,fr,to,co,se⟩:=l
 dsimp only at HS⊢
 have H1:Hid (∀w,_):=fun w=>between_val tr 1 9999 w
 have H2:Hid (∀w,_):=fun w=>between_val dy fi la w
 have H3:Hid (∀w,_):=fun w=>between_val fr 1 9999 w
 have H4:Hid (∀w,_):=fun w=>between_val to 1 9999 w
 generalize inB tr 1 9999=b1 at*
 generalize inB dy fi la=b2 at*
 generalize inB fr 1 9999=b3 at*
 generalize inB to 1 9999=b4 at*
 have N:=new_below w (.cells #[.int .i64 tr,.int .i64 dy,.int .i64 fr,.int .i64 to,.int .i64 co,.int .i64 se] 64)
 go_enter Tryz.func44,Tryz.ntmps44
 go_wp2_with fail
 refine(H1.out _).mono ?_
 rintro e w1 ⟨rfl,rfl⟩
 cases b1
 ·go_wp2
  go_ret
  exact⟨rfl,N⟩
 go_wp2_with fail
 refine(H2.out _).mono ?_
 rintro e w1 ⟨rfl,rfl⟩
 cases b2
 ·go_wp2
  go_ret
  exact⟨rfl,N⟩
 go_wp2_with fail
 refine(H3.out _).mono ?_
 rintro e w1 ⟨rfl,rfl⟩
 cases b3
 ·go_wp2
  go_ret
  exact⟨rfl,N⟩
 go_wp2_with fail
 refine(H4.out _).mono ?_
 rintro e w1 ⟨rfl,rfl⟩
 cases b4
 ·go_wp2
  go_ret
  exact⟨rfl,N⟩
 by_cases h:fr=to
 ·subst h
  go_wp2
  go_ret
  exact⟨by simp,N⟩
 ·have e2:(fr==to)=false:=beq_eq_false_iff_ne.2 h
  have e3:(fr !=to)=true:=bne_iff_ne.2 h
  go_wp2_with fail
  refine(HS.out _).mono ?_
  rintro e w1 ⟨rfl,L1⟩
  cases b6
  all_goals
   go_wp2
   go_ret
   exact⟨by simp[h],join_below N L1⟩

set_option maxHeartbeats 1000000 in
theorem specLeg_val (l:Lg) (fi la:Int) (w:World):
 Calls Tryz.prog 93 #[lgV l,.int .i64 fi,.int .i64 la] w fun e w'=>e= .returned (.bool (legB l fi la))∧Below w.heap.size w w':=by
 obtain⟨tr,dy,fr,to,co,se⟩:=l
 unfold legB seatB
 dsimp only
 have H1:Hid (∀w,_):=fun w=>in_val tr 1 9999 w
 have H2:Hid (∀w,_):=fun w=>in_val dy fi la w
 have H3:Hid (∀w,_):=fun w=>in_val fr 1 9999 w
 have H4:Hid (∀w,_):=fun w=>in_val to 1 9999 w
 have H5:Hid (∀w,_):=fun w=>in_val co 1 99 w
 have H6:Hid (∀w,_):=fun w=>in_val se 1 99 w
 have hseat:∃b,((decide (co=0)&&decide (se=0))||(inB co 1 99&&inB se 1 99))=b:=⟨_,rfl⟩
 obtain⟨b,hb⟩:=hseat
 rw[hb]
 have HSB:Hid (_):=hb
 clear hb
 generalize inB tr 1 9999=b1 at*
 generalize inB dy fi la=b2 at*
 generalize inB fr 1 9999=b3 at*
 generalize inB to 1 9999=b4 at*
 generalize inB co 1 99=b5 at*
 generalize inB se 1 99=b6 at*
 have N:=new_below w (.cells #[.int .i64 tr,.int .i64 dy,.int .i64 fr,.int .i64 to,.int .i64 co,.int .i64 se] 64)
 have HR:Hid (∀wx:World,Below w.heap.size w wx→(b1&&b2&&b3&&b4&& !decide (fr=to)&&b)=(b1&&b2&&b3&&b4&& !decide (fr=to)&&b)):=fun _ _=>rfl
 clear HR
 by_cases hc:co=0
 ·have hc2:(co==0)=true:=beq_iff_eq.2 hc
  by_cases hs:se=0
  ·have hs2:(se==0)=true:=beq_iff_eq.2 hs
   have hb:b=true:=by rw[←HSB.out,decide_eq_true hc,decide_eq_true hs];rfl
   subst hb hc hs
   clear HSB
   go_enter Tryz.func93,Tryz.ntmps93
   go_wp2_with fail
   refine(H1.out _).mono ?_
   rintro e w1 ⟨rfl,rfl⟩
   cases b1
   ·go_wp2
    go_ret
    exact⟨rfl,N⟩
   go_wp2_with fail
   refine(H2.out _).mono ?_
   rintro e w1 ⟨rfl,rfl⟩
   cases b2
   ·go_wp2
    go_ret
    exact⟨rfl,N⟩
   go_wp2_with fail
   refine(H3.out _).mono ?_
   rintro e w1 ⟨rfl,rfl⟩
   cases b3
   ·go_wp2
    go_ret
    exact⟨rfl,N⟩
   go_wp2_with fail
   refine(H4.out _).mono ?_
   rintro e w1 ⟨rfl,rfl⟩
   cases b4
   ·go_wp2
    go_ret
    exact⟨rfl,N⟩
   by_cases h:fr=to
   ·subst h
    go_wp2
    go_ret
    exact⟨by simp,N⟩
   ·have e2:(fr==to)=false:=beq_eq_false_iff_ne.2 h
    have e3:(fr !=to)=true:=bne_iff_ne.2 h
    go_wp2
    go_ret
    exact⟨by simp[h],N⟩
  ·have hs2:(se==0)=false:=beq_eq_false_iff_ne.2 hs
   have hb:b=(b5&&b6):=by rw[←HSB.out,decide_eq_false hs,Bool.and_false,Bool.false_or]
   subst hb hc
   clear HSB hs
   go_enter Tryz.func93,Tryz.ntmps93
   go_wp2_with fail
   refine(H5.out _).mono ?_
   rintro e w1 ⟨rfl,rfl⟩
   cases b5
   ·go_wp2_with fail
    refine(H1.out _).mono ?_
    rintro e w1 ⟨rfl,rfl⟩
    cases b1
    ·go_wp2
     go_ret
     exact⟨rfl,N⟩
    go_wp2_with fail
    refine(H2.out _).mono ?_
    rintro e w1 ⟨rfl,rfl⟩
    cases b2
    ·go_wp2
     go_ret
     exact⟨rfl,N⟩
    go_wp2_with fail
    refine(H3.out _).mono ?_
    rintro e w1 ⟨rfl,rfl⟩
    cases b3
    ·go_wp2
     go_ret
     exact⟨rfl,N⟩
    go_wp2_with fail
    refine(H4.out _).mono ?_
    rintro e w1 ⟨rfl,rfl⟩
    cases b4
    ·go_wp2
     go_ret
     exact⟨rfl,N⟩
    by_cases h:fr=to
    ·subst h
     go_wp2
     go_ret
     exact⟨by simp,N⟩
    ·have e2:(fr==to)=false:=beq_eq_false_iff_ne.2 h
     have e3:(fr !=to)=true:=bne_iff_ne.2 h
     go_wp2
     go_ret
     exact⟨by simp[h],N⟩
   ·go_wp2_with fail
    refine(H6.out _).mono ?_
    rintro e w1 ⟨rfl,rfl⟩
    go_wp2_with fail
    refine(H1.out _).mono ?_
    rintro e w1 ⟨rfl,rfl⟩
    cases b1
    ·go_wp2
     go_ret
     exact⟨rfl,N⟩
    go_wp2_with fail
    refine(H2.out _).mono ?_
    rintro e w1 ⟨rfl,rfl⟩
    cases b2
    ·go_wp2
     go_ret
     exact⟨rfl,N⟩
    go_wp2_with fail
    refine(H3.out _).mono ?_
    rintro e w1 ⟨rfl,rfl⟩
    cases b3
    ·go_wp2
     go_ret
     exact⟨rfl,N⟩
    go_wp2_with fail
    refine(H4.out _).mono ?_
    rintro e w1 ⟨rfl,rfl⟩
    cases b4
    ·go_wp2
     go_ret
     exact⟨rfl,N⟩
    by_cases h:fr=to
    ·subst h
     go_wp2
     go_ret
     exact⟨by simp,N⟩
    ·have e2:(fr==to)=false:=beq_eq_false_iff_ne.2 h
     have e3:(fr !=to)=true:=bne_iff_ne.2 h
     go_wp2
     go_ret
     exact⟨by simp[h],N⟩
 ·have hc2:(co==0)=false:=beq_eq_false_iff_ne.2 hc
  have hb:b=(b5&&b6):=by rw[←HSB.out,decide_eq_false hc,Bool.false_and,Bool.false_or]
  subst hb
  clear HSB hc
  go_enter Tryz.func93,Tryz.ntmps93
  go_wp2_with fail
  refine(H5.out _).mono ?_
  rintro e w1 ⟨rfl,rfl⟩
  cases b5
  ·go_wp2_with fail
   refine(H1.out _).mono ?_
   rintro e w1 ⟨rfl,rfl⟩
   cases b1
   ·go_wp2
    go_ret
    exact⟨rfl,N⟩
   go_wp2_with fail
   refine(H2.out _).mono ?_
   rintro e w1 ⟨rfl,rfl⟩
   cases b2
   ·go_wp2
    go_ret
    exact⟨rfl,N⟩
   go_wp2_with fail
   refine(H3.out _).mono ?_
   rintro e w1 ⟨rfl,rfl⟩
   cases b3
   ·go_wp2
    go_ret
    exact⟨rfl,N⟩
   go_wp2_with fail
   refine(H4.out _).mono ?_
   rintro e w1 ⟨rfl,rfl⟩
   cases b4
   ·go_wp2
    go_ret
    exact⟨rfl,N⟩
   by_cases h:fr=to
   ·subst h
    go_wp2
    go_ret
    exact⟨by simp,N⟩
   ·have e2:(fr==to)=false:=beq_eq_false_iff_ne.2 h
    have e3:(fr !=to)=true:=bne_iff_ne.2 h
    go_wp2
    go_ret
    exact⟨by simp[h],N⟩
  ·go_wp2_with fail
   refine(H6.out _).mono ?_
   rintro e w1 ⟨rfl,rfl⟩
   go_wp2_with fail
   refine(H1.out _).mono ?_
   rintro e w1 ⟨rfl,rfl⟩
   cases b1
   ·go_wp2
    go_ret
    exact⟨rfl,N⟩
   go_wp2_with fail
   refine(H2.out _).mono ?_
   rintro e w1 ⟨rfl,rfl⟩
   cases b2
   ·go_wp2
    go_ret
    exact⟨rfl,N⟩
   go_wp2_with fail
   refine(H3.out _).mono ?_
   rintro e w1 ⟨rfl,rfl⟩
   cases b3
   ·go_wp2
    go_ret
    exact⟨rfl,N⟩
   go_wp2_with fail
   refine(H4.out _).mono ?_
   rintro e w1 ⟨rfl,rfl⟩
   cases b4
   ·go_wp2
    go_ret
    exact⟨rfl,N⟩
   by_cases h:fr=to
   ·subst h
    go_wp2
    go_ret
    exact⟨by simp,N⟩
   ·have e2:(fr==to)=false:=beq_eq_false_iff_ne.2 h
    have e3:(fr !=to)=true:=bne_iff_ne.2 h
    go_wp2
    go_ret
    exact⟨by simp[h],N⟩

abbrev tkV (t:Hd) (s:ByteArray) (a:Option Addr) (n cap:Nat):Value:= .agg #[.int .i64 t.id,.string s,.int .i64 t.cl,.int .i64 t.pr,.int .i64 t.fi,.int .i64 t.la,.slice a n cap]

abbrev tkB (t:Hd) (s:ByteArray) (a:Option Addr) (n cap:Nat) (T:TypeId):Obj:= .cells #[.int .i64 t.id,.string s,.int .i64 t.cl,.int .i64 t.pr,.int .i64 t.fi,.int .i64 t.la,.slice a n cap] T

theorem headOk_val (t:Hd) (s:ByteArray) (a:Option Addr) (n cap:Nat) (w:World):
 Calls Tryz.prog 41 #[tkV t s a n cap] w fun e w'=>e= .returned (.bool (headB t))∧Below w.heap.size w w':=by
 unfold headB
 have N:=new_below w (tkB t s a n cap 28)
 obtain⟨id,cl,pr,fi,la⟩:=t
 dsimp only at N⊢
 have H1:Hid (∀w,_):=fun w=>between_val id 1 999999999 w
 have H2:Hid (∀w,_):=fun w=>between_val cl 1 2 w
 have H3:Hid (∀w,_):=fun w=>between_val pr 0 100000000 w
 have H4:Hid (∀w,_):=fun w=>between_val fi 0 99999 w
 have H5:Hid (∀w,_):=fun w=>between_val la fi 99999 w
 generalize inB id 1 999999999=b1 at*
 generalize inB cl 1 2=b2 at*
 generalize inB pr 0 100000000=b3 at*
 generalize inB fi 0 99999=b4 at*
 generalize inB la fi 99999=b5 at*
 go_enter Tryz.func41,Tryz.ntmps41
 go_wp2_with fail
 refine(H1.out _).mono ?_
 rintro e w1 ⟨rfl,rfl⟩
 cases b1
 ·go_wp2
  go_ret
  exact⟨rfl,N⟩
 go_wp2_with fail
 refine(H2.out _).mono ?_
 rintro e w1 ⟨rfl,rfl⟩
 cases b2
 ·go_wp2
  go_ret
  exact⟨rfl,N⟩
 go_wp2_with fail
 refine(H3.out _).mono ?_
 rintro e w1 ⟨rfl,rfl⟩
 cases b3
 ·go_wp2
  go_ret
  exact⟨rfl,N⟩
 go_wp2_with fail
 refine(H4.out _).mono ?_
 rintro e w1 ⟨rfl,rfl⟩
 cases b4
 ·go_wp2
  go_ret
  exact⟨rfl,N⟩
 go_wp2_with fail
 refine(H5.out _).mono ?_
 rintro e w1 ⟨rfl,rfl⟩
 cases b5
 all_goals
  go_wp2
  go_ret
  exact⟨rfl,N⟩

theorem okB_no (t:Hd) (s:ByteArray) (ls:List Lg) (k:Nat) (h:legsFrom ls t.fi t.la 0=legsFrom ls t.fi t.la k) (hk:legsFrom ls t.fi t.la k=false):okB t s ls=false:=by
 unfold okB
 rw[h,hk,Bool.and_false]

set_option maxHeartbeats 1000000 in
theorem implOk_val (t:Hd) (s:ByteArray) (a:Option Addr) (ls:List Lg) (cap:Nat) (w:World) (hs:s.size≤maxLen) (hz:ls.length≤1048576) (I:Legs w a ls):
 Calls Tryz.prog 15 #[tkV t s a ls.length cap] w fun e w'=>e= .returned (.bool (okB t s ls))∧Below w.heap.size w w':=by
 have HO:Hid (okB t s ls=(headB t&&nameB s&&inB ls.length 1 6&&legsFrom ls t.fi t.la 0)):=rfl
 have HNO:Hid (∀k,_→_→okB t s ls=false):=fun k h1 h2=>okB_no t s ls k h1 h2
 have H1:Hid (∀w,_):=fun w=>headOk_val t s a ls.length cap w
 have H2:Hid (∀w,_):=fun w=>nameOk_val s w hs
 have H3:Hid (∀w,_):=fun w=>between_val ls.length 1 6 w
 generalize headB t=b1 at*
 generalize nameB s=b2 at*
 generalize inB ls.length 1 6=b3 at*
 have N:=new_below w (tkB t s a ls.length cap 28)
 have m0:=heap_new w (tkB t s a ls.length cap 28)
 have I0:=I.on N
 generalize okB t s ls=R at*
 go_enter Tryz.func15,Tryz.ntmps15
 go_wp2_with fail
 refine(H1.out _).mono ?_
 rintro e w1 ⟨rfl,L1⟩
 have m1:=kept L1 (lt_of m0) m0
 have L2:=join_below N L1
 have I1:=I0.on L1
 clear N m0 I0 L1 H1
 cases b1
 ·go_wp2
  go_ret
  exact⟨by rw[HO.out];rfl,L2⟩
 have c1:w1.cell? ⟨w.heap.size,1,none⟩=some (.string s):=cell_at m1 1
 have c4:w1.cell? ⟨w.heap.size,4,none⟩=some (.int .i64 t.fi):=cell_at m1 4
 have c5:w1.cell? ⟨w.heap.size,5,none⟩=some (.int .i64 t.la):=cell_at m1 5
 have c6:w1.cell? ⟨w.heap.size,6,none⟩=some (.slice a ls.length cap):=cell_at m1 6
 go_wp2_with fail
 refine(H2.out _).mono ?_
 rintro e w2 ⟨rfl,rfl⟩
 cases b2
 ·go_wp2
  go_ret
  exact⟨by rw[HO.out];rfl,L2⟩
 go_wp2_with fail
 refine(H3.out _).mono ?_
 rintro e w3 ⟨rfl,rfl⟩
 cases b3
 ·go_wp2
  go_ret
  exact⟨by rw[HO.out];rfl,L2⟩
 clear c1 c4 c5 H2 H3
 go_wp2
 clear c6
 go_loopw [24] (fun i wr=>∃(k:Nat),k≤ls.length∧i= .int .i64 k∧Below w3.heap.size w3 wr∧Hid (legsFrom ls t.fi t.la 0=legsFrom ls t.fi t.la k)) (fun i _=>ls.length-(intOf i).toNat)
 case atStart=>exact⟨0,by omega,rfl,Below.refl _ _,rfl⟩
 case round=>
  obtain⟨k,hk,rfl,LR,H⟩:=hrel
  by_cases hkn:k<ls.length
  ·obtain⟨b,o,rfl,hlt,hc0,hc1,hc2,hc3,hc4,hc5⟩:=(I1.on LR).at k hkn
   have HS:Hid (_):=legsFrom_step ls t.fi t.la k hkn
   have HW:Hid (∀w,_):=fun w=>okWithin_val ls[k] t.fi t.la w
   generalize legB ls[k] t.fi t.la=bb at*
   generalize ls[k]=p at*
   have N2:=new_below wr (.cells #[.int .i64 p.tr,.int .i64 p.dy,.int .i64 p.fr,.int .i64 p.to,.int .i64 p.co,.int .i64 p.se] 64)
   have L3:=join_below LR N2
   have m3:=kept L3 (lt_of m1) m1
   have c4:=cell_at m3 4
   have c5:=cell_at m3 5
   have n2:=heap_new wr (.cells #[.int .i64 p.tr,.int .i64 p.dy,.int .i64 p.fr,.int .i64 p.to,.int .i64 p.co,.int .i64 p.se] 64)
   simp at c4 c5
   go_wp2_with fail
   refine(HW.out _).mono ?_
   rintro e w4 ⟨rfl,L4⟩
   have L5:=join_below L3 L4
   have L6:=join_below L2 L5
   clear LR N2 L3 m3 c4 c5 L4 hc0 hc1 hc2 hc3 hc4 hc5 n2
   cases bb
   ·have HF:Hid (R=false):=HNO.out k H.out (by rw[HS.out];rfl)
    go_wp2
    go_ret
    exact⟨by rw[HF.out]<;>rfl,L6⟩
   ·have HE:Hid (legsFrom ls t.fi t.la 0=legsFrom ls t.fi t.la (k+1)):=by show _=_;rw[H.out,HS.out];rfl
    go_wp2
    go_roundw
    case rel=>exact⟨k+1,by omega,by go_num,L5,HE⟩
    case measure=>simp[intOf];omega
  ·have HE:Hid (R=true):=by show _=_;rw[HO.out,H.out,legsFrom_end ls t.fi t.la k hkn];rfl
   have L6:=join_below L2 LR
   go_wp2
   go_ret
   exact⟨by rw[HE.out]<;>rfl,L6⟩

set_option maxHeartbeats 2000000 in
theorem specOk_val (t:Hd) (s:ByteArray) (a:Option Addr) (ls:List Lg) (cap:Nat) (w:World) (hs:s.size≤maxLen) (hz:ls.length≤1048576) (I:Legs w a ls):
 Calls Tryz.prog 52 #[tkV t s a ls.length cap] w fun e w'=>e= .returned (.bool (okB t s ls))∧Below w.heap.size w w':=by
 have HO:Hid (okB t s ls=(inB t.id 1 999999999&&inB t.cl 1 2&&inB t.pr 0 100000000&&inB t.fi 0 99999&&inB t.la t.fi 99999&&nameB s&&inB ls.length 1 6&&legsFrom ls t.fi t.la 0)):=rfl
 have HNO:Hid (∀k,_→_→okB t s ls=false):=fun k h1 h2=>okB_no t s ls k h1 h2
 have H1:Hid (∀w,_):=fun w=>in_val t.id 1 999999999 w
 have H2:Hid (∀w,_):=fun w=>name_val s w hs
 have H3:Hid (∀w,_):=fun w=>in_val t.cl 1 2 w
 have H4:Hid (∀w,_):=fun w=>in_val t.pr 0 100000000 w
 have H5:Hid (∀w,_):=fun w=>in_val t.fi 0 99999 w
 have H6:Hid (∀w,_):=fun w=>in_val t.la t.fi 99999 w
 have H7:Hid (∀w,_):=fun w=>in_val ls.length 1 6 w
 generalize inB t.id 1 999999999=b1 at*
 generalize nameB s=b2 at*
 generalize inB t.cl 1 2=b3 at*
 generalize inB t.pr 0 100000000=b4 at*
 generalize inB t.fi 0 99999=b5 at*
 generalize inB t.la t.fi 99999=b6 at*
 generalize inB ls.length 1 6=b7 at*
 have N:=new_below w (tkB t s a ls.length cap 28)
 have m0:=heap_new w (tkB t s a ls.length cap 28)
 have I0:=I.on N
 generalize okB t s ls=R at*
 go_enter Tryz.func52,Tryz.ntmps52
 go_wp2_with fail
 refine(H1.out _).mono ?_
 rintro e w1 ⟨rfl,rfl⟩
 cases b1
 ·go_wp2
  go_ret
  exact⟨by rw[HO.out];simp,N⟩
 go_wp2_with fail
 refine(H2.out _).mono ?_
 rintro e w1 ⟨rfl,rfl⟩
 cases b2
 ·go_wp2
  go_ret
  exact⟨by rw[HO.out];simp,N⟩
 go_wp2_with fail
 refine(H3.out _).mono ?_
 rintro e w1 ⟨rfl,rfl⟩
 cases b3
 ·go_wp2
  go_ret
  exact⟨by rw[HO.out];simp,N⟩
 go_wp2_with fail
 refine(H4.out _).mono ?_
 rintro e w1 ⟨rfl,rfl⟩
 cases b4
 ·go_wp2
  go_ret
  exact⟨by rw[HO.out];simp,N⟩
 go_wp2_with fail
 refine(H5.out _).mono ?_
 rintro e w1 ⟨rfl,rfl⟩
 cases b5
 ·go_wp2
  go_ret
  exact⟨by rw[HO.out];simp,N⟩
 go_wp2_with fail
 refine(H6.out _).mono ?_
 rintro e w1 ⟨rfl,rfl⟩
 cases b6
 ·go_wp2
  go_ret
  exact⟨by rw[HO.out];simp,N⟩
 go_wp2_with fail
 refine(H7.out _).mono ?_
 rintro e w1 ⟨rfl,rfl⟩
 cases b7
 ·go_wp2
  go_ret
  exact⟨by rw[HO.out];simp,N⟩
 go_wp2
 clear H1 H2 H3 H4 H5 H6 H7
 generalize w.alloc (tkB t s a ls.length cap 28)=w3 at*
 go_loopw [3] (fun i wr=>∃(k:Nat),k≤ls.length∧i= .int .i64 k∧Below w3.heap.size w3 wr∧Hid (legsFrom ls t.fi t.la 0=legsFrom ls t.fi t.la k)) (fun i _=>ls.length-(intOf i).toNat)
 case atStart=>exact⟨0,by omega,rfl,Below.refl _ _,rfl⟩
 case round=>
  obtain⟨k,hk,rfl,LR,H⟩:=hrel
  have m3:=kept LR (lt_of m0) m0
  have c4:wr.cell? ⟨w.heap.size,4,none⟩=some (.int .i64 t.fi):=cell_at m3 4
  have c5:wr.cell? ⟨w.heap.size,5,none⟩=some (.int .i64 t.la):=cell_at m3 5
  have c6:wr.cell? ⟨w.heap.size,6,none⟩=some (.slice a ls.length cap):=cell_at m3 6
  clear m3
  by_cases hkn:k<ls.length
  ·obtain⟨b,o,rfl,hlt,hc0,hc1,hc2,hc3,hc4,hc5⟩:=(I0.on LR).at k hkn
   have HS:Hid (_):=legsFrom_step ls t.fi t.la k hkn
   have HW:Hid (∀w,_):=fun w=>specLeg_val ls[k] t.fi t.la w
   generalize legB ls[k] t.fi t.la=bb at*
   generalize ls[k]=p at*
   go_wp2
   go_region_with (go_at_call 93;(with_reducible refine(HW.out _).mono ?_);rintro e w4 ⟨rfl,L4⟩)
   all_goals
    have L5:Below w3.heap.size w3 w4:=LR.drew.trans (L4.mono LR.size)
    have L6:=join_below N L5
    clear LR L4 hc0 hc1 hc2 hc3 hc4 hc5 c4 c5 c6
    cases bb
    ·have HF:Hid (R=false):=HNO.out k H.out (by rw[HS.out];rfl)
     go_wp2
     go_ret
     exact⟨by rw[HF.out]<;>rfl,L6⟩
    ·have HE:Hid (legsFrom ls t.fi t.la 0=legsFrom ls t.fi t.la (k+1)):=by show _=_;rw[H.out,HS.out];rfl
     go_wp2
     go_roundw
     case rel=>exact⟨k+1,by omega,by go_num,L5,HE⟩
     case measure=>simp[intOf];omega
  ·have HE:Hid (R=true):=by show _=_;rw[HO.out,H.out,legsFrom_end ls t.fi t.la k hkn];rfl
   have L6:=join_below N LR
   go_wp2
   go_ret
   exact⟨by rw[HE.out]<;>rfl,L6⟩

end Tk
end Go.Proofs.YtcjgkmhpeedhiaaGreatDoor
