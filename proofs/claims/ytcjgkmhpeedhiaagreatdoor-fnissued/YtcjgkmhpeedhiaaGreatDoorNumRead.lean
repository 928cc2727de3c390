/- Contracts of ReadDec, of the program and of its model: the number whose decimal text it is, where there is one. -/
import Derived.Test.YtcjgkmhpeedhiaaGreatDoorNumDec
namespace Go.Proofs.YtcjgkmhpeedhiaaGreatDoor
namespace Num
open Go.ChangeShapes Go.WideShapes Go.ChangeAt Go.RowKit

theorem str_ne {a b:ByteArray} (h:a≠b):(a.toList==b.toList)=false:=by
 rw[beq_eq_false_iff_ne,ByteArray.toList_eq,ByteArray.toList_eq]
 intro h2
 exact h (ByteArray.ext (Array.toList_inj.1 h2))

theorem head_at (s:ByteArray) (h:0<s.size):s.data.toList.head? =some s[0]:=by
 rw[List.head?_eq_getElem?,List.getElem?_eq_getElem (by simpa using h)]
 rfl

theorem len_data (s:ByteArray):s.data.toList.length=s.size:=by rw[Array.length_toList];rfl

theorem specReadDec_long (s:ByteArray) (w:World) (hs:s.size≤maxLen) (h:s.size=0∨9<s.size):
 Calls Tryz.prog 118 #[.string s] w fun e w'=>e= .returned (.tuple #[.int .i64 0,.bool false])∧w'=w:=by
 unfold maxLen at hs
 rcases h with h|h
 ·have h0:((s.size:Int)==0)=true:=by rw[beq_iff_eq];omega
  clear h
  go_enter Tryz.func118,Tryz.ntmps118
  go_wp2
  go_ret2
  exact⟨rfl,rfl⟩
 ·have h0:((s.size:Int)==0)=false:=by rw[beq_eq_false_iff_ne];omega
  have h9:decide ((9:Int)<s.size)=true:=by simp;omega
  go_enter Tryz.func118,Tryz.ntmps118
  go_wp2
  go_ret2
  exact⟨rfl,rfl⟩

def ReadEnd (l:List UInt8) (e:Ending):Prop:=
 (Math.ReadOk l∧e= .returned (.tuple #[.int .i64 (Math.val l),.bool true]))∨(¬Math.ReadOk l∧e= .returned (.tuple #[.int .i64 0,.bool false]))

theorem ReadEnd.no {l:List UInt8} (h:¬Math.ReadOk l):ReadEnd l (.returned (.tuple #[.int .i64 0,.bool false])):=Or.inr ⟨h,rfl⟩

theorem ReadEnd.yes {l:List UInt8} (h:Math.ReadOk l) {v:Int} (hv:v=Math.val l):ReadEnd l (.returned (.tuple #[.int .i64 v,.bool true])):=by
 subst hv
 exact Or.inl ⟨h,rfl⟩

theorem not_digit (s:ByteArray) (k:Nat) (h:k<s.size) (hd:¬(48≤s[k].toNat∧s[k].toNat≤57)):¬Math.ReadOk s.data.toList:=by
 intro hr
 exact hd (hr.1 s[k] (by exact List.getElem_mem (by simpa using h)))

theorem dec_same (s:ByteArray) (h1:1≤s.size) (h9:s.size≤9) (hd:Math.AllD s.data.toList):decS (Math.val s.data.toList:Nat)=s↔Math.ReadOk s.data.toList:=by
 have hl:=len_data s
 have hne:s.data.toList≠ []:=fun h=>by rw[h]at hl;simp at hl;omega
 have e:decS (Math.val s.data.toList:Nat)=⟨(Lib.decDigits (Math.val s.data.toList)).toArray⟩:=by
  unfold decS Lib.itoa
  rw[if_neg (by omega)]
  rfl
 rw[e]
 constructor
 ·intro h
  refine⟨hd,by omega,by omega,?_⟩
  by_cases h2:s.data.toList.length=1
  ·exact Or.inl h2
  ·refine Or.inr fun h3=> ?_
   apply Math.dec_not _ h2 h3
   have:=congrArg (fun x:ByteArray=>x.data.toList) h
   simpa using this
 ·intro h
  rw[Math.dec_val _ hd hne h.2.2.2]

theorem specReadDec_any (s:ByteArray) (w:World) (h1:1≤s.size) (h9:s.size≤9):
 Calls Tryz.prog 118 #[.string s] w fun e w'=>ReadEnd s.data.toList e∧w'=w:=by
 have h0:((s.size:Int)==0)=false:=by rw[beq_eq_false_iff_ne];omega
 have h9':decide ((9:Int)<s.size)=false:=by simp;omega
 go_enter Tryz.func118,Tryz.ntmps118
 go_wp2
 go_loop [4,5] (fun t i=>∃k v:Nat,k≤s.size∧v≤999999999∧i= .int .i64 k∧t= .int .i64 v∧Hid (v=Math.val (s.data.toList.take k))∧Hid (Math.AllD (s.data.toList.take k))) (fun _ i=>s.size-(intOf i).toNat)
 case atStart=>exact⟨0,0,by omega,by omega,rfl,rfl,rfl,fun b hb=>by simp at hb⟩
 case round=>
  obtain⟨k,v,hk,hv,rfl,rfl,H,HD⟩:=hrel
  by_cases hlt:k<s.size
  ·by_cases hd:48≤s[k].toNat∧s[k].toNat≤57
   ·have HA:Hid (Math.AllD (s.data.toList.take (k+1))):=by
     show Math.AllD _
     rw[Math.take_snoc s k hlt]
     exact HD.out.snoc hd
    have HV:Hid (10*v+(s[k].toNat-48)=Math.val (s.data.toList.take (k+1))):=by
     show _=_
     rw[Math.take_snoc s k hlt,Math.val_snoc,←H.out]
    have hv2:10*v+(s[k].toNat-48)≤999999999:=by
     rw[HV.out]
     exact Math.val_bd _ HA.out (by rw[List.length_take];omega)
    have hf:decide ((48:Int)≤(s[k].toNat:Int)∧(s[k].toNat:Int)≤57)=true:=by simp;omega
    obtain⟨hd1,hd2⟩:=hd
    generalize hB:s[k].toNat=B at*
    go_wp2_with (go_at_call 55;refine(l01In_any _ _ _ _).mono ?_;rw[hf];rintro e w' ⟨rfl,rfl⟩)
    go_round
    case rel=>exact⟨k+1,10*v+(B-48),by omega,hv2,by go_num,by go_num,HV,HA⟩
    case measure=>simp[intOf];omega
   ·have HR:Hid (¬Math.ReadOk s.data.toList):=not_digit s k hlt hd
    have hb:=s[k].toNat_lt
    have hf:decide ((48:Int)≤(s[k].toNat:Int)∧(s[k].toNat:Int)≤57)=false:=by simp;omega
    clear hd
    generalize hB:s[k].toNat=B at*
    go_wp2_with (go_at_call 55;refine(l01In_any _ _ _ _).mono ?_;rw[hf];rintro e w' ⟨rfl,rfl⟩)
    go_ret2
    exact⟨ReadEnd.no HR.out,rfl⟩
  ·obtain rfl:k=s.size:=by omega
   have HV:Hid (v=Math.val s.data.toList):=by show _=_;rw[H.out,Math.take_all]
   have HA:Hid (Math.AllD s.data.toList):=by have:=HD.out;rw[Math.take_all]at this;exact this
   have HS:Hid (decS (v:Int)=s↔Math.ReadOk s.data.toList):=by
    show _↔_
    rw[HV.out]
    exact dec_same s h1 h9 HA.out
   generalize hT:decS (v:Int)=T at*
   have HT:Hid (decS (v:Int)=T):=hT
   clear hT
   by_cases hTs:T=s
   ·have HR:Hid (Math.ReadOk s.data.toList):=HS.out.1 hTs
    subst hTs
    go_wp2_with (go_at_call 94;refine(specDecText_nat _ _ (by omega)).mono ?_;rw[HT.out];rintro e w' ⟨rfl,rfl⟩)
    go_ret2
    exact⟨ReadEnd.yes HR.out (by rw[HV.out]),rfl⟩
   ·have HR:Hid (¬Math.ReadOk s.data.toList):=fun h=>hTs (HS.out.2 h)
    have hTl:=str_ne hTs
    go_wp2_with (go_at_call 94;refine(specDecText_nat _ _ (by omega)).mono ?_;rw[HT.out];rintro e w' ⟨rfl,rfl⟩)
    go_ret2
    exact⟨ReadEnd.no HR.out,rfl⟩

theorem implReadDec_long (s:ByteArray) (w:World) (hs:s.size≤maxLen) (h:s.size=0∨9<s.size):
 Calls Tryz.prog 130 #[.string s] w fun e w'=>e= .returned (.tuple #[.int .i64 0,.bool false])∧w'=w:=by
 unfold maxLen at hs
 rcases h with h|h
 ·have h0:((s.size:Int)==0)=true:=by rw[beq_iff_eq];omega
  clear h
  go_enter Tryz.func130,Tryz.ntmps130
  go_wp2
  go_ret2
  exact⟨rfl,rfl⟩
 ·have h0:((s.size:Int)==0)=false:=by rw[beq_eq_false_iff_ne];omega
  have h9:decide ((9:Int)<s.size)=true:=by simp;omega
  go_enter Tryz.func130,Tryz.ntmps130
  go_wp2
  go_ret2
  exact⟨rfl,rfl⟩

theorem implReadDec_nought (s:ByteArray) (w:World) (h1:2≤s.size) (h9:s.size≤9) (hz:s[0].toNat=48):
 Calls Tryz.prog 130 #[.string s] w fun e w'=>e= .returned (.tuple #[.int .i64 0,.bool false])∧w'=w:=by
 have h0:((s.size:Int)==0)=false:=by rw[beq_eq_false_iff_ne];omega
 have h9':decide ((9:Int)<s.size)=false:=by simp;omega
 have h1':decide ((1:Int)<s.size)=true:=by simp;omega
 have hb:(((s[0].toNat:Nat):Int)==48)=true:=by rw[hz];rfl
 clear hz
 go_enter Tryz.func130,Tryz.ntmps130
 go_wp2
 go_ret2
 exact⟨rfl,rfl⟩

theorem read_ok (s:ByteArray) (h1:1≤s.size) (h9:s.size≤9) (hz:s.size=1∨s[0].toNat≠48) (hd:Math.AllD s.data.toList):Math.ReadOk s.data.toList:=by
 have hl:=len_data s
 refine⟨hd,by omega,by omega,?_⟩
 rcases hz with h|h
 ·exact Or.inl (by omega)
 ·refine Or.inr fun h2=>h ?_
  rw[head_at s (by omega)]at h2
  rw[Option.some.inj h2]
  rfl

theorem read_not (s:ByteArray) (h2:2≤s.size) (hz:s[0].toNat=48):¬Math.ReadOk s.data.toList:=by
 have hl:=len_data s
 intro h
 rcases h.2.2.2 with h|h
 ·omega
 ·apply h
  rw[head_at s (by omega)]
  exact congrArg some (UInt8.toNat_inj.1 hz)

theorem read_not_long (s:ByteArray) (h2:s.size=0∨9<s.size):¬Math.ReadOk s.data.toList:=by
 have hl:=len_data s
 intro h
 have ha:=h.2.1
 have hb:=h.2.2.1
 omega

theorem implReadDec_any (s:ByteArray) (w:World) (h1:1≤s.size) (h9:s.size≤9) (hz:s.size=1∨s[0].toNat≠48):
 Calls Tryz.prog 130 #[.string s] w fun e w'=>ReadEnd s.data.toList e∧w'=w:=by
 have h0:((s.size:Int)==0)=false:=by rw[beq_eq_false_iff_ne];omega
 have h9':decide ((9:Int)<s.size)=false:=by simp;omega
 have HZ:Hid (s.size=1∨s[0].toNat≠48):=hz
 by_cases h2:s.size=1
 ·have h1':decide ((1:Int)<s.size)=false:=by simp;omega
  clear hz h2
  go_enter Tryz.func130,Tryz.ntmps130
  go_wp2
  go_loop [4,26] (fun t i=>∃k v:Nat,k≤s.size∧v≤999999999∧i= .int .i64 k∧t= .int .i64 v∧Hid (v=Math.val (s.data.toList.take k))∧Hid (Math.AllD (s.data.toList.take k))) (fun _ i=>s.size-(intOf i).toNat)
  case atStart=>exact⟨0,0,by omega,by omega,rfl,rfl,rfl,fun b hb=>by simp at hb⟩
  case round=>
   obtain⟨k,v,hk,hv,rfl,rfl,H,HD⟩:=hrel
   by_cases hlt:k<s.size
   ·by_cases hd:48≤s[k].toNat∧s[k].toNat≤57
    ·have HA:Hid (Math.AllD (s.data.toList.take (k+1))):=by
      show Math.AllD _
      rw[Math.take_snoc s k hlt]
      exact HD.out.snoc hd
     have HV:Hid (10*v+(s[k].toNat-48)=Math.val (s.data.toList.take (k+1))):=by
      show _=_
      rw[Math.take_snoc s k hlt,Math.val_snoc,←H.out]
     have hv2:10*v+(s[k].toNat-48)≤999999999:=by
      rw[HV.out]
      exact Math.val_bd _ HA.out (by rw[List.length_take];omega)
     obtain⟨hd1,hd2⟩:=hd
     generalize hB:s[k].toNat=B at*
     go_wp2
     go_round
     case rel=>exact⟨k+1,10*v+(B-48),by omega,hv2,by go_num,by go_num,HV,HA⟩
     case measure=>simp[intOf];omega
    ·have HR:Hid (¬Math.ReadOk s.data.toList):=not_digit s k hlt hd
     have hb:=s[k].toNat_lt
     generalize hB:s[k].toNat=B at*
     by_cases hlow:B<48
     ·clear hd
      go_wp2
      go_ret2
      exact⟨ReadEnd.no HR.out,rfl⟩
     ·have hhigh:57<B:=by omega
      clear hd
      go_wp2
      go_ret2
      exact⟨ReadEnd.no HR.out,rfl⟩
   ·obtain rfl:k=s.size:=by omega
    have HV:Hid (v=Math.val s.data.toList):=by show _=_;rw[H.out,Math.take_all]
    have HR:Hid (Math.ReadOk s.data.toList):=read_ok s h1 h9 HZ.out (by have:=HD.out;rw[Math.take_all]at this;exact this)
    go_wp2
    go_ret2
    exact⟨ReadEnd.yes HR.out (by rw[HV.out]),rfl⟩
 ·have h1':decide ((1:Int)<s.size)=true:=by simp;omega
  have hb:(((s[0].toNat:Nat):Int)==48)=false:=by rw[beq_eq_false_iff_ne];omega
  clear hz
  go_enter Tryz.func130,Tryz.ntmps130
  go_wp2
  have HB:Hid ((((s[0].toNat:Nat):Int)==48)=false):=hb
  clear hb
  go_loop [4,26] (fun t i=>∃k v:Nat,k≤s.size∧v≤999999999∧i= .int .i64 k∧t= .int .i64 v∧Hid (v=Math.val (s.data.toList.take k))∧Hid (Math.AllD (s.data.toList.take k))) (fun _ i=>s.size-(intOf i).toNat)
  case atStart=>exact⟨0,0,by omega,by omega,rfl,rfl,rfl,fun b hb=>by simp at hb⟩
  case round=>
   obtain⟨k,v,hk,hv,rfl,rfl,H,HD⟩:=hrel
   by_cases hlt:k<s.size
   ·by_cases hd:48≤s[k].toNat∧s[k].toNat≤57
    ·have HA:Hid (Math.AllD (s.data.toList.take (k+1))):=by
      show Math.AllD _
      rw[Math.take_snoc s k hlt]
      exact HD.out.snoc hd
     have HV:Hid (10*v+(s[k].toNat-48)=Math.val (s.data.toList.take (k+1))):=by
      show _=_
      rw[Math.take_snoc s k hlt,Math.val_snoc,←H.out]
     have hv2:10*v+(s[k].toNat-48)≤999999999:=by
      rw[HV.out]
      exact Math.val_bd _ HA.out (by rw[List.length_take];omega)
     obtain⟨hd1,hd2⟩:=hd
     generalize hB:s[k].toNat=B at*
     go_wp2
     go_round
     case rel=>exact⟨k+1,10*v+(B-48),by omega,hv2,by go_num,by go_num,HV,HA⟩
     case measure=>simp[intOf];omega
    ·have HR:Hid (¬Math.ReadOk s.data.toList):=not_digit s k hlt hd
     have hb:=s[k].toNat_lt
     generalize hB:s[k].toNat=B at*
     by_cases hlow:B<48
     ·clear hd
      go_wp2
      go_ret2
      exact⟨ReadEnd.no HR.out,rfl⟩
     ·have hhigh:57<B:=by omega
      clear hd
      go_wp2
      go_ret2
      exact⟨ReadEnd.no HR.out,rfl⟩
   ·obtain rfl:k=s.size:=by omega
    have HV:Hid (v=Math.val s.data.toList):=by show _=_;rw[H.out,Math.take_all]
    have HR:Hid (Math.ReadOk s.data.toList):=read_ok s h1 h9 HZ.out (by have:=HD.out;rw[Math.take_all]at this;exact this)
    go_wp2
    go_ret2
    exact⟨ReadEnd.yes HR.out (by rw[HV.out]),rfl⟩

theorem specReadDec_all (s:ByteArray) (w:World) (hs:s.size≤maxLen):
 Calls Tryz.prog 118 #[.string s] w fun e w'=>ReadEnd s.data.toList e∧w'=w:=by
 by_cases h:s.size=0∨9<s.size
 ·refine(specReadDec_long s w hs h).mono ?_
  rintro e w' ⟨rfl,rfl⟩
  exact⟨ReadEnd.no (read_not_long s h),rfl⟩
 ·exact specReadDec_any s w (by omega) (by omega)

theorem specReadDec_yes (s:ByteArray) (w:World) (hs:s.size≤maxLen) (h:Math.ReadOk s.data.toList):
 Calls Tryz.prog 118 #[.string s] w fun e w'=>e= .returned (.tuple #[.int .i64 (Math.val s.data.toList),.bool true])∧w'=w:=by
 refine(specReadDec_all s w hs).mono ?_
 rintro e w' ⟨he,rfl⟩
 rcases he with⟨_,he⟩|⟨hn,_⟩
 ·exact⟨he,rfl⟩
 ·exact absurd h hn

theorem specReadDec_no (s:ByteArray) (w:World) (hs:s.size≤maxLen) (h:¬Math.ReadOk s.data.toList):
 Calls Tryz.prog 118 #[.string s] w fun e w'=>e= .returned (.tuple #[.int .i64 0,.bool false])∧w'=w:=by
 refine(specReadDec_all s w hs).mono ?_
 rintro e w' ⟨he,rfl⟩
 rcases he with⟨hn,_⟩|⟨_,he⟩
 ·exact absurd hn h
 ·exact⟨he,rfl⟩

theorem implReadDec_all (s:ByteArray) (w:World) (hs:s.size≤maxLen):
 Calls Tryz.prog 130 #[.string s] w fun e w'=>ReadEnd s.data.toList e∧w'=w:=by
 by_cases h:s.size=0∨9<s.size
 ·refine(implReadDec_long s w hs h).mono ?_
  rintro e w' ⟨rfl,rfl⟩
  exact⟨ReadEnd.no (read_not_long s h),rfl⟩
 ·by_cases hz:s.size=1∨s[0].toNat≠48
  ·exact implReadDec_any s w (by omega) (by omega) hz
  ·refine(implReadDec_nought s w (by omega) (by omega) (by omega)).mono ?_
   rintro e w' ⟨rfl,rfl⟩
   exact⟨ReadEnd.no (read_not s (by omega) (by omega)),rfl⟩

theorem implReadDec_yes (s:ByteArray) (w:World) (hs:s.size≤maxLen) (h:Math.ReadOk s.data.toList):
 Calls Tryz.prog 130 #[.string s] w fun e w'=>e= .returned (.tuple #[.int .i64 (Math.val s.data.toList),.bool true])∧w'=w:=by
 refine(implReadDec_all s w hs).mono ?_
 rintro e w' ⟨he,rfl⟩
 rcases he with⟨_,he⟩|⟨hn,_⟩
 ·exact⟨he,rfl⟩
 ·exact absurd h hn

theorem implReadDec_no (s:ByteArray) (w:World) (hs:s.size≤maxLen) (h:¬Math.ReadOk s.data.toList):
 Calls Tryz.prog 130 #[.string s] w fun e w'=>e= .returned (.tuple #[.int .i64 0,.bool false])∧w'=w:=by
 refine(implReadDec_all s w hs).mono ?_
 rintro e w' ⟨he,rfl⟩
 rcases he with⟨hn,_⟩|⟨_,he⟩
 ·exact absurd hn h
 ·exact⟨he,rfl⟩

end Num
end Go.Proofs.YtcjgkmhpeedhiaaGreatDoor
