/- Contracts of ReadMark, of the program and of the model. -/
import Derived.Test.YtcjgkmhpeedhiaaGreatDoorNum
import Derived.Deep.RegionWith
import Derived.Below
import Derived.Laws.BitsLemmas
namespace Go.Proofs.YtcjgkmhpeedhiaaGreatDoor
namespace Num
open Go.ChangeShapes Go.WideShapes Go.ChangeAt Go.RowKit
set_option linter.unusedSimpArgs false
set_option linter.unusedVariables false

def wordI (s:ByteArray) (h:4≤s.size):Int:=(s[0].toNat:Int)*16777216+(s[1].toNat:Int)*65536+(s[2].toNat:Int)*256+(s[3].toNat:Int)

theorem specWordN_val (s:ByteArray) (w:World) (h:4≤s.size):
 Calls Tryz.prog 116 #[.string s] w fun e w'=>e= .returned (.int .i64 (wordI s h))∧Drawn w w':=by
 have h0:(0:Int)<s.size:=by omega
 have h1:(1:Int)<s.size:=by omega
 have h2:(2:Int)<s.size:=by omega
 have h3:(3:Int)<s.size:=by omega
 have n0:0<s.size:=by omega
 have n1:1<s.size:=by omega
 have n2:2<s.size:=by omega
 have n3:3<s.size:=by omega
 have b0:=s[0].toNat_lt
 have b1:=s[1].toNat_lt
 have b2:=s[2].toNat_lt
 have b3:=s[3].toNat_lt
 go_enter Tryz.func116,Tryz.ntmps116
 go_wp2
 go_quiet (fail)
 go_wp2
 go_ret
 exact⟨rfl,_,rfl⟩

def part (s:ByteArray):Nat→Nat
 |0=>0
 |k+1=>part s k*256+(s.data.getD k 0).toNat

theorem or_add (m b:Nat) (hm:m<16777216) (hb:b<256):bits .or .i64 ((m:Int)*256) (b:Int)=((m*256+b:Nat):Int):=by
 have e1:((m:Int)*256)=((m*256:Nat):Int):=by omega
 have h1:(BitVec.ofInt 64 ((m*256:Nat):Int)).toNat=m*256:=by
  rw[BitVec.ofInt_natCast,BitVec.toNat_ofNat]
  exact Nat.mod_eq_of_lt (by omega)
 have h2:(BitVec.ofInt 64 (b:Int)).toNat=b:=by
  rw[BitVec.ofInt_natCast,BitVec.toNat_ofNat]
  exact Nat.mod_eq_of_lt (by omega)
 have h3:m*256|||b=m*256+b:=by
  have:=Nat.shiftLeft_add_eq_or_of_lt (show b<2^8 by omega) m
  rw[Nat.shiftLeft_eq]at this
  exact this.symm
 have e:bits .or .i64 ((m*256:Nat):Int) (b:Int)=IntKind.i64.wrap ((m*256|||b:Nat):Int):=by
  show IntKind.i64.wrap ((BitVec.ofInt 64 ((m*256:Nat):Int)|||BitVec.ofInt 64 (b:Int)).toNat:Int)=_
  rw[BitVec.toNat_or,h1,h2]
 rw[e1,e,h3,IntKind.wrap_i64]
 omega

theorem pow_bd (m k:Nat) (hk:k<4) (h:m<256^k):m<16777216:=by
 have:256^k≤256^3:=Nat.pow_le_pow_right (by omega) (by omega)
 omega

theorem getD_at (s:ByteArray) (k:Nat) (h:k<s.size):s.data.getD k 0=s[k]:=by
 have h':k<s.data.size:=h
 unfold Array.getD
 rw[dif_pos h']
 rfl

theorem numberOf_val (s:ByteArray) (w:World) (h:s.size=4):
 Calls Tryz.prog 120 #[.string s] w fun e w'=>e= .returned (.int .i64 (part s 4:Nat))∧w'=w:=by
 go_enter Tryz.func120,Tryz.ntmps120
 go_wp2
 go_loop [3,7] (fun t i=>∃k m:Nat,k≤4∧m<256^k∧m<4294967296∧i= .int .i64 k∧t= .int .i64 m∧Hid (m=part s k)) (fun _ i=>4-(intOf i).toNat)
 case atStart=>exact⟨0,0,by omega,by simp,by omega,rfl,rfl,rfl⟩
 case round=>
  obtain⟨k,m,hk,hm,hm2,rfl,rfl,H⟩:=hrel
  by_cases hlt:k<4
  ·have hks:k<s.size:=by omega
   have hb:=s[k].toNat_lt
   have hm3:=pow_bd m k hlt hm
   have HN:Hid (m*256+s[k].toNat=part s (k+1)):=by
    show _=_
    rw[part,←H.out,getD_at s k hks]
   have HP:Hid (m*256+s[k].toNat<256^(k+1)):=by
    show _<_
    rw[Nat.pow_succ]
    omega
   have HO:Hid (_):=or_add m s[k].toNat hm3 (by omega)
   clear hm
   go_wp2
   go_round
   case rel=>exact⟨k+1,m*256+s[k].toNat,by omega,HP,by omega,by go_num,by rw[HO.out],HN⟩
   case measure=>simp[intOf];omega
  ·have e:k=4:=by omega
   subst e
   have HE:=H.out
   subst HE
   clear hm
   go_wp2
   go_ret
   exact⟨rfl,rfl⟩

theorem wordI_part (s:ByteArray) (h:4≤s.size):wordI s h=(part s 4:Nat):=by
 unfold wordI
 simp only[part]
 rw[getD_at s 0 (by omega),getD_at s 1 (by omega),getD_at s 2 (by omega),getD_at s 3 (by omega)]
 omega

theorem specWordN_part (s:ByteArray) (w:World) (h:4≤s.size):
 Calls Tryz.prog 116 #[.string s] w fun e w'=>e= .returned (.int .i64 (part s 4:Nat))∧Drawn w w':=by
 have:=specWordN_val s w h
 rwa [wordI_part s h]at this

theorem rd_new (w:World) (o:Obj):(w.alloc o).heap[w.heap.size]? =some o:=by
 show(w.heap.push o)[w.heap.size]? =some o
 simp

theorem rd_below {B:Nat} {w w1:World} (h:Drawn w w1):Below B w w1:=by
 obtain⟨q,rfl⟩:=h
 exact⟨rfl,rfl,rfl,Nat.le_refl _,fun _ _=>rfl⟩

theorem rd_kept {X w4:World} {n:Nat} {o:Obj} (D:Drawn X w4) (h:X.heap[n]? =some o):w4.heap[n]? =some o:=by
 obtain⟨q,rfl⟩:=D
 exact h

theorem rd_cell {w:World} {b:Nat} {cs:Array Value} {t:TypeId} {f:Nat×Nat} (h:w.heap[b]? =some (.cells cs t f)) (i:Nat):w.cell? ⟨b,i,none⟩=cs[i]? :=by
 unfold World.cell?
 rw[h]
 simp

theorem rd_frozen {w:World} {b:Nat} {cs:Array Value} {t:TypeId} (h:w.heap[b]? =some (.cells cs t (0,0))) (i:Nat):w.frozen? ⟨b,i,none⟩=false:=by
 unfold World.frozen?
 rw[h]
 simp

theorem extract_size (s:ByteArray) (h:s.size=8):(s.extract 0 4).size=4∧(s.extract 4 8).size=4:=by
 rw[ByteArray.size_extract,ByteArray.size_extract]
 omega

theorem part_ext (s:ByteArray) (h:s.size=8):part (s.extract 0 4) 4=part s 4:=by
 have hs:=(extract_size s h).1
 simp only[part]
 rw[getD_at _ 0 (by omega),getD_at _ 1 (by omega),getD_at _ 2 (by omega),getD_at _ 3 (by omega),getD_at s 0 (by omega),getD_at s 1 (by omega),getD_at s 2 (by omega),getD_at s 3 (by omega)]
 simp[ByteArray.getElem_extract]

theorem numberOf_drawn (s:ByteArray) (w:World) (h:s.size=4):
 Calls Tryz.prog 120 #[.string s] w fun e w'=>e= .returned (.int .i64 (part s 4:Nat))∧Drawn w w':=by
 refine(numberOf_val s w h).mono ?_
 rintro e w' ⟨rfl,rfl⟩
 exact⟨rfl,Drawn.refl _⟩

theorem numberOf_head (s:ByteArray) (w:World) (h:s.size=8):
 Calls Tryz.prog 120 #[.string (s.extract 0 4)] w fun e w'=>e= .returned (.int .i64 (part s 4:Nat))∧Drawn w w':=by
 have:=numberOf_drawn (s.extract 0 4) w (extract_size s h).1
 rwa [part_ext s h]at this

set_option maxHeartbeats 1000000 in
theorem specReadMark_yes (s:ByteArray) (w:World) (h:s.size=8):
 Calls Tryz.prog 73 #[.string s] w fun e w'=>e= .returned (.tuple #[.agg #[.int .i64 (part s 4:Nat),.int .i64 (part (s.extract 4 8) 4:Nat)],.bool true])∧Below w.heap.size w w':=by
 have hi:(s.size:Int)=8:=by omega
 have hb:(w.alloc (.cells #[.int .i64 0,.int .i64 0] 42)).heap[w.heap.size]? =some (.cells #[.int .i64 0,.int .i64 0] 42):=rd_new w _
 have L0:Below w.heap.size w (w.alloc (.cells #[.int .i64 0,.int .i64 0] 42)):=(Below.refl _ _).alloc (Nat.le_refl _) _
 have HX:Hid (∀w,_):=fun w=>specWordN_part s w (by omega)
 have HY:Hid (∀w,_):=fun w=>specWordN_part (s.extract 4 8) w (by have:=(extract_size s h).2;omega)
 generalize part s 4=x at*
 generalize part (s.extract 4 8) 4=y at*
 go_enter Tryz.func73,Tryz.ntmps73
 go_wp2
 go_region_with (first
  |(go_at_call 116;(with_reducible refine(HX.out _).mono ?_);rintro e w3 ⟨rfl,D3⟩)
  |(go_at_call 116;(with_reducible refine(HY.out _).mono ?_);rintro e w4 ⟨rfl,D4⟩;have hb4:=rd_kept D4 (rd_kept D3 hb);have d0:w4.cell? ⟨w.heap.size,0,none⟩=some (.int .i64 0):=rd_cell hb4 0;have d1:w4.cell? ⟨w.heap.size,1,none⟩=some (.int .i64 0):=rd_cell hb4 1;have f0:=rd_frozen hb4 0;have f1:=rd_frozen hb4 1;clear hb4))
 all_goals
  go_wp2
  refine bodyPost_ret (v:= .tuple #[.agg #[.int .i64 (x:Nat),.int .i64 (y:Nat)],.bool true]) (by simp[results,Tryz.results73,go_sem,d0,d1]) rfl ?_
  exact⟨rfl,((L0.drew.trans ((rd_below D3).trans (rd_below D4))).setCell (Nat.le_refl _) _).setCell (Nat.le_refl _) _⟩

theorem specReadMark_no (s:ByteArray) (w:World) (hm:s.size≤maxLen) (h:s.size≠8):
 Calls Tryz.prog 73 #[.string s] w fun e w'=>e= .returned (.tuple #[.agg #[.int .i64 0,.int .i64 0],.bool false])∧Below w.heap.size w w':=by
 unfold maxLen at hm
 have hne:(((s.size:Nat):Int) !=8)=true:=by rw[bne_iff_ne];omega
 go_enter Tryz.func73,Tryz.ntmps73
 go_wp2
 refine bodyPost_ret (v:= .tuple #[.agg #[.int .i64 0,.int .i64 0],.bool false]) (by simp[results,Tryz.results73,go_sem]) rfl ?_
 exact⟨rfl,(Below.refl _ _).alloc (Nat.le_refl _) _⟩

set_option maxHeartbeats 1000000 in
theorem implReadMark_yes (s:ByteArray) (w:World) (h:s.size=8):
 Calls Tryz.prog 81 #[.string s] w fun e w'=>e= .returned (.tuple #[.agg #[.int .i64 (part s 4:Nat),.int .i64 (part (s.extract 4 8) 4:Nat)],.bool true])∧Below w.heap.size w w':=by
 have hi:(s.size:Int)=8:=by omega
 have hb:(w.alloc (.cells #[.int .i64 0,.int .i64 0] 42)).heap[w.heap.size]? =some (.cells #[.int .i64 0,.int .i64 0] 42):=rd_new w _
 have L0:Below w.heap.size w (w.alloc (.cells #[.int .i64 0,.int .i64 0] 42)):=(Below.refl _ _).alloc (Nat.le_refl _) _
 have HX:Hid (∀w,_):=fun w=>numberOf_head s w h
 have HY:Hid (∀w,_):=fun w=>numberOf_drawn (s.extract 4 8) w (extract_size s h).2
 generalize part s 4=x at*
 generalize part (s.extract 4 8) 4=y at*
 go_enter Tryz.func81,Tryz.ntmps81
 go_wp2
 go_region_with (first
  |(go_at_call 120;(with_reducible refine(HX.out _).mono ?_);rintro e w3 ⟨rfl,D3⟩)
  |(go_at_call 120;(with_reducible refine(HY.out _).mono ?_);rintro e w4 ⟨rfl,D4⟩;have hb4:=rd_kept D4 (rd_kept D3 hb);have d0:w4.cell? ⟨w.heap.size,0,none⟩=some (.int .i64 0):=rd_cell hb4 0;have d1:w4.cell? ⟨w.heap.size,1,none⟩=some (.int .i64 0):=rd_cell hb4 1;have f0:=rd_frozen hb4 0;have f1:=rd_frozen hb4 1;clear hb4))
 all_goals
  go_wp2
  refine bodyPost_ret (v:= .tuple #[.agg #[.int .i64 (x:Nat),.int .i64 (y:Nat)],.bool true]) (by simp[results,Tryz.results81,go_sem,d0,d1]) rfl ?_
  exact⟨rfl,((L0.drew.trans ((rd_below D3).trans (rd_below D4))).setCell (Nat.le_refl _) _).setCell (Nat.le_refl _) _⟩

theorem implReadMark_no (s:ByteArray) (w:World) (hm:s.size≤maxLen) (h:s.size≠8):
 Calls Tryz.prog 81 #[.string s] w fun e w'=>e= .returned (.tuple #[.agg #[.int .i64 0,.int .i64 0],.bool false])∧Below w.heap.size w w':=by
 unfold maxLen at hm
 have hne:(((s.size:Nat):Int) !=8)=true:=by rw[bne_iff_ne];omega
 go_enter Tryz.func81,Tryz.ntmps81
 go_wp2
 refine bodyPost_ret (v:= .tuple #[.agg #[.int .i64 0,.int .i64 0],.bool false]) (by simp[results,Tryz.results81,go_sem]) rfl ?_
 exact⟨rfl,(Below.refl _ _).alloc (Nat.le_refl _) _⟩

def rmR (s:ByteArray):Int:=if s.size=8 then(part s 4:Nat)else 0

def rmS (s:ByteArray):Int:=if s.size=8 then(part (s.extract 4 8) 4:Nat)else 0

theorem specReadMark_val (s:ByteArray) (w:World) (hm:s.size≤maxLen):
 Calls Tryz.prog 73 #[.string s] w fun e w'=>e= .returned (.tuple #[.agg #[.int .i64 (rmR s),.int .i64 (rmS s)],.bool (decide (s.size=8))])∧Below w.heap.size w w':=by
 by_cases h:s.size=8
 ·rw[rmR,rmS,if_pos h,if_pos h,decide_eq_true h];exact specReadMark_yes s w h
 ·rw[rmR,rmS,if_neg h,if_neg h,decide_eq_false h];exact specReadMark_no s w hm h

theorem implReadMark_val (s:ByteArray) (w:World) (hm:s.size≤maxLen):
 Calls Tryz.prog 81 #[.string s] w fun e w'=>e= .returned (.tuple #[.agg #[.int .i64 (rmR s),.int .i64 (rmS s)],.bool (decide (s.size=8))])∧Below w.heap.size w w':=by
 by_cases h:s.size=8
 ·rw[rmR,rmS,if_pos h,if_pos h,decide_eq_true h];exact implReadMark_yes s w h
 ·rw[rmR,rmS,if_neg h,if_neg h,decide_eq_false h];exact implReadMark_no s w hm h

end Num
end Go.Proofs.YtcjgkmhpeedhiaaGreatDoor
