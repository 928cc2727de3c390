/- Contracts of PutTicket, of the program and of its model: the walks. -/
import Derived.Test.YtcjgkmhpeedhiaaGreatDoorTkPut
import Derived.BigRegion
import Derived.Deep.RegionHeld3
namespace Go.Proofs.YtcjgkmhpeedhiaaGreatDoor
namespace Tk
open Go.ChangeShapes Go.WideShapes Go.ChangeAt Go.RowKit
open Pk (new_below join_below cell_at heap_new frozen_at lt_of kept heap_old)
open Num (decS Tens)
set_option linter.unusedSimpArgs false
set_option linter.unusedVariables false

abbrev p2V (s:ByteArray) (b:Bool):Value:= .tuple #[.string s,.bool b]

theorem head_i (t:Hd) (s X:ByteArray) (hX:X=⟨#[104,101,97,100]⟩++ws [t.id,t.cl,t.pr,t.fi,t.la]++⟨#[10]⟩):X++⟨#[110,97,109,101]⟩++⟨#[32]⟩++s++⟨#[10]⟩=headT t s:=by
 subst hX
 unfold headT
 have e:(⟨#[10]⟩:ByteArray)++⟨#[110,97,109,101]⟩++⟨#[32]⟩=⟨#[10,110,97,109,101,32]⟩:=rfl
 rw[←e]
 simp only[ba_assoc]

theorem head_s (t:Hd) (s X:ByteArray) (hX:X=ws [t.id,t.cl,t.pr,t.fi,t.la]):⟨#[104,101,97,100]⟩++X++⟨#[10,110,97,109,101,32]⟩++s++⟨#[10]⟩=headT t s:=by
 subst hX
 rfl

theorem leg_s (l:Lg) (O X:ByteArray) (hX:X=ws [l.tr,l.dy,l.fr,l.to,l.co,l.se]):O++⟨#[108,101,103]⟩++X++⟨#[10]⟩=O++legT l:=by
 subst hX
 unfold legT
 simp only[ba_assoc]

theorem small_cat {a b:ByteArray} (ha:a.size≤5000) (hb:b.size≤5000):¬(a.size+b.size>9223372036854775807):=by omega

theorem undrew {w w1:World} (h:Below w.drew.heap.size w.drew w1):Below w.heap.size w w1:=((Below.refl _ _).drew).trans h

theorem putS_yes (t:Hd) (s:ByteArray) (ls:List Lg) (h:okB t s ls=true):putS t s ls=putT t s ls ls.length:=if_pos h

theorem putS_no (t:Hd) (s:ByteArray) (ls:List Lg) (h:okB t s ls=false):putS t s ls=⟨#[]⟩:=if_neg (by rw[h];simp)

set_option maxHeartbeats 600000 in
theorem implPut_val (t:Hd) (s:ByteArray) (a:Option Addr) (ls:List Lg) (cap:Nat) (w:World) (hs:s.size≤maxLen) (hz:ls.length≤1048576) (I:Legs w a ls) (T:Tens w):
 Calls Tryz.prog 20 #[tkV t s a ls.length cap] w fun e w'=>e= .returned (p2V (putS t s ls) (okB t s ls))∧Below w.heap.size w w':=by
 have N:=new_below w (tkB t s a ls.length cap 28)
 have m0:=heap_new w (tkB t s a ls.length cap 28)
 have HO:Hid (∀w,_→_):=fun w h=>implOk_val t s a ls cap w hs hz h
 cases hok:okB t s ls
 ·rw[putS_no t s ls hok]
  rw[hok]at HO
  clear hok
  go_enter Tryz.func20,Tryz.ntmps20
  go_wp2_with fail
  refine(HO.out _ (I.on N)).mono ?_
  rintro e w1 ⟨rfl,L1⟩
  go_wp2
  go_ret2
  exact⟨rfl,join_below N L1⟩
 ·rw[putS_yes t s ls hok]
  rw[hok]at HO
  obtain⟨hn,hs40,hl6,hns⟩:=okB_parts t s ls hok
  have hht:=headT_size t s hn hs40
  have HPS:Hid (∀k,k≤ls.length→(putT t s ls k).size≤160+130*k):=fun k hk=>putT_size t s ls hok k hk
  have HSU:Hid (∀k (hk:k<ls.length),putT t s ls (k+1)=putT t s ls k++legT ls[k]):=fun k hk=>putT_succ t s ls k hk
  have HH:Hid (∀(w:World) (g:Nat),RowZ w g [t.id,t.cl,t.pr,t.fi,t.la]→Tens w→Calls Tryz.prog 48 #[.string ⟨#[104,101,97,100]⟩,.slice (some ⟨g,0,none⟩) 5 5] w fun e w'=>e= .returned (.string (⟨#[104,101,97,100]⟩++ws [t.id,t.cl,t.pr,t.fi,t.la]++⟨#[10]⟩))∧Below w.heap.size w w'):=fun w g R T=>line_val ⟨#[104,101,97,100]⟩ [t.id,t.cl,t.pr,t.fi,t.la] g 5 w (by decide) (by simp) hn R T
  have HNS:Hid (∀l∈ls,Nums [l.tr,l.dy,l.fr,l.to,l.co,l.se]):=hns
  have HE:Hid (_):=head_i t s _ rfl
  have hws:=ws_size _ hn 5 (Nat.le_refl _)
  rw[show([t.id,t.cl,t.pr,t.fi,t.la]:List Int).take 5= [t.id,t.cl,t.pr,t.fi,t.la]from rfl]at hws
  have hX:((⟨#[104,101,97,100]⟩++ws [t.id,t.cl,t.pr,t.fi,t.la]++⟨#[10]⟩:ByteArray)).size≤200:=by
   have h2:(⟨#[104,101,97,100]⟩:ByteArray).size=4:=rfl
   have h3:(⟨#[10]⟩:ByteArray).size=1:=rfl
   rw[ba_size,ba_size,h2,h3]
   omega
  generalize (⟨#[104,101,97,100]⟩++ws [t.id,t.cl,t.pr,t.fi,t.la]++⟨#[10]⟩:ByteArray)=X at*
  have h4:(⟨#[110,97,109,101]⟩:ByteArray).size=4:=rfl
  have h1:(⟨#[32]⟩:ByteArray).size=1:=rfl
  have h1':(⟨#[10]⟩:ByteArray).size=1:=rfl
  have b1:¬9223372036854775807<X.size+4:=by omega
  have b2:¬9223372036854775807<X.size+4+1:=by omega
  have b3:¬9223372036854775807<X.size+4+1+s.size:=by omega
  have b4:¬9223372036854775807<X.size+4+1+s.size+1:=by omega
  clear hn hws hns hok h4 h1 h1'
  go_enter Tryz.func20,Tryz.ntmps20
  go_wp2_with fail
  refine(HO.out _ (I.on N)).mono ?_
  rintro e w1 ⟨rfl,L1⟩
  have L2:=join_below N L1
  have m1:=kept L1 (lt_of m0) m0
  have c0:w1.cell? ⟨w.heap.size,0,none⟩=some (.int .i64 t.id):=cell_at m1 0
  have c1:w1.cell? ⟨w.heap.size,1,none⟩=some (.string s):=cell_at m1 1
  have c2:w1.cell? ⟨w.heap.size,2,none⟩=some (.int .i64 t.cl):=cell_at m1 2
  have c3:w1.cell? ⟨w.heap.size,3,none⟩=some (.int .i64 t.pr):=cell_at m1 3
  have c4:w1.cell? ⟨w.heap.size,4,none⟩=some (.int .i64 t.fi):=cell_at m1 4
  have c5:w1.cell? ⟨w.heap.size,5,none⟩=some (.int .i64 t.la):=cell_at m1 5
  have RZ:RowZ (w1.alloc (.cells #[.int .i64 t.id,.int .i64 t.cl,.int .i64 t.pr,.int .i64 t.fi,.int .i64 t.la] 3)).drew w1.heap.size [t.id,t.cl,t.pr,t.fi,t.la]:=RowZ.new w1 [t.id,t.cl,t.pr,t.fi,t.la] 3
  have N1:Below w1.heap.size w1 (w1.alloc (.cells #[.int .i64 t.id,.int .i64 t.cl,.int .i64 t.pr,.int .i64 t.fi,.int .i64 t.la] 3)):=new_below w1 (.cells (([t.id,t.cl,t.pr,t.fi,t.la]:List Int).map (Value.int .i64)).toArray 3)
  have L3:=join_below L2 N1
  have m2:=kept N1 (lt_of m1) m1
  have d1:(w1.alloc (.cells #[.int .i64 t.id,.int .i64 t.cl,.int .i64 t.pr,.int .i64 t.fi,.int .i64 t.la] 3)).cell? ⟨w.heap.size,1,none⟩=some (.string s):=cell_at m2 1
  have T3:Tens (w1.alloc (.cells #[.int .i64 t.id,.int .i64 t.cl,.int .i64 t.pr,.int .i64 t.fi,.int .i64 t.la] 3)).drew:=T.on L3.drew
  have hlt1:=lt_of m1
  clear N L1 m0 HO N1
  go_wp2
  go_region_held3 (fun w'=>w'.cell? ⟨w.heap.size,0,none⟩=some (.int .i64 t.id)∧w'.cell? ⟨w.heap.size,1,none⟩=some (.string s)∧w'.cell? ⟨w.heap.size,2,none⟩=some (.int .i64 t.cl)∧w'.cell? ⟨w.heap.size,3,none⟩=some (.int .i64 t.pr)∧w'.cell? ⟨w.heap.size,4,none⟩=some (.int .i64 t.fi)∧w'.cell? ⟨w.heap.size,5,none⟩=some (.int .i64 t.la)) (go_keep) (first|(go_at_call 48;(with_reducible refine(HH.out _ _ RZ T3).mono ?_);rintro e w3 ⟨rfl,M0⟩;have M1:=undrew M0;have m3:=kept M1 (lt_of m2) m2;have L4:=join_below L3 M1;have d0:w3.cell? ⟨w.heap.size,0,none⟩=some (.int .i64 t.id):=cell_at m3 0;have d1:w3.cell? ⟨w.heap.size,1,none⟩=some (.string s):=cell_at m3 1;have d2:w3.cell? ⟨w.heap.size,2,none⟩=some (.int .i64 t.cl):=cell_at m3 2;have d3:w3.cell? ⟨w.heap.size,3,none⟩=some (.int .i64 t.pr):=cell_at m3 3;have d4:w3.cell? ⟨w.heap.size,4,none⟩=some (.int .i64 t.fi):=cell_at m3 4;have d5:w3.cell? ⟨w.heap.size,5,none⟩=some (.int .i64 t.la):=cell_at m3 5;clear M0 M1))
  all_goals
   have I3:=I.on L4
   have T4:=T.on L4
   have c6:w3.cell? ⟨w.heap.size,6,none⟩=some (.slice a ls.length cap):=cell_at m3 6
   clear b1 b2 b3 b4 c0 c1 c2 c3 c4 c5 RZ L3 m2 T3 HH d1
   rw[HE.out]
   go_wp2
   clear c6 L2 m1
   go_loopw [4,31] (fun o i wr=>∃(k:Nat) (O:ByteArray),k≤ls.length∧O.size≤2000∧i= .int .i64 k∧o= .string O∧Below w3.heap.size w3 wr∧Hid (O=putT t s ls k)) (fun _ i _=>ls.length-(intOf i).toNat)
   case atStart=>exact⟨0,headT t s,by omega,by omega,rfl,rfl,Below.refl _ _,rfl⟩
   case round=>
    obtain⟨k,O,hk,hO,rfl,rfl,LR,H⟩:=hrel
    by_cases hkn:k<ls.length
    ·obtain⟨b,o,rfl,hlt,hc0,hc1,hc2,hc3,hc4,hc5⟩:=(I3.on LR).at k hkn
     have hnl:=HNS.out ls[k] (List.getElem_mem hkn)
     have HL:Hid (∀(w:World) (g:Nat),RowZ w g [ls[k].tr,ls[k].dy,ls[k].fr,ls[k].to,ls[k].co,ls[k].se]→Tens w→Calls Tryz.prog 48 #[.string ⟨#[108,101,103]⟩,.slice (some ⟨g,0,none⟩) 6 6] w fun e w'=>e= .returned (.string (⟨#[108,101,103]⟩++ws [ls[k].tr,ls[k].dy,ls[k].fr,ls[k].to,ls[k].co,ls[k].se]++⟨#[10]⟩))∧Below w.heap.size w w'):=fun w g R T=>line_val ⟨#[108,101,103]⟩ [ls[k].tr,ls[k].dy,ls[k].fr,ls[k].to,ls[k].co,ls[k].se] g 6 w (by decide) (by simp) hnl R T
     have HLT:Hid (⟨#[108,101,103]⟩++ws [ls[k].tr,ls[k].dy,ls[k].fr,ls[k].to,ls[k].co,ls[k].se]++⟨#[10]⟩=legT ls[k]):=rfl
     rw[HLT.out]at HL
     have hls:=legT_size ls[k] hnl
     have HS:Hid (_):=HSU.out k hkn
     have hps:=HPS.out (k+1) (by omega)
     rw[HS.out,←H.out]at hps
     clear hnl HLT
     generalize legT ls[k]=Y at*
     generalize ls[k]=p at*
     have bb:¬(O.size+Y.size>9223372036854775807):=small_cat (by omega) (by omega)
     have RZ:=RowZ.new (wr.alloc (.cells #[.int .i64 p.tr,.int .i64 p.dy,.int .i64 p.fr,.int .i64 p.to,.int .i64 p.co,.int .i64 p.se] 64)) [p.tr,p.dy,p.fr,p.to,p.co,p.se] 3
     have eS:(wr.alloc (.cells #[.int .i64 p.tr,.int .i64 p.dy,.int .i64 p.fr,.int .i64 p.to,.int .i64 p.co,.int .i64 p.se] 64)).heap.size=wr.heap.size+1:=Array.size_push ..
     rw[eS]at RZ
     have N5:=join_below (new_below wr (.cells #[.int .i64 p.tr,.int .i64 p.dy,.int .i64 p.fr,.int .i64 p.to,.int .i64 p.co,.int .i64 p.se] 64)) (new_below _ (.cells (([p.tr,p.dy,p.fr,p.to,p.co,p.se]:List Int).map (Value.int .i64)).toArray 3))
     have L5:=join_below LR N5
     have T5:=T4.on L5
     have HP3:Hid ((O++Y).size≤2000):=by show _≤_;omega
     clear hps eS N5 LR
     go_wp2_with fail
     refine(HL.out _ _ RZ T5).mono ?_
     rintro e w6 ⟨rfl,L6⟩
     have L7:=join_below L5 L6
     clear L5 L6 RZ T5 HL hc0 hc1 hc2 hc3 hc4 hc5
     go_wp2
     go_roundw
     case rel=>exact⟨k+1,O++Y,by omega,HP3.out,by go_num,rfl,L7,by show _=_;rw[HS.out,←H.out]⟩
     case measure=>simp[intOf];omega
    ·obtain rfl:k=ls.length:=by omega
     have L7:=join_below L4 LR
     go_wp2
     go_ret2
     exact⟨by rw[←H.out]<;>rfl,L7⟩

set_option maxHeartbeats 600000 in
theorem specPut_val (t:Hd) (s:ByteArray) (a:Option Addr) (ls:List Lg) (cap:Nat) (w:World) (hs:s.size≤maxLen) (hz:ls.length≤1048576) (I:Legs w a ls):
 Calls Tryz.prog 23 #[tkV t s a ls.length cap] w fun e w'=>e= .returned (p2V (putS t s ls) (okB t s ls))∧Below w.heap.size w w':=by
 have N:=new_below w (tkB t s a ls.length cap 28)
 have m0:=heap_new w (tkB t s a ls.length cap 28)
 have HO:Hid (∀w,_→_):=fun w h=>specOk_val t s a ls cap w hs hz h
 cases hok:okB t s ls
 ·rw[putS_no t s ls hok]
  rw[hok]at HO
  clear hok
  go_enter Tryz.func23,Tryz.ntmps23
  go_wp2_with fail
  refine(HO.out _ (I.on N)).mono ?_
  rintro e w1 ⟨rfl,L1⟩
  go_wp2
  go_ret2
  exact⟨rfl,join_below N L1⟩
 ·rw[putS_yes t s ls hok]
  rw[hok]at HO
  obtain⟨hn,hs40,hl6,hns⟩:=okB_parts t s ls hok
  have hht:=headT_size t s hn hs40
  have HPS:Hid (∀k,k≤ls.length→(putT t s ls k).size≤160+130*k):=fun k hk=>putT_size t s ls hok k hk
  have HSU:Hid (∀k (hk:k<ls.length),putT t s ls (k+1)=putT t s ls k++legT ls[k]):=fun k hk=>putT_succ t s ls k hk
  have HH:Hid (∀(w:World) (g:Nat),RowZ w g [t.id,t.cl,t.pr,t.fi,t.la]→Calls Tryz.prog 53 #[.slice (some ⟨g,0,none⟩) 5 5] w fun e w'=>e= .returned (.string (ws [t.id,t.cl,t.pr,t.fi,t.la]))∧w'=w):=fun w g R=>words_val [t.id,t.cl,t.pr,t.fi,t.la] g 5 w (by simp) hn R
  have HNS:Hid (∀l∈ls,Nums [l.tr,l.dy,l.fr,l.to,l.co,l.se]):=hns
  have HE:Hid (_):=head_s t s _ rfl
  have hws:=ws_size _ hn 5 (Nat.le_refl _)
  rw[show([t.id,t.cl,t.pr,t.fi,t.la]:List Int).take 5= [t.id,t.cl,t.pr,t.fi,t.la]from rfl]at hws
  generalize ws [t.id,t.cl,t.pr,t.fi,t.la]=X at*
  have h4:(⟨#[104,101,97,100]⟩:ByteArray).size=4:=rfl
  have h1:(⟨#[10,110,97,109,101,32]⟩:ByteArray).size=6:=rfl
  have h1':(⟨#[10]⟩:ByteArray).size=1:=rfl
  have b1:¬9223372036854775807<4+X.size:=by omega
  have b2:¬9223372036854775807<4+X.size+6:=by omega
  have b3:¬9223372036854775807<4+X.size+6+s.size:=by omega
  have b4:¬9223372036854775807<4+X.size+6+s.size+1:=by omega
  clear hn hns hok h4 h1 h1'
  go_enter Tryz.func23,Tryz.ntmps23
  go_wp2_with fail
  refine(HO.out _ (I.on N)).mono ?_
  rintro e w1 ⟨rfl,L1⟩
  have L2:=join_below N L1
  have m1:=kept L1 (lt_of m0) m0
  have c0:w1.cell? ⟨w.heap.size,0,none⟩=some (.int .i64 t.id):=cell_at m1 0
  have c1:w1.cell? ⟨w.heap.size,1,none⟩=some (.string s):=cell_at m1 1
  have c2:w1.cell? ⟨w.heap.size,2,none⟩=some (.int .i64 t.cl):=cell_at m1 2
  have c3:w1.cell? ⟨w.heap.size,3,none⟩=some (.int .i64 t.pr):=cell_at m1 3
  have c4:w1.cell? ⟨w.heap.size,4,none⟩=some (.int .i64 t.fi):=cell_at m1 4
  have c5:w1.cell? ⟨w.heap.size,5,none⟩=some (.int .i64 t.la):=cell_at m1 5
  have RZ:RowZ (w1.alloc (.cells #[.int .i64 t.id,.int .i64 t.cl,.int .i64 t.pr,.int .i64 t.fi,.int .i64 t.la] 3)).drew w1.heap.size [t.id,t.cl,t.pr,t.fi,t.la]:=RowZ.new w1 [t.id,t.cl,t.pr,t.fi,t.la] 3
  have N1:Below w1.heap.size w1 (w1.alloc (.cells #[.int .i64 t.id,.int .i64 t.cl,.int .i64 t.pr,.int .i64 t.fi,.int .i64 t.la] 3)):=new_below w1 (.cells (([t.id,t.cl,t.pr,t.fi,t.la]:List Int).map (Value.int .i64)).toArray 3)
  have L3:=join_below L2 N1
  have m2:=kept N1 (lt_of m1) m1
  have d1:(w1.alloc (.cells #[.int .i64 t.id,.int .i64 t.cl,.int .i64 t.pr,.int .i64 t.fi,.int .i64 t.la] 3)).cell? ⟨w.heap.size,1,none⟩=some (.string s):=cell_at m2 1
  have hlt1:=lt_of m1
  clear N L1 m0 HO N1
  go_wp2
  go_region_held3 (fun w'=>w'.cell? ⟨w.heap.size,0,none⟩=some (.int .i64 t.id)∧w'.cell? ⟨w.heap.size,1,none⟩=some (.string s)∧w'.cell? ⟨w.heap.size,2,none⟩=some (.int .i64 t.cl)∧w'.cell? ⟨w.heap.size,3,none⟩=some (.int .i64 t.pr)∧w'.cell? ⟨w.heap.size,4,none⟩=some (.int .i64 t.fi)∧w'.cell? ⟨w.heap.size,5,none⟩=some (.int .i64 t.la)) (go_keep) (first|(go_at_call 53;(with_reducible refine(HH.out _ _ RZ).mono ?_);rintro e w3 ⟨rfl,rfl⟩))
  all_goals
   clear b1 b2 b3 b4 c0 c1 c2 c3 c4 c5 RZ HH d1
   rw[HE.out]
   have L4:=L3.drew
   have m3:(w1.alloc (.cells #[.int .i64 t.id,.int .i64 t.cl,.int .i64 t.pr,.int .i64 t.fi,.int .i64 t.la] 3)).drew.heap[w.heap.size]? =some (tkB t s a ls.length cap 28):=m2
   clear L3 m2
   generalize (w1.alloc (.cells #[.int .i64 t.id,.int .i64 t.cl,.int .i64 t.pr,.int .i64 t.fi,.int .i64 t.la] 3)).drew=w3 at*
   have I3:=I.on L4
   go_wp2
   clear L2 m1
   go_loopw [4,5] (fun o i wr=>∃(k:Nat) (O:ByteArray),k≤ls.length∧O.size≤2000∧i= .int .i64 k∧o= .string O∧Below w3.heap.size w3 wr∧Hid (O=putT t s ls k)) (fun _ i _=>ls.length-(intOf i).toNat)
   case atStart=>exact⟨0,headT t s,by omega,by omega,rfl,rfl,Below.refl _ _,rfl⟩
   case round=>
    obtain⟨k,O,hk,hO,rfl,rfl,LR,H⟩:=hrel
    have m5:=kept LR (lt_of m3) m3
    have c6:wr.cell? ⟨w.heap.size,6,none⟩=some (.slice a ls.length cap):=cell_at m5 6
    clear m5
    by_cases hkn:k<ls.length
    ·obtain⟨b,o,rfl,hlt,hc0,hc1,hc2,hc3,hc4,hc5⟩:=(I3.on LR).at k hkn
     have hnl:=HNS.out ls[k] (List.getElem_mem hkn)
     have HL:Hid (∀(w:World) (g:Nat),RowZ w g [ls[k].tr,ls[k].dy,ls[k].fr,ls[k].to,ls[k].co,ls[k].se]→Calls Tryz.prog 53 #[.slice (some ⟨g,0,none⟩) 6 6] w fun e w'=>e= .returned (.string (ws [ls[k].tr,ls[k].dy,ls[k].fr,ls[k].to,ls[k].co,ls[k].se]))∧w'=w):=fun w g R=>words_val [ls[k].tr,ls[k].dy,ls[k].fr,ls[k].to,ls[k].co,ls[k].se] g 6 w (by simp) hnl R
     have hws:=ws_size _ hnl 6 (Nat.le_refl _)
     rw[show([ls[k].tr,ls[k].dy,ls[k].fr,ls[k].to,ls[k].co,ls[k].se]:List Int).take 6= [ls[k].tr,ls[k].dy,ls[k].fr,ls[k].to,ls[k].co,ls[k].se]from rfl]at hws
     have HLE:Hid (_):=leg_s ls[k] O _ rfl
     have HS:Hid (_):=HSU.out k hkn
     have hps:=HPS.out (k+1) (by omega)
     rw[HS.out,←H.out]at hps
     clear hnl
     generalize ws [ls[k].tr,ls[k].dy,ls[k].fr,ls[k].to,ls[k].co,ls[k].se]=Y at*
     generalize legT ls[k]=Z at*
     generalize ls[k]=p at*
     have a1:¬9223372036854775807<O.size+3:=by omega
     have a2:¬9223372036854775807<O.size+3+Y.size:=by omega
     have a3:¬9223372036854775807<O.size+3+Y.size+1:=by omega
     have RZ:=RowZ.new (wr.alloc (.cells #[.int .i64 p.tr,.int .i64 p.dy,.int .i64 p.fr,.int .i64 p.to,.int .i64 p.co,.int .i64 p.se] 64)) [p.tr,p.dy,p.fr,p.to,p.co,p.se] 3
     have eS:(wr.alloc (.cells #[.int .i64 p.tr,.int .i64 p.dy,.int .i64 p.fr,.int .i64 p.to,.int .i64 p.co,.int .i64 p.se] 64)).heap.size=wr.heap.size+1:=Array.size_push ..
     rw[eS]at RZ
     have N5:Below wr.heap.size wr ((wr.alloc (.cells #[.int .i64 p.tr,.int .i64 p.dy,.int .i64 p.fr,.int .i64 p.to,.int .i64 p.co,.int .i64 p.se] 64)).alloc (.cells #[.int .i64 p.tr,.int .i64 p.dy,.int .i64 p.fr,.int .i64 p.to,.int .i64 p.co,.int .i64 p.se] 3)):=join_below (new_below wr _) (new_below _ _)
     have L5:=join_below LR N5
     have HP3:Hid ((O++Z).size≤2000):=by show _≤_;omega
     clear hps eS N5 LR
     go_wp2_with fail
     refine(HL.out _ _ RZ).mono ?_
     rintro e w6 ⟨rfl,rfl⟩
     clear RZ HL hc0 hc1 hc2 hc3 hc4 hc5
     go_wp2
     go_roundw
     case rel=>exact⟨k+1,O++Z,by omega,HP3.out,by go_num,by rw[HLE.out],L5,by show _=_;rw[HS.out,←H.out]⟩
     case measure=>simp[intOf];omega
    ·obtain rfl:k=ls.length:=by omega
     have L7:=join_below L4 LR
     go_wp2
     go_ret2
     exact⟨by rw[←H.out]<;>rfl,L7⟩

end Tk
end Go.Proofs.YtcjgkmhpeedhiaaGreatDoor
