/- Texts laid into one, in their order: UnBlkI, UnCatch, UnUnpI, FrImpl, FrSpec, RdTk. -/
import Derived.Test.YtdcpjicgehdmfaaGreatDoorManyCFnExactInspectFrame
import Derived.Deep.AppendLies
import Derived.Defers
import Derived.Recover
import Derived.Laws.Pointers
import Derived.Deep.RegionHeld3
/- The program's reader of a block. -/
namespace Go.Proofs.YtdcpjicgehdmfaaGreatDoor
namespace Pk
open Go.ChangeShapes Go.WideShapes Go.ChangeAt Go.RowKit
open Math (bitAt lowAt topAt symAt symLen lenBits lenTold backTold cleast cbits storedC rst body unpC unpT fixFrom p1 p2' bk dd nn copyN)
set_option linter.unusedSimpArgs false
set_option linter.unusedVariables false

theorem low_byte (s:ByteArray) (i:Nat):lowAt s (8*i) 8=(s.data.toList.getD i 0).toNat:=by
 have h (j:Nat) (hj:j<8):bitAt s (8*i+j)=(s.data.toList.getD i 0).toNat/2^j%2:=by
  unfold bitAt
  rw[show(8*i+j)/8=i by omega,show(8*i+j)%8=j by omega]
 have hb:=(s.data.toList.getD i 0).toNat_lt
 simp only[lowAt,h 0 (by omega),h 1 (by omega),h 2 (by omega),h 3 (by omega),h 4 (by omega),h 5 (by omega),h 6 (by omega),h 7 (by omega)]
 generalize (s.data.toList.getD i 0).toNat=x at*
 omega

theorem take_byte (s:ByteArray) (k:Nat) (h:5+k<s.size):(s.data.toList.drop 5).take (k+1)=(s.data.toList.drop 5).take k++ [s.data.toList.getD (5+k) 0]:=by
 have hl:5+k<s.data.toList.length:=by rw[Array.length_toList];exact h
 rw[List.take_add_one,List.getElem?_drop,List.getElem?_eq_getElem hl,List.getD_eq_getElem?_getD,List.getElem?_eq_getElem hl]
 rfl

theorem take_len (s:ByteArray) (k:Nat) (h:5+k≤s.size):((s.data.toList.drop 5).take k).length=k:=by
 have hl:s.data.toList.length=s.size:=Array.length_toList
 rw[List.length_take,List.length_drop]
 omega

structure Bk (B c:Nat) (s:ByteArray) (a:Nat) (out:List UInt8) (va:Option Addr) (vc:Nat) (w0 w:World):Prop where
 rd:RdI c s a (.slice va out.length vc) w
 own:w.ownsRow w0.heap.size 5 1 (.slice va out.length vc) out.length (bcells out)
 bl:Below B w0 w

theorem Bk.ne {B c:Nat} {s:ByteArray} {a:Nat} {out:List UInt8} {va:Option Addr} {vc:Nat} {w0 w:World} (h:Bk B c s a out va vc w0 w):(Value.slice va out.length vc).ownBlock≠some c:=own_ne' h.own h.rd (by decide)

theorem Bk.mv {B c:Nat} {s:ByteArray} {a a':Nat} {out:List UInt8} {va:Option Addr} {vc:Nat} {w0 w w':World} (h:Bk B c s a out va vc w0 w) (R:RdI c s a' (.slice va out.length vc) w') (T:Bt c w w') (hB:B≤c) (hB2:B≤w0.heap.size):Bk B c s a' out va vc w0 w':=
 ⟨R,T.own h.own h.ne,h.bl.trans (T.below hB (Nat.le_trans hB2 h.bl.size))⟩

theorem own_oth {w:World} {base e size:Nat} {v:Value} {n:Nat} {xs:List Value} {P:Nat} (h:w.ownsRow base e size v n xs) (hne:v.ownBlock≠some P) (i:Nat) (u:Value):(w.setCell ⟨P,i,none⟩ u).ownsRow base e size v n xs:=by
 obtain⟨hl,h2⟩:=h
 refine⟨hl,?_⟩
 rcases h2 with h2|⟨g,cap,cur,hv,hg,hh,hr⟩
 ·exact Or.inl h2
 ·refine Or.inr ⟨g,cap,cur,hv,hg,?_,hr⟩
  rw[Below.heap_setCell w ⟨P,i,none⟩ u g (by intro e;apply hne;rw[hv];exact congrArg some e)]
  exact hh

theorem Bk.put {B c:Nat} {s:ByteArray} {a:Nat} {out out':List UInt8} {va va':Option Addr} {vc vc':Nat} {w0 w w3:World} (h:Bk B c s a out va vc w0 w) (hB:B≤c) (m3:RdI c s a (.slice va out.length vc) w3) (hown:w3.ownsRow w0.heap.size 5 1 (.slice va' out'.length vc') out'.length (bcells out')) (L:Below B w0 w3):Bk B c s a out' va' vc' w0 (w3.setCell ⟨c,2,none⟩ (.slice va' out'.length vc')):=
 ⟨hp_set (w:=w3) (i:=2) m3 (.slice va' out'.length vc'),own_oth hown (own_ne' hown m3 (by decide)) 2 _,L.setCell hB _⟩

def BlkEnd (B:Nat) (s:ByteArray) (c:Nat) (w0:World) (e:Ending) (w:World):Prop:=
 (unpC s≠0→e=fault (unpC s:Nat))∧(unpC s=0→e= .returned (.tuple #[])∧∃(q:Nat) (va:Option Addr) (vc:Nat) (out:List UInt8),unpT s=⟨out.toArray⟩∧Bk B c s q out va vc w0 w)∧Below B w0 w

def Known (s:ByteArray):Prop:=¬6000<s.size∧¬s.size=0∧¬(bitAt s 0=0∨1<lowAt s 1 2)

theorem blk_bad {B:Nat} {s:ByteArray} {c:Nat} {w0 w:World} (hK:Known s) {k:Nat} {txt:List UInt8} {a:Nat} (hb:body s=(k,txt,a)) (hk:k≠0) (L:Below B w0 w):BlkEnd B s c w0 (fault (k:Nat)) w:=by
 obtain⟨h1,h2,h3⟩:=hK
 have e:=((Math.unp_body h1 h2 h3 hb).1 hk).1
 exact⟨fun _=>by rw[e],fun h=>absurd (e.symm.trans h) hk,L⟩

theorem blk_code {B:Nat} {s:ByteArray} {c:Nat} {w0 w:World} {k:Nat} (e:unpC s=k) (hk:k≠0) (L:Below B w0 w):BlkEnd B s c w0 (fault (k:Nat)) w:=
 ⟨fun _=>by rw[e],fun h=>absurd (e.symm.trans h) hk,L⟩

def bAct (c:Nat) (u:Nat→Value) (x3:Value):Act:= { tmps:= #[.pointer (some ⟨c,0,none⟩),u 1,u 2,x3,u 4,u 5,u 6,u 7,u 8,u 9,u 10,u 11,u 12,u 13,u 14,u 15,u 16,u 17,u 18,u 19,u 20,u 21,u 22,u 23,u 24,u 25,u 26,u 27,u 28,u 29,u 30,u 31,u 32,u 33,u 34,u 35,u 36,u 37,u 38,u 39,u 40,u 41,u 42,u 43,u 44,u 45,u 46,u 47,u 48,u 49,u 50,u 51,u 52,u 53,u 54,u 55,u 56,u 57,u 58,u 59,u 60,u 61,u 62,u 63,u 64,u 65,u 66,u 67,u 68,u 69,u 70,u 71,u 72,u 73,u 74,u 75,u 76,u 77,u 78,u 79,u 80,u 81,u 82,u 83,u 84],defers:= [] }

def JJ (B c:Nat) (s:ByteArray) (w:World) (l:Nat) (a':Act) (w':World):Prop:=((l=0∧a'=bAct c (fun i=>a'.tmps.getD i undef) (a'.tmps.getD 3 undef)∧Hid (lowAt s 1 2=0)∧RdI c s 3 (.slice none 0 0) w'∧Below B w w')∨(l=1∧a'=bAct c (fun i=>a'.tmps.getD i undef) (a'.tmps.getD 3 undef)∧∃(a g:Nat) (out:List UInt8) (va:Option Addr) (vc:Nat),a≤8*s.size∧out.length≤3000∧8*s.size<a+7*g∧Hid (body s=fixFrom s g a out)∧Bk B c s a out va vc w w')∨(l=2∧a'=bAct c (fun i=>a'.tmps.getD i undef) (a'.tmps.getD 3 undef)∧∃(a:Nat) (out:List UInt8) (va:Option Addr) (vc:Nat),a≤8*s.size∧Hid (body s=(0,out,a))∧Bk B c s a out va vc w w')∨(l=3∧∃(a g y nl:Nat),a'=bAct c (fun i=>a'.tmps.getD i undef) (.int .i64 (y:Int))∧∃(out:List UInt8) (va:Option Addr) (vc:Nat),a+nl≤8*s.size∧7≤nl∧nl≤9∧out.length≤3000∧8*s.size<a+7*(g+1)∧256<y∧y≤285∧Hid (symAt s a=y)∧Hid (symLen s a=nl)∧Hid (body s=fixFrom s (g+1) a out)∧Bk B c s (a+nl) out va vc w w'))

def MM (c:Nat) (s:ByteArray) (l:Nat) (a':Act) (w':World):Nat:=(if l=2 then 0 else if l=0 then 10000000 else 1+(8*s.size-(intOf ((w'.cell? ⟨c,1,none⟩).getD undef)).toNat))

set_option maxRecDepth 100000 in
set_option maxHeartbeats 400000 in
theorem blkI_val (B c:Nat) (s:ByteArray) (w:World) (hs:s.size≤6000) (hB:B≤c) (hB2:B≤w.heap.size) (hrB:5<B) (HRU:Hid (Runs w)) (H:RdI c s 0 (.slice none 0 0) w):
 Calls Tryz.prog 177 #[.pointer (some ⟨c,0,none⟩)] w fun e w'=>BlkEnd B s c w e w':=by
 have HRF:Hid (∀(k:Int) (W:World),_):=fun k W=>refuse_no k W
 have HRY:Hid (∀(k:Int) (W:World),_):=fun k W=>refuse_yes k W
 obtain⟨i0,hi,hz0,hz1,hz2⟩:=info_of info_u8
 have hcw:c<w.heap.size:=H.lt
 by_cases hz:s.size=0
 ·have HC:Hid (_):=bitI_cut B c s (.slice none 0 0) w (by omega) hB (by rw[hz];exact H)
  have HU:Hid (unpC s=1):=by show unpC s=1;unfold unpC;rw[if_neg (by omega),if_pos hz]
  go_enter Tryz.func177,Tryz.ntmps177
  go_wp2
  go_step3
  go_wp2_with fail
  refine Calls.mono HC.out ?_
  rintro e w2 ⟨rfl,M,L⟩
  exact⟨rfl,blk_code (k:=1) HU.out (by omega) L⟩
 have HB0:Hid (_):=bitI_ok B c s 0 (.slice none 0 0) w (by omega) hB (by omega) H
 have hb0:=Math.bitAt_le s 0
 by_cases hb:bitAt s 0=0
 ·have HU:Hid (unpC s=2):=by show unpC s=2;unfold unpC;rw[if_neg (by omega),if_neg hz,if_pos (Or.inl hb)]
  rw[hb]at HB0
  go_enter Tryz.func177,Tryz.ntmps177
  go_wp2
  go_step3
  go_wp2_with fail
  refine Calls.mono HB0.out ?_
  rintro e w2 ⟨rfl,R2,M,L⟩
  go_wp2_with fail
  refine(HRY.out 2 _).mono ?_
  rintro e w3 ⟨rfl,rfl⟩
  exact⟨rfl,blk_code (k:=2) HU.out (by omega) L⟩
 have hb1:bitAt s 0=1:=by omega
 rw[hb1]at HB0
 have HLO:Hid (∀W:World,RdI c s 1 (.slice none 0 0) W→Calls Tryz.prog 195 #[.pointer (some ⟨c,0,none⟩),.int .i64 2] W fun e w'=>e= .returned (.int .i64 (lowAt s 1 2:Nat))∧RdI c s 3 (.slice none 0 0) w'∧Mv c W w'∧Below B W w'):=fun W h=>lowI_ok B c s 1 2 (.slice none 0 0) W (by omega) hB (by omega) (by omega) h
 have hk4:=Math.lowAt_lt s 1 2
 by_cases hkd:1<lowAt s 1 2
 ·have HU:Hid (unpC s=2):=by show unpC s=2;unfold unpC;rw[if_neg (by omega),if_neg hz,if_pos (Or.inr hkd)]
  generalize lowAt s 1 2=kd at*
  have hq0:¬((kd:Int)=0):=by omega
  have hq1:¬((kd:Int)=1):=by omega
  have hn0:((kd:Int) !=0)=true:=bne_iff_ne.2 hq0
  have hn1:((kd:Int) !=1)=true:=bne_iff_ne.2 hq1
  go_enter Tryz.func177,Tryz.ntmps177
  go_wp2
  go_step3
  go_wp2_with fail
  refine Calls.mono HB0.out ?_
  rintro e w2 ⟨rfl,R2,M2,L2⟩
  go_wp2_with fail
  refine(HRF.out 2 _).mono ?_
  rintro e w3 ⟨rfl,rfl⟩
  go_wp2_with fail
  refine(HLO.out _ R2).mono ?_
  rintro e w4 ⟨rfl,R4,M4,L4⟩
  go_wp2_with fail
  refine(HRY.out 2 _).mono ?_
  rintro e w3 ⟨rfl,rfl⟩
  exact⟨rfl,blk_code (k:=2) HU.out (by omega) (L2.trans L4)⟩
 have HKN:Hid (Known s):=⟨by omega,hz,fun h=>h.elim hb hkd⟩
 go_enter Tryz.func177,Tryz.ntmps177
 go_wp2
 refine scope_many (JJ B c s w) (MM c s) ?_ ?_
 ·rintro l a' w' (⟨rfl,hA,HK0,R,L⟩|⟨rfl,hA,a,g,out,va,vc,ha,hol,hg,HF,K⟩|⟨rfl,hA,a,out,va,vc,ha,HF,K⟩|⟨rfl,a,g,y,nl,hA,out,va,vc,ha,hn7,hn9,hol,hg,hy6,hy5,HY,HN,HF,K⟩)
  ·obtain⟨u,x3,rfl⟩:∃u x3,a'=bAct c u x3:=⟨_,_,hA⟩
   clear hA
   refine⟨_,rfl,?_⟩
   unfold bAct
   have hBw:B≤w'.heap.size:=Nat.le_trans hB2 L.size
   have HST:Hid (_):=stoI_val c s 3 none 0 w' (by omega) (by omega) R
   unfold StoEnd at HST
   have HBO:Hid (body s=(storedC s,(Math.storedT s).data.toList,40+8*lowAt s 8 16)):=by show body s=_;unfold body;rw[if_neg (by rw[HK0.out];omega)]
   have HSC:Hid (storedC s=if s.size<5 then 1 else if lowAt s 8 16+lowAt s 24 16≠65535 then 3 else if 3000<lowAt s 8 16 then 5 else if s.size<lowAt s 8 16+5 then 1 else 0):=rfl
   have HTT:Hid (storedC s=0→Math.storedT s=s.extract 5 (5+lowAt s 8 16)):=fun h=>if_pos h
   have hl1:=Math.lowAt_lt s 8 16
   generalize lowAt s 8 16=n at*
   generalize lowAt s 24 16=z at*
   clear hk4 hkd
   go_wp2_with fail
   refine Calls.mono HST.out ?_
   rintro e w2 ⟨⟨e1,e2,e3,e0⟩,T⟩
   have L2:=L.trans (T.below hB hBw)
   by_cases h5:s.size<5
   ·obtain rfl:=e1 h5
    exact⟨rfl,blk_bad (k:=1) HKN.out (HBO.out.trans (by rw[HSC.out,if_pos h5])) (by omega) L2⟩
   by_cases hne:n+z≠65535
   ·obtain rfl:=e2 h5 hne
    exact⟨rfl,blk_bad (k:=3) HKN.out (HBO.out.trans (by rw[HSC.out,if_neg h5,if_pos hne])) (by omega) L2⟩
   by_cases h30:3000<n
   ·obtain rfl:=e3 h5 hne h30
    exact⟨rfl,blk_bad (k:=5) HKN.out (HBO.out.trans (by rw[HSC.out,if_neg h5,if_neg hne,if_pos h30])) (by omega) L2⟩
   obtain⟨rfl,R2⟩:=e0 h5 hne h30
   have HS2:Hid (storedC s=if s.size<n+5 then 1 else 0):=HSC.out.trans (by rw[if_neg h5,if_neg hne,if_neg h30])
   have HK2:Hid (Bk B c s (40+8*0) ((s.data.toList.drop 5).take 0) none 0 w w2):=⟨R2,World.ownsRow_nil _ _ _ _,L2⟩
   clear e1 e2 e3 e0 HST HSC T L2 R2
   go_wp2
   go_loopw [68] (fun i wr=>∃(k:Nat) (va:Option Addr) (vc:Nat),k≤n∧i= .int .i64 k∧5+k≤s.size∧Hid (Bk B c s (40+8*k) ((s.data.toList.drop 5).take k) va vc w wr)) (fun i _=>n-(intOf i).toNat)
   case atStart=>exact⟨0,none,0,by omega,rfl,by omega,HK2⟩
   case round=>
    clear HK2
    obtain⟨k,va,vc,hk,rfl,h5k,HK⟩:=hrel
    by_cases hkn:k<n
    ·have hkI:(k:Int)<(n:Int):=by omega
     have hol:=take_len s k h5k
     have R1:RdI c s (40+8*k) (.slice va k vc) wr:=by have h:=HK.out.rd;rw[hol]at h;exact h
     have O1:wr.ownsRow w.heap.size 5 1 (.slice va k vc) k (bcells ((s.data.toList.drop 5).take k)):=by have h:=HK.out.own;rw[hol]at h;exact h
     have hne:(Value.slice va k vc).ownBlock≠some c:=own_ne' O1 R1 (by decide)
     have HBL:Hid (Below B w wr):=HK.out.bl
     have hBwr:B≤wr.heap.size:=Nat.le_trans hB2 HBL.out.size
     have c2:wr.cell? ⟨c,2,none⟩=some (.slice va k vc):=cell_at R1 2
     by_cases hcut:s.size<6+k
     ·have HC:Hid (∀W:World,RdI c s (40+8*k) (.slice va k vc) W→Calls Tryz.prog 195 #[.pointer (some ⟨c,0,none⟩),.int .i64 8] W fun e w'=>e=fault 1∧Mv c W w'∧Below 0 W w'):=fun W h=>lowI_cut 0 c s (40+8*k) 8 _ W (by omega) (Nat.zero_le _) (by omega) (by omega) (by omega) h
      go_wp2
      refine wp_region_held_drew (S:=(fun w'=>w'.cell? ⟨c,2,none⟩=some (.slice va k vc))) (by kernel_rfl) ?_ (fun hHeld=> ?_)
      ·exact c2
      refine wpAnyH_take (i:=0) (oi:= { dst:=some 70,op:=Op.move (Operand.tmp 0),type:=201,pos:= "l03_pack.go:414",after:= #[],guard:=none }) (v:= ?_) rfl (by kernel_rfl) (by kernel_rfl) (by kernel_rfl) (fun _ _ _ h=>h) (Or.inl ⟨by rfl,?_⟩) (by assumption) ?_
      rotate_left 1
      ·(intro wS hSw;(try dsimp only at hSw);go_simp;try (with_reducible rfl))
      (try simp only[Act.put,List.setIfInBounds_toArray,List.set_cons_zero,List.set_cons_succ])
      refine wpAnyH_take (i:=1) (oi:= { dst:=some 71,op:=Op.move (Operand.tmp 0),type:=201,pos:= "l03_pack.go:414",after:= #[],guard:=none }) (v:= ?_) rfl (by kernel_rfl) (by kernel_rfl) (by kernel_rfl) (fun _ _ _ h=>h) (Or.inl ⟨by rfl,?_⟩) (by assumption) ?_
      rotate_left 1
      ·(intro wS hSw;(try dsimp only at hSw);go_simp;try (with_reducible rfl))
      (try simp only[Act.put,List.setIfInBounds_toArray,List.set_cons_zero,List.set_cons_succ])
      refine wpAnyH_take (i:=2) (oi:= { dst:=some 72,op:=Op.nilCheck (Operand.tmp 71),type:=0,pos:= "l03_pack.go:414",after:= #[{ on:=1,ground:=Ground.data }],guard:=none }) (v:= ?_) rfl (by kernel_rfl) (by kernel_rfl) (by kernel_rfl) (fun _ _ _ h=>h) (Or.inl ⟨by rfl,?_⟩) (by assumption) ?_
      rotate_left 1
      ·(intro wS hSw;(try dsimp only at hSw);go_simp;try (with_reducible rfl))
      (try simp only[Act.put,List.setIfInBounds_toArray,List.set_cons_zero,List.set_cons_succ])
      refine wpAnyH_take (i:=3) (oi:= { dst:=some 73,op:=Op.fieldAddr 194 (Operand.tmp 72) 2,type:=0,pos:= "l03_pack.go:414",after:= #[{ on:=2,ground:=Ground.data }],guard:=none }) (v:= ?_) rfl (by kernel_rfl) (by kernel_rfl) (by kernel_rfl) (fun _ _ _ h=>h) (Or.inl ⟨by rfl,?_⟩) (by assumption) ?_
      rotate_left 1
      ·(intro wS hSw;(try dsimp only at hSw);go_simp;try (with_reducible rfl))
      (try simp only[Act.put,List.setIfInBounds_toArray,List.set_cons_zero,List.set_cons_succ])
      refine wpAnyH_take (i:=4) (oi:= { dst:=some 74,op:=Op.load 58 (Operand.tmp 73),type:=58,pos:= "l03_pack.go:414",after:= #[{ on:=3,ground:=Ground.data }],guard:=none }) (v:= ?_) rfl (by kernel_rfl) (by kernel_rfl) (by kernel_rfl) (fun _ _ _ h=>h) (Or.inl ⟨by rfl,?_⟩) (by assumption) ?_
      rotate_left 1
      ·(intro wS hSw;(try dsimp only at hSw);go_simp;try (with_reducible rfl))
      (try simp only[Act.put,List.setIfInBounds_toArray,List.set_cons_zero,List.set_cons_succ])
      refine wpAnyH_take (i:=5) (oi:= { dst:=some 75,op:=Op.move (Operand.tmp 0),type:=201,pos:= "l03_pack.go:414",after:= #[],guard:=none }) (v:= ?_) rfl (by kernel_rfl) (by kernel_rfl) (by kernel_rfl) (fun _ _ _ h=>h) (Or.inl ⟨by rfl,?_⟩) (by assumption) ?_
      rotate_left 1
      ·(intro wS hSw;(try dsimp only at hSw);go_simp;try (with_reducible rfl))
      (try simp only[Act.put,List.setIfInBounds_toArray,List.set_cons_zero,List.set_cons_succ])
      refine wpAnyH_ready (rs:= [6]) (by kernel_rfl) (by simp) ?_
      refine AllReadyH.cons (o:= { dst:=some 76,op:=Op.call { callee:=Callee.value (Operand.func 195),args:= #[Operand.tmp 75,Operand.const (Value.int IntKind.i64 8)],argTypes:= #[201,3] },type:=3,pos:= "l03_pack.go:414",after:= #[{ on:=5,ground:=Ground.data }],guard:=none }) rfl (fun K hK=> ?_) AllReadyH.nil
      go_simp
      refine(HC.out wr.drew R1).mono ?_
      rintro e x1 ⟨rfl,M1,L1⟩
      have T1:Bt c wr x1:=((Bt.refl c wr).drew).trans (Bt.of M1 L1)
      exact⟨rfl,blk_bad (k:=1) HKN.out (HBO.out.trans (by rw[HS2.out,if_pos (by omega)])) (by omega) (HBL.out.trans (T1.below hB hBwr))⟩
     ·have hbb:=low_byte s (5+k)
      rw[show 8*(5+k)=40+8*k by omega]at hbb
      have hby:=take_byte s k (by omega)
      generalize s.data.toList.getD (5+k) 0=bb at*
      have hb8:=bb.toNat_lt
      have HT:Hid (∀W:World,RdI c s (40+8*k) (.slice va k vc) W→Calls Tryz.prog 195 #[.pointer (some ⟨c,0,none⟩),.int .i64 8] W fun e w'=>e= .returned (.int .i64 (bb.toNat:Int))∧RdI c s (40+8*k+8) (.slice va k vc) w'∧Mv c W w'∧Below 0 W w'):=fun W h=>by rw[←hbb];exact lowI_ok 0 c s (40+8*k) 8 _ W (by omega) (Nat.zero_le _) (by omega) (by omega) h
      have hol2:=take_len s (k+1) (by omega)
      have HSN:Hid (bcells ((s.data.toList.drop 5).take k)++ [.int .u8 (bb.toNat:Int)]=bcells ((s.data.toList.drop 5).take (k+1))):=by show _=_;rw[hby];exact bcells_snoc _ _
      have HPT:Hid (∀(w6:World) (gg cap6:Nat),RdI c s (40+8*k+8) (.slice va k vc) w6→w6.ownsRow w.heap.size 5 1 (.slice (some ⟨gg,0,none⟩) (k+1) cap6) (k+1) (bcells ((s.data.toList.drop 5).take (k+1)))→Below B w w6→Bk B c s (40+8*k+8) ((s.data.toList.drop 5).take (k+1)) (some ⟨gg,0,none⟩) cap6 w (w6.setCell ⟨c,2,none⟩ (.slice (some ⟨gg,0,none⟩) (k+1) cap6))):=by
       intro w6 gg cap6 m6 o6 L6
       refine⟨?_,?_,L6.setCell hB _⟩
       ·rw[hol2];exact hp_set (w:=w6) (i:=2) m6 (.slice (some ⟨gg,0,none⟩) (k+1) cap6)
       ·rw[hol2];exact own_oth o6 (own_ne' o6 m6 (by decide)) 2 _
      have hwb:IntKind.u8.wrap (bb.toNat:Int)=(bb.toNat:Int):=by rw[IntKind.wrap_u8];omega
      clear hbb hby HK hol hol2
      generalize (s.data.toList.drop 5).take k=out at*
      generalize hO2:(s.data.toList.drop 5).take (k+1)=out2 at*
      have HO2:Hid (_):=hO2
      clear hO2
      generalize bb.toNat=b at*
      go_wp2
      refine wp_region_held_drew (S:=(fun _=>True)) (by kernel_rfl) trivial (fun hHeld=> ?_)
      refine wpAnyH_take (i:=0) (oi:= { dst:=some 70,op:=Op.move (Operand.tmp 0),type:=201,pos:= "l03_pack.go:414",after:= #[],guard:=none }) (v:= ?_) rfl (by kernel_rfl) (by kernel_rfl) (by kernel_rfl) (fun _ _ _ h=>h) (Or.inl ⟨by rfl,?_⟩) (by assumption) ?_
      rotate_left 1
      ·(intro wS hSw;(try dsimp only at hSw);go_simp;try (with_reducible rfl))
      (try simp only[Act.put,List.setIfInBounds_toArray,List.set_cons_zero,List.set_cons_succ])
      refine wpAnyH_take (i:=1) (oi:= { dst:=some 71,op:=Op.move (Operand.tmp 0),type:=201,pos:= "l03_pack.go:414",after:= #[],guard:=none }) (v:= ?_) rfl (by kernel_rfl) (by kernel_rfl) (by kernel_rfl) (fun _ _ _ h=>h) (Or.inl ⟨by rfl,?_⟩) (by assumption) ?_
      rotate_left 1
      ·(intro wS hSw;(try dsimp only at hSw);go_simp;try (with_reducible rfl))
      (try simp only[Act.put,List.setIfInBounds_toArray,List.set_cons_zero,List.set_cons_succ])
      refine wpAnyH_take (i:=2) (oi:= { dst:=some 72,op:=Op.nilCheck (Operand.tmp 71),type:=0,pos:= "l03_pack.go:414",after:= #[{ on:=1,ground:=Ground.data }],guard:=none }) (v:= ?_) rfl (by kernel_rfl) (by kernel_rfl) (by kernel_rfl) (fun _ _ _ h=>h) (Or.inl ⟨by rfl,?_⟩) (by assumption) ?_
      rotate_left 1
      ·(intro wS hSw;(try dsimp only at hSw);go_simp;try (with_reducible rfl))
      (try simp only[Act.put,List.setIfInBounds_toArray,List.set_cons_zero,List.set_cons_succ])
      refine wpAnyH_take (i:=3) (oi:= { dst:=some 73,op:=Op.fieldAddr 194 (Operand.tmp 72) 2,type:=0,pos:= "l03_pack.go:414",after:= #[{ on:=2,ground:=Ground.data }],guard:=none }) (v:= ?_) rfl (by kernel_rfl) (by kernel_rfl) (by kernel_rfl) (fun _ _ _ h=>h) (Or.inl ⟨by rfl,?_⟩) (by assumption) ?_
      rotate_left 1
      ·(intro wS hSw;(try dsimp only at hSw);go_simp;try (with_reducible rfl))
      (try simp only[Act.put,List.setIfInBounds_toArray,List.set_cons_zero,List.set_cons_succ])
      refine wpAnyH_take (i:=5) (oi:= { dst:=some 75,op:=Op.move (Operand.tmp 0),type:=201,pos:= "l03_pack.go:414",after:= #[],guard:=none }) (v:= ?_) rfl (by kernel_rfl) (by kernel_rfl) (by kernel_rfl) (fun _ _ _ h=>h) (Or.inl ⟨by rfl,?_⟩) (by assumption) ?_
      rotate_left 1
      ·(intro wS hSw;(try dsimp only at hSw);go_simp;try (with_reducible rfl))
      (try simp only[Act.put,List.setIfInBounds_toArray,List.set_cons_zero,List.set_cons_succ])
      refine wpAnyH_ready (rs:= [4,6]) (by kernel_rfl) (by simp) ?_
      refine AllReadyH.cons (o:= { dst:=some 74,op:=Op.load 58 (Operand.tmp 73),type:=58,pos:= "l03_pack.go:414",after:= #[{ on:=3,ground:=Ground.data }],guard:=none }) rfl (fun K hK=> ?_) (AllReadyH.cons (o:= { dst:=some 76,op:=Op.call { callee:=Callee.value (Operand.func 195),args:= #[Operand.tmp 75,Operand.const (Value.int IntKind.i64 8)],argTypes:= #[201,3] },type:=3,pos:= "l03_pack.go:414",after:= #[{ on:=5,ground:=Ground.data }],guard:=none }) rfl (fun K hK=> ?_) AllReadyH.nil)
      ·skip
       go_simp
       refine hK.out _ _ trivial (fun hHeld=> ?_)
       clear hK K
       (try simp only[Act.put,List.setIfInBounds_toArray,List.set_cons_zero,List.set_cons_succ])
       refine wpAnyH_ready (rs:= [6]) (by kernel_rfl) (by simp) ?_
       refine AllReadyH.cons (o:= { dst:=some 76,op:=Op.call { callee:=Callee.value (Operand.func 195),args:= #[Operand.tmp 75,Operand.const (Value.int IntKind.i64 8)],argTypes:= #[201,3] },type:=3,pos:= "l03_pack.go:414",after:= #[{ on:=5,ground:=Ground.data }],guard:=none }) rfl (fun K hK=> ?_) AllReadyH.nil
       go_simp
       refine(HT.out wr.drew R1).mono ?_
       rintro e x5 ⟨rfl,R5,M5,L5⟩
       have T5:Bt c wr x5:=((Bt.refl c wr).drew).trans (Bt.of M5 L5)
       have O5:=T5.own O1 hne
       have B5:=HBL.out.trans (T5.below hB hBwr)
       have c52:x5.cell? ⟨c,2,none⟩=some (.slice va k vc):=cell_at R5 2
       have m52:=heap_old R5 (.cells #[.int .u8 (b:Int)] 5)
       have c62:(x5.alloc (.cells #[.int .u8 (b:Int)] 5)).cell? ⟨c,2,none⟩=some (.slice va k vc):=cell_at m52 2
       have hx5:w.heap.size≤x5.heap.size:=B5.size
       refine hK.out _ _ trivial (fun hHeld=> ?_)
       clear hK K
       (try simp only[Act.put,List.setIfInBounds_toArray,List.set_cons_zero,List.set_cons_succ])
       refine wpAnyH_take (i:=7) (oi:= { dst:=some 77,op:=Op.convert 3 5 (Operand.tmp 76),type:=5,pos:= "l03_pack.go:414",after:= #[{ on:=6,ground:=Ground.data }],guard:=none }) (v:= ?_) rfl (by kernel_rfl) (by kernel_rfl) (by kernel_rfl) (fun _ _ _ h=>h) (Or.inl ⟨by rfl,?_⟩) (by assumption) ?_
       rotate_left 1
       ·(intro wS hSw;(try dsimp only at hSw);go_simp;try (with_reducible rfl))
       (try simp only[Act.put,List.setIfInBounds_toArray,List.set_cons_zero,List.set_cons_succ])
       refine wpAnyH_ready (rs:= [8]) (by kernel_rfl) (by simp) ?_
       refine AllReadyH.cons (o:= { dst:=some 78,op:=Op.buildSlice 58 1 #[(0,Operand.tmp 77)],type:=58,pos:= "l03_pack.go:414",after:= #[{ on:=7,ground:=Ground.data }],guard:=none }) rfl (fun K hK=> ?_) AllReadyH.nil
       go_simp
       refine hK.out _ _ trivial (fun hHeld=> ?_)
       clear hK K
       (try simp only[Act.put,List.setIfInBounds_toArray,List.set_cons_zero,List.set_cons_succ])
       refine wpAnyH_ready (rs:= [9]) (by kernel_rfl) (by simp) ?_
       refine AllReadyH.cons (o:= { dst:=some 79,op:=Op.call { callee:=Callee.builtin Builtin.append,args:= #[Operand.tmp 74,Operand.tmp 78],argTypes:= #[58,58] },type:=58,pos:= "l03_pack.go:414",after:= #[{ on:=4,ground:=Ground.data },{ on:=8,ground:=Ground.data },{ on:=6,ground:=Ground.chain }],guard:=none }) rfl (fun K hK=> ?_) AllReadyH.nil
       refine step_append_lies _ (by rfl) _ _ _ (by rfl) w.heap.size 5 i0 _ 1 1 Tryz.underlying58 hi hz0 hz1 hz2 rfl (by omega) (.slice va k vc) k (bcells out) (by rfl) (O5.alloc _) ⟨x5.heap.size,0,none⟩ 1 1 [.int .u8 (b:Int)] (by rfl) (by rfl) (World.news_of_block (cs:= #[.int .u8 (b:Int)]) (t:=5) (fr:=(0,0)) (heap_alloc_new x5 _)) (by simp[Value.oneCell']) (by omega) (by unfold maxLen;omega) (by omega) (by simp;omega) (x5.heap.size+1) (by simp) ?_
       intro gg cap6 w6 hown1 hgrow hat hlt
       have m6:RdI c s (40+8*k+8) (.slice va k vc) w6:=(hgrow.block c (lt_of m52) (own_ne (O5.alloc _) m52 (by decide))).trans m52
       have L6:Below B w w6:=(B5.alloc (by omega) _).grown hgrow (by simp;omega) (fun m h=>Nat.le_trans hB2 (own_ge O5 m h))
       rw[HSN.out]at hown1
       have K7:Bk B c s (40+8*k+8) out2 (some ⟨gg,0,none⟩) cap6 w (w6.setCell ⟨c,2,none⟩ (.slice (some ⟨gg,0,none⟩) (k+1) cap6)):=HPT.out w6 gg cap6 m6 hown1 L6
       have c6:w6.cell? ⟨c,2,none⟩=some (.slice va k vc):=cell_at m6 2
       have f6:w6.frozen? ⟨c,2,none⟩=false:=frozen_at m6 2
       have HK7:Hid (_):=K7
       clear K7 hown1 hgrow m6 L6 O5 B5 T5 m52 c52 c62 R5 M5 L5
       refine hK.out _ _ trivial (fun hHeld=> ?_)
       clear hK K
       (try simp only[Act.put,List.setIfInBounds_toArray,List.set_cons_zero,List.set_cons_succ])
       refine wpAnyH_take (i:=10) (oi:= { dst:=some 80,op:=Op.nilCheck (Operand.tmp 70),type:=0,pos:= "l03_pack.go:414",after:= #[{ on:=0,ground:=Ground.data },{ on:=0,ground:=Ground.phase },{ on:=1,ground:=Ground.phase },{ on:=2,ground:=Ground.phase },{ on:=3,ground:=Ground.phase },{ on:=4,ground:=Ground.phase },{ on:=5,ground:=Ground.phase },{ on:=6,ground:=Ground.phase },{ on:=7,ground:=Ground.phase },{ on:=8,ground:=Ground.phase },{ on:=9,ground:=Ground.phase }],guard:=none }) (v:= ?_) rfl (by kernel_rfl) (by kernel_rfl) (by kernel_rfl) (fun _ _ _ h=>h) (Or.inl ⟨by rfl,?_⟩) (by assumption) ?_
       rotate_left 1
       ·(intro wS hSw;(try dsimp only at hSw);go_simp;try (with_reducible rfl))
       (try simp only[Act.put,List.setIfInBounds_toArray,List.set_cons_zero,List.set_cons_succ])
       refine wpAnyH_take (i:=11) (oi:= { dst:=some 81,op:=Op.fieldAddr 194 (Operand.tmp 80) 2,type:=0,pos:= "l03_pack.go:414",after:= #[{ on:=10,ground:=Ground.data },{ on:=0,ground:=Ground.phase },{ on:=1,ground:=Ground.phase },{ on:=2,ground:=Ground.phase },{ on:=3,ground:=Ground.phase },{ on:=4,ground:=Ground.phase },{ on:=5,ground:=Ground.phase },{ on:=6,ground:=Ground.phase },{ on:=7,ground:=Ground.phase },{ on:=8,ground:=Ground.phase },{ on:=9,ground:=Ground.phase }],guard:=none }) (v:= ?_) rfl (by kernel_rfl) (by kernel_rfl) (by kernel_rfl) (fun _ _ _ h=>h) (Or.inl ⟨by rfl,?_⟩) (by assumption) ?_
       rotate_left 1
       ·(intro wS hSw;(try dsimp only at hSw);go_simp;try (with_reducible rfl))
       (try simp only[Act.put,List.setIfInBounds_toArray,List.set_cons_zero,List.set_cons_succ])
       refine wpAnyH_ready (rs:= [12]) (by kernel_rfl) (by simp) ?_
       refine AllReadyH.cons (o:= { dst:=none,op:=Op.store 58 (Operand.tmp 81) (Operand.tmp 79),type:=0,pos:= "l03_pack.go:414",after:= #[{ on:=11,ground:=Ground.data },{ on:=9,ground:=Ground.data },{ on:=9,ground:=Ground.chain },{ on:=0,ground:=Ground.phase },{ on:=1,ground:=Ground.phase },{ on:=2,ground:=Ground.phase },{ on:=3,ground:=Ground.phase },{ on:=4,ground:=Ground.phase },{ on:=5,ground:=Ground.phase },{ on:=6,ground:=Ground.phase },{ on:=7,ground:=Ground.phase },{ on:=8,ground:=Ground.phase },{ on:=9,ground:=Ground.phase }],guard:=none }) rfl (fun K hK=> ?_) AllReadyH.nil
       go_simp
       refine hK.out _ _ trivial (fun hHeld=> ?_)
       clear hK K
       (try simp only[Act.put,List.setIfInBounds_toArray,List.set_cons_zero,List.set_cons_succ])
       refine wpAnyH_done (by kernel_rfl) ?_ _
       go_wp2
       go_roundw
       case rel=>exact⟨k+1,some ⟨gg,0,none⟩,cap6,by omega,by go_num,by omega,by rw[show 40+8*(k+1)=40+8*k+8 by omega,HO2.out];exact HK7⟩
       case measure=>simp[intOf];omega
      ·skip
       go_simp
       refine(HT.out wr.drew R1).mono ?_
       rintro e x5 ⟨rfl,R5,M5,L5⟩
       have T5:Bt c wr x5:=((Bt.refl c wr).drew).trans (Bt.of M5 L5)
       have O5:=T5.own O1 hne
       have B5:=HBL.out.trans (T5.below hB hBwr)
       have c52:x5.cell? ⟨c,2,none⟩=some (.slice va k vc):=cell_at R5 2
       have m52:=heap_old R5 (.cells #[.int .u8 (b:Int)] 5)
       have c62:(x5.alloc (.cells #[.int .u8 (b:Int)] 5)).cell? ⟨c,2,none⟩=some (.slice va k vc):=cell_at m52 2
       have hx5:w.heap.size≤x5.heap.size:=B5.size
       refine hK.out _ _ trivial (fun hHeld=> ?_)
       clear hK K
       (try simp only[Act.put,List.setIfInBounds_toArray,List.set_cons_zero,List.set_cons_succ])
       refine wpAnyH_take (i:=7) (oi:= { dst:=some 77,op:=Op.convert 3 5 (Operand.tmp 76),type:=5,pos:= "l03_pack.go:414",after:= #[{ on:=6,ground:=Ground.data }],guard:=none }) (v:= ?_) rfl (by kernel_rfl) (by kernel_rfl) (by kernel_rfl) (fun _ _ _ h=>h) (Or.inl ⟨by rfl,?_⟩) (by assumption) ?_
       rotate_left 1
       ·(intro wS hSw;(try dsimp only at hSw);go_simp;try (with_reducible rfl))
       (try simp only[Act.put,List.setIfInBounds_toArray,List.set_cons_zero,List.set_cons_succ])
       refine wpAnyH_ready (rs:= [4,8]) (by kernel_rfl) (by simp) ?_
       refine AllReadyH.cons (o:= { dst:=some 74,op:=Op.load 58 (Operand.tmp 73),type:=58,pos:= "l03_pack.go:414",after:= #[{ on:=3,ground:=Ground.data }],guard:=none }) rfl (fun K hK=> ?_) (AllReadyH.cons (o:= { dst:=some 78,op:=Op.buildSlice 58 1 #[(0,Operand.tmp 77)],type:=58,pos:= "l03_pack.go:414",after:= #[{ on:=7,ground:=Ground.data }],guard:=none }) rfl (fun K hK=> ?_) AllReadyH.nil)
       ·skip
        go_simp
        refine hK.out _ _ trivial (fun hHeld=> ?_)
        clear hK K
        (try simp only[Act.put,List.setIfInBounds_toArray,List.set_cons_zero,List.set_cons_succ])
        refine wpAnyH_ready (rs:= [8]) (by kernel_rfl) (by simp) ?_
        refine AllReadyH.cons (o:= { dst:=some 78,op:=Op.buildSlice 58 1 #[(0,Operand.tmp 77)],type:=58,pos:= "l03_pack.go:414",after:= #[{ on:=7,ground:=Ground.data }],guard:=none }) rfl (fun K hK=> ?_) AllReadyH.nil
        go_simp
        refine hK.out _ _ trivial (fun hHeld=> ?_)
        clear hK K
        (try simp only[Act.put,List.setIfInBounds_toArray,List.set_cons_zero,List.set_cons_succ])
        refine wpAnyH_ready (rs:= [9]) (by kernel_rfl) (by simp) ?_
        refine AllReadyH.cons (o:= { dst:=some 79,op:=Op.call { callee:=Callee.builtin Builtin.append,args:= #[Operand.tmp 74,Operand.tmp 78],argTypes:= #[58,58] },type:=58,pos:= "l03_pack.go:414",after:= #[{ on:=4,ground:=Ground.data },{ on:=8,ground:=Ground.data },{ on:=6,ground:=Ground.chain }],guard:=none }) rfl (fun K hK=> ?_) AllReadyH.nil
        refine step_append_lies _ (by rfl) _ _ _ (by rfl) w.heap.size 5 i0 _ 1 1 Tryz.underlying58 hi hz0 hz1 hz2 rfl (by omega) (.slice va k vc) k (bcells out) (by rfl) (O5.alloc _) ⟨x5.heap.size,0,none⟩ 1 1 [.int .u8 (b:Int)] (by rfl) (by rfl) (World.news_of_block (cs:= #[.int .u8 (b:Int)]) (t:=5) (fr:=(0,0)) (heap_alloc_new x5 _)) (by simp[Value.oneCell']) (by omega) (by unfold maxLen;omega) (by omega) (by simp;omega) (x5.heap.size+1) (by simp) ?_
        intro gg cap6 w6 hown1 hgrow hat hlt
        have m6:RdI c s (40+8*k+8) (.slice va k vc) w6:=(hgrow.block c (lt_of m52) (own_ne (O5.alloc _) m52 (by decide))).trans m52
        have L6:Below B w w6:=(B5.alloc (by omega) _).grown hgrow (by simp;omega) (fun m h=>Nat.le_trans hB2 (own_ge O5 m h))
        rw[HSN.out]at hown1
        have K7:Bk B c s (40+8*k+8) out2 (some ⟨gg,0,none⟩) cap6 w (w6.setCell ⟨c,2,none⟩ (.slice (some ⟨gg,0,none⟩) (k+1) cap6)):=HPT.out w6 gg cap6 m6 hown1 L6
        have c6:w6.cell? ⟨c,2,none⟩=some (.slice va k vc):=cell_at m6 2
        have f6:w6.frozen? ⟨c,2,none⟩=false:=frozen_at m6 2
        have HK7:Hid (_):=K7
        clear K7 hown1 hgrow m6 L6 O5 B5 T5 m52 c52 c62 R5 M5 L5
        refine hK.out _ _ trivial (fun hHeld=> ?_)
        clear hK K
        (try simp only[Act.put,List.setIfInBounds_toArray,List.set_cons_zero,List.set_cons_succ])
        refine wpAnyH_take (i:=10) (oi:= { dst:=some 80,op:=Op.nilCheck (Operand.tmp 70),type:=0,pos:= "l03_pack.go:414",after:= #[{ on:=0,ground:=Ground.data },{ on:=0,ground:=Ground.phase },{ on:=1,ground:=Ground.phase },{ on:=2,ground:=Ground.phase },{ on:=3,ground:=Ground.phase },{ on:=4,ground:=Ground.phase },{ on:=5,ground:=Ground.phase },{ on:=6,ground:=Ground.phase },{ on:=7,ground:=Ground.phase },{ on:=8,ground:=Ground.phase },{ on:=9,ground:=Ground.phase }],guard:=none }) (v:= ?_) rfl (by kernel_rfl) (by kernel_rfl) (by kernel_rfl) (fun _ _ _ h=>h) (Or.inl ⟨by rfl,?_⟩) (by assumption) ?_
        rotate_left 1
        ·(intro wS hSw;(try dsimp only at hSw);go_simp;try (with_reducible rfl))
        (try simp only[Act.put,List.setIfInBounds_toArray,List.set_cons_zero,List.set_cons_succ])
        refine wpAnyH_take (i:=11) (oi:= { dst:=some 81,op:=Op.fieldAddr 194 (Operand.tmp 80) 2,type:=0,pos:= "l03_pack.go:414",after:= #[{ on:=10,ground:=Ground.data },{ on:=0,ground:=Ground.phase },{ on:=1,ground:=Ground.phase },{ on:=2,ground:=Ground.phase },{ on:=3,ground:=Ground.phase },{ on:=4,ground:=Ground.phase },{ on:=5,ground:=Ground.phase },{ on:=6,ground:=Ground.phase },{ on:=7,ground:=Ground.phase },{ on:=8,ground:=Ground.phase },{ on:=9,ground:=Ground.phase }],guard:=none }) (v:= ?_) rfl (by kernel_rfl) (by kernel_rfl) (by kernel_rfl) (fun _ _ _ h=>h) (Or.inl ⟨by rfl,?_⟩) (by assumption) ?_
        rotate_left 1
        ·(intro wS hSw;(try dsimp only at hSw);go_simp;try (with_reducible rfl))
        (try simp only[Act.put,List.setIfInBounds_toArray,List.set_cons_zero,List.set_cons_succ])
        refine wpAnyH_ready (rs:= [12]) (by kernel_rfl) (by simp) ?_
        refine AllReadyH.cons (o:= { dst:=none,op:=Op.store 58 (Operand.tmp 81) (Operand.tmp 79),type:=0,pos:= "l03_pack.go:414",after:= #[{ on:=11,ground:=Ground.data },{ on:=9,ground:=Ground.data },{ on:=9,ground:=Ground.chain },{ on:=0,ground:=Ground.phase },{ on:=1,ground:=Ground.phase },{ on:=2,ground:=Ground.phase },{ on:=3,ground:=Ground.phase },{ on:=4,ground:=Ground.phase },{ on:=5,ground:=Ground.phase },{ on:=6,ground:=Ground.phase },{ on:=7,ground:=Ground.phase },{ on:=8,ground:=Ground.phase },{ on:=9,ground:=Ground.phase }],guard:=none }) rfl (fun K hK=> ?_) AllReadyH.nil
        go_simp
        refine hK.out _ _ trivial (fun hHeld=> ?_)
        clear hK K
        (try simp only[Act.put,List.setIfInBounds_toArray,List.set_cons_zero,List.set_cons_succ])
        refine wpAnyH_done (by kernel_rfl) ?_ _
        go_wp2
        go_roundw
        case rel=>exact⟨k+1,some ⟨gg,0,none⟩,cap6,by omega,by go_num,by omega,by rw[show 40+8*(k+1)=40+8*k+8 by omega,HO2.out];exact HK7⟩
        case measure=>simp[intOf];omega
       ·skip
        go_simp
        refine hK.out _ _ trivial (fun hHeld=> ?_)
        clear hK K
        (try simp only[Act.put,List.setIfInBounds_toArray,List.set_cons_zero,List.set_cons_succ])
        refine wpAnyH_ready (rs:= [4]) (by kernel_rfl) (by simp) ?_
        refine AllReadyH.cons (o:= { dst:=some 74,op:=Op.load 58 (Operand.tmp 73),type:=58,pos:= "l03_pack.go:414",after:= #[{ on:=3,ground:=Ground.data }],guard:=none }) rfl (fun K hK=> ?_) AllReadyH.nil
        go_simp
        refine hK.out _ _ trivial (fun hHeld=> ?_)
        clear hK K
        (try simp only[Act.put,List.setIfInBounds_toArray,List.set_cons_zero,List.set_cons_succ])
        refine wpAnyH_ready (rs:= [9]) (by kernel_rfl) (by simp) ?_
        refine AllReadyH.cons (o:= { dst:=some 79,op:=Op.call { callee:=Callee.builtin Builtin.append,args:= #[Operand.tmp 74,Operand.tmp 78],argTypes:= #[58,58] },type:=58,pos:= "l03_pack.go:414",after:= #[{ on:=4,ground:=Ground.data },{ on:=8,ground:=Ground.data },{ on:=6,ground:=Ground.chain }],guard:=none }) rfl (fun K hK=> ?_) AllReadyH.nil
        refine step_append_lies _ (by rfl) _ _ _ (by rfl) w.heap.size 5 i0 _ 1 1 Tryz.underlying58 hi hz0 hz1 hz2 rfl (by omega) (.slice va k vc) k (bcells out) (by rfl) (O5.alloc _) ⟨x5.heap.size,0,none⟩ 1 1 [.int .u8 (b:Int)] (by rfl) (by rfl) (World.news_of_block (cs:= #[.int .u8 (b:Int)]) (t:=5) (fr:=(0,0)) (heap_alloc_new x5 _)) (by simp[Value.oneCell']) (by omega) (by unfold maxLen;omega) (by omega) (by simp;omega) (x5.heap.size+1) (by simp) ?_
        intro gg cap6 w6 hown1 hgrow hat hlt
        have m6:RdI c s (40+8*k+8) (.slice va k vc) w6:=(hgrow.block c (lt_of m52) (own_ne (O5.alloc _) m52 (by decide))).trans m52
        have L6:Below B w w6:=(B5.alloc (by omega) _).grown hgrow (by simp;omega) (fun m h=>Nat.le_trans hB2 (own_ge O5 m h))
        rw[HSN.out]at hown1
        have K7:Bk B c s (40+8*k+8) out2 (some ⟨gg,0,none⟩) cap6 w (w6.setCell ⟨c,2,none⟩ (.slice (some ⟨gg,0,none⟩) (k+1) cap6)):=HPT.out w6 gg cap6 m6 hown1 L6
        have c6:w6.cell? ⟨c,2,none⟩=some (.slice va k vc):=cell_at m6 2
        have f6:w6.frozen? ⟨c,2,none⟩=false:=frozen_at m6 2
        have HK7:Hid (_):=K7
        clear K7 hown1 hgrow m6 L6 O5 B5 T5 m52 c52 c62 R5 M5 L5
        refine hK.out _ _ trivial (fun hHeld=> ?_)
        clear hK K
        (try simp only[Act.put,List.setIfInBounds_toArray,List.set_cons_zero,List.set_cons_succ])
        refine wpAnyH_take (i:=10) (oi:= { dst:=some 80,op:=Op.nilCheck (Operand.tmp 70),type:=0,pos:= "l03_pack.go:414",after:= #[{ on:=0,ground:=Ground.data },{ on:=0,ground:=Ground.phase },{ on:=1,ground:=Ground.phase },{ on:=2,ground:=Ground.phase },{ on:=3,ground:=Ground.phase },{ on:=4,ground:=Ground.phase },{ on:=5,ground:=Ground.phase },{ on:=6,ground:=Ground.phase },{ on:=7,ground:=Ground.phase },{ on:=8,ground:=Ground.phase },{ on:=9,ground:=Ground.phase }],guard:=none }) (v:= ?_) rfl (by kernel_rfl) (by kernel_rfl) (by kernel_rfl) (fun _ _ _ h=>h) (Or.inl ⟨by rfl,?_⟩) (by assumption) ?_
        rotate_left 1
        ·(intro wS hSw;(try dsimp only at hSw);go_simp;try (with_reducible rfl))
        (try simp only[Act.put,List.setIfInBounds_toArray,List.set_cons_zero,List.set_cons_succ])
        refine wpAnyH_take (i:=11) (oi:= { dst:=some 81,op:=Op.fieldAddr 194 (Operand.tmp 80) 2,type:=0,pos:= "l03_pack.go:414",after:= #[{ on:=10,ground:=Ground.data },{ on:=0,ground:=Ground.phase },{ on:=1,ground:=Ground.phase },{ on:=2,ground:=Ground.phase },{ on:=3,ground:=Ground.phase },{ on:=4,ground:=Ground.phase },{ on:=5,ground:=Ground.phase },{ on:=6,ground:=Ground.phase },{ on:=7,ground:=Ground.phase },{ on:=8,ground:=Ground.phase },{ on:=9,ground:=Ground.phase }],guard:=none }) (v:= ?_) rfl (by kernel_rfl) (by kernel_rfl) (by kernel_rfl) (fun _ _ _ h=>h) (Or.inl ⟨by rfl,?_⟩) (by assumption) ?_
        rotate_left 1
        ·(intro wS hSw;(try dsimp only at hSw);go_simp;try (with_reducible rfl))
        (try simp only[Act.put,List.setIfInBounds_toArray,List.set_cons_zero,List.set_cons_succ])
        refine wpAnyH_ready (rs:= [12]) (by kernel_rfl) (by simp) ?_
        refine AllReadyH.cons (o:= { dst:=none,op:=Op.store 58 (Operand.tmp 81) (Operand.tmp 79),type:=0,pos:= "l03_pack.go:414",after:= #[{ on:=11,ground:=Ground.data },{ on:=9,ground:=Ground.data },{ on:=9,ground:=Ground.chain },{ on:=0,ground:=Ground.phase },{ on:=1,ground:=Ground.phase },{ on:=2,ground:=Ground.phase },{ on:=3,ground:=Ground.phase },{ on:=4,ground:=Ground.phase },{ on:=5,ground:=Ground.phase },{ on:=6,ground:=Ground.phase },{ on:=7,ground:=Ground.phase },{ on:=8,ground:=Ground.phase },{ on:=9,ground:=Ground.phase }],guard:=none }) rfl (fun K hK=> ?_) AllReadyH.nil
        go_simp
        refine hK.out _ _ trivial (fun hHeld=> ?_)
        clear hK K
        (try simp only[Act.put,List.setIfInBounds_toArray,List.set_cons_zero,List.set_cons_succ])
        refine wpAnyH_done (by kernel_rfl) ?_ _
        go_wp2
        go_roundw
        case rel=>exact⟨k+1,some ⟨gg,0,none⟩,cap6,by omega,by go_num,by omega,by rw[show 40+8*(k+1)=40+8*k+8 by omega,HO2.out];exact HK7⟩
        case measure=>simp[intOf];omega
    ·obtain rfl:k=n:=by omega
     have hkI:¬(k:Int)<(k:Int):=by omega
     have h0:storedC s=0:=HS2.out.trans (if_neg (by omega))
     have hT:=HTT.out h0
     have hlist:(Math.storedT s).data.toList=(s.data.toList.drop 5).take k:=by rw[hT,ByteArray.data_extract,Array.toList_extract];simp[List.extract]
     have HF:Hid (body s=(0,(s.data.toList.drop 5).take k,40+8*k)):=by show body s=_;rw[HBO.out,h0,hlist]
     have HR:Hid (_):=restI_val c s (40+8*k) (.slice va ((s.data.toList.drop 5).take k).length vc) wr (by omega) (by omega) HK.out.rd
     clear HTT HBO h0 hT hlist
     go_wp2
     go_step3
     rename_i hK2
     refine hK2 _ _ ?_
     go_wp2_with fail
     refine Calls.mono HR.out ?_
     rintro e w9 ⟨⟨h0,h6⟩,T⟩
     obtain⟨k1,k2,k3⟩:=HKN.out
     have hu:=(Math.unp_body k1 k2 k3 HF.out).2 rfl
     by_cases hr:rst s 8 (40+8*k)=0
     ·obtain⟨rfl,q,R⟩:=h0 hr
      have K2:=HK.out.mv R T hB hB2
      go_wp2
      exact⟨rfl,_,results_none rfl _ _ _,⟨fun h=>absurd (hu.1.trans hr) h,fun _=>⟨rfl,q,va,vc,_,hu.2 (hu.1.trans hr),K2⟩,K2.bl⟩⟩
     ·obtain⟨h7,rfl⟩:=h6 hr
      exact⟨rfl,blk_code (k:=6) (hu.1.trans h7) (by omega) (HK.out.bl.trans (T.below hB (Nat.le_trans hB2 HK.out.bl.size)))⟩
  ·obtain⟨u,x3,rfl⟩:∃u x3,a'=bAct c u x3:=⟨_,_,hA⟩
   clear hA
   refine⟨_,rfl,?_⟩
   unfold bAct
   have hBw:B≤w'.heap.size:=Nat.le_trans hB2 K.bl.size
   have HS:Hid (_):=symI_val 0 c s a (.slice va out.length vc) w' (by omega) (Nat.zero_le _) (Nat.zero_le _) ha (HRU.out.on K.bl hrB) K.rd
   obtain⟨hn7,hn9⟩:=Math.symLen_bd s a
   have hys:=Math.symAt_lt s a
   obtain⟨g,rfl⟩:∃k,g=k+1:=⟨g-1,by omega⟩
   obtain⟨nl,hnl⟩:∃nl,symLen s a=nl:=⟨_,rfl⟩
   obtain⟨y,hy⟩:∃y,symAt s a=y:=⟨_,rfl⟩
   have HNN:Hid (symLen s a=nl):=hnl
   have HYY:Hid (symAt s a=y):=hy
   unfold SymEnd at HS
   rw[hnl,hy]at HS
   rw[hnl]at hn7 hn9
   rw[hy]at hys
   clear hnl hy
   have c1:w'.cell? ⟨c,1,none⟩=some (.int .i64 (a:Int)):=cell_at K.rd 1
   have HMS:Hid (∀A,MM c s 1 A w'=1+(8*s.size-a)):=fun A=>by unfold MM;rw[if_neg (by omega),if_neg (by omega),c1];simp[intOf]
   clear c1
   go_wp2_with fail
   refine Calls.mono HS.out ?_
   rintro e w2 ⟨⟨e1,e2,e3⟩,T⟩
   have L2:=K.bl.trans (T.below hB hBw)
   by_cases hcut:8*s.size<a+nl
   ·obtain rfl:=e1 hcut
    have HX:=HF.out.trans (Math.fix_cut (by rw[HNN.out];exact hcut))
    exact⟨rfl,blk_bad (k:=1) HKN.out HX (by omega) L2⟩
   by_cases h285:285<y
   ·obtain rfl:=e2 hcut h285
    have HX:=HF.out.trans (Math.fix_sym (by rw[HNN.out];exact hcut) (by rw[HYY.out];exact h285))
    exact⟨rfl,blk_bad (k:=3) HKN.out HX (by omega) L2⟩
   obtain⟨rfl,R2⟩:=e3 hcut h285
   have K2:=K.mv R2 T hB hB2
   clear e1 e2 e3 T HS L2
   have c21:w2.cell? ⟨c,1,none⟩=some (.int .i64 ((a+nl:Nat):Int)):=cell_at R2 1
   have HK2:Hid (_):=K2
   by_cases h256:y=256
   ·subst h256
    have HX:Hid (_):=HF.out.trans (Math.fix_end (by rw[HNN.out];exact hcut) HYY.out)
    rw[HNN.out]at HX
    clear K2 R2 c21 K HF
    go_wp2
    go_step3
    refine⟨Or.inr (Or.inr (Or.inl ⟨rfl,rfl,a+nl,out,va,vc,by omega,HX,HK2.out⟩)),?_⟩
    rw[HMS.out]
    show 0<_
    omega
   have h256I:¬(y:Int)=256:=by omega
   by_cases hgt:256<y
   ·have hgI:(256:Int)<(y:Int):=by omega
    clear K2 R2 K
    go_wp2
    go_step3
    refine⟨Or.inr (Or.inr (Or.inr ⟨rfl,a,g,y,nl,rfl,out,va,vc,by omega,hn7,hn9,hol,hg,hgt,by omega,HYY,HNN,HF,HK2.out⟩)),?_⟩
    rw[HMS.out]
    show(1+(8*s.size-(intOf ((w2.cell? ⟨c,1,none⟩).getD undef)).toNat))<_
    rw[c21]
    simp[intOf]
    omega
   have hlt:y<256:=by omega
   have hgI:¬(256:Int)<(y:Int):=by omega
   have HBY:Hid (_):=beyond_val c s (a+nl) out.length 1 va vc w2 (by omega) (by omega) R2
   rw[show((1:Nat):Int)=1 from rfl]at HBY
   clear R2 K
   go_wp2_with fail
   refine Calls.mono HBY.out ?_
   rintro e w3 ⟨⟨e5,e0⟩,rfl⟩
   by_cases hful:3000<out.length+1
   ·obtain rfl:=e5 hful
    have HX:=HF.out.trans (Math.fix_full (by rw[HNN.out];exact hcut) (by rw[HYY.out];exact hlt) hful)
    exact⟨rfl,blk_bad (k:=5) HKN.out HX (by omega) K2.bl⟩
   obtain rfl:=e0 hful
   have HX:Hid (_):=HF.out.trans (Math.fix_byte (by rw[HNN.out];exact hcut) (by rw[HYY.out];exact hlt) hful)
   rw[HNN.out,HYY.out]at HX
   have c22:w3.cell? ⟨c,2,none⟩=some (.slice va out.length vc):=cell_at K2.rd 2
   have f22:w3.frozen? ⟨c,2,none⟩=false:=frozen_at K2.rd 2
   have hown2:=K2.own
   have hB3:B≤w3.heap.size:=Nat.le_trans hB2 K2.bl.size
   have HL3:Hid (_):=K2.bl
   have hw3w:w.heap.size≤w3.heap.size:=K2.bl.size
   have HRD:Hid (_):=K2.rd
   have hwy:IntKind.u8.wrap (y:Int)=(y:Int):=by rw[IntKind.wrap_u8];omega
   have HBT:Hid (((UInt8.ofNat y).toNat:Int)=(y:Int)):=by show((UInt8.ofNat y).toNat:Int)=(y:Int);rw[UInt8.toNat_ofNat'];omega
   clear K2 e5 e0 HBY HF
   go_wp2_with (at_builtin;refine wpList_append_own _ rfl _ _ 58 rfl w.heap.size 5 i0 (.int .u8 0) 1 1 Tryz.underlying58 hi hz0 hz1 hz2 rfl (by decide) _ _ _ rfl (hown2.alloc _) ⟨w3.heap.size,0,none⟩ 1 1 [.int .u8 (y:Int)] rfl rfl ?c1 ?c2 ?c3 ?c4 ?c5 ?_)
   case c1=>exact cell_one_new _ _ _
   case c2=>intro u hu;simp at hu;subst hu;rfl
   case c3=>unfold maxLen;omega
   case c4=>omega
   case c5=>simp;omega
   intro v' w4 hown3 hgrow _
   rw[←HBT.out,bcells_snoc]at hown3
   have m2:=heap_old HRD.out (.cells #[.int .u8 (y:Int)] 5)
   have m4:RdI c s (a+nl) (.slice va out.length vc) w4:=(hgrow.block c (lt_of m2) (own_ne (hown2.alloc _) m2 (by decide))).trans m2
   have L4:Below B w w4:=(HL3.out.alloc (by omega) _).grown hgrow (by simp;omega) (fun m h=>Nat.le_trans hB2 (own_ge hown2 m h))
   obtain⟨va3,vc3,rfl,-⟩:=own_form hown3
   have hown4:w4.ownsRow w.heap.size 5 1 (.slice va3 (out++ [UInt8.ofNat y]).length vc3) (out++ [UInt8.ofNat y]).length (bcells (out++ [UInt8.ofNat y])):=by rw[List.length_append];exact hown3
   have K5:=HK2.out.put hB m4 hown4 L4
   rw[show(out++ [UInt8.ofNat y]).length=out.length+1 from List.length_append]at K5
   have c42:w4.cell? ⟨c,2,none⟩=some (.slice va out.length vc):=cell_at m4 2
   have f42:w4.frozen? ⟨c,2,none⟩=false:=frozen_at m4 2
   have HK5:Hid (_):=K5
   have c51:Hid ((w4.setCell ⟨c,2,none⟩ (.slice va3 (out.length+1) vc3)).cell? ⟨c,1,none⟩=some (.int .i64 ((a+nl:Nat):Int))):=cell_at K5.rd 1
   clear K5 hown3 hown4 hown2 hgrow m2 L4 c21 c22 f22 m4
   go_wp2
   go_step3
   refine⟨Or.inr (Or.inl ⟨rfl,rfl,a+nl,g,out++ [UInt8.ofNat y],va3,vc3,by omega,by rw[List.length_append];simp;omega,by omega,HX,HK5.out⟩),?_⟩
   rw[HMS.out]
   show(1+(8*s.size-(intOf (((w4.setCell ⟨c,2,none⟩ (.slice va3 (out.length+1) vc3)).cell? ⟨c,1,none⟩).getD undef)).toNat))<_
   rw[c51.out]
   simp[intOf]
   omega
  ·obtain⟨u,x3,rfl⟩:∃u x3,a'=bAct c u x3:=⟨_,_,hA⟩
   clear hA
   have HR:Hid (_):=restI_val c s a (.slice va out.length vc) w' (by omega) ha K.rd
   refine⟨_,rfl,?_⟩
   unfold bAct
   go_wp2_with fail
   refine Calls.mono HR.out ?_
   rintro e w2 ⟨⟨h0,h6⟩,T⟩
   obtain⟨k1,k2,k3⟩:=HKN.out
   have hu:=(Math.unp_body k1 k2 k3 HF.out).2 rfl
   by_cases hr:rst s 8 a=0
   ·obtain⟨rfl,q,R⟩:=h0 hr
    have K2:=K.mv R T hB hB2
    go_wp2
    exact⟨rfl,_,results_none rfl _ _ _,⟨fun h=>absurd (hu.1.trans hr) h,fun _=>⟨rfl,q,va,vc,out,hu.2 (hu.1.trans hr),K2⟩,K2.bl⟩⟩
   ·obtain⟨h7,rfl⟩:=h6 hr
    have hBw:B≤w'.heap.size:=Nat.le_trans hB2 K.bl.size
    exact⟨rfl,blk_code (k:=6) (hu.1.trans h7) (by omega) (K.bl.trans (T.below hB hBw))⟩
  ·obtain⟨u,rfl⟩:∃u,a'=bAct c u (.int .i64 (y:Int)):=⟨_,hA⟩
   clear hA
   refine⟨_,rfl,?_⟩
   unfold bAct
   have hBw:B≤w'.heap.size:=Nat.le_trans hB2 K.bl.size
   have c1:w'.cell? ⟨c,1,none⟩=some (.int .i64 ((a+nl:Nat):Int)):=cell_at K.rd 1
   have HMS:Hid (∀A,MM c s 3 A w'=1+(8*s.size-(a+nl))):=fun A=>by unfold MM;rw[if_neg (by omega),if_neg (by omega),c1];simp[intOf];omega
   have HLE:Hid (_):=lenI_val c s (a+nl) y (.slice va out.length vc) w' (by omega) ha (by omega) hy5 K.rd
   have hx1:¬8*s.size<a+symLen s a:=by rw[HN.out];omega
   have hx2:256<symAt s a:=by rw[HY.out];exact hy6
   have hx3:symAt s a≤285:=by rw[HY.out];exact hy5
   have hp1:p1 s a=a+nl+lenBits y:=by unfold p1;rw[HN.out,HY.out]
   have hnn:nn s a=lenTold s (a+nl) y:=by unfold nn;rw[HN.out,HY.out]
   have hnb:nn s a≤290:=by
    have h:=len_bds y (by omega) hy5
    have h5:lowAt s (a+nl) (lenBits y)<32:=Nat.lt_of_lt_of_le (Math.lowAt_lt s (a+nl) (lenBits y)) (Nat.le_trans (Nat.pow_le_pow_right (by omega) h.2) (by decide))
    rw[hnn,Math.lenTold_is]
    omega
   have HX1:Hid (_):=hx1
   have HX2:Hid (_):=hx2
   have HX3:Hid (_):=hx3
   have HP1:Hid (_):=hp1
   have HNV:Hid (_):=hnn
   rw[←hnn,←hp1]at HLE
   clear hx1 hx2 hx3 hnn c1
   obtain⟨n,hn⟩:∃n,nn s a=n:=⟨_,rfl⟩
   have HNQ:Hid (nn s a=n):=hn
   rw[hn]at HLE hnb
   obtain⟨P,hP⟩:∃P,p1 s a=P:=⟨_,rfl⟩
   have HPQ:Hid (p1 s a=P):=hP
   rw[hP]at HLE hp1
   have hPa:a+nl≤P:=by omega
   clear hn hP hp1
   go_wp2_with fail
   refine Calls.mono HLE.out ?_
   rintro e w2 ⟨⟨e1,e0⟩,T⟩
   have L2:=K.bl.trans (T.below hB hBw)
   by_cases hcut:8*s.size<P
   ·obtain rfl:=e1 hcut
    have HX:=HF.out.trans (Math.fix_cut2 HX1.out HX2.out HX3.out (by rw[HPQ.out];omega))
    exact⟨rfl,blk_bad (k:=1) HKN.out HX (by omega) L2⟩
   obtain⟨rfl,R2⟩:=e0 hcut
   have K2:=K.mv R2 T hB hB2
   have HBA:Hid (_):=backI_val c s P (.slice va out.length vc) w2 (by omega) (by omega) R2
   have hBw2:B≤w2.heap.size:=Nat.le_trans hB2 K2.bl.size
   have hbk:bk s a=topAt s P 5:=by unfold bk;rw[HPQ.out]
   have hp2:p2' s a=P+5+cbits 2 (bk s a):=by unfold p2';rw[HPQ.out]
   have hdd:dd s a=backTold s (P+5) (bk s a):=by unfold dd;rw[HPQ.out]
   rw[←hbk,←hdd,←hp2]at HBA
   have hdb:¬29<bk s a→1≤dd s a∧dd s a≤50000:=by
    intro h
    obtain⟨h1,h2⟩:=Math.back_bds (bk s a) (by omega)
    have h5:lowAt s (P+5) (cbits 2 (bk s a))<8192:=Nat.lt_of_lt_of_le (Math.lowAt_lt s (P+5) (cbits 2 (bk s a))) (Nat.le_trans (Nat.pow_le_pow_right (by omega) h2) (by decide))
    rw[Math.dd_is,HPQ.out]
    omega
   have hp2b:P+5≤p2' s a:=by omega
   have HDB:Hid (_):=hdb
   clear e1 e0 T HLE L2 K R2 hbk hdd hdb hp2
   obtain⟨d,hd⟩:∃d,dd s a=d:=⟨_,rfl⟩
   have HDQ:Hid (dd s a=d):=hd
   obtain⟨P2,hP2⟩:∃P2,p2' s a=P2:=⟨_,rfl⟩
   have HP2:Hid (p2' s a=P2):=hP2
   rw[hd,hP2]at HBA
   rw[hP2]at hp2b
   rw[hd]at HDB
   clear hd hP2
   go_wp2_with fail
   refine Calls.mono HBA.out ?_
   rintro e w3 ⟨⟨e1,e2,e3,e0⟩,T⟩
   have L3:=K2.bl.trans (T.below hB hBw2)
   by_cases hcut2:8*s.size<P+5
   ·obtain rfl:=e1 hcut2
    have HX:=HF.out.trans (Math.fix_cut2 HX1.out HX2.out HX3.out (by rw[HPQ.out];exact hcut2))
    exact⟨rfl,blk_bad (k:=1) HKN.out HX (by omega) L3⟩
   have HX4:Hid (¬8*s.size<p1 s a+5):=by show ¬_;rw[HPQ.out];exact hcut2
   by_cases h29:29<bk s a
   ·obtain rfl:=e2 hcut2 h29
    have HX:=HF.out.trans (Math.fix_sym2 HX1.out HX2.out HX3.out HX4.out h29)
    exact⟨rfl,blk_bad (k:=3) HKN.out HX (by omega) L3⟩
   by_cases hcut3:8*s.size<P2
   ·obtain rfl:=e3 hcut2 h29 hcut3
    have HX:=HF.out.trans (Math.fix_cut3 HX1.out HX2.out HX3.out HX4.out h29 (by rw[HP2.out];exact hcut3))
    exact⟨rfl,blk_bad (k:=1) HKN.out HX (by omega) L3⟩
   obtain⟨rfl,R3⟩:=e0 hcut2 h29 hcut3
   have K3:=K2.mv R3 T hB hB2
   have HX6:Hid (¬8*s.size<p2' s a):=by show ¬_;rw[HP2.out];exact hcut3
   have HX5:Hid (¬29<bk s a):=h29
   obtain⟨hd1,hd2⟩:=HDB.out h29
   clear e1 e2 e3 e0 T HBA L3 K2 h29 HDB
   have c2:w3.cell? ⟨c,2,none⟩=some (.slice va out.length vc):=cell_at K3.rd 2
   have HK3:Hid (_):=K3
   have HBY:Hid (_):=beyond_val c s P2 out.length n va vc w3 (by omega) (by omega) R3
   clear R3 K3
   by_cases hbk:out.length<d
   ·have hbI:(out.length:Int)<(d:Int):=by omega
    go_wp2_with fail
    refine(HRY.out 4 _).mono ?_
    rintro e w4 ⟨rfl,rfl⟩
    have HX:=HF.out.trans (Math.fix_back HX1.out HX2.out HX3.out HX4.out HX5.out HX6.out (by rw[HDQ.out];exact hbk))
    exact⟨rfl,blk_bad (k:=4) HKN.out HX (by omega) HK3.out.bl⟩
   have HX7:Hid (¬out.length<dd s a):=by show ¬_;rw[HDQ.out];exact hbk
   have hbI:¬(out.length:Int)<(d:Int):=by omega
   go_wp2_with fail
   refine(HRF.out 4 _).mono ?_
   rintro e w4 ⟨rfl,rfl⟩
   go_wp2_with fail
   refine Calls.mono HBY.out ?_
   rintro e w5 ⟨⟨e5,e0⟩,rfl⟩
   by_cases hlg:3000<out.length+n
   ·obtain rfl:=e5 hlg
    have HX:=HF.out.trans (Math.fix_long HX1.out HX2.out HX3.out HX4.out HX5.out HX6.out HX7.out (by rw[HNQ.out];exact hlg))
    exact⟨rfl,blk_bad (k:=5) HKN.out HX (by omega) HK3.out.bl⟩
   obtain rfl:=e0 hlg
   have HX:Hid (_):=HF.out.trans (Math.fix_copy HX1.out HX2.out HX3.out HX4.out HX5.out HX6.out HX7.out (by rw[HNQ.out];exact hlg))
   rw[HP2.out,HDQ.out,HNQ.out]at HX
   have hown3:=HK3.out.own
   have hw5:w.heap.size≤w5.heap.size:=HK3.out.bl.size
   have hn3k:out.length+n≤3000:=by omega
   have HWC:Hid (_):=withCopy_val w.heap.size (.slice va out.length vc) out n d w5 hw5 hown3 hd1 (by omega) (by omega) (by omega)
   clear hown3 e5 e0 HBY
   go_wp2_with fail
   refine Calls.mono HWC.out ?_
   rintro e w6 ⟨v',rfl,hown6,L6⟩
   have m6:RdI c s P2 (.slice va out.length vc) w6:=(L6.block c hcw).trans HK3.out.rd
   have L7:Below B w w6:=HK3.out.bl.trans (L6.mono hB2)
   have hlen:=Math.copyN_length out d n
   obtain⟨va6,vc6,rfl,-⟩:=own_form hown6
   have hown7:w6.ownsRow w.heap.size 5 1 (.slice va6 (copyN out d n).length vc6) (copyN out d n).length (bcells (copyN out d n)):=by rw[hlen];exact hown6
   have K7:=HK3.out.put hB m6 hown7 L7
   rw[hlen]at K7
   have c62:w6.cell? ⟨c,2,none⟩=some (.slice va out.length vc):=cell_at m6 2
   have f62:w6.frozen? ⟨c,2,none⟩=false:=frozen_at m6 2
   have HK7:Hid (_):=K7
   have c71:Hid ((w6.setCell ⟨c,2,none⟩ (.slice va6 (out.length+n) vc6)).cell? ⟨c,1,none⟩=some (.int .i64 (P2:Int))):=cell_at K7.rd 1
   have HLN:Hid (_):=hlen
   clear K7 hown6 hown7 m6 L6 L7 c2 HWC hlen
   go_wp2
   go_step3
   refine⟨Or.inr (Or.inl ⟨rfl,rfl,P2,g,copyN out d n,va6,vc6,by omega,by rw[HLN.out];omega,by omega,HX,HK7.out⟩),?_⟩
   rw[HMS.out]
   show(1+(8*s.size-(intOf (((w6.setCell ⟨c,2,none⟩ (.slice va6 (out.length+n) vc6)).cell? ⟨c,1,none⟩).getD undef)).toNat))<_
   rw[c71.out]
   simp[intOf]
   omega
 ·intro fall
  go_wp2_with fail
  refine Calls.mono HB0.out ?_
  rintro e w2 ⟨rfl,R2,M2,L2⟩
  go_wp2_with fail
  refine(HRF.out 2 _).mono ?_
  rintro e w3 ⟨rfl,rfl⟩
  go_wp2_with fail
  refine(HLO.out _ R2).mono ?_
  rintro e w4 ⟨rfl,R4,M4,L4⟩
  have L5:=L2.trans L4
  clear M2 M4 L2 L4 R2
  by_cases hk0:lowAt s 1 2=0
  ·rw[hk0]
   go_wp2_with fail
   refine(HRF.out 2 _).mono ?_
   rintro e w3 ⟨rfl,rfl⟩
   go_wp2
   go_step3
   exact Or.inl ⟨rfl,rfl,hk0,R4,L5⟩
  ·have hk1:lowAt s 1 2=1:=by omega
   have HB1:Hid (body s=fixFrom s (8*s.size+1) 3 []):=by show body s=_;unfold body;rw[if_pos hk1]
   rw[hk1]
   go_wp2_with fail
   refine(HRF.out 2 _).mono ?_
   rintro e w3 ⟨rfl,rfl⟩
   go_wp2
   go_step3
   rename_i hK
   refine hK _ _ (fall 1 _ _ _ rfl ?_)
   exact Or.inr (Or.inl ⟨rfl,rfl,3,8*s.size+1,[],none,0,by omega,by simp,by omega,HB1,⟨R4,World.ownsRow_nil _ _ _ _,L5⟩⟩)

end Pk
end Go.Proofs.YtdcpjicgehdmfaaGreatDoor

/- The contracts of Unpack's deferred closure: of a frame that panics with a fault, of one that returns. -/
namespace Go.Proofs.YtdcpjicgehdmfaaGreatDoor
namespace Pk
open Go.ChangeShapes Go.WideShapes Go.ChangeAt Go.RowKit
set_option linter.unusedSimpArgs false
set_option linter.unusedVariables false

set_option maxRecDepth 100000 in
theorem told_yes (t:TypeId) (k:Int) (w:World):(Instr.typeAssert (.iface 191 (.int .i64 k)) t 191 true).run Tryz.prog w= .ok (.tuple #[.int .i64 k,.bool true]) w:=by rfl

set_option maxRecDepth 100000 in
theorem told_no (t:TypeId) (w:World):(Instr.typeAssert .nilIface t 191 true).run Tryz.prog w= .ok (.tuple #[.int .i64 0,.bool false]) w:=by rfl

set_option maxRecDepth 100000 in
set_option maxHeartbeats 400000 in
theorem catch_fault (p q:Addr) (x:ByteArray) (y k:Int) (w:World) (hp:w.cell? p=some (.string x)) (hp2:w.frozen? p=false) (hq:(w.setCell p (.string ⟨#[]⟩)).cell? q=some (.int .i64 y)) (hq2:(w.setCell p (.string ⟨#[]⟩)).frozen? q=false):
 CallsD Tryz.prog 176 #[.pointer (some p),.pointer (some q)] (.panicking [{ v:= .iface 191 (.int .i64 k),recovered:=false }]) w fun e u' w'=>
  e= .returned (.tuple #[])∧u'= .panicking [{ v:= .iface 191 (.int .i64 k),recovered:=true }]∧w'=(w.setCell p (.string ⟨#[]⟩)).setCell q (.int .i64 k):=by
 refine callsD_of_wpS Tryz.func176 rfl fun c₀ cs hu=> ?_
 apply wpS_seq
 apply wpS_region
 simp[wpOpsS,go_sem,recoverD,hu,told_yes,told_no,Tryz.ntmps176,Exit.thenS,Array.replicate,List.replicate]
 apply wpS_seq
 apply wpS_region
 simp[wpOpsS,go_sem,Exit.thenS]
 refine wpS_cond (t:=true) (by simp[Act.eval]) ?_
 simp only[if_true]
 apply wpS_region
 simp[wpOpsS,go_sem,hp,hp2,hq,hq2,bodyPostS,results,Tryz.results176]

set_option maxRecDepth 100000 in
set_option maxHeartbeats 400000 in
theorem catch_none (p q:Addr) (w:World):
 CallsD Tryz.prog 176 #[.pointer (some p),.pointer (some q)] .returning w fun e u' w'=>e= .returned (.tuple #[])∧u'= .returning∧w'=w:=by
 refine callsD_of_wpS Tryz.func176 rfl fun c₀ cs hu=> ?_
 apply wpS_seq
 apply wpS_region
 simp[wpOpsS,go_sem,recoverD,hu,told_yes,told_no,Tryz.ntmps176,Exit.thenS,Array.replicate,List.replicate]
 apply wpS_seq
 apply wpS_region
 simp[wpOpsS,go_sem,Exit.thenS]
 refine wpS_cond (t:=false) (by simp[Act.eval]) ?_
 simp only[Bool.false_eq_true,if_false]
 refine wpS_of_wp (wp_skip ?_)
 cases c₀
 simp_all [bodyPostS,results,Tryz.results176]

end Pk
end Go.Proofs.YtdcpjicgehdmfaaGreatDoor

/- The contract of the program's Unpack. -/
namespace Go.Proofs.YtdcpjicgehdmfaaGreatDoor
namespace Pk
open Go.ChangeShapes Go.WideShapes Go.ChangeAt Go.RowKit
open Math (unpC unpT)
set_option linter.unusedSimpArgs false
set_option linter.unusedVariables false

theorem unp_long {s:ByteArray} (h:6000<s.size):unpC s=5∧unpT s=⟨#[]⟩:=by
 have e:unpC s=5:=by unfold unpC;rw[if_pos h]
 exact⟨e,Math.unpT_no (by rw[e];omega)⟩

set_option maxRecDepth 100000 in
set_option maxHeartbeats 400000 in
theorem implUnpack_val (s:ByteArray) (w:World) (R:Runs w):
 Calls Tryz.prog 159 #[.string s] w fun e w'=>e= .returned (.tuple #[.string (unpT s),.int .i64 (unpC s:Nat)])∧Below w.heap.size w w':=by
 have hmf:∀(fn:Fn) (first cap:Array Value) (w:World),(Instr.makeFunc fn first cap).run Tryz.prog w= .ok (.func fn first cap) w:=fun _ _ _ _=>rfl
 have hrl:=R.lt
 by_cases hbig:6000<s.size
 ·obtain⟨e1,e2⟩:=unp_long hbig
  rw[e1,e2]
  have hbI:(6000:Int)<(s.size:Int):=by omega
  go_enter_defers Tryz.func159,Tryz.ntmps159
  go_wp2
  have L:Below w.heap.size w ((w.alloc (.cells #[.string ⟨#[]⟩] 9)).alloc (.cells #[.int .i64 5] 3)):=((Below.refl _ _).alloc (Nat.le_refl _) _).alloc (by simp) _
  have mA:=heap_old (heap_new w (.cells #[.string ⟨#[]⟩] 9)) (.cells #[.int .i64 5] 3)
  have mB:((w.alloc (.cells #[.string ⟨#[]⟩] 9)).alloc (.cells #[.int .i64 5] 3)).heap[w.heap.size+1]? =some (.cells #[.int .i64 5] 3):=by have h:=heap_new (w.alloc (.cells #[.string ⟨#[]⟩] 9)) (.cells #[.int .i64 5] 3);simp at h⊢;exact h
  generalize (w.alloc (.cells #[.string ⟨#[]⟩] 9)).alloc (.cells #[.int .i64 5] 3)=W at*
  have cA:=cell_at mA 0
  have cB:=cell_at mB 0
  simp at cA cB
  simp[bodyPostD,Leaves,settle,results,Tryz.results159,go_sem,cA,cB]
  exact L
 ·have hbI:¬(6000:Int)<(s.size:Int):=by omega
  obtain⟨t,hTT⟩:∃t,unpT s=t:=⟨_,rfl⟩
  obtain⟨k,hCC⟩:∃k,unpC s=k:=⟨_,rfl⟩
  rw[hTT,hCC]
  have HTT:Hid (unpT s=t):=hTT
  have HCC:Hid (unpC s=k):=hCC
  clear hTT hCC
  have L3:Below w.heap.size w (((w.alloc (.cells #[.string ⟨#[]⟩] 9)).alloc (.cells #[.int .i64 0] 3)).alloc (.cells #[.string s,.int .i64 0,.slice none 0 0] 194)):=(((Below.refl _ _).alloc (Nat.le_refl _) _).alloc (by simp) _).alloc (by simp;omega) _
  have mA:=heap_old (heap_old (heap_new w (.cells #[.string ⟨#[]⟩] 9)) (.cells #[.int .i64 0] 3)) (.cells #[.string s,.int .i64 0,.slice none 0 0] 194)
  have mB:=heap_old (heap_new (w.alloc (.cells #[.string ⟨#[]⟩] 9)) (.cells #[.int .i64 0] 3)) (.cells #[.string s,.int .i64 0,.slice none 0 0] 194)
  have mC:=heap_new ((w.alloc (.cells #[.string ⟨#[]⟩] 9)).alloc (.cells #[.int .i64 0] 3)) (.cells #[.string s,.int .i64 0,.slice none 0 0] 194)
  have hz1:(w.alloc (.cells #[.string ⟨#[]⟩] 9)).heap.size=w.heap.size+1:=by simp
  have hz2:((w.alloc (.cells #[.string ⟨#[]⟩] 9)).alloc (.cells #[.int .i64 0] 3)).heap.size=w.heap.size+1+1:=by simp
  have hz3:(((w.alloc (.cells #[.string ⟨#[]⟩] 9)).alloc (.cells #[.int .i64 0] 3)).alloc (.cells #[.string s,.int .i64 0,.slice none 0 0] 194)).heap.size=w.heap.size+1+1+1:=by simp
  rw[hz1]at mB
  rw[hz2]at mC
  have HB:Hid (_):=blkI_val (w.heap.size+1+1) (w.heap.size+1+1) s _ (by omega) (Nat.le_refl _) (by rw[hz3];omega) (by omega) (R.on L3 hrl) mC
  have HM:Hid (_∧_∧_):=⟨L3,mA,mB⟩
  clear mA mB mC hz1 hz2 L3
  go_enter_defers Tryz.func159,Tryz.ntmps159
  go_wp2_with fail
  refine Calls.mono HB.out ?_
  rintro e w2 ⟨h1,h0,L⟩
  obtain⟨L3,mA,mB⟩:=HM.out
  have mA2:=(L.block w.heap.size (by omega)).trans mA
  have mB2:=(L.block (w.heap.size+1) (by omega)).trans mB
  have L4:Below w.heap.size w w2:=L3.trans (L.mono (by omega))
  clear HB HM mA mB L3 L hz3
  have hA:=(cell_at mA2 0).trans (show _=some (.string ⟨#[]⟩)from rfl)
  have fA:=frozen_at mA2 0
  have hne:w.heap.size+1≠w.heap.size:=by omega
  have hne2:w.heap.size≠w.heap.size+1:=by omega
  by_cases hu:unpC s=0
  ·obtain⟨rfl,q,va,vc,out,hT,K⟩:=h0 hu
   obtain rfl:t=⟨out.toArray⟩:=HTT.out.symm.trans hT
   obtain rfl:k=0:=HCC.out.symm.trans hu
   have hconv:=conv_own K.own
   have c2:=(cell_at K.rd 2).trans (show _=some (.slice va out.length vc)from rfl)
   have mB3:∀x,(w2.setCell ⟨w.heap.size,0,none⟩ x).heap[w.heap.size+1]? =_:=fun x=>(Below.heap_setCell w2 ⟨w.heap.size,0,none⟩ x (w.heap.size+1) hne).trans mB2
   have hB3:=(cell_at (mB3 (.string ⟨out.toArray⟩)) 0).trans (show _=some (.int .i64 0)from rfl)
   have fB3:=frozen_at (mB3 (.string ⟨out.toArray⟩)) 0
   have L5:Below w.heap.size w ((w2.setCell ⟨w.heap.size,0,none⟩ (.string ⟨out.toArray⟩)).setCell ⟨w.heap.size+1,0,none⟩ (.int .i64 0)):=(L4.setCell (Nat.le_refl _) _).setCell (Nat.le_succ _) _
   have mB4:=hp_set (i:=0) (mB3 (.string ⟨out.toArray⟩)) (.int .i64 0)
   have mA4:=(Below.heap_setCell (w2.setCell ⟨w.heap.size,0,none⟩ (.string ⟨out.toArray⟩)) ⟨w.heap.size+1,0,none⟩ (.int .i64 0) w.heap.size hne2).trans (hp_set (i:=0) mA2 (.string ⟨out.toArray⟩))
   have cA:=cell_at mA4 0
   have cB:=cell_at mB4 0
   have HL5:Hid (_):=L5
   clear mA2 mB2 mB3 mA4 mB4 L5 L4 K h1 h0 hT
   go_wp2
   refine leaves_cons (f:=176) (args:= #[.pointer (some ⟨w.heap.size,0,none⟩),.pointer (some ⟨w.heap.size+1,0,none⟩)]) (by simp) (by simp[go_sem]) ?_
   refine(catch_none ⟨w.heap.size,0,none⟩ ⟨w.heap.size+1,0,none⟩ _).mono ?_
   rintro e u' w4 ⟨rfl,rfl,rfl⟩
   generalize (w2.setCell ⟨w.heap.size,0,none⟩ (.string ⟨out.toArray⟩)).setCell ⟨w.heap.size+1,0,none⟩ (.int .i64 0)=W at*
   simp at cA cB
   simp[Leaves,settle,results,Tryz.results159,go_sem,cA,cB]
   exact HL5.out
  ·have he:=h1 hu
   rw[HCC.out]at he
   subst he
   obtain rfl:t=⟨#[]⟩:=HTT.out.symm.trans (Math.unpT_no hu)
   have mB3:∀x,(w2.setCell ⟨w.heap.size,0,none⟩ x).heap[w.heap.size+1]? =_:=fun x=>(Below.heap_setCell w2 ⟨w.heap.size,0,none⟩ x (w.heap.size+1) hne).trans mB2
   have hB3:=(cell_at (mB3 (.string ⟨#[]⟩)) 0).trans (show _=some (.int .i64 0)from rfl)
   have fB3:=frozen_at (mB3 (.string ⟨#[]⟩)) 0
   refine leaves_cons (f:=176) (args:= #[.pointer (some ⟨w.heap.size,0,none⟩),.pointer (some ⟨w.heap.size+1,0,none⟩)]) (by simp) (by simp[go_sem]) ?_
   refine(catch_fault ⟨w.heap.size,0,none⟩ ⟨w.heap.size+1,0,none⟩ _ _ _ w2 hA fA hB3 fB3).mono ?_
   rintro e u' w4 ⟨rfl,rfl,rfl⟩
   have L5:Below w.heap.size w ((w2.setCell ⟨w.heap.size,0,none⟩ (.string ⟨#[]⟩)).setCell ⟨w.heap.size+1,0,none⟩ (.int .i64 (k:Nat))):=(L4.setCell (Nat.le_refl _) _).setCell (Nat.le_succ _) _
   have mB4:=hp_set (i:=0) (mB3 (.string ⟨#[]⟩)) (.int .i64 (k:Nat))
   have mA4:=(Below.heap_setCell (w2.setCell ⟨w.heap.size,0,none⟩ (.string ⟨#[]⟩)) ⟨w.heap.size+1,0,none⟩ (.int .i64 (k:Nat)) w.heap.size hne2).trans (hp_set (i:=0) mA2 (.string ⟨#[]⟩))
   have cA:=cell_at mA4 0
   have cB:=cell_at mB4 0
   generalize (w2.setCell ⟨w.heap.size,0,none⟩ (.string ⟨#[]⟩)).setCell ⟨w.heap.size+1,0,none⟩ (.int .i64 (k:Nat))=W at*
   simp at cA cB
   simp[Leaves,settle,results,Tryz.results159,go_sem,cA,cB]
   exact L5

end Pk
end Go.Proofs.YtdcpjicgehdmfaaGreatDoor

/- The contract of the program's Unframe. -/
namespace Go.Proofs.YtdcpjicgehdmfaaGreatDoor
namespace Fr
open Go.ChangeShapes Go.WideShapes Go.ChangeAt Go.RowKit
open Pk (new_below join_below cell_at heap_new frozen_at lt_of kept heap_old)
open Math (unpC unpT)
open Num (rmR rmS)
set_option linter.unusedSimpArgs false
set_option linter.unusedVariables false

def PEnd (s:ByteArray) (e:Ending) (w':World):Prop:=∃a m cp g,e= .returned (.tuple #[.slice a m cp,.int .i64 (fC s:Nat)])∧((fC s≠0∧m=0∧a=none∧cp=0)∨(fC s=0∧m=3∧a=some ⟨g,0,none⟩∧g<w'.heap.size∧w'.heap[g]? =some (.cells (parts (fN s) (fR s) (fS s) (fP s)) 183 (0,0))))

theorem pend_no {s:ByteArray} {e:Ending} {w':World} {c:Nat} (h:fC s=c) (hc:c≠0) (he:e= .returned (.tuple #[.slice none 0 0,.int .i64 (c:Nat)])):PEnd s e w':=⟨none,0,0,0,by rw[he,h],Or.inl ⟨by rw[h];exact hc,rfl,rfl,rfl⟩⟩

theorem below_of {B:Nat} {w w1:World} (h:Num.Drawn w w1):Below B w w1:=by
 obtain⟨q,rfl⟩:=h
 exact⟨rfl,rfl,rfl,Nat.le_refl _,fun _ _=>rfl⟩

theorem neq_dec (a b:Nat):((a:Int) !=(b:Int))=decide (a≠b):=by
 by_cases h:a=b
 ·subst h;simp
 ·simp[h];omega

set_option maxRecDepth 100000 in
set_option maxHeartbeats 4000000 in
theorem parts_val (s:ByteArray) (w:World) (hm:s.size≤1048576) (R:Pk.Runs w):
 Calls Tryz.prog 139 #[.string s] w fun e w'=>PEnd s e w'∧Below w.heap.size w w':=by
 have hML:s.size≤maxLen:=by unfold maxLen;omega
 have HCP:Hid (∀W:World,_):=fun W=>Tryz.strings_CutPrefix s hd5 W
 rcases f_cases s with⟨b1,hc⟩|⟨g1,b2,hc⟩|⟨g1,g2,b3,hc⟩|⟨g1,g2,g3,b4,hc⟩|⟨g1,g2,g3,g4,hc⟩
 ·rw[prefix_no s b1]at HCP
  have HC:Hid (fC s=1):=hc
  clear b1 hc
  generalize (⟨(Lib.trimPrefix s.data.toList hd5.data.toList).toArray⟩:ByteArray)=X at*
  go_enter Tryz.func139,Tryz.ntmps139
  go_wp2_with fail
  refine(HCP.out _).mono ?_
  rintro e w1 ⟨rfl,rfl⟩
  go_wp2
  go_ret2
  exact⟨pend_no HC.out (by omega) rfl,Below.refl _ _⟩
 all_goals
  have q1:5≤s.size∧s.extract 0 5=hd5:=by
   unfold Bad1 at g1
   by_cases h5:5≤s.size
   ·exact⟨h5,Classical.byContradiction fun h=>g1 (Or.inr h)⟩
   ·exact absurd (Or.inl h5) g1
  obtain⟨p1,p2⟩:=prefix_yes s q1.1 q1.2
  rw[p1,p2]at HCP
  have z1:(s.extract 5 s.size).size=s.size-5:=ext_size s 5 s.size (Nat.le_refl _)
  have HK:Hid (∀W:World,_):=fun W=>implCut_val (s.extract 5 s.size) W
  have hq5:=q1.1
  clear g1 p1 p2 q1
 ·have HC:Hid (fC s=2):=hc
  clear hc
  by_cases h9:9≤s.size∧dg (s.extract 5 9) 4≠none
  ·obtain⟨n,hn⟩:=Option.ne_none_iff_exists'.1 h9.2
   obtain⟨c1,c2,c3⟩:=cut_yes (r:=s.extract 5 s.size) (n:=n) (by omega) (by rw[cut_rest s 5 (by omega)];exact hn)
   rw[c1,c2,c3,ext_ext]at HK
   have z2:(s.extract (5+4) s.size).size=s.size-9:=ext_size s 9 s.size (Nat.le_refl _)
   have h17:s.size<17:=by
    rcases b2 with h|h
    ·exact h
    ·exact absurd h h9.2
   have d8:((s.extract (5+4) s.size).size:Int)<8:=by omega
   generalize s.extract (5+4) s.size=r2 at*
   generalize s.extract 5 s.size=r1 at*
   clear c1 c2 c3 hn h9 b2 z1 z2
   go_enter Tryz.func139,Tryz.ntmps139
   go_wp2_with fail
   refine(HCP.out _).mono ?_
   rintro e w1 ⟨rfl,rfl⟩
   go_wp2_with fail
   refine(HK.out _).mono ?_
   rintro e w2 ⟨rfl,D2⟩
   go_wp2
   go_ret2
   exact⟨pend_no HC.out (by omega) rfl,below_of D2⟩
  ·obtain⟨c1,c2,c3⟩:=cut_no (r:=s.extract 5 s.size) (by
    by_cases h:9≤s.size
    ·right
     rw[cut_rest s 5 (by omega)]
     exact Classical.byContradiction fun h2=>h9 ⟨h,h2⟩
    ·left
     omega)
   rw[c1,c2,c3]at HK
   generalize s.extract 5 s.size=r1 at*
   clear c1 c2 c3 h9 b2 z1
   go_enter Tryz.func139,Tryz.ntmps139
   go_wp2_with fail
   refine(HCP.out _).mono ?_
   rintro e w1 ⟨rfl,rfl⟩
   go_wp2_with fail
   refine(HK.out _).mono ?_
   rintro e w2 ⟨rfl,D2⟩
   go_wp2
   go_ret2
   exact⟨pend_no HC.out (by omega) rfl,below_of D2⟩
 all_goals
  have q2:17≤s.size∧∃n,dg (s.extract 5 9) 4=some n:=by
   unfold Bad2 at g2
   exact⟨by omega,Option.ne_none_iff_exists'.1 fun h=>g2 (Or.inr h)⟩
  obtain⟨h17,n,hn⟩:=q2
  obtain⟨c1,c2,c3⟩:=cut_yes (r:=s.extract 5 s.size) (n:=n) (by omega) (by rw[cut_rest s 5 (by omega)];exact hn)
  rw[c1,c2,c3,ext_ext]at HK
  have z2:(s.extract (5+4) s.size).size=s.size-9:=ext_size s 9 s.size (Nat.le_refl _)
  have HE8:Hid ((s.extract (5+4) s.size).extract 0 8=s.extract 9 17):=ext_in s 9 0 8 (by omega)
  have HE9:Hid ((s.extract (5+4) s.size).extract 8 (s.extract (5+4) s.size).size=s.extract 17 s.size):=ext_ext s 9 8
  have HMK:Hid (∀W:World,_):=fun W=>Num.implReadMark_val (s.extract 9 17) W (by rw[ext_size s 9 17 h17];unfold maxLen;omega)
  have HK3:Hid (∀W:World,_):=fun W=>implCut_val (s.extract 17 s.size) W
  have z3:(s.extract 17 s.size).size=s.size-17:=ext_size s 17 s.size (Nat.le_refl _)
  have d8:¬((s.extract (5+4) s.size).size:Int)<8:=by omega
  have d8b:(8:Int)≤((s.extract (5+4) s.size).size:Int):=by omega
  have z4:(s.extract 21 s.size).size=s.size-21:=ext_size s 21 s.size (Nat.le_refl _)
  have hlt:=R.lt
  clear c1 c2 c3 g2 z2
 ·have HC:Hid (fC s=3):=hc
  clear hc
  by_cases h21:21≤s.size∧dg (s.extract 17 21) 4≠none
  ·obtain⟨k,hk⟩:=Option.ne_none_iff_exists'.1 h21.2
   obtain⟨c1,c2,c3⟩:=cut_yes (r:=s.extract 17 s.size) (n:=k) (by omega) (by rw[cut_rest s 17 (by omega)];exact hk)
   rw[c1,c2,c3,ext_ext]at HK3
   have z5:(s.extract (17+4) s.size).size=s.size-21:=z4
   have hne:(s.extract (17+4) s.size).size≠k:=by
    intro h
    rcases b3 with h2|h2
    ·omega
    ·apply h2
     rw[hk,←h,z5]
   have d9:(((s.extract (17+4) s.size).size:Int) !=(k:Int))=true:=by rw[neq_dec];exact decide_eq_true hne
   have d9b:¬(((s.extract (17+4) s.size).size:Int)=(k:Int)):=by omega
   generalize s.extract (17+4) s.size=r4 at*
   generalize s.extract 17 s.size=r3 at*
   generalize rmR (s.extract 9 17)=mR at*
   generalize rmS (s.extract 9 17)=mS at*
   generalize decide ((s.extract 9 17).size=8)=mB at*
   generalize s.extract 9 17=mt at*
   generalize s.extract (5+4) s.size=r2 at*
   generalize s.extract 5 s.size=r1 at*
   clear c1 c2 c3 hk h21 b3 z1 z3 z4 z5 hn hne
   go_enter Tryz.func139,Tryz.ntmps139
   go_wp2_with fail
   refine(HCP.out _).mono ?_
   rintro e w1 ⟨rfl,rfl⟩
   go_wp2_with fail
   refine(HK.out _).mono ?_
   rintro e w2 ⟨rfl,D2⟩
   go_wp2_with fail
   rw[HE8.out]
   refine(HMK.out _).mono ?_
   rintro e w3 ⟨rfl,L3⟩
   have L4:=join_below (below_of D2) L3
   have N5:=new_below w3 (.cells #[.int .i64 mR,.int .i64 mS] 93)
   have L5:=join_below L4 N5
   go_wp2_with fail
   rw[HE9.out]
   refine(HK3.out _).mono ?_
   rintro e w6 ⟨rfl,D6⟩
   have L6:=join_below L5 (below_of D6)
   go_wp2
   go_ret2
   exact⟨pend_no HC.out (by omega) rfl,L6⟩
  ·obtain⟨c1,c2,c3⟩:=cut_no (r:=s.extract 17 s.size) (by
    by_cases h:21≤s.size
    ·right
     rw[cut_rest s 17 (by omega)]
     exact Classical.byContradiction fun h2=>h21 ⟨h,h2⟩
    ·left
     omega)
   rw[c1,c2,c3]at HK3
   generalize s.extract 17 s.size=r3 at*
   generalize rmR (s.extract 9 17)=mR at*
   generalize rmS (s.extract 9 17)=mS at*
   generalize decide ((s.extract 9 17).size=8)=mB at*
   generalize s.extract 9 17=mt at*
   generalize s.extract (5+4) s.size=r2 at*
   generalize s.extract 5 s.size=r1 at*
   clear c1 c2 c3 h21 b3 z1 z3 z4 hn
   go_enter Tryz.func139,Tryz.ntmps139
   go_wp2_with fail
   refine(HCP.out _).mono ?_
   rintro e w1 ⟨rfl,rfl⟩
   go_wp2_with fail
   refine(HK.out _).mono ?_
   rintro e w2 ⟨rfl,D2⟩
   go_wp2_with fail
   rw[HE8.out]
   refine(HMK.out _).mono ?_
   rintro e w3 ⟨rfl,L3⟩
   have L4:=join_below (below_of D2) L3
   have N5:=new_below w3 (.cells #[.int .i64 mR,.int .i64 mS] 93)
   have L5:=join_below L4 N5
   go_wp2_with fail
   rw[HE9.out]
   refine(HK3.out _).mono ?_
   rintro e w6 ⟨rfl,D6⟩
   have L6:=join_below L5 (below_of D6)
   go_wp2
   go_ret2
   exact⟨pend_no HC.out (by omega) rfl,L6⟩
 all_goals
  have q3:21≤s.size∧dg (s.extract 17 21) 4=some (s.size-21):=by
   unfold Bad3 at g3
   exact⟨by omega,Classical.byContradiction fun h=>g3 (Or.inr h)⟩
  obtain⟨h21,hk⟩:=q3
  obtain⟨c1,c2,c3⟩:=cut_yes (r:=s.extract 17 s.size) (n:=s.size-21) (by omega) (by rw[cut_rest s 17 (by omega)];exact hk)
  rw[c1,c2,c3,ext_ext]at HK3
  have z5:(s.extract (17+4) s.size).size=s.size-21:=z4
  have d9:(((s.extract (17+4) s.size).size:Int) !=((s.size-21:Nat):Int))=false:=by rw[z5];simp
  have d9b:((s.extract (17+4) s.size).size:Int)=((s.size-21:Nat):Int):=by rw[z5]
  have HUN:Hid (∀(W:World) (r:Pk.Runs W),_):=fun W r=>Pk.implUnpack_val (s.extract (17+4) s.size) W r
  clear c1 c2 c3 g3 hk
 ·have HC:Hid (fC s=4):=hc
  have b4':unpC (s.extract (17+4) s.size)≠0:=b4
  generalize unpT (s.extract (17+4) s.size)=T5 at*
  generalize unpC (s.extract (17+4) s.size)=C5 at*
  have d10:((C5:Int) !=0)=true:=by simp;exact b4'
  have d10b:¬((C5:Int)=0):=by omega
  generalize s.size-21=k at*
  generalize s.extract (17+4) s.size=r4 at*
  generalize s.extract 17 s.size=r3 at*
  generalize rmR (s.extract 9 17)=mR at*
  generalize rmS (s.extract 9 17)=mS at*
  generalize decide ((s.extract 9 17).size=8)=mB at*
  generalize s.extract 9 17=mt at*
  generalize s.extract (5+4) s.size=r2 at*
  generalize s.extract 5 s.size=r1 at*
  clear hc b4 b4' z1 z3 z4 z5 hn d9b h21
  go_enter Tryz.func139,Tryz.ntmps139
  go_wp2_with fail
  refine(HCP.out _).mono ?_
  rintro e w1 ⟨rfl,rfl⟩
  go_wp2_with fail
  refine(HK.out _).mono ?_
  rintro e w2 ⟨rfl,D2⟩
  go_wp2_with fail
  rw[HE8.out]
  refine(HMK.out _).mono ?_
  rintro e w3 ⟨rfl,L3⟩
  have L4:=join_below (below_of D2) L3
  have N5:=new_below w3 (.cells #[.int .i64 mR,.int .i64 mS] 93)
  have L5:=join_below L4 N5
  go_wp2_with fail
  rw[HE9.out]
  refine(HK3.out _).mono ?_
  rintro e w6 ⟨rfl,D6⟩
  have L6:=join_below L5 (below_of D6)
  have R6:=R.on L6 hlt
  go_wp2_with fail
  refine(HUN.out _ R6).mono ?_
  rintro e w7 ⟨rfl,L7⟩
  have L8:=join_below L6 L7
  go_wp2
  go_ret2
  exact⟨pend_no HC.out (by omega) rfl,L8⟩
 ·have HC:Hid (fC s=0):=hc
  have g4':unpC (s.extract (17+4) s.size)=0:=Classical.byContradiction fun h=>g4 h
  obtain⟨f1,f2,f3,f4⟩:=f_yes hc
  rw[digI_some hn]at f1
  have f4':fP s=unpT (s.extract (17+4) s.size):=f4
  have HFF:Hid (_∧_∧_∧_):=⟨f1,f2,f3,f4'⟩
  rw[g4']at HUN
  generalize unpT (s.extract (17+4) s.size)=T5 at*
  generalize s.size-21=k at*
  generalize s.extract (17+4) s.size=r4 at*
  generalize s.extract 17 s.size=r3 at*
  generalize rmR (s.extract 9 17)=mR at*
  generalize rmS (s.extract 9 17)=mS at*
  generalize decide ((s.extract 9 17).size=8)=mB at*
  generalize s.extract 9 17=mt at*
  generalize s.extract (5+4) s.size=r2 at*
  generalize s.extract 5 s.size=r1 at*
  clear hc g4 g4' z1 z3 z4 z5 hn d9b h21 f1 f2 f3 f4 f4'
  go_enter Tryz.func139,Tryz.ntmps139
  go_wp2_with fail
  refine(HCP.out _).mono ?_
  rintro e w1 ⟨rfl,rfl⟩
  go_wp2_with fail
  refine(HK.out _).mono ?_
  rintro e w2 ⟨rfl,D2⟩
  go_wp2_with fail
  rw[HE8.out]
  refine(HMK.out _).mono ?_
  rintro e w3 ⟨rfl,L3⟩
  have L4:=join_below (below_of D2) L3
  have N5:=new_below w3 (.cells #[.int .i64 mR,.int .i64 mS] 93)
  have m5:=heap_new w3 (.cells #[.int .i64 mR,.int .i64 mS] 93)
  have L5:=join_below L4 N5
  go_wp2_with fail
  rw[HE9.out]
  refine(HK3.out _).mono ?_
  rintro e w6 ⟨rfl,D6⟩
  have m6:=kept (below_of (B:=(w3.alloc (.cells #[.int .i64 mR,.int .i64 mS] 93)).heap.size) D6) (lt_of m5) m5
  have L6:=join_below L5 (below_of D6)
  have R6:=R.on L6 hlt
  go_wp2_with fail
  refine(HUN.out _ R6).mono ?_
  rintro e w7 ⟨rfl,L7⟩
  have m7:=kept L7 (lt_of m6) m6
  have q0:w7.cell? ⟨w3.heap.size,0,none⟩=some (.int .i64 mR):=cell_at m7 0
  have q1:w7.cell? ⟨w3.heap.size,1,none⟩=some (.int .i64 mS):=cell_at m7 1
  have L8:=join_below L6 L7
  have N9:=new_below w7 (.cells (parts (n:Int) mR mS T5) 183)
  have m9:=heap_new w7 (.cells (parts (n:Int) mR mS T5) 183)
  have L9:=join_below L8 N9
  have l9:=lt_of m9
  go_wp2
  go_ret2
  refine⟨⟨some ⟨w7.heap.size,0,none⟩,3,3,w7.heap.size,by rw[HC.out];rfl,Or.inr ⟨HC.out,rfl,rfl,l9,?_⟩⟩,L9⟩
  rw[HFF.out.1,HFF.out.2.1,HFF.out.2.2.1,HFF.out.2.2.2]
  exact m9

set_option maxRecDepth 100000 in
set_option maxHeartbeats 4000000 in
theorem implUnframe_val (s:ByteArray) (w:World) (hm:s.size≤1048576) (R:Pk.Runs w):
 Calls Tryz.prog 116 #[.string s] w fun e w'=>e= .returned (u4 (fN s) (fR s) (fS s) (fP s) (fC s:Nat))∧Below w.heap.size w w':=by
 have HPV:Hid (∀(W:World) (r:Pk.Runs W),_):=fun W r=>parts_val s W hm r
 have N:=new_below w (.cells #[.int .i64 0,.int .i64 0] 93)
 have m0:=heap_new w (.cells #[.int .i64 0,.int .i64 0] 93)
 have hlt:=R.lt
 go_enter Tryz.func116,Tryz.ntmps116
 go_wp2_with fail
 refine(HPV.out _ (R.on N hlt)).mono ?_
 generalize w.alloc (.cells #[.int .i64 0,.int .i64 0] 93)=W at*
 rintro e w1 ⟨⟨a,m,cp,g,rfl,HP⟩,L1⟩
 have HJ:Hid (∀_:Unit,_):=fun _=>join_val (fN s) (fR s) (fS s) (fP s) m g cp a w1 (by rcases HP with⟨-,h1,h2,h3⟩|⟨-,h1,h2,h3,h4⟩;exact Or.inl ⟨h1,h2,h3⟩;exact Or.inr ⟨h1,h2,h3,h4⟩)
 go_wp2_with fail
 refine(HJ.out ()).mono ?_
 rintro e w2 ⟨⟨n',r',s',p',rfl,HF⟩,L2⟩
 have hE:n'=fN s∧r'=fR s∧s'=fS s∧p'=fP s:=by
  unfold Far at HF
  rcases HP with⟨h0,rfl,-⟩|⟨h0,rfl,-⟩
  ·obtain⟨i1,i2,i3,i4⟩:=f_no h0
   rcases HF with⟨-,h1,h2,h3,h4⟩|⟨h,-⟩|⟨h,-⟩|⟨h,-⟩
   ·exact⟨by rw[h1,i1],by rw[h2,i2],by rw[h3,i3],by rw[h4,i4]⟩
   all_goals omega
  ·rcases HF with⟨h,-⟩|⟨h,-⟩|⟨h,-⟩|⟨-,h1,h2,h3,h4⟩
   ·omega
   ·omega
   ·omega
   ·exact⟨h1,h2,h3,h4⟩
 obtain⟨rfl,rfl,rfl,rfl⟩:=hE
 have m1:=kept L1 (lt_of m0) m0
 have m2:=kept L2 (lt_of m1) m1
 have L3:=join_below N (join_below L1 L2)
 clear HP HF HJ HPV m1 m0 L1 L2
 have N3:=new_below w2 (.cells #[.int .i64 (fR s),.int .i64 (fS s)] 93)
 have x3:=heap_new w2 (.cells #[.int .i64 (fR s),.int .i64 (fS s)] 93)
 have m3:=kept N3 (lt_of m2) m2
 have L4:=join_below L3 N3
 have hne:w.heap.size≠w2.heap.size:=by have:=lt_of m2;omega
 go_wp2
 generalize w2.alloc (.cells #[.int .i64 (fR s),.int .i64 (fS s)] 93)=W3 at*
 have q0:W3.cell? ⟨w2.heap.size,0,none⟩=some (.int .i64 (fR s)):=cell_at x3 0
 have q1:W3.cell? ⟨w2.heap.size,1,none⟩=some (.int .i64 (fS s)):=cell_at x3 1
 have d0:W3.cell? ⟨w.heap.size,0,none⟩=some (.int .i64 0):=cell_at m3 0
 have d1:W3.cell? ⟨w.heap.size,1,none⟩=some (.int .i64 0):=cell_at m3 1
 have f0:=frozen_at m3 0
 have f1:=frozen_at m3 1
 have HS:Hid (_):=set_two _ w.heap.size _ _ (.int .i64 (fR s)) (.int .i64 (fS s)) _ m3
 have HL:Hid (Below w.heap.size w ((W3.setCell ⟨w.heap.size,0,none⟩ (.int .i64 (fR s))).setCell ⟨w.heap.size,1,none⟩ (.int .i64 (fS s)))):=(L4.setCell (p:=⟨w.heap.size,0,none⟩) (Nat.le_refl _) _).setCell (p:=⟨w.heap.size,1,none⟩) (Nat.le_refl _) _
 clear m3 x3 m2 L3 N3 L4 N
 go_region
 all_goals
  go_wp2
  have mE:=HS.out
  have HLD:=HL.out.drew
  generalize (W3.setCell ⟨w.heap.size,0,none⟩ (.int .i64 (fR s))).setCell ⟨w.heap.size,1,none⟩ (.int .i64 (fS s))=WE at*
  have k0:WE.drew.cell? ⟨w.heap.size,0,none⟩=some (.int .i64 (fR s)):=cell_at (w:=WE.drew) mE 0
  have k1:WE.drew.cell? ⟨w.heap.size,1,none⟩=some (.int .i64 (fS s)):=cell_at (w:=WE.drew) mE 1
  refine bodyPost_ret (v:=u4 (fN s) (fR s) (fS s) (fP s) (fC s:Nat)) (by simp[results,Tryz.results116,go_sem,k0,k1]) rfl ?_
  exact⟨rfl,HLD⟩

end Fr
end Go.Proofs.YtdcpjicgehdmfaaGreatDoor

/- The contract of the model's Unframe. -/
namespace Go.Proofs.YtdcpjicgehdmfaaGreatDoor
namespace Fr
open Go.ChangeShapes Go.WideShapes Go.ChangeAt Go.RowKit
open Pk (new_below join_below cell_at heap_new frozen_at lt_of kept heap_old)
open Math (unpC unpT)
open Num (rmR rmS)
set_option linter.unusedSimpArgs false
set_option linter.unusedVariables false

theorem hd_list:hd5.toList= [35,85,84,48,49]:=by kernel_rfl

theorem txt_ne {a b:ByteArray} (h:a≠b):(a.toList==b.toList)=false:=by
 rw[beq_eq_false_iff_ne,ByteArray.toList_eq,ByteArray.toList_eq]
 intro h2
 exact h (ByteArray.ext (Array.toList_inj.1 h2))

theorem hd_ne {t:ByteArray} (h:t≠hd5):(t.toList== [35,85,84,48,49])=false:=by
 rw[←hd_list]
 exact txt_ne h

theorem hd_eq:(hd5.toList== [35,85,84,48,49])=true:=by rw[hd_list];decide

set_option maxRecDepth 100000 in
set_option maxHeartbeats 4000000 in
theorem specUnframe_val (s:ByteArray) (w:World) (hm:s.size≤1048576):
 Calls Tryz.prog 60 #[.string s] w fun e w'=>e= .returned (u4 (fN s) (fR s) (fS s) (fP s) (fC s:Nat))∧Below w.heap.size w w':=by
 have N:=new_below w (.cells #[.int .i64 0,.int .i64 0] 93)
 have m0:=heap_new w (.cells #[.int .i64 0,.int .i64 0] 93)
 rcases f_cases s with⟨b1,hc⟩|⟨g1,b2,hc⟩|⟨g1,g2,b3,hc⟩|⟨g1,g2,g3,b4,hc⟩|⟨g1,g2,g3,g4,hc⟩
 ·obtain⟨i1,i2,i3,i4⟩:=f_no (s:=s) (by omega)
  rw[i1,i2,i3,i4,hc]
  by_cases h5:5≤s.size
  ·have h5I:¬(s.size:Int)<5:=by omega
   have h5J:(5:Int)≤(s.size:Int):=by omega
   have hne:s.extract 0 5≠hd5:=by
    rcases b1 with h|h
    ·exact absurd h5 h
    ·exact h
   have z:=hd_ne hne
   clear b1 hc i1 i2 i3 i4 hne
   go_enter Tryz.func60,Tryz.ntmps60
   go_wp2
   refine bodyPost_ret (v:=u4 0 0 0 ⟨#[]⟩ 1) (by simp[results,Tryz.results60,go_sem]) rfl ?_
   exact⟨rfl,N⟩
  ·have h5I:(s.size:Int)<5:=by omega
   clear b1 hc i1 i2 i3 i4
   go_enter Tryz.func60,Tryz.ntmps60
   go_wp2
   refine bodyPost_ret (v:=u4 0 0 0 ⟨#[]⟩ 1) (by simp[results,Tryz.results60,go_sem]) rfl ?_
   exact⟨rfl,N⟩
 all_goals
  have q1:5≤s.size∧s.extract 0 5=hd5:=by
   unfold Bad1 at g1
   by_cases h5:5≤s.size
   ·exact⟨h5,Classical.byContradiction fun h=>g1 (Or.inr h)⟩
   ·exact absurd (Or.inl h5) g1
  obtain⟨h5,he⟩:=q1
  have z:=hd_eq
  rw[←he]at z
  have h5I:¬(s.size:Int)<5:=by omega
  have h5J:(5:Int)≤(s.size:Int):=by omega
  have HD1:Hid (9≤s.size→∀W:World,_):=fun h W=>specDig_val (s.extract 5 9) W (by rw[ext_size s 5 9 h])
  clear g1 he
 ·obtain⟨i1,i2,i3,i4⟩:=f_no (s:=s) (by omega)
  rw[i1,i2,i3,i4,hc]
  clear hc i1 i2 i3 i4
  by_cases h17:s.size<17
  ·have h17I:(s.size:Int)<17:=by omega
   clear b2
   go_enter Tryz.func60,Tryz.ntmps60
   go_wp2
   refine bodyPost_ret (v:=u4 0 0 0 ⟨#[]⟩ 2) (by simp[results,Tryz.results60,go_sem]) rfl ?_
   exact⟨rfl,N⟩
  ·have h17I:¬(s.size:Int)<17:=by omega
   have h9J:(9:Int)≤(s.size:Int):=by omega
   have hd:=digI_none (b2.resolve_left h17)
   rw[hd]at HD1
   have HD2:Hid (∀W:World,_):=fun W=>HD1.out (by omega) W
   clear b2 hd HD1
   go_enter Tryz.func60,Tryz.ntmps60
   go_wp2_with fail
   refine(HD2.out _).mono ?_
   rintro e w1 ⟨rfl,rfl⟩
   go_wp2
   refine bodyPost_ret (v:=u4 0 0 0 ⟨#[]⟩ 2) (by simp[results,Tryz.results60,go_sem]) rfl ?_
   exact⟨rfl,N⟩
 all_goals
  have q2:17≤s.size∧∃n,dg (s.extract 5 9) 4=some n:=by
   unfold Bad2 at g2
   exact⟨by omega,Option.ne_none_iff_exists'.1 fun h=>g2 (Or.inr h)⟩
  obtain⟨h17,n,hn⟩:=q2
  have hd:=digI_some hn
  have HDI:Hid (digI (s.extract 5 9)=n):=hd
  rw[hd]at HD1
  have HD2:Hid (∀W:World,_):=fun W=>HD1.out (by omega) W
  have h17I:¬(s.size:Int)<17:=by omega
  have h9J:(9:Int)≤(s.size:Int):=by omega
  have hn0:¬((n:Int)<0):=by omega
  have HD3:Hid (21≤s.size→∀W:World,_):=fun h W=>specDig_val (s.extract 17 21) W (by rw[ext_size s 17 21 h])
  clear g2 hd HD1 hn
 ·obtain⟨i1,i2,i3,i4⟩:=f_no (s:=s) (by omega)
  rw[i1,i2,i3,i4,hc]
  clear hc i1 i2 i3 i4
  by_cases h21:s.size<21
  ·have h21I:(s.size:Int)<21:=by omega
   clear b3 HD3
   go_enter Tryz.func60,Tryz.ntmps60
   go_wp2_with fail
   refine(HD2.out _).mono ?_
   rintro e w1 ⟨rfl,rfl⟩
   go_wp2
   refine bodyPost_ret (v:=u4 0 0 0 ⟨#[]⟩ 3) (by simp[results,Tryz.results60,go_sem]) rfl ?_
   exact⟨rfl,N⟩
  ·have h21I:¬(s.size:Int)<21:=by omega
   have h21J:(21:Int)≤(s.size:Int):=by omega
   have hne:digI (s.extract 17 21)≠(s.size:Int)-21:=by
    intro h
    rcases b3 with h2|h2
    ·exact h21 h2
    ·cases e:dg (s.extract 17 21) 4 with
     |none=>rw[digI_none e]at h;omega
     |some k=>
      rw[digI_some e]at h
      apply h2
      rw[e]
      congr 1
      omega
   have HD4:Hid (∀W:World,_):=fun W=>HD3.out (by omega) W
   generalize digI (s.extract 17 21)=D at*
   have hne2:(D !=(s.size:Int)-21)=true:=by simp[hne]
   have hne3:(D !=(s.size:Int)-5-16)=true:=by simp;omega
   have hne4:¬(D=(s.size:Int)-5-16):=by omega
   clear b3 HD3
   go_enter Tryz.func60,Tryz.ntmps60
   go_wp2_with fail
   refine(HD2.out _).mono ?_
   rintro e w1 ⟨rfl,rfl⟩
   go_wp2_with fail
   refine(HD4.out _).mono ?_
   rintro e w1 ⟨rfl,rfl⟩
   go_wp2
   refine bodyPost_ret (v:=u4 0 0 0 ⟨#[]⟩ 3) (by simp[results,Tryz.results60,go_sem]) rfl ?_
   exact⟨rfl,N⟩
 all_goals
  have q3:21≤s.size∧dg (s.extract 17 21) 4=some (s.size-21):=by
   unfold Bad3 at g3
   exact⟨by omega,Classical.byContradiction fun h=>g3 (Or.inr h)⟩
  obtain⟨h21,hk⟩:=q3
  have h21I:¬(s.size:Int)<21:=by omega
  have h21J:(21:Int)≤(s.size:Int):=by omega
  have hd3:=digI_some hk
  have HD4:Hid (∀W:World,_):=fun W=>HD3.out (by omega) W
  rw[hd3]at HD4
  have hq3:(((s.size-21:Nat):Int) !=(s.size:Int)-5-16)=false:=by simp;omega
  have hq4:((s.size-21:Nat):Int)=(s.size:Int)-5-16:=by omega
  have HUN:Hid (∀W:World,_):=fun W=>Pk.specUnpack_val (s.extract 21 s.size) W (by rw[ext_size s 21 s.size (Nat.le_refl _)];unfold maxLen;omega)
  have h17J:(17:Int)≤(s.size:Int):=by omega
  clear g3 hk hd3 HD3
 ·obtain⟨i1,i2,i3,i4⟩:=f_no (s:=s) (by omega)
  rw[i1,i2,i3,i4,hc]
  have b4':unpC (s.extract 21 s.size)≠0:=b4
  generalize unpT (s.extract 21 s.size)=T5 at*
  generalize unpC (s.extract 21 s.size)=C5 at*
  have d10:((C5:Int) !=0)=true:=by simp;exact b4'
  have d10b:¬((C5:Int)=0):=by omega
  clear hc i1 i2 i3 i4 b4 b4'
  go_enter Tryz.func60,Tryz.ntmps60
  go_wp2_with fail
  refine(HD2.out _).mono ?_
  rintro e w1 ⟨rfl,rfl⟩
  go_wp2_with fail
  refine(HD4.out _).mono ?_
  rintro e w1 ⟨rfl,rfl⟩
  go_wp2_with fail
  refine(HUN.out _).mono ?_
  rintro e w2 ⟨rfl,L2⟩
  have m2:=kept L2 (lt_of m0) m0
  have L3:=join_below N L2
  have d0:=cell_at m2 0
  have d1:=cell_at m2 1
  have f0:=frozen_at m2 0
  have f1:=frozen_at m2 1
  simp at d0 d1
  have HS:Hid (_):=set_two _ w.heap.size _ _ (.int .i64 0) (.int .i64 0) _ m2
  have HL:Hid (Below w.heap.size w ((w2.setCell ⟨w.heap.size,0,none⟩ (.int .i64 0)).setCell ⟨w.heap.size,1,none⟩ (.int .i64 0))):=(L3.setCell (p:=⟨w.heap.size,0,none⟩) (Nat.le_refl _) _).setCell (p:=⟨w.heap.size,1,none⟩) (Nat.le_refl _) _
  clear m2 m0 N L2 L3
  go_wp2
  have mE:=HS.out
  have HLD:=HL.out
  generalize (w2.setCell ⟨w.heap.size,0,none⟩ (.int .i64 0)).setCell ⟨w.heap.size,1,none⟩ (.int .i64 0)=WE at*
  have k0:WE.cell? ⟨w.heap.size,0,none⟩=some (.int .i64 0):=cell_at mE 0
  have k1:WE.cell? ⟨w.heap.size,1,none⟩=some (.int .i64 0):=cell_at mE 1
  refine bodyPost_ret (v:=u4 0 0 0 ⟨#[]⟩ 4) (by simp[results,Tryz.results60,go_sem,k0,k1]) rfl ?_
  exact⟨rfl,HLD⟩
 ·obtain⟨i1,i2,i3,i4⟩:=f_yes hc
  rw[HDI.out]at i1
  rw[i1,i2,i3,i4,hc]
  have g4':unpC (s.extract 21 s.size)=0:=Classical.byContradiction fun h=>g4 h
  rw[g4']at HUN
  have HMK:Hid (∀W:World,_):=fun W=>Num.specReadMark_val (s.extract 9 17) W (by rw[ext_size s 9 17 h17];unfold maxLen;omega)
  generalize unpT (s.extract 21 s.size)=T5 at*
  generalize rmR (s.extract 9 17)=mR at*
  generalize rmS (s.extract 9 17)=mS at*
  generalize decide ((s.extract 9 17).size=8)=mB at*
  clear hc i1 i2 i3 i4 g4 g4' HDI
  go_enter Tryz.func60,Tryz.ntmps60
  go_wp2_with fail
  refine(HD2.out _).mono ?_
  rintro e w1 ⟨rfl,rfl⟩
  go_wp2_with fail
  refine(HD4.out _).mono ?_
  rintro e w1 ⟨rfl,rfl⟩
  go_wp2_with fail
  refine(HUN.out _).mono ?_
  rintro e w2 ⟨rfl,L2⟩
  have m2:=kept L2 (lt_of m0) m0
  have L3:=join_below N L2
  go_wp2_with fail
  refine(HMK.out _).mono ?_
  rintro e w3 ⟨rfl,L4⟩
  have m3:=kept L4 (lt_of m2) m2
  have L5:=join_below L3 L4
  have N5:=new_below w3 (.cells #[.int .i64 mR,.int .i64 mS] 93)
  have x5:=heap_new w3 (.cells #[.int .i64 mR,.int .i64 mS] 93)
  have m5:=kept N5 (lt_of m3) m3
  have L6:=join_below L5 N5
  have hne:w.heap.size≠w3.heap.size:=by have:=lt_of m3;omega
  clear m2 m0 N L2 L3 L4 L5 N5 m3 HUN HMK HD4
  go_wp2
  generalize w3.alloc (.cells #[.int .i64 mR,.int .i64 mS] 93)=W3 at*
  have q0:W3.cell? ⟨w3.heap.size,0,none⟩=some (.int .i64 mR):=cell_at x5 0
  have q1:W3.cell? ⟨w3.heap.size,1,none⟩=some (.int .i64 mS):=cell_at x5 1
  have d0:W3.cell? ⟨w.heap.size,0,none⟩=some (.int .i64 0):=cell_at m5 0
  have d1:W3.cell? ⟨w.heap.size,1,none⟩=some (.int .i64 0):=cell_at m5 1
  have f0:=frozen_at m5 0
  have f1:=frozen_at m5 1
  have HS:Hid (_):=set_two _ w.heap.size _ _ (.int .i64 mR) (.int .i64 mS) _ m5
  have HL:Hid (Below w.heap.size w ((W3.setCell ⟨w.heap.size,0,none⟩ (.int .i64 mR)).setCell ⟨w.heap.size,1,none⟩ (.int .i64 mS))):=(L6.setCell (p:=⟨w.heap.size,0,none⟩) (Nat.le_refl _) _).setCell (p:=⟨w.heap.size,1,none⟩) (Nat.le_refl _) _
  clear m5 x5 L6
  have hsl:∀W,(Instr.slice 9 (.string s) (some (.int .i64 5)) (some (.int .i64 9)) none).run Tryz.prog W= .ok (.string (s.extract 5 9)) W:=fun W=>by
   simp[go_sem,Tryz.underlying9,h9J]
   try omega
  have s0:((W3.setCell ⟨w.heap.size,0,none⟩ (.int .i64 mR)).setCell ⟨w.heap.size,1,none⟩ (.int .i64 mS)).drew.cell? ⟨w3.heap.size,0,none⟩=some (.int .i64 mR):=by
   show((W3.setCell ⟨w.heap.size,0,none⟩ (.int .i64 mR)).setCell ⟨w.heap.size,1,none⟩ (.int .i64 mS)).cell? ⟨w3.heap.size,0,none⟩=_
   rw[World.cell?_of_block (Below.heap_setCell _ _ _ _ (fun h=>hne h.symm)),World.cell?_of_block (Below.heap_setCell _ _ _ _ (fun h=>hne h.symm))]
   exact q0
  have s1:((W3.setCell ⟨w.heap.size,0,none⟩ (.int .i64 mR)).setCell ⟨w.heap.size,1,none⟩ (.int .i64 mS)).drew.cell? ⟨w3.heap.size,1,none⟩=some (.int .i64 mS):=by
   show((W3.setCell ⟨w.heap.size,0,none⟩ (.int .i64 mR)).setCell ⟨w.heap.size,1,none⟩ (.int .i64 mS)).cell? ⟨w3.heap.size,1,none⟩=_
   rw[World.cell?_of_block (Below.heap_setCell _ _ _ _ (fun h=>hne h.symm)),World.cell?_of_block (Below.heap_setCell _ _ _ _ (fun h=>hne h.symm))]
   exact q1
  refine wp_region_held_drew (S:=(fun w'=>w'.cell? ⟨w3.heap.size,0,none⟩=some (.int .i64 mR)∧w'.cell? ⟨w3.heap.size,1,none⟩=some (.int .i64 mS))) (by kernel_rfl) ?_ (fun hHeld=> ?_)
  ·exact⟨q0,q1⟩
  refine wpAnyH_take (i:=0) (v:= .string s) rfl (by kernel_rfl) (by kernel_rfl) (by kernel_rfl) (fun _ _ _ h=>h) (Or.inl ⟨by kernel_rfl,fun w hSw=>by first|(go_simp;done)|(dsimp only at hSw;obtain⟨hS0,hS1⟩:=hSw;go_simp;done)|rfl⟩) (by assumption) ?_
  simp only[Act.put,List.getElem_toArray,List.getElem_cons_succ,List.getElem_cons_zero,List.setIfInBounds_toArray,List.set_cons_succ,List.set_cons_zero]
  refine wpAnyH_take (i:=1) (v:= .int .i64 5) rfl (by kernel_rfl) (by kernel_rfl) (by kernel_rfl) (fun _ _ _ h=>h) (Or.inl ⟨by kernel_rfl,fun w hSw=>by first|(go_simp;done)|(dsimp only at hSw;obtain⟨hS0,hS1⟩:=hSw;go_simp;done)|rfl⟩) (by assumption) ?_
  simp only[Act.put,List.getElem_toArray,List.getElem_cons_succ,List.getElem_cons_zero,List.setIfInBounds_toArray,List.set_cons_succ,List.set_cons_zero]
  refine wpAnyH_take (i:=2) (v:= .int .i64 5) rfl (by kernel_rfl) (by kernel_rfl) (by kernel_rfl) (fun _ _ _ h=>h) (Or.inl ⟨by kernel_rfl,fun w hSw=>by first|(go_simp;done)|(dsimp only at hSw;obtain⟨hS0,hS1⟩:=hSw;go_simp;done)|rfl⟩) (by assumption) ?_
  simp only[Act.put,List.getElem_toArray,List.getElem_cons_succ,List.getElem_cons_zero,List.setIfInBounds_toArray,List.set_cons_succ,List.set_cons_zero]
  refine wpAnyH_take (i:=3) (v:= .int .i64 9) rfl (by kernel_rfl) (by kernel_rfl) (by kernel_rfl) (fun _ _ _ h=>h) (Or.inl ⟨by kernel_rfl,fun w hSw=>by first|(go_simp;done)|(dsimp only at hSw;obtain⟨hS0,hS1⟩:=hSw;go_simp;done)|rfl⟩) (by assumption) ?_
  simp only[Act.put,List.getElem_toArray,List.getElem_cons_succ,List.getElem_cons_zero,List.setIfInBounds_toArray,List.set_cons_succ,List.set_cons_zero]
  refine wpAnyH_take (i:=4) (v:= .string (s.extract 5 9)) rfl (by kernel_rfl) (by kernel_rfl) (by kernel_rfl) (fun _ _ _ h=>h) (Or.inl ⟨by kernel_rfl,fun w hSw=>by first|(go_simp;done)|(dsimp only at hSw;obtain⟨hS0,hS1⟩:=hSw;go_simp;done)|rfl⟩) (by assumption) ?_
  simp only[Act.put,List.getElem_toArray,List.getElem_cons_succ,List.getElem_cons_zero,List.setIfInBounds_toArray,List.set_cons_succ,List.set_cons_zero]
  refine wpAnyH_take (i:=6) (v:= .agg #[.int .i64 mR,.int .i64 mS]) rfl (by kernel_rfl) (by kernel_rfl) (by kernel_rfl) (fun _ _ _ h=>h) (Or.inl ⟨by kernel_rfl,fun w hSw=>by first|(go_simp;done)|(dsimp only at hSw;obtain⟨hS0,hS1⟩:=hSw;go_simp;done)|rfl⟩) (by assumption) ?_
  simp only[Act.put,List.getElem_toArray,List.getElem_cons_succ,List.getElem_cons_zero,List.setIfInBounds_toArray,List.set_cons_succ,List.set_cons_zero]
  refine wpAnyH_take (i:=7) (v:= .string T5) rfl (by kernel_rfl) (by kernel_rfl) (by kernel_rfl) (fun _ _ _ h=>h) (Or.inl ⟨by kernel_rfl,fun w hSw=>by first|(go_simp;done)|(dsimp only at hSw;obtain⟨hS0,hS1⟩:=hSw;go_simp;done)|rfl⟩) (by assumption) ?_
  simp only[Act.put,List.getElem_toArray,List.getElem_cons_succ,List.getElem_cons_zero,List.setIfInBounds_toArray,List.set_cons_succ,List.set_cons_zero]
  refine wpAnyH_ready (rs:= [5]) (by kernel_rfl) (by simp) ?_
  refine AllReadyH.cons rfl (fun K hK=> ?_) AllReadyH.nil
  go_simp
  go_wp2_with (go_at_call 90;(with_reducible refine(HD2.out _).mono ?_);rintro e wq ⟨rfl,hwq⟩;have hwqq:=hwq.symm;subst hwqq;clear hwq)
  refine hK.out _ _ ?_ (fun hHeld2=> ?_)
  ·(first|(with_reducible exact⟨q0,q1⟩)|(with_reducible exact⟨s0,s1⟩)|exact⟨q0,q1⟩|exact⟨s0,s1⟩)
  clear hK K hHeld
  have hHeld:=hHeld2
  clear hHeld2
  refine wpAnyH_ready (rs:= [8]) (by kernel_rfl) (by simp) ?_
  refine AllReadyH.cons rfl (fun K hK=> ?_) AllReadyH.nil
  go_simp
  refine hK.out _ _ ?_ (fun hHeld2=> ?_)
  ·(first|(with_reducible exact⟨q0,q1⟩)|(with_reducible exact⟨s0,s1⟩)|exact⟨q0,q1⟩|exact⟨s0,s1⟩)
  clear hK K hHeld
  have hHeld:=hHeld2
  clear hHeld2
  refine wpAnyH_ready (rs:= [9]) (by kernel_rfl) (by simp) ?_
  refine AllReadyH.cons rfl (fun K hK=> ?_) AllReadyH.nil
  go_simp
  refine hK.out _ _ ?_ (fun hHeld2=> ?_)
  ·(first|(with_reducible exact⟨q0,q1⟩)|(with_reducible exact⟨s0,s1⟩)|exact⟨q0,q1⟩|exact⟨s0,s1⟩)
  clear hK K hHeld
  have hHeld:=hHeld2
  clear hHeld2
  refine wpAnyH_ready (rs:= [10]) (by kernel_rfl) (by simp) ?_
  refine AllReadyH.cons rfl (fun K hK=> ?_) AllReadyH.nil
  go_simp
  refine hK.out _ _ ?_ (fun hHeld2=> ?_)
  ·(first|(with_reducible exact⟨q0,q1⟩)|(with_reducible exact⟨s0,s1⟩)|exact⟨q0,q1⟩|exact⟨s0,s1⟩)
  clear hK K hHeld
  have hHeld:=hHeld2
  clear hHeld2
  refine wpAnyH_ready (rs:= [11]) (by kernel_rfl) (by simp) ?_
  refine AllReadyH.cons rfl (fun K hK=> ?_) AllReadyH.nil
  go_simp
  refine hK.out _ _ ?_ (fun hHeld2=> ?_)
  ·(first|(with_reducible exact⟨q0,q1⟩)|(with_reducible exact⟨s0,s1⟩)|exact⟨q0,q1⟩|exact⟨s0,s1⟩)
  clear hK K hHeld
  have hHeld:=hHeld2
  clear hHeld2
  refine wpAnyH_done (by kernel_rfl) ?_ _
  go_wp2
  have mE:=HS.out
  have HLD:=HL.out.drew
  generalize (W3.setCell ⟨w.heap.size,0,none⟩ (.int .i64 mR)).setCell ⟨w.heap.size,1,none⟩ (.int .i64 mS)=WE at*
  have k0:WE.drew.cell? ⟨w.heap.size,0,none⟩=some (.int .i64 mR):=cell_at (w:=WE.drew) mE 0
  have k1:WE.drew.cell? ⟨w.heap.size,1,none⟩=some (.int .i64 mS):=cell_at (w:=WE.drew) mE 1
  refine bodyPost_ret (v:=u4 (n:Int) mR mS T5 0) (by simp[results,Tryz.results60,go_sem,k0,k1]) rfl ?_
  exact⟨rfl,HLD⟩

end Fr
end Go.Proofs.YtdcpjicgehdmfaaGreatDoor

/- Contracts of Read, of the program and of its model. -/
namespace Go.Proofs.YtdcpjicgehdmfaaGreatDoor
namespace Re
open Go.ChangeShapes Go.WideShapes Go.ChangeAt Go.RowKit
open Pk (own_at own_ge own_below own_form new_below join_below heap_new lt_of kept cell_at heap_old frozen_at Room)
open Tk (Lg Hd Legs tkV tkB)
open Gt (GetEnd GetIs ML lcells)
open Fr (fN fR fS fP fC)
open Num (verV pv mv)
set_option linter.unusedSimpArgs false
set_option linter.unusedVariables false

abbrev put7 (w:World) (P:Nat) (v0 v1 v2 v3 v4 v5 v6:Value):World:=((((((w.setCell ⟨P,0,none⟩ v0).setCell ⟨P,1,none⟩ v1).setCell ⟨P,2,none⟩ v2).setCell ⟨P,3,none⟩ v3).setCell ⟨P,4,none⟩ v4).setCell ⟨P,5,none⟩ v5).setCell ⟨P,6,none⟩ v6

theorem put7_heap {w:World} {P:Nat} {a0 a1 a2 a3 a4 a5 a6:Value} {t:TypeId} (h:w.heap[P]? =some (.cells #[a0,a1,a2,a3,a4,a5,a6] t (0,0))) (v0 v1 v2 v3 v4 v5 v6:Value):(put7 w P v0 v1 v2 v3 v4 v5 v6).heap[P]? =some (.cells #[v0,v1,v2,v3,v4,v5,v6] t (0,0)):=by
 unfold put7 World.setCell
 simp[Array.getElem?_modify,h]

theorem put7_other {w:World} {P k:Nat} (hk:k≠P) (v0 v1 v2 v3 v4 v5 v6:Value):(put7 w P v0 v1 v2 v3 v4 v5 v6).heap[k]? =w.heap[k]? :=by
 unfold put7
 rw[Below.heap_setCell _ _ _ _ hk,Below.heap_setCell _ _ _ _ hk,Below.heap_setCell _ _ _ _ hk,Below.heap_setCell _ _ _ _ hk,Below.heap_setCell _ _ _ _ hk,Below.heap_setCell _ _ _ _ hk,Below.heap_setCell _ _ _ _ hk]

theorem put7_below {B P:Nat} {a w:World} (h:Below B a w) (hP:B≤P) (v0 v1 v2 v3 v4 v5 v6:Value):Below B a (put7 w P v0 v1 v2 v3 v4 v5 v6):=
 ((((((h.setCell (p:=⟨P,0,none⟩) hP _).setCell (p:=⟨P,1,none⟩) hP _).setCell (p:=⟨P,2,none⟩) hP _).setCell (p:=⟨P,3,none⟩) hP _).setCell (p:=⟨P,4,none⟩) hP _).setCell (p:=⟨P,5,none⟩) hP _).setCell (p:=⟨P,6,none⟩) hP _

theorem own_move {w w1:World} {base base' e size:Nat} {v:Value} {n:Nat} {xs:List Value} (h:w.ownsRow base e size v n xs) (hb:base'≤base) (hk:∀k,base≤k→w1.heap[k]? =w.heap[k]?):w1.ownsRow base' e size v n xs:=by
 obtain⟨h1,h2⟩:=h
 refine⟨h1,?_⟩
 rcases h2 with h2|⟨g,cap,cur,hv,hg,hh,hr⟩
 ·exact Or.inl h2
 ·refine Or.inr ⟨g,cap,cur,hv,Nat.le_trans hb hg,?_,hr⟩
  rw[hk g hg]
  exact hh

set_option maxRecDepth 100000 in
set_option maxHeartbeats 4000000 in
theorem specRead_val (p q g o i:Int) (s:ByteArray) {t:Hd} {nm:ByteArray} {ls:List Lg} {ok:Bool} (w:World) (hs:s.size≤1048576) (H:∀base e w,GetEnd (fP s) base e w→GetIs t nm ls ok base e w):
 Calls Tryz.prog 39 #[pv p q g,.int .i64 o,.int .i64 i,.string s] w fun e w'=>ReadIs (rT (rC p q g o i s ok) t) (rN (rC p q g o i s ok) nm) (rL (rC p q g o i s ok) ls) (rC p q g o i s ok) w.heap.size e w'∧Below w.heap.size w w':=by
 have hfp:=Fr.fP_bound s
 have hfm:(fP s).size≤maxLen:=by unfold maxLen;omega
 have N0:=join_below (new_below w (.cells #[.int .i64 p,.int .i64 q,.int .i64 g] 32)) (new_below (w.alloc (.cells #[.int .i64 p,.int .i64 q,.int .i64 g] 32)) (tkB ⟨0,0,0,0,0⟩ ⟨#[]⟩ none 0 0 72))
 have e1:(w.alloc (.cells #[.int .i64 p,.int .i64 q,.int .i64 g] 32)).heap.size=w.heap.size+1:=Array.size_push ..
 have x0:=heap_old (heap_new w (.cells #[.int .i64 p,.int .i64 q,.int .i64 g] 32)) (tkB ⟨0,0,0,0,0⟩ ⟨#[]⟩ none 0 0 72)
 have x1:=heap_new (w.alloc (.cells #[.int .i64 p,.int .i64 q,.int .i64 g] 32)) (tkB ⟨0,0,0,0,0⟩ ⟨#[]⟩ none 0 0 72)
 rw[e1]at x1
 have HU:Hid (∀W:World,_):=fun W=>Fr.specUnframe_val s W hs
 have HV:Hid (∀W:World,_):=fun W=>Num.specVerify_val p q g o (fR s) (fS s) (fP s) W hfm
 have HG:Hid (∀W:World,_):=fun W=>Gt.specGet_is (by omega) H W
 have hcs:=r_cases p q g o i s ok
 generalize hrc:rC p q g o i s ok=C at*
 have HCC:Hid (rC p q g o i s ok=C):=hrc
 clear hrc H
 generalize hr:fR s=r at*
 generalize hsg:fS s=sg at*
 generalize hfn:fN s=n at*
 generalize hfc:fC s=c at*
 generalize hfpp:fP s=tx at*
 generalize verV p q g o r sg tx=B at*
 clear hr hsg hfn hfc hfpp
 rcases hcs with⟨h1,hC⟩|⟨h1,h2,hC⟩|⟨h1,h2,h3,hC⟩|⟨h1,h2,h3,h4,hC⟩|⟨h1,h2,h3,h4,hC⟩
 all_goals
  subst hC
  go_enter Tryz.func39,Tryz.ntmps39
  go_wp2_with fail
  refine(HU.out _).mono ?_
  rintro e w1 ⟨rfl,L1⟩
  have m0:=kept L1 (lt_of x0) x0
  have m1:=kept L1 (lt_of x1) x1
  have K1:=join_below N0 L1
  have N2:=new_below w1 (.cells #[.int .i64 r,.int .i64 sg] 93)
  have y2:=heap_new w1 (.cells #[.int .i64 r,.int .i64 sg] 93)
  have n0:=kept N2 (lt_of m0) m0
  have n1:=kept N2 (lt_of m1) m1
  have K2:=join_below K1 N2
  have hw1:w.heap.size+1<w1.heap.size:=lt_of m1
  clear x0 x1 N0 L1 m0 m1 N2 K1 e1 hfp hfm y2
  have hPw:w.heap.size≤w.heap.size+1:=by omega
  generalize w.heap.size+1=P1 at*
 ·have d9:((c:Int) !=0)=true:=by simp;exact h1
  have d9b:¬((c:Int)=0):=by omega
  obtain⟨W2,hW2⟩:∃W,w1.alloc (.cells #[.int .i64 r,.int .i64 sg] 93)=W:=⟨_,rfl⟩
  rw[hW2]at n1 K2
  have f0:=frozen_at n1 0
  have f1:=frozen_at n1 1
  have f2:=frozen_at n1 2
  have f3:=frozen_at n1 3
  have f4:=frozen_at n1 4
  have f5:=frozen_at n1 5
  have f6:=frozen_at n1 6
  have d0:W2.cell? ⟨P1,0,none⟩=some (.int .i64 0):=cell_at n1 0
  have d1:W2.cell? ⟨P1,1,none⟩=some (.string ⟨#[]⟩):=cell_at n1 1
  have d2:W2.cell? ⟨P1,2,none⟩=some (.int .i64 0):=cell_at n1 2
  have d3:W2.cell? ⟨P1,3,none⟩=some (.int .i64 0):=cell_at n1 3
  have d4:W2.cell? ⟨P1,4,none⟩=some (.int .i64 0):=cell_at n1 4
  have d5:W2.cell? ⟨P1,5,none⟩=some (.int .i64 0):=cell_at n1 5
  have d6:W2.cell? ⟨P1,6,none⟩=some (.slice none 0 0):=cell_at n1 6
  have HPT:Hid (_):=put7_heap n1 (.int .i64 0) (.string ⟨#[]⟩) (.int .i64 0) (.int .i64 0) (.int .i64 0) (.int .i64 0) (.slice none 0 0)
  have HPL:Hid (Below w.heap.size w (put7 W2 P1 (.int .i64 0) (.string ⟨#[]⟩) (.int .i64 0) (.int .i64 0) (.int .i64 0) (.int .i64 0) (.slice none 0 0))):=put7_below K2 hPw _ _ _ _ _ _ _
  clear n1 K2 n0 HU HV HG HCC hw1
  go_wp2
  have mE:=HPT.out
  have LE:=HPL.out
  change bodyPost _ _ _ _ _ (put7 W2 P1 (.int .i64 0) (.string ⟨#[]⟩) (.int .i64 0) (.int .i64 0) (.int .i64 0) (.int .i64 0) (.slice none 0 0))
  generalize put7 W2 P1 (.int .i64 0) (.string ⟨#[]⟩) (.int .i64 0) (.int .i64 0) (.int .i64 0) (.int .i64 0) (.slice none 0 0)=WE at*
  have k0:WE.cell? ⟨P1,0,none⟩=some (.int .i64 0):=cell_at mE 0
  have k1:WE.cell? ⟨P1,1,none⟩=some (.string ⟨#[]⟩):=cell_at mE 1
  have k2:WE.cell? ⟨P1,2,none⟩=some (.int .i64 0):=cell_at mE 2
  have k3:WE.cell? ⟨P1,3,none⟩=some (.int .i64 0):=cell_at mE 3
  have k4:WE.cell? ⟨P1,4,none⟩=some (.int .i64 0):=cell_at mE 4
  have k5:WE.cell? ⟨P1,5,none⟩=some (.int .i64 0):=cell_at mE 5
  have k6:WE.cell? ⟨P1,6,none⟩=some (.slice none 0 0):=cell_at mE 6
  refine bodyPost_ret (v:= .tuple #[tkV ⟨0,0,0,0,0⟩ ⟨#[]⟩ none 0 0,.int .i64 1]) (by simp[results,Tryz.results39,go_sem,k0,k1,k2,k3,k4,k5,k6]) rfl ?_
  exact⟨read_no (by omega) rfl,LE⟩
 ·subst h1
  have d9:(n !=i)=true:=by simp;exact h2
  obtain⟨W2,hW2⟩:∃W,w1.alloc (.cells #[.int .i64 r,.int .i64 sg] 93)=W:=⟨_,rfl⟩
  rw[hW2]at n1 K2
  have f0:=frozen_at n1 0
  have f1:=frozen_at n1 1
  have f2:=frozen_at n1 2
  have f3:=frozen_at n1 3
  have f4:=frozen_at n1 4
  have f5:=frozen_at n1 5
  have f6:=frozen_at n1 6
  have d0:W2.cell? ⟨P1,0,none⟩=some (.int .i64 0):=cell_at n1 0
  have d1:W2.cell? ⟨P1,1,none⟩=some (.string ⟨#[]⟩):=cell_at n1 1
  have d2:W2.cell? ⟨P1,2,none⟩=some (.int .i64 0):=cell_at n1 2
  have d3:W2.cell? ⟨P1,3,none⟩=some (.int .i64 0):=cell_at n1 3
  have d4:W2.cell? ⟨P1,4,none⟩=some (.int .i64 0):=cell_at n1 4
  have d5:W2.cell? ⟨P1,5,none⟩=some (.int .i64 0):=cell_at n1 5
  have d6:W2.cell? ⟨P1,6,none⟩=some (.slice none 0 0):=cell_at n1 6
  have HPT:Hid (_):=put7_heap n1 (.int .i64 0) (.string ⟨#[]⟩) (.int .i64 0) (.int .i64 0) (.int .i64 0) (.int .i64 0) (.slice none 0 0)
  have HPL:Hid (Below w.heap.size w (put7 W2 P1 (.int .i64 0) (.string ⟨#[]⟩) (.int .i64 0) (.int .i64 0) (.int .i64 0) (.int .i64 0) (.slice none 0 0))):=put7_below K2 hPw _ _ _ _ _ _ _
  clear n1 K2 n0 HU HV HG HCC hw1
  go_wp2
  have mE:=HPT.out
  have LE:=HPL.out
  change bodyPost _ _ _ _ _ (put7 W2 P1 (.int .i64 0) (.string ⟨#[]⟩) (.int .i64 0) (.int .i64 0) (.int .i64 0) (.int .i64 0) (.slice none 0 0))
  generalize put7 W2 P1 (.int .i64 0) (.string ⟨#[]⟩) (.int .i64 0) (.int .i64 0) (.int .i64 0) (.int .i64 0) (.slice none 0 0)=WE at*
  have k0:WE.cell? ⟨P1,0,none⟩=some (.int .i64 0):=cell_at mE 0
  have k1:WE.cell? ⟨P1,1,none⟩=some (.string ⟨#[]⟩):=cell_at mE 1
  have k2:WE.cell? ⟨P1,2,none⟩=some (.int .i64 0):=cell_at mE 2
  have k3:WE.cell? ⟨P1,3,none⟩=some (.int .i64 0):=cell_at mE 3
  have k4:WE.cell? ⟨P1,4,none⟩=some (.int .i64 0):=cell_at mE 4
  have k5:WE.cell? ⟨P1,5,none⟩=some (.int .i64 0):=cell_at mE 5
  have k6:WE.cell? ⟨P1,6,none⟩=some (.slice none 0 0):=cell_at mE 6
  refine bodyPost_ret (v:= .tuple #[tkV ⟨0,0,0,0,0⟩ ⟨#[]⟩ none 0 0,.int .i64 1]) (by simp[results,Tryz.results39,go_sem,k0,k1,k2,k3,k4,k5,k6]) rfl ?_
  exact⟨read_no (by omega) rfl,LE⟩
 ·subst h1
  subst h2
  subst h3
  have c0:(w1.alloc (.cells #[.int .i64 r,.int .i64 sg] 93)).cell? ⟨w.heap.size,0,none⟩=some (.int .i64 p):=cell_at n0 0
  have c1:(w1.alloc (.cells #[.int .i64 r,.int .i64 sg] 93)).cell? ⟨w.heap.size,1,none⟩=some (.int .i64 q):=cell_at n0 1
  have c2:(w1.alloc (.cells #[.int .i64 r,.int .i64 sg] 93)).cell? ⟨w.heap.size,2,none⟩=some (.int .i64 g):=cell_at n0 2
  go_wp2_with fail
  refine(HV.out _).mono ?_
  rintro e w3 ⟨rfl,L3⟩
  have n3:=kept L3 (lt_of n1) n1
  have K3:=join_below K2 L3
  clear c0 c1 c2 n0 n1 K2 L3
  have f0:=frozen_at n3 0
  have f1:=frozen_at n3 1
  have f2:=frozen_at n3 2
  have f3:=frozen_at n3 3
  have f4:=frozen_at n3 4
  have f5:=frozen_at n3 5
  have f6:=frozen_at n3 6
  have d0:w3.cell? ⟨P1,0,none⟩=some (.int .i64 0):=cell_at n3 0
  have d1:w3.cell? ⟨P1,1,none⟩=some (.string ⟨#[]⟩):=cell_at n3 1
  have d2:w3.cell? ⟨P1,2,none⟩=some (.int .i64 0):=cell_at n3 2
  have d3:w3.cell? ⟨P1,3,none⟩=some (.int .i64 0):=cell_at n3 3
  have d4:w3.cell? ⟨P1,4,none⟩=some (.int .i64 0):=cell_at n3 4
  have d5:w3.cell? ⟨P1,5,none⟩=some (.int .i64 0):=cell_at n3 5
  have d6:w3.cell? ⟨P1,6,none⟩=some (.slice none 0 0):=cell_at n3 6
  have HPT:Hid (_):=put7_heap n3 (.int .i64 0) (.string ⟨#[]⟩) (.int .i64 0) (.int .i64 0) (.int .i64 0) (.int .i64 0) (.slice none 0 0)
  have HPL:Hid (Below w.heap.size w (put7 w3 P1 (.int .i64 0) (.string ⟨#[]⟩) (.int .i64 0) (.int .i64 0) (.int .i64 0) (.int .i64 0) (.slice none 0 0))):=put7_below K3 hPw _ _ _ _ _ _ _
  clear n3 K3 HU HV HG HCC hw1
  go_wp2
  have mE:=HPT.out
  have LE:=HPL.out
  change bodyPost _ _ _ _ _ (put7 w3 P1 (.int .i64 0) (.string ⟨#[]⟩) (.int .i64 0) (.int .i64 0) (.int .i64 0) (.int .i64 0) (.slice none 0 0))
  generalize put7 w3 P1 (.int .i64 0) (.string ⟨#[]⟩) (.int .i64 0) (.int .i64 0) (.int .i64 0) (.int .i64 0) (.slice none 0 0)=WE at*
  have k0:WE.cell? ⟨P1,0,none⟩=some (.int .i64 0):=cell_at mE 0
  have k1:WE.cell? ⟨P1,1,none⟩=some (.string ⟨#[]⟩):=cell_at mE 1
  have k2:WE.cell? ⟨P1,2,none⟩=some (.int .i64 0):=cell_at mE 2
  have k3:WE.cell? ⟨P1,3,none⟩=some (.int .i64 0):=cell_at mE 3
  have k4:WE.cell? ⟨P1,4,none⟩=some (.int .i64 0):=cell_at mE 4
  have k5:WE.cell? ⟨P1,5,none⟩=some (.int .i64 0):=cell_at mE 5
  have k6:WE.cell? ⟨P1,6,none⟩=some (.slice none 0 0):=cell_at mE 6
  refine bodyPost_ret (v:= .tuple #[tkV ⟨0,0,0,0,0⟩ ⟨#[]⟩ none 0 0,.int .i64 2]) (by simp[results,Tryz.results39,go_sem,k0,k1,k2,k3,k4,k5,k6]) rfl ?_
  exact⟨read_no (by omega) rfl,LE⟩
 ·subst h1
  subst h2
  subst h3
  have c0:(w1.alloc (.cells #[.int .i64 r,.int .i64 sg] 93)).cell? ⟨w.heap.size,0,none⟩=some (.int .i64 p):=cell_at n0 0
  have c1:(w1.alloc (.cells #[.int .i64 r,.int .i64 sg] 93)).cell? ⟨w.heap.size,1,none⟩=some (.int .i64 q):=cell_at n0 1
  have c2:(w1.alloc (.cells #[.int .i64 r,.int .i64 sg] 93)).cell? ⟨w.heap.size,2,none⟩=some (.int .i64 g):=cell_at n0 2
  go_wp2_with fail
  refine(HV.out _).mono ?_
  rintro e w3 ⟨rfl,L3⟩
  have n3:=kept L3 (lt_of n1) n1
  have K3:=join_below K2 L3
  clear c0 c1 c2 n0 n1 K2 L3
  go_wp2_with fail
  refine(HG.out _).mono ?_
  rintro e w4 ⟨⟨a4,c4,rfl,O4⟩,L4⟩
  have n4:=kept L4 (lt_of n3) n3
  have K4:=join_below K3 L4
  have N5:=new_below w4 (tkB t nm a4 ls.length c4 72)
  have y5:=heap_new w4 (tkB t nm a4 ls.length c4 72)
  have n5:=kept N5 (lt_of n4) n4
  have K5:=join_below K4 N5
  have hw3:P1<w3.heap.size:=lt_of n3
  subst h4
  clear n3 K3 L4 K4 N5 n4 y5 O4
  obtain⟨W5,hW5⟩:∃W,w4.alloc (tkB t nm a4 ls.length c4 72)=W:=⟨_,rfl⟩
  rw[hW5]at n5 K5
  have f0:=frozen_at n5 0
  have f1:=frozen_at n5 1
  have f2:=frozen_at n5 2
  have f3:=frozen_at n5 3
  have f4:=frozen_at n5 4
  have f5:=frozen_at n5 5
  have f6:=frozen_at n5 6
  have d0:W5.cell? ⟨P1,0,none⟩=some (.int .i64 0):=cell_at n5 0
  have d1:W5.cell? ⟨P1,1,none⟩=some (.string ⟨#[]⟩):=cell_at n5 1
  have d2:W5.cell? ⟨P1,2,none⟩=some (.int .i64 0):=cell_at n5 2
  have d3:W5.cell? ⟨P1,3,none⟩=some (.int .i64 0):=cell_at n5 3
  have d4:W5.cell? ⟨P1,4,none⟩=some (.int .i64 0):=cell_at n5 4
  have d5:W5.cell? ⟨P1,5,none⟩=some (.int .i64 0):=cell_at n5 5
  have d6:W5.cell? ⟨P1,6,none⟩=some (.slice none 0 0):=cell_at n5 6
  have HPT:Hid (_):=put7_heap n5 (.int .i64 0) (.string ⟨#[]⟩) (.int .i64 0) (.int .i64 0) (.int .i64 0) (.int .i64 0) (.slice none 0 0)
  have HPL:Hid (Below w.heap.size w (put7 W5 P1 (.int .i64 0) (.string ⟨#[]⟩) (.int .i64 0) (.int .i64 0) (.int .i64 0) (.int .i64 0) (.slice none 0 0))):=put7_below K5 hPw _ _ _ _ _ _ _
  clear n5 K5 HU HV HG HCC hw1
  go_wp2
  have mE:=HPT.out
  have LE:=HPL.out
  change bodyPost _ _ _ _ _ (put7 W5 P1 (.int .i64 0) (.string ⟨#[]⟩) (.int .i64 0) (.int .i64 0) (.int .i64 0) (.int .i64 0) (.slice none 0 0))
  generalize put7 W5 P1 (.int .i64 0) (.string ⟨#[]⟩) (.int .i64 0) (.int .i64 0) (.int .i64 0) (.int .i64 0) (.slice none 0 0)=WE at*
  have k0:WE.cell? ⟨P1,0,none⟩=some (.int .i64 0):=cell_at mE 0
  have k1:WE.cell? ⟨P1,1,none⟩=some (.string ⟨#[]⟩):=cell_at mE 1
  have k2:WE.cell? ⟨P1,2,none⟩=some (.int .i64 0):=cell_at mE 2
  have k3:WE.cell? ⟨P1,3,none⟩=some (.int .i64 0):=cell_at mE 3
  have k4:WE.cell? ⟨P1,4,none⟩=some (.int .i64 0):=cell_at mE 4
  have k5:WE.cell? ⟨P1,5,none⟩=some (.int .i64 0):=cell_at mE 5
  have k6:WE.cell? ⟨P1,6,none⟩=some (.slice none 0 0):=cell_at mE 6
  refine bodyPost_ret (v:= .tuple #[tkV ⟨0,0,0,0,0⟩ ⟨#[]⟩ none 0 0,.int .i64 3]) (by simp[results,Tryz.results39,go_sem,k0,k1,k2,k3,k4,k5,k6]) rfl ?_
  exact⟨read_no (by omega) rfl,LE⟩
 ·subst h1
  subst h2
  subst h3
  have c0:(w1.alloc (.cells #[.int .i64 r,.int .i64 sg] 93)).cell? ⟨w.heap.size,0,none⟩=some (.int .i64 p):=cell_at n0 0
  have c1:(w1.alloc (.cells #[.int .i64 r,.int .i64 sg] 93)).cell? ⟨w.heap.size,1,none⟩=some (.int .i64 q):=cell_at n0 1
  have c2:(w1.alloc (.cells #[.int .i64 r,.int .i64 sg] 93)).cell? ⟨w.heap.size,2,none⟩=some (.int .i64 g):=cell_at n0 2
  go_wp2_with fail
  refine(HV.out _).mono ?_
  rintro e w3 ⟨rfl,L3⟩
  have n3:=kept L3 (lt_of n1) n1
  have K3:=join_below K2 L3
  clear c0 c1 c2 n0 n1 K2 L3
  go_wp2_with fail
  refine(HG.out _).mono ?_
  rintro e w4 ⟨⟨a4,c4,rfl,O4⟩,L4⟩
  have n4:=kept L4 (lt_of n3) n3
  have K4:=join_below K3 L4
  have N5:=new_below w4 (tkB t nm a4 ls.length c4 72)
  have y5:=heap_new w4 (tkB t nm a4 ls.length c4 72)
  have n5:=kept N5 (lt_of n4) n4
  have K5:=join_below K4 N5
  have hw3:P1<w3.heap.size:=lt_of n3
  subst h4
  have O5:=own_below O4 N5 (Nat.le_refl _)
  have hne:P1≠w4.heap.size:=by have:=lt_of n4;omega
  clear n3 K3 L4 K4 N5 n4 O4
  obtain⟨W5,hW5⟩:∃W,w4.alloc (tkB t nm a4 ls.length c4 72)=W:=⟨_,rfl⟩
  rw[hW5]at n5 K5 y5 O5
  have q0:W5.cell? ⟨w4.heap.size,0,none⟩=some (.int .i64 t.id):=cell_at y5 0
  have q1:W5.cell? ⟨w4.heap.size,1,none⟩=some (.string nm):=cell_at y5 1
  have q2:W5.cell? ⟨w4.heap.size,2,none⟩=some (.int .i64 t.cl):=cell_at y5 2
  have q3:W5.cell? ⟨w4.heap.size,3,none⟩=some (.int .i64 t.pr):=cell_at y5 3
  have q4:W5.cell? ⟨w4.heap.size,4,none⟩=some (.int .i64 t.fi):=cell_at y5 4
  have q5:W5.cell? ⟨w4.heap.size,5,none⟩=some (.int .i64 t.la):=cell_at y5 5
  have q6:W5.cell? ⟨w4.heap.size,6,none⟩=some (.slice a4 ls.length c4):=cell_at y5 6
  have f0:=frozen_at n5 0
  have f1:=frozen_at n5 1
  have f2:=frozen_at n5 2
  have f3:=frozen_at n5 3
  have f4:=frozen_at n5 4
  have f5:=frozen_at n5 5
  have f6:=frozen_at n5 6
  have d0:W5.cell? ⟨P1,0,none⟩=some (.int .i64 0):=cell_at n5 0
  have d1:W5.cell? ⟨P1,1,none⟩=some (.string ⟨#[]⟩):=cell_at n5 1
  have d2:W5.cell? ⟨P1,2,none⟩=some (.int .i64 0):=cell_at n5 2
  have d3:W5.cell? ⟨P1,3,none⟩=some (.int .i64 0):=cell_at n5 3
  have d4:W5.cell? ⟨P1,4,none⟩=some (.int .i64 0):=cell_at n5 4
  have d5:W5.cell? ⟨P1,5,none⟩=some (.int .i64 0):=cell_at n5 5
  have d6:W5.cell? ⟨P1,6,none⟩=some (.slice none 0 0):=cell_at n5 6
  have HPT:Hid (_):=put7_heap n5 (.int .i64 t.id) (.string nm) (.int .i64 t.cl) (.int .i64 t.pr) (.int .i64 t.fi) (.int .i64 t.la) (.slice a4 ls.length c4)
  have HPL:Hid (Below w.heap.size w (put7 W5 P1 (.int .i64 t.id) (.string nm) (.int .i64 t.cl) (.int .i64 t.pr) (.int .i64 t.fi) (.int .i64 t.la) (.slice a4 ls.length c4))):=put7_below K5 hPw _ _ _ _ _ _ _
  have HPO:Hid ((put7 W5 P1 (.int .i64 t.id) (.string nm) (.int .i64 t.cl) (.int .i64 t.pr) (.int .i64 t.fi) (.int .i64 t.la) (.slice a4 ls.length c4)).ownsRow w.heap.size 126 6 (.slice a4 ls.length c4) ls.length (lcells ls)):=own_move O5 (by omega) fun k hk=>put7_other (by omega) _ _ _ _ _ _ _
  clear n5 y5 K5 O5
  go_wp2
  have mE:=HPT.out
  have LE:=HPL.out
  have OE:=HPO.out
  change bodyPost _ _ _ _ _ (put7 W5 P1 (.int .i64 t.id) (.string nm) (.int .i64 t.cl) (.int .i64 t.pr) (.int .i64 t.fi) (.int .i64 t.la) (.slice a4 ls.length c4))
  generalize put7 W5 P1 (.int .i64 t.id) (.string nm) (.int .i64 t.cl) (.int .i64 t.pr) (.int .i64 t.fi) (.int .i64 t.la) (.slice a4 ls.length c4)=WE at*
  have k0:WE.cell? ⟨P1,0,none⟩=some (.int .i64 t.id):=cell_at mE 0
  have k1:WE.cell? ⟨P1,1,none⟩=some (.string nm):=cell_at mE 1
  have k2:WE.cell? ⟨P1,2,none⟩=some (.int .i64 t.cl):=cell_at mE 2
  have k3:WE.cell? ⟨P1,3,none⟩=some (.int .i64 t.pr):=cell_at mE 3
  have k4:WE.cell? ⟨P1,4,none⟩=some (.int .i64 t.fi):=cell_at mE 4
  have k5:WE.cell? ⟨P1,5,none⟩=some (.int .i64 t.la):=cell_at mE 5
  have k6:WE.cell? ⟨P1,6,none⟩=some (.slice a4 ls.length c4):=cell_at mE 6
  refine bodyPost_ret (v:= .tuple #[tkV t nm a4 ls.length c4,.int .i64 0]) (by simp[results,Tryz.results39,go_sem,k0,k1,k2,k3,k4,k5,k6]) rfl ?_
  exact⟨read_yes rfl OE,LE⟩

set_option maxRecDepth 100000 in
set_option maxHeartbeats 4000000 in
theorem implRead_val (p q g o i:Int) (s:ByteArray) {t:Hd} {nm:ByteArray} {ls:List Lg} {ok:Bool} (w:World) (hs:s.size≤1048576) (H:∀base e w,GetEnd (fP s) base e w→GetIs t nm ls ok base e w) (R:Pk.Runs w) (E1:Errs.ErrAt 1 w) (E2:Errs.ErrAt 2 w) (E3:Errs.ErrAt 3 w) (E4:Errs.ErrAt 4 w) (M:ML w) (Tn:Num.Tens w):
 Calls Tryz.prog 80 #[pv p q g,.int .i64 o,.int .i64 i,.string s] w fun e w'=>ReadIs (rT (rC p q g o i s ok) t) (rN (rC p q g o i s ok) nm) (rL (rC p q g o i s ok) ls) (rC p q g o i s ok) w.heap.size e w'∧Below w.heap.size w w':=by
 have hfp:=Fr.fP_bound s
 have hfm:(fP s).size≤maxLen:=by unfold maxLen;omega
 have N0:=join_below (new_below w (.cells #[.int .i64 p,.int .i64 q,.int .i64 g] 32)) (new_below (w.alloc (.cells #[.int .i64 p,.int .i64 q,.int .i64 g] 32)) (tkB ⟨0,0,0,0,0⟩ ⟨#[]⟩ none 0 0 72))
 have e1:(w.alloc (.cells #[.int .i64 p,.int .i64 q,.int .i64 g] 32)).heap.size=w.heap.size+1:=Array.size_push ..
 have x0:=heap_old (heap_new w (.cells #[.int .i64 p,.int .i64 q,.int .i64 g] 32)) (tkB ⟨0,0,0,0,0⟩ ⟨#[]⟩ none 0 0 72)
 have x1:=heap_new (w.alloc (.cells #[.int .i64 p,.int .i64 q,.int .i64 g] 32)) (tkB ⟨0,0,0,0,0⟩ ⟨#[]⟩ none 0 0 72)
 rw[e1]at x1
 have hlt:=R.lt
 have HU:Hid (∀W:World,Pk.Runs W→_):=fun W r=>Fr.implUnframe_val s W hs r
 have HV:Hid (∀W:World,Errs.ErrAt 1 W→Errs.ErrAt 2 W→Errs.ErrAt 3 W→Errs.ErrAt 4 W→_):=fun W h1 h2 h3 h4=>Num.implVerify_val p q g o (fR s) (fS s) (fP s) W hfm h1 h2 h3 h4
 have HG:Hid (∀W:World,ML W→Num.Tens W→_):=fun W h1 h2=>Gt.implGet_is (by omega) H W h1 h2
 have hcs:=r_cases p q g o i s ok
 generalize hrc:rC p q g o i s ok=C at*
 have HCC:Hid (rC p q g o i s ok=C):=hrc
 clear hrc H
 generalize hr:fR s=r at*
 generalize hsg:fS s=sg at*
 generalize hfn:fN s=n at*
 generalize hfc:fC s=c at*
 generalize hfpp:fP s=tx at*
 generalize verV p q g o r sg tx=B at*
 clear hr hsg hfn hfc hfpp
 rcases hcs with⟨h1,hC⟩|⟨h1,h2,hC⟩|⟨h1,h2,h3,hC⟩|⟨h1,h2,h3,h4,hC⟩|⟨h1,h2,h3,h4,hC⟩
 all_goals
  subst hC
  go_enter Tryz.func80,Tryz.ntmps80
  go_wp2_with fail
  refine(HU.out _ (R.on N0 hlt)).mono ?_
  rintro e w1 ⟨rfl,L1⟩
  have m0:=kept L1 (lt_of x0) x0
  have m1:=kept L1 (lt_of x1) x1
  have K1:=join_below N0 L1
  have N2:=new_below w1 (.cells #[.int .i64 r,.int .i64 sg] 93)
  have y2:=heap_new w1 (.cells #[.int .i64 r,.int .i64 sg] 93)
  have n0:=kept N2 (lt_of m0) m0
  have n1:=kept N2 (lt_of m1) m1
  have K2:=join_below K1 N2
  have hw1:w.heap.size+1<w1.heap.size:=lt_of m1
  clear x0 x1 N0 L1 m0 m1 N2 K1 e1 hfp hfm y2
  have hPw:w.heap.size≤w.heap.size+1:=by omega
  generalize w.heap.size+1=P1 at*
 ·have d9:((c:Int) !=0)=true:=by simp;exact h1
  have d9b:¬((c:Int)=0):=by omega
  obtain⟨W2,hW2⟩:∃W,w1.alloc (.cells #[.int .i64 r,.int .i64 sg] 93)=W:=⟨_,rfl⟩
  rw[hW2]at n1 K2
  have f0:=frozen_at n1 0
  have f1:=frozen_at n1 1
  have f2:=frozen_at n1 2
  have f3:=frozen_at n1 3
  have f4:=frozen_at n1 4
  have f5:=frozen_at n1 5
  have f6:=frozen_at n1 6
  have d0:W2.cell? ⟨P1,0,none⟩=some (.int .i64 0):=cell_at n1 0
  have d1:W2.cell? ⟨P1,1,none⟩=some (.string ⟨#[]⟩):=cell_at n1 1
  have d2:W2.cell? ⟨P1,2,none⟩=some (.int .i64 0):=cell_at n1 2
  have d3:W2.cell? ⟨P1,3,none⟩=some (.int .i64 0):=cell_at n1 3
  have d4:W2.cell? ⟨P1,4,none⟩=some (.int .i64 0):=cell_at n1 4
  have d5:W2.cell? ⟨P1,5,none⟩=some (.int .i64 0):=cell_at n1 5
  have d6:W2.cell? ⟨P1,6,none⟩=some (.slice none 0 0):=cell_at n1 6
  have HPT:Hid (_):=put7_heap n1 (.int .i64 0) (.string ⟨#[]⟩) (.int .i64 0) (.int .i64 0) (.int .i64 0) (.int .i64 0) (.slice none 0 0)
  have HPL:Hid (Below w.heap.size w (put7 W2 P1 (.int .i64 0) (.string ⟨#[]⟩) (.int .i64 0) (.int .i64 0) (.int .i64 0) (.int .i64 0) (.slice none 0 0))):=put7_below K2 hPw _ _ _ _ _ _ _
  clear n1 K2 n0 HU HV HG HCC hw1
  go_wp2
  have mE:=HPT.out
  have LE:=HPL.out
  change bodyPost _ _ _ _ _ (put7 W2 P1 (.int .i64 0) (.string ⟨#[]⟩) (.int .i64 0) (.int .i64 0) (.int .i64 0) (.int .i64 0) (.slice none 0 0))
  generalize put7 W2 P1 (.int .i64 0) (.string ⟨#[]⟩) (.int .i64 0) (.int .i64 0) (.int .i64 0) (.int .i64 0) (.slice none 0 0)=WE at*
  have k0:WE.cell? ⟨P1,0,none⟩=some (.int .i64 0):=cell_at mE 0
  have k1:WE.cell? ⟨P1,1,none⟩=some (.string ⟨#[]⟩):=cell_at mE 1
  have k2:WE.cell? ⟨P1,2,none⟩=some (.int .i64 0):=cell_at mE 2
  have k3:WE.cell? ⟨P1,3,none⟩=some (.int .i64 0):=cell_at mE 3
  have k4:WE.cell? ⟨P1,4,none⟩=some (.int .i64 0):=cell_at mE 4
  have k5:WE.cell? ⟨P1,5,none⟩=some (.int .i64 0):=cell_at mE 5
  have k6:WE.cell? ⟨P1,6,none⟩=some (.slice none 0 0):=cell_at mE 6
  refine bodyPost_ret (v:= .tuple #[tkV ⟨0,0,0,0,0⟩ ⟨#[]⟩ none 0 0,.int .i64 1]) (by simp[results,Tryz.results80,go_sem,k0,k1,k2,k3,k4,k5,k6]) rfl ?_
  exact⟨read_no (by omega) rfl,LE⟩
 ·subst h1
  have d9:(n !=i)=true:=by simp;exact h2
  obtain⟨W2,hW2⟩:∃W,w1.alloc (.cells #[.int .i64 r,.int .i64 sg] 93)=W:=⟨_,rfl⟩
  rw[hW2]at n1 K2
  have f0:=frozen_at n1 0
  have f1:=frozen_at n1 1
  have f2:=frozen_at n1 2
  have f3:=frozen_at n1 3
  have f4:=frozen_at n1 4
  have f5:=frozen_at n1 5
  have f6:=frozen_at n1 6
  have d0:W2.cell? ⟨P1,0,none⟩=some (.int .i64 0):=cell_at n1 0
  have d1:W2.cell? ⟨P1,1,none⟩=some (.string ⟨#[]⟩):=cell_at n1 1
  have d2:W2.cell? ⟨P1,2,none⟩=some (.int .i64 0):=cell_at n1 2
  have d3:W2.cell? ⟨P1,3,none⟩=some (.int .i64 0):=cell_at n1 3
  have d4:W2.cell? ⟨P1,4,none⟩=some (.int .i64 0):=cell_at n1 4
  have d5:W2.cell? ⟨P1,5,none⟩=some (.int .i64 0):=cell_at n1 5
  have d6:W2.cell? ⟨P1,6,none⟩=some (.slice none 0 0):=cell_at n1 6
  have HPT:Hid (_):=put7_heap n1 (.int .i64 0) (.string ⟨#[]⟩) (.int .i64 0) (.int .i64 0) (.int .i64 0) (.int .i64 0) (.slice none 0 0)
  have HPL:Hid (Below w.heap.size w (put7 W2 P1 (.int .i64 0) (.string ⟨#[]⟩) (.int .i64 0) (.int .i64 0) (.int .i64 0) (.int .i64 0) (.slice none 0 0))):=put7_below K2 hPw _ _ _ _ _ _ _
  clear n1 K2 n0 HU HV HG HCC hw1
  go_wp2
  have mE:=HPT.out
  have LE:=HPL.out
  change bodyPost _ _ _ _ _ (put7 W2 P1 (.int .i64 0) (.string ⟨#[]⟩) (.int .i64 0) (.int .i64 0) (.int .i64 0) (.int .i64 0) (.slice none 0 0))
  generalize put7 W2 P1 (.int .i64 0) (.string ⟨#[]⟩) (.int .i64 0) (.int .i64 0) (.int .i64 0) (.int .i64 0) (.slice none 0 0)=WE at*
  have k0:WE.cell? ⟨P1,0,none⟩=some (.int .i64 0):=cell_at mE 0
  have k1:WE.cell? ⟨P1,1,none⟩=some (.string ⟨#[]⟩):=cell_at mE 1
  have k2:WE.cell? ⟨P1,2,none⟩=some (.int .i64 0):=cell_at mE 2
  have k3:WE.cell? ⟨P1,3,none⟩=some (.int .i64 0):=cell_at mE 3
  have k4:WE.cell? ⟨P1,4,none⟩=some (.int .i64 0):=cell_at mE 4
  have k5:WE.cell? ⟨P1,5,none⟩=some (.int .i64 0):=cell_at mE 5
  have k6:WE.cell? ⟨P1,6,none⟩=some (.slice none 0 0):=cell_at mE 6
  refine bodyPost_ret (v:= .tuple #[tkV ⟨0,0,0,0,0⟩ ⟨#[]⟩ none 0 0,.int .i64 1]) (by simp[results,Tryz.results80,go_sem,k0,k1,k2,k3,k4,k5,k6]) rfl ?_
  exact⟨read_no (by omega) rfl,LE⟩
 ·subst h1
  subst h2
  subst h3
  have c0:(w1.alloc (.cells #[.int .i64 r,.int .i64 sg] 93)).cell? ⟨w.heap.size,0,none⟩=some (.int .i64 p):=cell_at n0 0
  have c1:(w1.alloc (.cells #[.int .i64 r,.int .i64 sg] 93)).cell? ⟨w.heap.size,1,none⟩=some (.int .i64 q):=cell_at n0 1
  have c2:(w1.alloc (.cells #[.int .i64 r,.int .i64 sg] 93)).cell? ⟨w.heap.size,2,none⟩=some (.int .i64 g):=cell_at n0 2
  go_wp2_with fail
  refine(HV.out _ (E1.on K2) (E2.on K2) (E3.on K2) (E4.on K2)).mono ?_
  rintro e w3 ⟨rfl,L3⟩
  have n3:=kept L3 (lt_of n1) n1
  have K3:=join_below K2 L3
  clear c0 c1 c2 n0 n1 K2 L3
  have f0:=frozen_at n3 0
  have f1:=frozen_at n3 1
  have f2:=frozen_at n3 2
  have f3:=frozen_at n3 3
  have f4:=frozen_at n3 4
  have f5:=frozen_at n3 5
  have f6:=frozen_at n3 6
  have d0:w3.cell? ⟨P1,0,none⟩=some (.int .i64 0):=cell_at n3 0
  have d1:w3.cell? ⟨P1,1,none⟩=some (.string ⟨#[]⟩):=cell_at n3 1
  have d2:w3.cell? ⟨P1,2,none⟩=some (.int .i64 0):=cell_at n3 2
  have d3:w3.cell? ⟨P1,3,none⟩=some (.int .i64 0):=cell_at n3 3
  have d4:w3.cell? ⟨P1,4,none⟩=some (.int .i64 0):=cell_at n3 4
  have d5:w3.cell? ⟨P1,5,none⟩=some (.int .i64 0):=cell_at n3 5
  have d6:w3.cell? ⟨P1,6,none⟩=some (.slice none 0 0):=cell_at n3 6
  have HPT:Hid (_):=put7_heap n3 (.int .i64 0) (.string ⟨#[]⟩) (.int .i64 0) (.int .i64 0) (.int .i64 0) (.int .i64 0) (.slice none 0 0)
  have HPL:Hid (Below w.heap.size w (put7 w3 P1 (.int .i64 0) (.string ⟨#[]⟩) (.int .i64 0) (.int .i64 0) (.int .i64 0) (.int .i64 0) (.slice none 0 0))):=put7_below K3 hPw _ _ _ _ _ _ _
  clear n3 K3 HU HV HG HCC hw1
  go_wp2
  have mE:=HPT.out
  have LE:=HPL.out
  change bodyPost _ _ _ _ _ (put7 w3 P1 (.int .i64 0) (.string ⟨#[]⟩) (.int .i64 0) (.int .i64 0) (.int .i64 0) (.int .i64 0) (.slice none 0 0))
  generalize put7 w3 P1 (.int .i64 0) (.string ⟨#[]⟩) (.int .i64 0) (.int .i64 0) (.int .i64 0) (.int .i64 0) (.slice none 0 0)=WE at*
  have k0:WE.cell? ⟨P1,0,none⟩=some (.int .i64 0):=cell_at mE 0
  have k1:WE.cell? ⟨P1,1,none⟩=some (.string ⟨#[]⟩):=cell_at mE 1
  have k2:WE.cell? ⟨P1,2,none⟩=some (.int .i64 0):=cell_at mE 2
  have k3:WE.cell? ⟨P1,3,none⟩=some (.int .i64 0):=cell_at mE 3
  have k4:WE.cell? ⟨P1,4,none⟩=some (.int .i64 0):=cell_at mE 4
  have k5:WE.cell? ⟨P1,5,none⟩=some (.int .i64 0):=cell_at mE 5
  have k6:WE.cell? ⟨P1,6,none⟩=some (.slice none 0 0):=cell_at mE 6
  refine bodyPost_ret (v:= .tuple #[tkV ⟨0,0,0,0,0⟩ ⟨#[]⟩ none 0 0,.int .i64 2]) (by simp[results,Tryz.results80,go_sem,k0,k1,k2,k3,k4,k5,k6]) rfl ?_
  exact⟨read_no (by omega) rfl,LE⟩
 ·subst h1
  subst h2
  subst h3
  have c0:(w1.alloc (.cells #[.int .i64 r,.int .i64 sg] 93)).cell? ⟨w.heap.size,0,none⟩=some (.int .i64 p):=cell_at n0 0
  have c1:(w1.alloc (.cells #[.int .i64 r,.int .i64 sg] 93)).cell? ⟨w.heap.size,1,none⟩=some (.int .i64 q):=cell_at n0 1
  have c2:(w1.alloc (.cells #[.int .i64 r,.int .i64 sg] 93)).cell? ⟨w.heap.size,2,none⟩=some (.int .i64 g):=cell_at n0 2
  go_wp2_with fail
  refine(HV.out _ (E1.on K2) (E2.on K2) (E3.on K2) (E4.on K2)).mono ?_
  rintro e w3 ⟨rfl,L3⟩
  have n3:=kept L3 (lt_of n1) n1
  have K3:=join_below K2 L3
  clear c0 c1 c2 n0 n1 K2 L3
  go_wp2_with fail
  refine(HG.out _ (M.on K3) (Tn.on K3)).mono ?_
  rintro e w4 ⟨⟨a4,c4,rfl,O4⟩,L4⟩
  have n4:=kept L4 (lt_of n3) n3
  have K4:=join_below K3 L4
  have N5:=new_below w4 (tkB t nm a4 ls.length c4 72)
  have y5:=heap_new w4 (tkB t nm a4 ls.length c4 72)
  have n5:=kept N5 (lt_of n4) n4
  have K5:=join_below K4 N5
  have hw3:P1<w3.heap.size:=lt_of n3
  subst h4
  clear n3 K3 L4 K4 N5 n4 y5 O4
  obtain⟨W5,hW5⟩:∃W,w4.alloc (tkB t nm a4 ls.length c4 72)=W:=⟨_,rfl⟩
  rw[hW5]at n5 K5
  have f0:=frozen_at n5 0
  have f1:=frozen_at n5 1
  have f2:=frozen_at n5 2
  have f3:=frozen_at n5 3
  have f4:=frozen_at n5 4
  have f5:=frozen_at n5 5
  have f6:=frozen_at n5 6
  have d0:W5.cell? ⟨P1,0,none⟩=some (.int .i64 0):=cell_at n5 0
  have d1:W5.cell? ⟨P1,1,none⟩=some (.string ⟨#[]⟩):=cell_at n5 1
  have d2:W5.cell? ⟨P1,2,none⟩=some (.int .i64 0):=cell_at n5 2
  have d3:W5.cell? ⟨P1,3,none⟩=some (.int .i64 0):=cell_at n5 3
  have d4:W5.cell? ⟨P1,4,none⟩=some (.int .i64 0):=cell_at n5 4
  have d5:W5.cell? ⟨P1,5,none⟩=some (.int .i64 0):=cell_at n5 5
  have d6:W5.cell? ⟨P1,6,none⟩=some (.slice none 0 0):=cell_at n5 6
  have HPT:Hid (_):=put7_heap n5 (.int .i64 0) (.string ⟨#[]⟩) (.int .i64 0) (.int .i64 0) (.int .i64 0) (.int .i64 0) (.slice none 0 0)
  have HPL:Hid (Below w.heap.size w (put7 W5 P1 (.int .i64 0) (.string ⟨#[]⟩) (.int .i64 0) (.int .i64 0) (.int .i64 0) (.int .i64 0) (.slice none 0 0))):=put7_below K5 hPw _ _ _ _ _ _ _
  clear n5 K5 HU HV HG HCC hw1
  go_wp2
  have mE:=HPT.out
  have LE:=HPL.out
  change bodyPost _ _ _ _ _ (put7 W5 P1 (.int .i64 0) (.string ⟨#[]⟩) (.int .i64 0) (.int .i64 0) (.int .i64 0) (.int .i64 0) (.slice none 0 0))
  generalize put7 W5 P1 (.int .i64 0) (.string ⟨#[]⟩) (.int .i64 0) (.int .i64 0) (.int .i64 0) (.int .i64 0) (.slice none 0 0)=WE at*
  have k0:WE.cell? ⟨P1,0,none⟩=some (.int .i64 0):=cell_at mE 0
  have k1:WE.cell? ⟨P1,1,none⟩=some (.string ⟨#[]⟩):=cell_at mE 1
  have k2:WE.cell? ⟨P1,2,none⟩=some (.int .i64 0):=cell_at mE 2
  have k3:WE.cell? ⟨P1,3,none⟩=some (.int .i64 0):=cell_at mE 3
  have k4:WE.cell? ⟨P1,4,none⟩=some (.int .i64 0):=cell_at mE 4
  have k5:WE.cell? ⟨P1,5,none⟩=some (.int .i64 0):=cell_at mE 5
  have k6:WE.cell? ⟨P1,6,none⟩=some (.slice none 0 0):=cell_at mE 6
  refine bodyPost_ret (v:= .tuple #[tkV ⟨0,0,0,0,0⟩ ⟨#[]⟩ none 0 0,.int .i64 3]) (by simp[results,Tryz.results80,go_sem,k0,k1,k2,k3,k4,k5,k6]) rfl ?_
  exact⟨read_no (by omega) rfl,LE⟩
 ·subst h1
  subst h2
  subst h3
  have c0:(w1.alloc (.cells #[.int .i64 r,.int .i64 sg] 93)).cell? ⟨w.heap.size,0,none⟩=some (.int .i64 p):=cell_at n0 0
  have c1:(w1.alloc (.cells #[.int .i64 r,.int .i64 sg] 93)).cell? ⟨w.heap.size,1,none⟩=some (.int .i64 q):=cell_at n0 1
  have c2:(w1.alloc (.cells #[.int .i64 r,.int .i64 sg] 93)).cell? ⟨w.heap.size,2,none⟩=some (.int .i64 g):=cell_at n0 2
  go_wp2_with fail
  refine(HV.out _ (E1.on K2) (E2.on K2) (E3.on K2) (E4.on K2)).mono ?_
  rintro e w3 ⟨rfl,L3⟩
  have n3:=kept L3 (lt_of n1) n1
  have K3:=join_below K2 L3
  clear c0 c1 c2 n0 n1 K2 L3
  go_wp2_with fail
  refine(HG.out _ (M.on K3) (Tn.on K3)).mono ?_
  rintro e w4 ⟨⟨a4,c4,rfl,O4⟩,L4⟩
  have n4:=kept L4 (lt_of n3) n3
  have K4:=join_below K3 L4
  have N5:=new_below w4 (tkB t nm a4 ls.length c4 72)
  have y5:=heap_new w4 (tkB t nm a4 ls.length c4 72)
  have n5:=kept N5 (lt_of n4) n4
  have K5:=join_below K4 N5
  have hw3:P1<w3.heap.size:=lt_of n3
  subst h4
  have O5:=own_below O4 N5 (Nat.le_refl _)
  have hne:P1≠w4.heap.size:=by have:=lt_of n4;omega
  clear n3 K3 L4 K4 N5 n4 O4
  obtain⟨W5,hW5⟩:∃W,w4.alloc (tkB t nm a4 ls.length c4 72)=W:=⟨_,rfl⟩
  rw[hW5]at n5 K5 y5 O5
  have q0:W5.cell? ⟨w4.heap.size,0,none⟩=some (.int .i64 t.id):=cell_at y5 0
  have q1:W5.cell? ⟨w4.heap.size,1,none⟩=some (.string nm):=cell_at y5 1
  have q2:W5.cell? ⟨w4.heap.size,2,none⟩=some (.int .i64 t.cl):=cell_at y5 2
  have q3:W5.cell? ⟨w4.heap.size,3,none⟩=some (.int .i64 t.pr):=cell_at y5 3
  have q4:W5.cell? ⟨w4.heap.size,4,none⟩=some (.int .i64 t.fi):=cell_at y5 4
  have q5:W5.cell? ⟨w4.heap.size,5,none⟩=some (.int .i64 t.la):=cell_at y5 5
  have q6:W5.cell? ⟨w4.heap.size,6,none⟩=some (.slice a4 ls.length c4):=cell_at y5 6
  have f0:=frozen_at n5 0
  have f1:=frozen_at n5 1
  have f2:=frozen_at n5 2
  have f3:=frozen_at n5 3
  have f4:=frozen_at n5 4
  have f5:=frozen_at n5 5
  have f6:=frozen_at n5 6
  have d0:W5.cell? ⟨P1,0,none⟩=some (.int .i64 0):=cell_at n5 0
  have d1:W5.cell? ⟨P1,1,none⟩=some (.string ⟨#[]⟩):=cell_at n5 1
  have d2:W5.cell? ⟨P1,2,none⟩=some (.int .i64 0):=cell_at n5 2
  have d3:W5.cell? ⟨P1,3,none⟩=some (.int .i64 0):=cell_at n5 3
  have d4:W5.cell? ⟨P1,4,none⟩=some (.int .i64 0):=cell_at n5 4
  have d5:W5.cell? ⟨P1,5,none⟩=some (.int .i64 0):=cell_at n5 5
  have d6:W5.cell? ⟨P1,6,none⟩=some (.slice none 0 0):=cell_at n5 6
  have HPT:Hid (_):=put7_heap n5 (.int .i64 t.id) (.string nm) (.int .i64 t.cl) (.int .i64 t.pr) (.int .i64 t.fi) (.int .i64 t.la) (.slice a4 ls.length c4)
  have HPL:Hid (Below w.heap.size w (put7 W5 P1 (.int .i64 t.id) (.string nm) (.int .i64 t.cl) (.int .i64 t.pr) (.int .i64 t.fi) (.int .i64 t.la) (.slice a4 ls.length c4))):=put7_below K5 hPw _ _ _ _ _ _ _
  have HPO:Hid ((put7 W5 P1 (.int .i64 t.id) (.string nm) (.int .i64 t.cl) (.int .i64 t.pr) (.int .i64 t.fi) (.int .i64 t.la) (.slice a4 ls.length c4)).ownsRow w.heap.size 126 6 (.slice a4 ls.length c4) ls.length (lcells ls)):=own_move O5 (by omega) fun k hk=>put7_other (by omega) _ _ _ _ _ _ _
  clear n5 y5 K5 O5
  go_wp2
  have mE:=HPT.out
  have LE:=HPL.out
  have OE:=HPO.out
  change bodyPost _ _ _ _ _ (put7 W5 P1 (.int .i64 t.id) (.string nm) (.int .i64 t.cl) (.int .i64 t.pr) (.int .i64 t.fi) (.int .i64 t.la) (.slice a4 ls.length c4))
  generalize put7 W5 P1 (.int .i64 t.id) (.string nm) (.int .i64 t.cl) (.int .i64 t.pr) (.int .i64 t.fi) (.int .i64 t.la) (.slice a4 ls.length c4)=WE at*
  have k0:WE.cell? ⟨P1,0,none⟩=some (.int .i64 t.id):=cell_at mE 0
  have k1:WE.cell? ⟨P1,1,none⟩=some (.string nm):=cell_at mE 1
  have k2:WE.cell? ⟨P1,2,none⟩=some (.int .i64 t.cl):=cell_at mE 2
  have k3:WE.cell? ⟨P1,3,none⟩=some (.int .i64 t.pr):=cell_at mE 3
  have k4:WE.cell? ⟨P1,4,none⟩=some (.int .i64 t.fi):=cell_at mE 4
  have k5:WE.cell? ⟨P1,5,none⟩=some (.int .i64 t.la):=cell_at mE 5
  have k6:WE.cell? ⟨P1,6,none⟩=some (.slice a4 ls.length c4):=cell_at mE 6
  refine bodyPost_ret (v:= .tuple #[tkV t nm a4 ls.length c4,.int .i64 0]) (by simp[results,Tryz.results80,go_sem,k0,k1,k2,k3,k4,k5,k6]) rfl ?_
  exact⟨read_yes rfl OE,LE⟩

end Re
end Go.Proofs.YtdcpjicgehdmfaaGreatDoor
