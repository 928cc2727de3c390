/- The cursor over the bytes of a draw: what holds of it in a world, and contracts of the functions that move it. -/
import Derived.Test.YtcjgkmhpeedhiaaGreatDoorNum
import Derived.Below
import Derived.Deep.QuietTactic
import Derived.BigQuiet
import Derived.Laws.BitsLemmas
import Derived.Laws.IdiomStrings
namespace Go.Proofs.YtcjgkmhpeedhiaaGreatDoor
namespace Cur
open Go.ChangeShapes Go.WideShapes Go.ChangeAt Go.RowKit

def Bytes (w:World) (a:Option Addr) (n:Nat):Prop:=
 n=0∨∃b o,a=some ⟨b,o,none⟩∧b<w.heap.size∧∀i,i<n→∃v:Int,w.cell? ⟨b,o+i,none⟩=some (.int .u8 v)∧0≤v∧v≤255

theorem Bytes.on {w w1:World} {a:Option Addr} {n:Nat} (h:Bytes w a n) (hb:Below w.heap.size w w1):Bytes w1 a n:=by
 rcases h with h|⟨b,o,ha,hlt,hc⟩
 ·exact Or.inl h
 ·refine Or.inr ⟨b,o,ha,Nat.lt_of_lt_of_le hlt hb.size,fun i hi=> ?_⟩
  obtain⟨v,h1,h2⟩:=hc i hi
  exact⟨v,by rw[hb.cell (p:=⟨b,o+i,none⟩) hlt];exact h1,h2⟩

theorem bytes_of (w:World) (a:Option Addr) (len cap:Nat) (zs:List Int)
 (h:(a=none∧len=0∧cap=0∧zs= [])∨∃x,a=some x∧len≤cap∧cap≤maxLen∧zs.length=cap∧(∀i,i<zs.length→w.cell? (x.add i)=some (.int .u8 (zs.getD i 0)))∧∀n∈zs,(Lit.int .u8 n).wf=true):Bytes w a len:=by
 rcases h with⟨_,h,_,_⟩|⟨x,rfl,hl,hm,hz,hc,hw⟩
 ·exact Or.inl h
 ·by_cases h0:len=0
  ·exact Or.inl h0
  ·obtain⟨b,off,rfl,hcc⟩:=ints_at hc (by omega)
   refine Or.inr ⟨b,off,rfl,?_,fun i hi=> ?_⟩
   ·have h1:=hcc 0 (by omega)
    apply Nat.lt_of_not_le
    intro hle
    unfold World.cell? at h1
    rw[Array.getElem?_eq_none hle]at h1
    simp at h1
   ·refine⟨zs.getD i 0,hcc i (by omega),bounds_u8 (hw _ ?_)⟩
    rw[List.getD_eq_getElem?_getD,List.getElem?_eq_getElem (by omega)]
    exact List.getElem_mem (by omega)

structure Is (W0:World) (a:Option Addr) (n cap c:Nat) (w:World):Prop where
 below:Below W0.heap.size W0 w
 ge:W0.heap.size≤c
 lt:c<w.heap.size
 len:n≤9223372036854775806
 code:Bytes W0 a n
 cb:w.cell? ⟨c,0,none⟩=some (.slice a n cap)
 ci:∃i:Nat,i≤n∧w.cell? ⟨c,1,none⟩=some (.int .i64 i)
 ch:∃h:Int,w.cell? ⟨c,2,none⟩=some (.int .i64 h)
 fi:w.frozen? ⟨c,1,none⟩=false
 fh:w.frozen? ⟨c,2,none⟩=false

structure Moved (c:Nat) (w w1:World):Prop where
 size:w1.heap.size=w.heap.size
 block:∀k,k≠c→w1.heap[k]? =w.heap[k]?

theorem Moved.refl (c:Nat) (w:World):Moved c w w:=⟨rfl,fun _ _=>rfl⟩

theorem Moved.trans {c:Nat} {w w1 w2:World} (h:Moved c w w1) (k:Moved c w1 w2):Moved c w w2:=
 ⟨k.size.trans h.size,fun i hi=>(k.block i hi).trans (h.block i hi)⟩

theorem Moved.set (c:Nat) (w:World) (o:Nat) (v:Value):Moved c w (w.setCell ⟨c,o,none⟩ v):=
 ⟨World.size_setCell _ _ _,fun _ hk=>Below.heap_setCell _ _ _ _ hk⟩

theorem Moved.drewN {c:Nat} {w w1:World} (h:Moved c w w1) (n:Nat):Moved c w (w1.drewN n):=⟨h.size,h.block⟩

theorem Moved.cell {c:Nat} {w w1:World} (h:Moved c w w1) {p:Addr} (hp:p.block≠c):w1.cell? p=w.cell? p:=World.cell?_of_block (w:=w) (h.block p.block hp)

theorem Moved.frozen {c:Nat} {w w1:World} (h:Moved c w w1) {p:Addr} (hp:p.block≠c):w1.frozen? p=w.frozen? p:=World.frozen?_of_block (w:=w) (h.block p.block hp)

theorem Is.drewN {W0:World} {a:Option Addr} {n cap c:Nat} {w:World} (C:Is W0 a n cap c w) (q:Nat):Is W0 a n cap c (w.drewN q):=
 ⟨C.below.trans ⟨rfl,rfl,rfl,Nat.le_refl _,fun _ _=>rfl⟩,C.ge,C.lt,C.len,C.code,C.cb,C.ci,C.ch,C.fi,C.fh⟩

theorem Is.setH {W0:World} {a:Option Addr} {n cap c:Nat} {w:World} (C:Is W0 a n cap c w) (h:Int):Is W0 a n cap c (w.setCell ⟨c,2,none⟩ (.int .i64 h)):=by
 refine⟨C.below.setCell C.ge _,C.ge,by rw[World.size_setCell];exact C.lt,C.len,C.code,?_,?_,?_,?_,?_⟩
 ·rw[World.cell?_setCell_other _ _ _ _ (by simp)];exact C.cb
 ·obtain⟨i,h1,h2⟩:=C.ci
  exact⟨i,h1,by rw[World.cell?_setCell_other _ _ _ _ (by simp)];exact h2⟩
 ·obtain⟨h0,h2⟩:=C.ch
  exact⟨h,World.cell?_setCell_same _ _ _ h2⟩
 ·rw[World.frozen?_setCell];exact C.fi
 ·rw[World.frozen?_setCell];exact C.fh

theorem Is.setI {W0:World} {a:Option Addr} {n cap c:Nat} {w:World} (C:Is W0 a n cap c w) (i:Nat) (hi:i≤n) (v:Int) (hv:v=i):Is W0 a n cap c (w.setCell ⟨c,1,none⟩ (.int .i64 v)):=by
 subst hv
 refine⟨C.below.setCell C.ge _,C.ge,by rw[World.size_setCell];exact C.lt,C.len,C.code,?_,?_,?_,?_,?_⟩
 ·rw[World.cell?_setCell_other _ _ _ _ (by simp)];exact C.cb
 ·obtain⟨i0,h1,h2⟩:=C.ci
  exact⟨i,hi,World.cell?_setCell_same _ _ _ h2⟩
 ·obtain⟨h0,h2⟩:=C.ch
  exact⟨h0,by rw[World.cell?_setCell_other _ _ _ _ (by simp)];exact h2⟩
 ·rw[World.frozen?_setCell];exact C.fi
 ·rw[World.frozen?_setCell];exact C.fh

theorem Is.alloc {W0:World} {a:Option Addr} {n cap c:Nat} {w:World} (C:Is W0 a n cap c w) (ob:Obj):Is W0 a n cap c (w.alloc ob):=by
 have hb:Below w.heap.size w (w.alloc ob):=(Below.refl _ _).alloc (Nat.le_refl _) _
 refine⟨C.below.alloc C.below.size _,C.ge,Nat.lt_of_lt_of_le C.lt hb.size,C.len,C.code,?_,?_,?_,?_,?_⟩
 ·rw[hb.cell (p:=⟨c,0,none⟩) C.lt];exact C.cb
 ·obtain⟨i,h1,h2⟩:=C.ci
  exact⟨i,h1,by rw[hb.cell (p:=⟨c,1,none⟩) C.lt];exact h2⟩
 ·obtain⟨h0,h2⟩:=C.ch
  exact⟨h0,by rw[hb.cell (p:=⟨c,2,none⟩) C.lt];exact h2⟩
 ·rw[hb.frozen (p:=⟨c,1,none⟩) C.lt];exact C.fi
 ·rw[hb.frozen (p:=⟨c,2,none⟩) C.lt];exact C.fh

theorem and_255 (x:Int):0≤bits .and .i64 x 255∧bits .and .i64 x 255≤255:=by
 have h2:(BitVec.ofInt 64 (255:Int)).toNat=255:=rfl
 have hx:(BitVec.ofInt 64 x).toNat&&&255≤255:=Nat.and_le_right
 have e:bits .and .i64 x 255=IntKind.i64.wrap (((BitVec.ofInt 64 x).toNat&&&255:Nat):Int):=by
  show IntKind.i64.wrap ((BitVec.ofInt 64 x&&&BitVec.ofInt 64 (255:Int)).toNat:Int)=_
  rw[BitVec.toNat_and,h2]
 rw[e,IntKind.wrap_i64]
 omega

theorem byte_any {W0:World} {a:Option Addr} {n cap c:Nat} {w:World} (C:Is W0 a n cap c w):
 Calls Tryz.prog 45 #[.pointer (some ⟨c,0,none⟩)] w fun e w'=>(∃x:Int,e= .returned (.int .i64 x)∧0≤x∧x≤255)∧Is W0 a n cap c w'∧Moved c w w':=by
 obtain⟨i,hi,hci⟩:=C.ci
 obtain⟨h,hch⟩:=C.ch
 have hcb:=C.cb
 have hfi:=C.fi
 have hfh:=C.fh
 have hlt:=C.lt
 have hn:=C.len
 by_cases hin:i<n
 ·obtain⟨b,o,rfl,hb,hv⟩:∃b o,a=some ⟨b,o,none⟩∧b<W0.heap.size∧∀i,i<n→∃v:Int,W0.cell? ⟨b,o+i,none⟩=some (.int .u8 v)∧0≤v∧v≤255:=by
   rcases C.code with h|h
   ·omega
   ·exact h
  obtain⟨v,hv0,hv1,hv2⟩:=hv i hin
  have hvc:w.cell? ⟨b,o+i,none⟩=some (.int .u8 v):=(C.below.cell (p:=⟨b,o+i,none⟩) hb).trans hv0
  have hne:b≠c:=by have:=C.ge;omega
  go_enter Tryz.func45,Tryz.ntmps45
  go_wp2
  generalize wrap64 (wrap64 (h*6364136223846793005)+1442695040888963407)=h1
  go_quiet (fail)
  go_wp2
  go_quiet (fail)
  go_wp2
  go_quiet (fail)
  go_wp2
  go_ret
  exact⟨⟨_,rfl,and_255 _⟩,((C.setH h1).drewN _).setI (i+1) (by omega) _ (by omega),((Moved.set c w 2 _).drewN _).trans (Moved.set c _ 1 _)⟩
 ·go_enter Tryz.func45,Tryz.ntmps45
  go_wp2
  generalize wrap64 (wrap64 (h*6364136223846793005)+1442695040888963407)=h1
  go_quiet (fail)
  go_wp2
  go_quiet (fail)
  go_wp2
  go_ret
  exact⟨⟨_,rfl,and_255 _⟩,((C.setH h1).drewN _).drewN _,((Moved.set c w 2 _).drewN _).drewN _⟩

theorem below_any {W0:World} {a:Option Addr} {n cap c:Nat} {w:World} (C:Is W0 a n cap c w) (m:Int):
 Calls Tryz.prog 18 #[.pointer (some ⟨c,0,none⟩),.int .i64 m] w fun e w'=>(∃x:Int,e= .returned (.int .i64 x)∧0≤x∧(0<m→x<m))∧Is W0 a n cap c w'∧Moved c w w':=by
 by_cases h0:m≤0
 ·go_enter Tryz.func18,Tryz.ntmps18
  go_wp2
  go_ret
  exact⟨⟨0,rfl,by omega,by omega⟩,C,Moved.refl _ _⟩
 ·by_cases h1:m≤256
  ·go_enter Tryz.func18,Tryz.ntmps18
   go_wp2_with fail
   refine(byte_any C).mono ?_
   rintro e w1 ⟨⟨x,rfl,hx0,hx1⟩,C1,M1⟩
   go_wp2
   go_ret
   exact⟨⟨_,rfl,Int.emod_nonneg _ (by omega),fun h=>Int.emod_lt_of_pos _ h⟩,C1,M1⟩
  ·go_enter Tryz.func18,Tryz.ntmps18
   go_wp2_with fail
   refine(byte_any C).mono ?_
   rintro e w1 ⟨⟨x,rfl,hx0,hx1⟩,C1,M1⟩
   go_wp2_with fail
   refine(byte_any C1).mono ?_
   rintro e w2 ⟨⟨y,rfl,hy0,hy1⟩,C2,M2⟩
   go_wp2_with fail
   refine(byte_any C2).mono ?_
   rintro e w3 ⟨⟨z,rfl,hz0,hz1⟩,C3,M3⟩
   go_wp2_with fail
   refine(byte_any C3).mono ?_
   rintro e w4 ⟨⟨u,rfl,hu0,hu1⟩,C4,M4⟩
   go_wp2
   go_ret
   exact⟨⟨_,rfl,Int.emod_nonneg _ (by omega),fun h=>Int.emod_lt_of_pos _ h⟩,C4,((M1.trans M2).trans M3).trans M4⟩

theorem once_any {W0:World} {a:Option Addr} {n cap c:Nat} {w:World} (C:Is W0 a n cap c w) (m:Int):
 Calls Tryz.prog 47 #[.pointer (some ⟨c,0,none⟩),.int .i64 m] w fun e w'=>(∃x:Bool,e= .returned (.bool x))∧Is W0 a n cap c w'∧Moved c w w':=by
 go_enter Tryz.func47,Tryz.ntmps47
 go_wp2_with fail
 refine(below_any C _).mono ?_
 rintro e w1 ⟨⟨x,rfl,hx0,hx1⟩,C1,M1⟩
 go_wp2
 go_ret
 exact⟨⟨_,rfl⟩,C1,M1⟩

def RowOf (p:Int→Prop) (w:World) (g m:Nat):Prop:=∀i,i<m→∃v:Int,w.cell? ⟨g,i,none⟩=some (.int .i64 v)∧p v

theorem pickInt_any {W0:World} {a:Option Addr} {n cap c:Nat} {w:World} (C:Is W0 a n cap c w) (p:Int→Prop) (g m k:Nat) (hg:g≠c) (hm:0<m) (hm2:m≤1000) (R:RowOf p w g m):
 Calls Tryz.prog 30 #[.pointer (some ⟨c,0,none⟩),.slice (some ⟨g,0,none⟩) m k] w fun e w'=>(∃x:Int,e= .returned (.int .i64 x)∧p x)∧Is W0 a n cap c w'∧Moved c w w':=by
 go_enter Tryz.func30,Tryz.ntmps30
 go_wp2_with fail
 refine(below_any C _).mono ?_
 rintro e w1 ⟨⟨x,rfl,hx0,hx1⟩,C1,M1⟩
 have hx2:=hx1 (by omega)
 obtain⟨i,rfl⟩:=Int.eq_ofNat_of_zero_le hx0
 obtain⟨v,hv,hp⟩:=R i (by omega)
 have hv1:w1.cell? ⟨g,i,none⟩=some (.int .i64 v):=(M1.cell (p:=⟨g,i,none⟩) hg).trans hv
 have HP:Hid (p v):=hp
 clear hp hv hx1
 go_wp2
 go_ret
 exact⟨⟨_,rfl,HP⟩,C1,M1⟩

theorem Is.fresh (W0:World) (a:Option Addr) (n cap t:Nat) (h:Int) (hn:n≤1048576) (B:Bytes W0 a n):Is W0 a n cap W0.heap.size (W0.alloc (.cells #[.slice a n cap,.int .i64 0,.int .i64 h] t)):=by
 have hf:∀j,(W0.alloc (.cells #[.slice a n cap,.int .i64 0,.int .i64 h] t)).frozen? ⟨W0.heap.size,j,none⟩=false:=by
  intro j
  rw[frozen?_alloc_cells]
  simp[World.frozen?]
 refine⟨(Below.refl _ _).alloc (Nat.le_refl _) _,Nat.le_refl _,by simp,by omega,B,?_,⟨0,by omega,?_⟩,⟨h,?_⟩,hf 1,hf 2⟩
 ·exact World.cell?_alloc_mark _ _ _ _ 0
 ·exact World.cell?_alloc_mark _ _ _ _ 1
 ·exact World.cell?_alloc_mark _ _ _ _ 2

set_option maxRecDepth 100000 in
theorem new_any (W0:World) (a:Option Addr) (n cap:Nat) (hn:n≤1048576) (B:Bytes W0 a n):
 Calls Tryz.prog 16 #[.slice a n cap] W0 fun e w'=>e= .returned (.pointer (some ⟨W0.heap.size,0,none⟩))∧Is W0 a n cap W0.heap.size w':=by
 go_enter Tryz.func16,Tryz.ntmps16
 go_wp2
 go_loop [3,4] (fun t i=>∃(k:Nat) (h:Int),k≤n∧k≤4000∧i= .int .i64 k∧t= .int .i64 h) (fun _ i=>n-(intOf i).toNat)
 case atStart=>exact⟨0,_,by omega,by omega,rfl,rfl⟩
 case round=>
  obtain⟨k,h,hk,hk2,rfl,rfl⟩:=hrel
  by_cases hkn:k<n
  ·by_cases hk4:k<4000
   ·obtain⟨b,o,rfl,hb,hv⟩:∃b o,a=some ⟨b,o,none⟩∧b<W0.heap.size∧∀i,i<n→∃v:Int,W0.cell? ⟨b,o+i,none⟩=some (.int .u8 v)∧0≤v∧v≤255:=by
     rcases B with h|h
     ·omega
     ·exact h
    obtain⟨v,hv0,hv1,hv2⟩:=hv k hkn
    clear hv B
    go_wp2
    go_round
    case rel=>exact⟨k+1,_,by omega,by omega,by go_num,rfl⟩
    case measure=>simp[intOf];omega
   ·go_wp2
    go_ret
    exact⟨rfl,Is.fresh W0 a n cap _ h hn B⟩
  ·go_wp2
   go_ret
   exact⟨rfl,Is.fresh W0 a n cap _ h hn B⟩

theorem rowOf_new (p:Int→Prop) (w:World) (zs:List Int) (t:Nat) (h:∀z,z∈zs→p z):RowOf p (w.alloc (.cells (zs.map (Value.int .i64)).toArray t)) w.heap.size zs.length:=by
 intro i hi
 refine⟨zs[i],?_,h _ (List.getElem_mem hi)⟩
 rw[World.cell?_alloc_mark]
 simp[hi]

end Cur
end Go.Proofs.YtcjgkmhpeedhiaaGreatDoor
