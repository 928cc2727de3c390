/- What Sign answers, and what holds of a slice of numbers. -/
import Derived.Test.YtcjgkmhpeedhiaaGreatDoorSignSpec2
namespace Go.Proofs.YtcjgkmhpeedhiaaGreatDoor
namespace Num
open Go.ChangeShapes Go.WideShapes Go.ChangeAt Go.RowKit
set_option linter.unusedSimpArgs false
set_option linter.unusedVariables false

def Ints (w:World) (a:Option Addr) (zs:List Int):Prop:=zs= []∨∃b o,a=some ⟨b,o,none⟩∧b<w.heap.size∧∀i (hi:i<zs.length),w.cell? ⟨b,o+i,none⟩=some (.int .i64 zs[i])

theorem Ints.on {w w1:World} {a:Option Addr} {zs:List Int} (h:Ints w a zs) (hb:Below w.heap.size w w1):Ints w1 a zs:=by
 rcases h with h|⟨b,o,ha,hlt,hc⟩
 ·exact Or.inl h
 ·exact Or.inr ⟨b,o,ha,Nat.lt_of_lt_of_le hlt hb.size,fun i hi=>by rw[hb.cell (p:=⟨b,o+i,none⟩) hlt];exact hc i hi⟩

theorem Ints.at {w:World} {a:Option Addr} {zs:List Int} (h:Ints w a zs) (i:Nat) (hi:i<zs.length):∃b o,a=some ⟨b,o,none⟩∧b<w.heap.size∧w.cell? ⟨b,o+i,none⟩=some (.int .i64 zs[i]):=by
 rcases h with h|⟨b,o,ha,hlt,hc⟩
 ·subst h;simp at hi
 ·exact⟨b,o,ha,hlt,hc i hi⟩

def sg (p q g x h:Int):List Int→Int→Int×Int×Int×Bool
 | [],_=>(0,0,-1,false)
 |k::ks,i=>if doV p q g x h k=true then(rV p q g k,sV p q g x h k,i,true)else sg p q g x h ks (i+1)

theorem sg_yes {p q g x h:Int} {zs:List Int} {i:Nat} (hi:i<zs.length) (hd:doV p q g x h zs[i]=true):sg p q g x h (zs.drop i) i=(rV p q g zs[i],sV p q g x h zs[i],(i:Int),true):=by
 rw[List.drop_eq_getElem_cons hi,sg,if_pos hd]

theorem sg_no {p q g x h:Int} {zs:List Int} {i:Nat} (hi:i<zs.length) (hd:doV p q g x h zs[i]=false):sg p q g x h (zs.drop i) i=sg p q g x h (zs.drop (i+1)) ((i+1:Nat):Int):=by
 rw[List.drop_eq_getElem_cons hi,sg,if_neg (by rw[hd];simp)]
 simp

def signV (p q g x:Int) (t:ByteArray) (zs:List Int):Int×Int×Int×Bool:=if signB p q g x t=true∧zs.length≤100 then sg p q g x (hV t q) zs 0 else(0,0,-1,false)

abbrev sv (v:Int×Int×Int×Bool):Value:= .tuple #[mv v.1 v.2.1,.int .i64 v.2.2.1,.bool v.2.2.2]

theorem signV_no {p q g x:Int} {t:ByteArray} {zs:List Int} (h:signB p q g x t=false∨100<zs.length):signV p q g x t zs=(0,0,-1,false):=by
 unfold signV
 rw[if_neg]
 rintro⟨h1,h2⟩
 rcases h with h|h
 ·rw[h1]at h;cases h
 ·omega

theorem heap_any {w:World} {n:Nat} {o:Obj} {X:World} (hl:n<w.heap.size) (h:w.heap[n]? =some o) (hX:X.heap=w.heap∨∃ob,X.heap=w.heap.push ob:=by first|exact Or.inl rfl|exact Or.inr ⟨_,rfl⟩):X.heap[n]? =some o:=by
 rcases hX with e|⟨ob,e⟩
 ·rw[e];exact h
 ·rw[e,Array.getElem?_push_lt hl]
  obtain⟨_,hh⟩:=Array.getElem?_eq_some_iff.1 h
  rw[hh]

theorem sign_rel {w wr w':World} {p q g x h:Int} {a:Option Addr} {zs:List Int} {k:Nat} (LR:Below w.heap.size w wr) (RC:wr.heap[w.heap.size]? =some (pb p q g)) (RB:wr.heap[w.heap.size+1]? =some (mb 0 0)) (RI:Ints wr a zs) (K:Below wr.heap.size wr w') (H:Hid (sg p q g x h zs 0=sg p q g x h (zs.drop k) k)):
 Below w.heap.size w w'∧w'.heap[w.heap.size]? =some (pb p q g)∧w'.heap[w.heap.size+1]? =some (mb 0 0)∧Ints w' a zs∧Hid (sg p q g x h zs 0=sg p q g x h (zs.drop k) k):=
 ⟨LR.trans (K.mono LR.size),kept_new K RC,kept_new K RB,RI.on K,H⟩

end Num
end Go.Proofs.YtcjgkmhpeedhiaaGreatDoor
