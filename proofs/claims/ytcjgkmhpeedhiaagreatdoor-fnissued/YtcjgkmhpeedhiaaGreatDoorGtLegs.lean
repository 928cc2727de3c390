/- Rows of legs of one's own; what a text's lines tell. -/
import Derived.Test.YtcjgkmhpeedhiaaGreatDoorGtNums
import Derived.Test.YtcjgkmhpeedhiaaGreatDoorTkPut2
namespace Go.Proofs.YtcjgkmhpeedhiaaGreatDoor
namespace Gt
open Go.ChangeShapes Go.WideShapes Go.ChangeAt Go.RowKit
open Pk (own_at own_ge own_below own_form info_of new_below join_below heap_new lt_of kept cell_at heap_old frozen_at)
open Tk (Lg Hd Legs lgV tkV tkB okB putT)
set_option linter.unusedSimpArgs false
set_option linter.unusedVariables false

def lc1 (p:Lg):List Value:= [.int .i64 p.tr,.int .i64 p.dy,.int .i64 p.fr,.int .i64 p.to,.int .i64 p.co,.int .i64 p.se]
def lcells (l:List Lg):List Value:=l.flatMap lc1

theorem lcells_cons (p:Lg) (l:List Lg):lcells (p::l)=lc1 p++lcells l:=rfl
theorem lcells_snoc (l:List Lg) (p:Lg):lcells l++lc1 p=lcells (l++ [p]):=by simp[lcells]
theorem lc1_length (p:Lg):(lc1 p).length=6:=rfl
theorem lcells_length (l:List Lg):(lcells l).length=l.length*6:=by
 induction l with
 |nil=>rfl
 |cons p l ih=>rw[lcells_cons,List.length_append,ih,List.length_cons,lc1_length];omega

theorem lcells_get (l:List Lg) (k c:Nat) (hk:k<l.length) (hc:c<6):(lcells l)[k*6+c]? =(lc1 l[k])[c]? :=by
 induction l generalizing k with
 |nil=>simp at hk
 |cons p l ih=>
  rw[lcells_cons]
  cases k with
  |zero=>
   rw[List.getElem?_append_left (by rw[lc1_length];omega)]
   simp
  |succ k=>
   rw[List.getElem?_append_right (by rw[lc1_length];omega),lc1_length,show(k+1)*6+c-6=k*6+c by omega,ih k (by simpa using hk)]
   simp

theorem own_cell {w:World} {base e n z:Nat} {v:Value} {xs:List Value} (h:w.ownsRow base e z v n xs) (hn:0<n):
 ∃g cap,v= .slice (some ⟨g,0,none⟩) n cap∧base≤g∧g<w.heap.size∧(∀i u,xs[i]? =some u→w.cell? ⟨g,i,none⟩=some u)∧∀i,w.frozen? ⟨g,i,none⟩=false:=by
 obtain⟨hl,h2⟩:=h
 rcases h2 with⟨hv,h0⟩|⟨g,cap,cur,hv,hg,hh,h1,h3,h4,h5⟩
 ·omega
 ·refine⟨g,cap,hv,hg,lt_of hh,fun i u hu=> ?_,fun i=>frozen_at hh i⟩
  rw[cell_at hh]
  have hx:=(List.getElem?_eq_some_iff.1 hu).1
  have h6:(cur.toList.take (n*z))[i]? =xs[i]? :=by rw[h5]
  rw[List.getElem?_take,if_pos (by omega),Array.getElem?_toList]at h6
  rw[h6]
  exact hu

theorem own_legs {w:World} {base e:Nat} {v:Value} {l:List Lg} (h:w.ownsRow base e 6 v l.length (lcells l)):∃a cap,v= .slice a l.length cap∧Legs w a l:=by
 by_cases h0:l.length=0
 ·obtain⟨a,cap,hv,-⟩:=own_form h
  exact⟨a,cap,hv,Or.inl (List.eq_nil_of_length_eq_zero h0)⟩
 ·obtain⟨g,cap,hv,-,hg,hc,-⟩:=own_cell h (by omega)
  refine⟨_,cap,hv,Or.inr ⟨g,0,rfl,hg,fun i hi=> ?_⟩⟩
  rw[Nat.zero_add]
  exact⟨hc (i*6) _ ((lcells_get l i 0 hi (by omega)).trans rfl),hc (i*6+1) _ ((lcells_get l i 1 hi (by omega)).trans rfl),hc (i*6+2) _ ((lcells_get l i 2 hi (by omega)).trans rfl),hc (i*6+3) _ ((lcells_get l i 3 hi (by omega)).trans rfl),hc (i*6+4) _ ((lcells_get l i 4 hi (by omega)).trans rfl),hc (i*6+5) _ ((lcells_get l i 5 hi (by omega)).trans rfl)⟩

theorem own_off {w:World} {base e z g n cap b i:Nat} {xs:List Value} (h:w.ownsRow base e z (.slice (some ⟨g,0,none⟩) n cap) n xs) (hne:g≠b) (u:Value):(w.setCell ⟨b,i,none⟩ u).ownsRow base e z (.slice (some ⟨g,0,none⟩) n cap) n xs:=by
 obtain⟨hl,h2⟩:=h
 refine⟨hl,?_⟩
 rcases h2 with⟨hv,-⟩|⟨g',cap',cur,hv,hg,hh,h1,h3,h4,h5⟩
 ·cases hv
 ·simp only[Value.slice.injEq,Option.some.injEq,Addr.mk.injEq]at hv
  obtain⟨⟨rfl,-⟩,-,rfl⟩:=hv
  exact Or.inr ⟨g,cap,cur,rfl,hg,Tk.h_other hh hne u,h1,h3,h4,h5⟩

def hdOf (l:List Nat):Hd:=⟨(l.getD 0 0:Nat),(l.getD 1 0:Nat),(l.getD 2 0:Nat),(l.getD 3 0:Nat),(l.getD 4 0:Nat)⟩

def lgOf (l:List Nat):Lg:=⟨(l.getD 0 0:Nat),(l.getD 1 0:Nat),(l.getD 2 0:Nat),(l.getD 3 0:Nat),(l.getD 4 0:Nat),(l.getD 5 0:Nat)⟩

def ln (L:List ByteArray) (k:Nat):ByteArray:=L.getD k ⟨#[]⟩

theorem ln_at {L:List ByteArray} {k:Nat} (h:k<L.length):ln L k=L[k]:=by
 unfold ln
 rw[List.getD_eq_getElem?_getD,List.getElem?_eq_getElem h]
 rfl

def legsL (L:List ByteArray) (k:Nat):List Lg:=(List.range k).map fun j=>lgOf (numsL (ln L (j+2)))

theorem legsL_length (L:List ByteArray) (k:Nat):(legsL L k).length=k:=by simp[legsL]

theorem legsL_step (L:List ByteArray) (k:Nat):legsL L (k+1)=legsL L k++ [lgOf (numsL (ln L (k+2)))]:=by
 unfold legsL
 rw[List.range_succ,List.map_append]
 rfl

def Good (s:ByteArray) (t:Hd) (nm:ByteArray) (ls:List Lg):Prop:=okB t nm ls=true∧putT t nm ls ls.length=s

def GetEnd (s:ByteArray) (base:Nat) (e:Ending) (w:World):Prop:=
 (∃t nm ls a cap,Good s t nm ls∧e= .returned (.tuple #[tkV t nm a ls.length cap,.bool true])∧w.ownsRow base 64 6 (.slice a ls.length cap) ls.length (lcells ls))∨
 ((∀t nm ls,¬Good s t nm ls)∧e= .returned (.tuple #[tkV ⟨0,0,0,0,0⟩ ⟨#[]⟩ none 0 0,.bool false]))

def headW:ByteArray:=⟨#[104,101,97,100]⟩
def legW:ByteArray:=⟨#[108,101,103]⟩

structure Shape (L:List ByteArray) (t:Hd) (nm:ByteArray) (ls:List Lg):Prop where
 len:L.length=ls.length+3
 head:NumsOk (ln L 0) headW 5
 hd:hdOf (numsL (ln L 0))=t
 name5:5≤(ln L 1).size
 name:(ln L 1).extract 5 (ln L 1).size=nm
 leg:∀k,k<ls.length→NumsOk (ln L (k+2)) legW 6
 legs:legsL L ls.length=ls

end Gt
end Go.Proofs.YtcjgkmhpeedhiaaGreatDoor
