/- Contracts of PutTicket, of the program and of its model. -/
import Derived.Test.YtcjgkmhpeedhiaaGreatDoorTkTic
import Derived.Test.YtcjgkmhpeedhiaaGreatDoorTkLine
namespace Go.Proofs.YtcjgkmhpeedhiaaGreatDoor
namespace Tk
open Go.ChangeShapes Go.WideShapes Go.ChangeAt Go.RowKit
open Pk (new_below join_below cell_at heap_new frozen_at lt_of kept)
open Num (decS Tens)
set_option linter.unusedSimpArgs false
set_option linter.unusedVariables false

theorem words_val (zs:List Int) (g cap:Nat) (w:World) (hl:zs.length≤40) (hn:Nums zs) (R:RowZ w g zs):
 Calls Tryz.prog 53 #[.slice (some ⟨g,0,none⟩) zs.length cap] w fun e w'=>e= .returned (.string (ws zs))∧w'=w:=words_wide zs g cap w hl hn.wide R

theorem line_val (word:ByteArray) (zs:List Int) (g cap:Nat) (w:World) (hw:word.size≤10) (hl:zs.length≤10) (hn:Nums zs) (R:RowZ w g zs) (T:Tens w):
 Calls Tryz.prog 48 #[.string word,.slice (some ⟨g,0,none⟩) zs.length cap] w fun e w'=>e= .returned (.string (word++ws zs++⟨#[10]⟩))∧Below w.heap.size w w':=lineW_val word zs g cap w hw hl hn.wide R T

def headT (t:Hd) (s:ByteArray):ByteArray:=⟨#[104,101,97,100]⟩++ws [t.id,t.cl,t.pr,t.fi,t.la]++⟨#[10,110,97,109,101,32]⟩++s++⟨#[10]⟩

def legT (l:Lg):ByteArray:=⟨#[108,101,103]⟩++ws [l.tr,l.dy,l.fr,l.to,l.co,l.se]++⟨#[10]⟩

def putT (t:Hd) (s:ByteArray) (ls:List Lg):Nat→ByteArray
 |0=>headT t s
 |k+1=>putT t s ls k++legT (ls.getD k ⟨0,0,0,0,0,0⟩)

def putS (t:Hd) (s:ByteArray) (ls:List Lg):ByteArray:=if okB t s ls=true then putT t s ls ls.length else⟨#[]⟩

theorem headB_nums (t:Hd) (h:headB t=true):Nums [t.id,t.cl,t.pr,t.fi,t.la]:=by
 unfold headB at h
 simp only[Bool.and_eq_true]at h
 obtain⟨⟨⟨⟨h1,h2⟩,h3⟩,h4⟩,h5⟩:=h
 have h1:=inB_yes h1
 have h2:=inB_yes h2
 have h3:=inB_yes h3
 have h4:=inB_yes h4
 have h5:=inB_yes h5
 intro z hz
 simp at hz
 rcases hz with rfl|rfl|rfl|rfl|rfl<;>omega

theorem seatB_nums (l:Lg) (h:seatB l=true):(0≤l.co∧l.co≤99)∧(0≤l.se∧l.se≤99):=by
 unfold seatB at h
 simp only[Bool.or_eq_true,Bool.and_eq_true,decide_eq_true_eq]at h
 rcases h with⟨h1,h2⟩|⟨h1,h2⟩
 ·omega
 ·have h1:=inB_yes h1
  have h2:=inB_yes h2
  omega

theorem legB_nums (l:Lg) (fi la:Int) (h:legB l fi la=true) (h0:0≤fi) (h1:la≤99999):Nums [l.tr,l.dy,l.fr,l.to,l.co,l.se]:=by
 unfold legB at h
 simp only[Bool.and_eq_true]at h
 obtain⟨⟨⟨⟨⟨a1,a2⟩,a3⟩,a4⟩,-⟩,a6⟩:=h
 have a1:=inB_yes a1
 have a2:=inB_yes a2
 have a3:=inB_yes a3
 have a4:=inB_yes a4
 have a6:=seatB_nums l a6
 intro z hz
 simp at hz
 rcases hz with rfl|rfl|rfl|rfl|rfl|rfl<;>omega

theorem okB_parts (t:Hd) (s:ByteArray) (ls:List Lg) (h:okB t s ls=true):Nums [t.id,t.cl,t.pr,t.fi,t.la]∧s.size≤40∧(1≤ls.length∧ls.length≤6)∧∀l∈ls,Nums [l.tr,l.dy,l.fr,l.to,l.co,l.se]:=by
 unfold okB at h
 simp only[Bool.and_eq_true]at h
 obtain⟨⟨⟨h1,h2⟩,h3⟩,h4⟩:=h
 have hn:=headB_nums t h1
 have h3:=inB_yes h3
 refine⟨hn,?_,by omega,?_⟩
 ·unfold nameB at h2
  simp only[Bool.and_eq_true,decide_eq_true_eq]at h2
  exact h2.2
 ·intro l hl
  unfold legsFrom at h4
  rw[List.drop_zero,List.all_eq_true]at h4
  have h5:0≤t.fi∧t.la≤99999:=by
   unfold headB at h1
   simp only[Bool.and_eq_true]at h1
   have b4:=inB_yes h1.1.2
   have b5:=inB_yes h1.2
   omega
  exact legB_nums l t.fi t.la (h4 l hl) h5.1 h5.2

theorem legT_size (l:Lg) (h:Nums [l.tr,l.dy,l.fr,l.to,l.co,l.se]):(legT l).size≤130:=by
 have h1:=ws_size _ h 6 (Nat.le_refl _)
 rw[show([l.tr,l.dy,l.fr,l.to,l.co,l.se]:List Int).take 6= [l.tr,l.dy,l.fr,l.to,l.co,l.se]from rfl]at h1
 unfold legT
 have h2:(⟨#[108,101,103]⟩:ByteArray).size=3:=rfl
 have h3:(⟨#[10]⟩:ByteArray).size=1:=rfl
 rw[ba_size,ba_size,h2,h3]
 omega

theorem headT_size (t:Hd) (s:ByteArray) (h:Nums [t.id,t.cl,t.pr,t.fi,t.la]) (hs:s.size≤40):(headT t s).size≤160:=by
 have h1:=ws_size _ h 5 (Nat.le_refl _)
 rw[show([t.id,t.cl,t.pr,t.fi,t.la]:List Int).take 5= [t.id,t.cl,t.pr,t.fi,t.la]from rfl]at h1
 unfold headT
 have h2:(⟨#[104,101,97,100]⟩:ByteArray).size=4:=rfl
 have h3:(⟨#[10]⟩:ByteArray).size=1:=rfl
 have h4:(⟨#[10,110,97,109,101,32]⟩:ByteArray).size=6:=rfl
 rw[ba_size,ba_size,ba_size,ba_size,h2,h3,h4]
 omega

theorem putT_size (t:Hd) (s:ByteArray) (ls:List Lg) (h:okB t s ls=true) (k:Nat) (hk:k≤ls.length):(putT t s ls k).size≤160+130*k:=by
 obtain⟨h1,h2,-,h4⟩:=okB_parts t s ls h
 induction k with
 |zero=>have:=headT_size t s h1 h2;unfold putT;omega
 |succ k ih=>
  have h5:=ih (by omega)
  have h6:=legT_size ls[k] (h4 _ (List.getElem_mem (by omega)))
  unfold putT
  rw[ba_size,List.getD_eq_getElem?_getD,List.getElem?_eq_getElem (by omega)]
  show(putT t s ls k).size+(legT ls[k]).size≤_
  omega

theorem putT_succ (t:Hd) (s:ByteArray) (ls:List Lg) (k:Nat) (hk:k<ls.length):putT t s ls (k+1)=putT t s ls k++legT ls[k]:=by
 rw[putT,List.getD_eq_getElem?_getD,List.getElem?_eq_getElem hk]
 rfl

end Tk
end Go.Proofs.YtcjgkmhpeedhiaaGreatDoor
