/- The errors that the program's variables hold: what the rows list of them, a world that holds them, and how they stay. -/
import Derived.Test.YtcjgkmhpeedhiaaGreatDoorRows
import Derived.WalkKit
import Derived.ProofKit
import Derived.OpenShut
import Derived.OpenVars
import Derived.Deep.DeepHandedRow
import Derived.Stop.LaidErr
import Derived.ChangeOld
import Derived.Below
namespace Go.Proofs.YtcjgkmhpeedhiaaGreatDoor
namespace Errs
open Go.ChangeShapes Go.WideShapes Go.ChangeAt Go.RowKit

def ErrAt (g:Nat) (w:World):Prop:=∃a:Addr,w.cell? ⟨g,0,none⟩=some (.iface 217 (.pointer (some a)))
theorem ErrAt.on {g:Nat} {w w1:World} (h:ErrAt g w) (hb:Below w.heap.size w w1):ErrAt g w1:=by
 obtain⟨a,ha⟩:=h
 refine⟨a,?_⟩
 rw[hb.cell (p:=⟨g,0,none⟩) ?_]
 ·exact ha
 ·apply Nat.lt_of_not_le
  intro hle
  unfold World.cell? at ha
  rw[Array.getElem?_eq_none hle]at ha
  simp at ha

theorem own:ownKnob Tryz.prog.godebug=none:=by kernel_rfl

theorem laidOut:laidOutB Tryz.prog=true:=by kernel_rfl

theorem star: "*" ++ "errors.errorString" = "*errors.errorString" :=by decide

theorem rowE (u:TypeId) (h:Tryz.prog.typeName? 3 u=some "*errors.errorString"):u=217:=
 typeName_ptr_named (nm:= "errors.errorString") (by rw[star];kernel_rfl) (by kernel_rfl) (by decide) u (by rw[star];exact h)

theorem cellsE:Tryz.prog.cellsOf 253=1:=by kernel_rfl

theorem cellsS:Tryz.prog.cellsOf 9=1:=by kernel_rfl

theorem head {n:String} {d:DataW Unit} {r:List (String×DataW Unit)} {W:World} {g:Nat} (h:laidMet Tryz.prog ((n,d)::r) W) (hd:∃text,d= .iface "*errors.errorString" (.ptr (.agg [.lit (.string text)])))
 (hg:Tryz.prog.globalNamed n=some g) (ht:(Tryz.prog.globals[g]?).map (·.type)=some 58):ErrAt g W:=by
 obtain⟨text,rfl⟩:=hd
 obtain⟨a,s,hv,_,_,_⟩:=laid_sentinel h hg ht Tryz.underlying58 rowE Tryz.underlying217 Tryz.underlying253 rfl rfl Tryz.underlying9 cellsE cellsS
 exact⟨a,by simpa using World.var?_cell hg hv 0⟩

def textOf:DataW Unit→ByteArray
 | .iface _ (.ptr (.agg [.lit (.string b)]))=>⟨b.toArray⟩
 |_=>⟨#[]⟩

def put (c:Array Value):Obj→Obj
 | .cells _ t frozen=> .cells c t frozen
 |o=>o

def errW (g:Nat) (d:DataW Unit) (w:World):World:=
 { w with heap:=(w.heap.push (.cells #[.string (textOf d)] 253)).modify g (put #[.iface 217 (.pointer (some ⟨w.heap.size,0,none⟩))]) }

theorem len_cons {α:Type} {l:List α} {n:Nat} (h:l.length=n+1):∃a r,l=a::r∧r.length=n:=by
 cases l with
 |nil=>cases h
 |cons a r=>exact⟨a,r,rfl,by simpa using h⟩

theorem vars_len {H:Type} {enc:TypeId×Value→H} {P:Program} {w:World} {sp:Nat→Bool}:∀ {ns:List String} {gs:List (DataW H)} {ps:List MemPlace},DataW.TrodVars enc P w sp ns gs ps→gs.length=ns.length
 | [],[],_,_=>rfl
 | [],_::_,_,h=>h.elim
 |_::_,[],_,h=>h.elim
 |_::_,_::_,_,h=>by
  obtain⟨_,_,_,_,_,_,_,_,_,_,hs,_⟩:=h
  simp[vars_len hs]

end Errs
end Go.Proofs.YtcjgkmhpeedhiaaGreatDoor
