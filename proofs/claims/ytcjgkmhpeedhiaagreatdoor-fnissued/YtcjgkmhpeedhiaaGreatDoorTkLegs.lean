/- Contracts of the laws' own helpers over legs: a copy of a slice of them, and two such slices held against each other. -/
import Derived.Test.YtcjgkmhpeedhiaaGreatDoorPkRow
namespace Go.Proofs.YtcjgkmhpeedhiaaGreatDoor
namespace Tk
open Go.ChangeShapes Go.WideShapes Go.ChangeAt Go.RowKit
open Pk (new_below join_below cell_at heap_new frozen_at lt_of kept info_of own_form own_below)
set_option linter.unusedSimpArgs false
set_option linter.unusedVariables false

structure Lg where
 tr:Int
 dy:Int
 fr:Int
 to:Int
 co:Int
 se:Int

abbrev lgV (p:Lg):Value:= .agg #[.int .i64 p.tr,.int .i64 p.dy,.int .i64 p.fr,.int .i64 p.to,.int .i64 p.co,.int .i64 p.se]

def Legs (w:World) (a:Option Addr) (ps:List Lg):Prop:=
 ps= []∨∃b o,a=some ⟨b,o,none⟩∧b<w.heap.size∧∀i (h:i<ps.length),w.cell? ⟨b,o+i*6,none⟩=some (.int .i64 ps[i].tr)∧w.cell? ⟨b,o+i*6+1,none⟩=some (.int .i64 ps[i].dy)∧w.cell? ⟨b,o+i*6+2,none⟩=some (.int .i64 ps[i].fr)∧w.cell? ⟨b,o+i*6+3,none⟩=some (.int .i64 ps[i].to)∧w.cell? ⟨b,o+i*6+4,none⟩=some (.int .i64 ps[i].co)∧w.cell? ⟨b,o+i*6+5,none⟩=some (.int .i64 ps[i].se)

theorem Legs.on {w w1:World} {a:Option Addr} {ps:List Lg} (h:Legs w a ps) (L:Below w.heap.size w w1):Legs w1 a ps:=by
 rcases h with h|⟨b,o,ha,hb,hc⟩
 ·exact Or.inl h
 ·exact Or.inr ⟨b,o,ha,Nat.lt_of_lt_of_le hb L.size,fun i hi=>by rw[L.cell (p:=⟨b,o+i*6,none⟩) hb,L.cell (p:=⟨b,o+i*6+1,none⟩) hb,L.cell (p:=⟨b,o+i*6+2,none⟩) hb,L.cell (p:=⟨b,o+i*6+3,none⟩) hb,L.cell (p:=⟨b,o+i*6+4,none⟩) hb,L.cell (p:=⟨b,o+i*6+5,none⟩) hb];exact hc i hi⟩

theorem Legs.at {w:World} {a:Option Addr} {ps:List Lg} (h:Legs w a ps) (k:Nat) (hk:k<ps.length):∃b o,a=some ⟨b,o,none⟩∧b<w.heap.size∧w.cell? ⟨b,o+k*6,none⟩=some (.int .i64 ps[k].tr)∧w.cell? ⟨b,o+k*6+1,none⟩=some (.int .i64 ps[k].dy)∧w.cell? ⟨b,o+k*6+2,none⟩=some (.int .i64 ps[k].fr)∧w.cell? ⟨b,o+k*6+3,none⟩=some (.int .i64 ps[k].to)∧w.cell? ⟨b,o+k*6+4,none⟩=some (.int .i64 ps[k].co)∧w.cell? ⟨b,o+k*6+5,none⟩=some (.int .i64 ps[k].se):=by
 rcases h with h|⟨b,o,ha,hb,hc⟩
 ·subst h;simp at hk
 ·exact⟨b,o,ha,hb,hc k hk⟩

theorem info_leg:(Tryz.prog.info? 64).map (fun i=>(i.zero,i.size,i.bytes))=some (some (lgV ⟨0,0,0,0,0,0⟩),6,48):=by kernel_rfl

def Laidleg (w:World) (g n k:Nat) (ps:List Lg):Prop:=(∀j,j<n*6→(∃v,w.cell? ⟨g,j,none⟩=some v)∧w.frozen? ⟨g,j,none⟩=false)∧
 ∀i (h:i<ps.length),i<k→w.cell? ⟨g,i*6,none⟩=some (.int .i64 ps[i].tr)∧w.cell? ⟨g,i*6+1,none⟩=some (.int .i64 ps[i].dy)∧w.cell? ⟨g,i*6+2,none⟩=some (.int .i64 ps[i].fr)∧w.cell? ⟨g,i*6+3,none⟩=some (.int .i64 ps[i].to)∧w.cell? ⟨g,i*6+4,none⟩=some (.int .i64 ps[i].co)∧w.cell? ⟨g,i*6+5,none⟩=some (.int .i64 ps[i].se)

theorem set_cell {w:World} {g i j:Nat} {u v:Value} (h:w.cell? ⟨g,i,none⟩=some v):(w.setCell ⟨g,j,none⟩ u).cell? ⟨g,i,none⟩=some (if i=j then u else v):=by
 by_cases e:i=j
 ·subst e
  rw[if_pos rfl]
  exact World.cell?_setCell_same _ _ _ h
 ·rw[if_neg e,World.cell?_setCell_other _ _ _ _ (by intro h;apply e;simpa using h.symm)]
  exact h

def setleg (w:World) (g j:Nat) (p:Lg):World:=(((((w.setCell ⟨g,j,none⟩ (.int .i64 p.tr)).setCell ⟨g,j+1,none⟩ (.int .i64 p.dy)).setCell ⟨g,j+2,none⟩ (.int .i64 p.fr)).setCell ⟨g,j+3,none⟩ (.int .i64 p.to)).setCell ⟨g,j+4,none⟩ (.int .i64 p.co)).setCell ⟨g,j+5,none⟩ (.int .i64 p.se)

theorem setleg_cell {w:World} {g i j:Nat} {p:Lg} {v:Value} (h:w.cell? ⟨g,i,none⟩=some v):(setleg w g j p).cell? ⟨g,i,none⟩=some (if i=j+5 then .int .i64 p.se else if i=j+4 then .int .i64 p.co else if i=j+3 then .int .i64 p.to else if i=j+2 then .int .i64 p.fr else if i=j+1 then .int .i64 p.dy else if i=j then .int .i64 p.tr else v):=set_cell (set_cell (set_cell (set_cell (set_cell (set_cell h)))))

theorem Laidleg.on {w w1:World} {g n k:Nat} {ps:List Lg} (h:Laidleg w g n k ps) {B:Nat} (L:Below B w w1) (hg:g<B):Laidleg w1 g n k ps:=by
 refine⟨fun j hj=> ?_,fun i hi hk=> ?_⟩
 ·rw[L.cell (p:=⟨g,j,none⟩) hg,L.frozen (p:=⟨g,j,none⟩) hg]
  exact h.1 j hj
 ·rw[L.cell (p:=⟨g,i*6,none⟩) hg,L.cell (p:=⟨g,i*6+1,none⟩) hg,L.cell (p:=⟨g,i*6+2,none⟩) hg,L.cell (p:=⟨g,i*6+3,none⟩) hg,L.cell (p:=⟨g,i*6+4,none⟩) hg,L.cell (p:=⟨g,i*6+5,none⟩) hg]
  exact h.2 i hi hk

theorem Laidleg.step {w:World} {g n k:Nat} {ps:List Lg} (h:Laidleg w g n k ps) (hk:k<n) (hkp:k<ps.length):Laidleg (setleg w g (k*6) ps[k]) g n (k+1) ps:=by
 refine⟨fun j hj=> ?_,fun i hi hik=> ?_⟩
 ·obtain⟨⟨v,hv⟩,hf⟩:=h.1 j hj
  exact⟨⟨_,setleg_cell hv⟩,by unfold setleg;rw[World.frozen?_setCell,World.frozen?_setCell,World.frozen?_setCell,World.frozen?_setCell,World.frozen?_setCell,World.frozen?_setCell];exact hf⟩
 ·by_cases e:i=k
  ·subst e
   obtain⟨⟨v0,h0⟩,-⟩:=h.1 (i*6) (by omega)
   obtain⟨⟨v1,h1⟩,-⟩:=h.1 (i*6+1) (by omega)
   obtain⟨⟨v2,h2⟩,-⟩:=h.1 (i*6+2) (by omega)
   obtain⟨⟨v3,h3⟩,-⟩:=h.1 (i*6+3) (by omega)
   obtain⟨⟨v4,h4⟩,-⟩:=h.1 (i*6+4) (by omega)
   obtain⟨⟨v5,h5⟩,-⟩:=h.1 (i*6+5) (by omega)
   rw[setleg_cell h0,setleg_cell h1,setleg_cell h2,setleg_cell h3,setleg_cell h4,setleg_cell h5]
   simp
  ·obtain⟨h0,h1,h2,h3,h4,h5⟩:=h.2 i hi (by omega)
   rw[setleg_cell h0,setleg_cell h1,setleg_cell h2,setleg_cell h3,setleg_cell h4,setleg_cell h5]
   rw[if_neg (by omega),if_neg (by omega),if_neg (by omega),if_neg (by omega),if_neg (by omega),if_neg (by omega),if_neg (by omega),if_neg (by omega),if_neg (by omega),if_neg (by omega),if_neg (by omega),if_neg (by omega),if_neg (by omega),if_neg (by omega),if_neg (by omega),if_neg (by omega),if_neg (by omega),if_neg (by omega),if_neg (by omega),if_neg (by omega),if_neg (by omega),if_neg (by omega),if_neg (by omega),if_neg (by omega),if_neg (by omega),if_neg (by omega),if_neg (by omega),if_neg (by omega),if_neg (by omega),if_neg (by omega),if_neg (by omega),if_neg (by omega),if_neg (by omega),if_neg (by omega),if_neg (by omega),if_neg (by omega)]
   exact⟨rfl,rfl,rfl,rfl,rfl,rfl⟩

theorem Laidleg.all {w:World} {g:Nat} {ps:List Lg} (h:Laidleg w g ps.length ps.length ps) (hg:g<w.heap.size):Legs w (some ⟨g,0,none⟩) ps:=
 Or.inr ⟨g,0,rfl,hg,fun i hi=>by rw[Nat.zero_add];exact h.2 i hi hi⟩

end Tk
end Go.Proofs.YtcjgkmhpeedhiaaGreatDoor
