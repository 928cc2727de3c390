/- Blocks of cells that are told by a function of their number. -/
import Derived.Test.YtdcpjicgehdmfaaGreatDoorPkRow
import Derived.Laws.MakeOwn
namespace Go.Proofs.YtdcpjicgehdmfaaGreatDoor
namespace Sq
open Go.ChangeShapes Go.WideShapes Go.ChangeAt Go.RowKit
set_option linter.unusedSimpArgs false
set_option linter.unusedVariables false

def tab (c:Nat) (f:Nat→Value):Array Value:=((List.range c).map f).toArray

theorem tab_at (c:Nat) (f:Nat→Value) (i:Nat) (h:i<c):(tab c f)[i]? =some (f i):=by simp[tab,h]

theorem tab_congr {c:Nat} {f g:Nat→Value} (h:∀j,j<c→f j=g j):tab c f=tab c g:=by
 unfold tab
 congr 1
 exact List.map_congr_left fun j hj=>h j (List.mem_range.1 hj)

theorem tab_set (c:Nat) (f:Nat→Value) (i:Nat) (u:Value):(tab c f).setIfInBounds i u=tab c (fun j=>if j=i then u else f j):=by
 apply Array.ext
 ·simp[tab]
 ·intro j h1 h2
  have hj:j<c:=by simpa [tab]using h2
  by_cases e:i=j
  ·subst e;simp[tab]
  ·simp[tab,e,Ne.symm e,Array.getElem_setIfInBounds]

theorem row_at {w:World} {g c:Nat} {f:Nat→Value} {t:TypeId} (h:w.heap[g]? =some (.cells (tab c f) t)) (i:Nat) (hi:i<c):w.cell? ⟨g,i,none⟩=some (f i):=by
 rw[Pk.cell_at h i,tab_at c f i hi]

theorem row_set {w:World} {g c:Nat} {f f':Nat→Value} {t:TypeId} (h:w.heap[g]? =some (.cells (tab c f) t)) (i:Nat) (u:Value) (hf:∀j,j<c→f' j=if j=i then u else f j):(w.setCell ⟨g,i,none⟩ u).heap[g]? =some (.cells (tab c f') t):=by
 rw[tab_congr hf,←tab_set]
 unfold World.setCell
 simp[Array.getElem?_modify,h]

theorem made_tab (z:Value) (hz:z.cells= #[z]) (c:Nat):madeCells z.cells (c*1)=tab c (fun _=>z):=by
 apply Array.ext
 ·simp[madeCells,tab]
 ·intro i h1 h2
  simp[madeCells,tab,hz,Nat.mod_one]

theorem make_run (t e:TypeId) (z:Value) (b c:Nat) (ht:Tryz.prog.underlying t=some (.slice e)) (hi:(Tryz.prog.info? e).map (fun i=>(i.zero,i.size,i.bytes))=some (some z,1,b)) (hz:z.cells= #[z]) (hc:b*c≤281474976710656) (h63:c≤281474976710656) (w:World):
 (Instr.makeSlice t (.int .i64 c) (.int .i64 c)).run Tryz.prog w= .ok (.slice (some ⟨w.heap.size,0,none⟩) c c) (w.alloc (.cells (tab c (fun _=>z)) e)):=by
 obtain⟨i,h1,h2,h3,h4⟩:=Pk.info_of hi
 have h:=run_make (P:=Tryz.prog) w t e i z ht h1 h2 .i64 .i64 c c (by omega) (by omega) (by rw[h4];omega) (by omega)
 rw[Int.toNat_natCast,h3,made_tab z hz]at h
 exact h

end Sq
end Go.Proofs.YtdcpjicgehdmfaaGreatDoor
