/- Offices: their size, two of them held against each other, one that came in. -/
import Derived.Test.YtaplbjoghkipdaaDoorTnTrains2
import Derived.Test.YtaplbjoghkipdaaDoorTfOpen
import Derived.Test.YtaplbjoghkipdaaDoorSeOpen
import Derived.Test.YtaplbjoghkipdaaDoorOfRepOpen
import Derived.Test.YtaplbjoghkipdaaDoorOfOrds2
namespace Go.Proofs.YtaplbjoghkipdaaDoor
namespace Of
open Go.ChangeShapes Go.WideShapes Go.ChangeAt Go.RowKit Go.Joins
open Pk (new_below join_below cell_at heap_new frozen_at lt_of kept heap_old info_of Room)
set_option linter.unusedSimpArgs false
set_option linter.unusedVariables false

/-- An office. -/
structure Offc where
  ln : List Tn.Tr
  ta : List Tf.Ed
  ho : List Se.Hl
  od : List Od.Oo
  to : List Rp.Rr
  td : Int

/-- Where its lists lie, and their room. -/
structure Pl where
  a0 : Option Addr
  a1 : Option Addr
  a2 : Option Addr
  a3 : Option Addr
  a4 : Option Addr
  c0 : Nat
  c1 : Nat
  c2 : Nat
  c3 : Nat
  c4 : Nat

/-- It as a value. -/
abbrev ofV (x : Pl) (o : Offc) : Value := .agg #[.slice x.a0 o.ln.length x.c0, .slice x.a1 o.ta.length x.c1, .slice x.a2 o.ho.length x.c2, .slice x.a3 o.od.length x.c3, .slice x.a4 o.to.length x.c4, .int .i64 o.td]

/-- It in a block of its own. -/
abbrev ofB (x : Pl) (o : Offc) (ty : TypeId) : Obj := .cells #[.slice x.a0 o.ln.length x.c0, .slice x.a1 o.ta.length x.c1, .slice x.a2 o.ho.length x.c2, .slice x.a3 o.od.length x.c3, .slice x.a4 o.to.length x.c4, .int .i64 o.td] ty

/-- Its lists, as they came in. -/
structure InA (w : World) (x : Pl) (o : Offc) : Prop where
  ln : Tn.TrainsA w x.a0 o.ln
  ta : Tf.Edges w x.a1 o.ta
  ho : Se.Holds w x.a2 o.ho
  od : Od.Orders w x.a3 o.od
  to : Rp.Replys w x.a4 o.to

/-- Its lists, none of whose stops are nil. -/
structure In (w : World) (x : Pl) (o : Offc) : Prop where
  ln : Tn.Trains w x.a0 o.ln
  ta : Tf.Edges w x.a1 o.ta
  ho : Se.Holds w x.a2 o.ho
  od : Od.Orders w x.a3 o.od
  to : Rp.Replys w x.a4 o.to

theorem InA.on {w w1 : World} {x : Pl} {o : Offc} (h : InA w x o) (L : Below w.heap.size w w1) : InA w1 x o := ⟨h.ln.on L, h.ta.on L, h.ho.on L, h.od.on L, h.to.on L⟩

theorem In.on {w w1 : World} {x : Pl} {o : Offc} (h : In w x o) (L : Below w.heap.size w w1) : In w1 x o := ⟨h.ln.on L, h.ta.on L, h.ho.on L, h.od.on L, h.to.on L⟩

/-- None of its lists is longer than a list can be; its numbers are such as an int holds. -/
structure Lim (o : Offc) : Prop where
  ln : o.ln.length ≤ maxLen
  st : ∀ i (h : i < o.ln.length), o.ln[i].l.length ≤ maxLen
  ta : o.ta.length ≤ maxLen
  ho : o.ho.length ≤ maxLen
  hw : Se.Wfs o.ho
  od : o.od.length ≤ maxLen
  os : ∀ i (h : i < o.od.length), o.od[i].h.nm.size ≤ maxLen ∧ o.od[i].l.length ≤ maxLen
  ow : ∀ t ∈ o.od, Od.Wf t
  to : o.to.length ≤ maxLen
  tw : Rp.Wfs o.to
  td : (Lit.int .i64 o.td).wf = true

/-- None of its lists is too great for the law. -/
def Small (o : Offc) : Prop := Tn.bulk o.ln ≤ 1048576 ∧ o.ta.length ≤ 1048576 ∧ o.ho.length ≤ 1048576 ∧ Od.bulk o.od ≤ 1048576 ∧ o.to.length ≤ 1048576

theorem small_of {o : Offc} (h : 0 ≤ 1048576 - (Tn.bulk o.ln : Int) - (o.ta.length : Int) - (o.ho.length : Int) - (Od.bulk o.od : Int) - (o.to.length : Int)) : Small o := by
  unfold Small
  omega

end Of
end Go.Proofs.YtaplbjoghkipdaaDoor
