/- An office that a law takes is one whose text can be told. -/
import Derived.Test.YtbmcnkfhiiicjaaDoorOtMath
namespace Go.Proofs.YtbmcnkfhiiicjaaDoor
namespace Ot
open Go.ChangeShapes Go.WideShapes Go.ChangeAt Go.RowKit
open Tk (ws Wide)
open Of (Offc)

theorem wf_bd {z : Int} (h : (Lit.int .i64 z).wf = true) : -9223372036854775808 ≤ z ∧ z ≤ 9223372036854775807 := bounds_i64 h

theorem wide_cons {z : Int} {l : List Int} (h : (Lit.int .i64 z).wf = true) (g : Wide l) : Wide (z :: l) := by
  intro y hy
  rcases List.mem_cons.1 hy with rfl | hy
  · exact wf_bd h
  · exact g y hy

theorem wide_nil : Wide [] := fun y hy => by cases hy

theorem sum_at (l : List Od.Oo) (x : Od.Oo) (h : x ∈ l) : x.h.nm.size ≤ Od.bulk l := by
  obtain ⟨k, hk, rfl⟩ := List.mem_iff_getElem.1 h
  have h1 := Od.sumTo_step l k hk
  have h2 := Od.sumTo_mono l (k + 1) l.length (by omega)
  have h3 : l[k].sz = l[k].h.nm.size + l[k].l.length := rfl
  unfold Od.bulk
  omega

theorem fit_of {o : Offc} (h : Of.Lim o) (z : Of.Small o) : Fit o := by
  obtain ⟨-, -, z3, z4, z5⟩ := z
  refine ⟨wide_cons h.td wide_nil, fun x hx => ⟨?_, ?_⟩, fun x hx => ?_, fun x hx => ?_, ?_, z3, z5⟩
  · have q := h.ow x hx
    exact wide_cons q.id (wide_cons q.st (wide_cons q.cl (wide_cons q.ca (wide_cons q.pr (wide_cons q.pa (wide_cons q.fi wide_nil))))))
  · have := sum_at o.od x hx
    omega
  · have q := h.hw x hx
    exact wide_cons q.tr (wide_cons q.dy (wide_cons q.co (wide_cons q.se (wide_cons q.ba (wide_cons q.be (wide_cons q.od wide_nil))))))
  · have q := h.tw x hx
    exact wide_cons q.rq (wide_cons q.sa (wide_cons q.od (wide_cons q.am wide_nil)))
  · unfold Od.bulk at z4
    omega

end Ot
end Go.Proofs.YtbmcnkfhiiicjaaDoor
