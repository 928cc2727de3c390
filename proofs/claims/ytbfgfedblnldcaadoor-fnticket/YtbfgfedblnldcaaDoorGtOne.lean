/- What GetTicket answers, of the program and of its model, is one thing. -/
import Derived.Test.YtbfgfedblnldcaaDoorGtImpl
import Derived.Test.YtbfgfedblnldcaaDoorGtSpec
import Derived.Test.YtbfgfedblnldcaaDoorGtMark
import Derived.Shelf.Vars
namespace Go.Proofs.YtbfgfedblnldcaaDoor
namespace Gt
open Go.ChangeShapes Go.WideShapes Go.ChangeAt Go.RowKit
open Pk (own_at own_ge own_below own_form new_below join_below heap_new lt_of kept cell_at heap_old frozen_at Room)
open Tk (Lg Hd Legs tkV tkB Marked okB_parts)
set_option linter.unusedSimpArgs false
set_option linter.unusedVariables false

/-- An answer of GetTicket, written out. -/
def GetIs (t : Hd) (nm : ByteArray) (ls : List Lg) (ok : Bool) (base : Nat) (e : Ending) (w : World) : Prop :=
  ∃ a cap, e = .returned (.tuple #[tkV t nm a ls.length cap, .bool ok]) ∧ w.ownsRow base 40 6 (.slice a ls.length cap) ls.length (lcells ls)

theorem get_one (s : ByteArray) : ∃ t nm ls ok, ls.length ≤ 6 ∧ ∀ base e w, GetEnd s base e w → GetIs t nm ls ok base e w := by
  by_cases h : ∃ t nm ls, Good s t nm ls
  · obtain ⟨t, nm, ls, hg⟩ := h
    refine ⟨t, nm, ls, true, (okB_parts t nm ls hg.1).2.2.1.2, ?_⟩
    rintro base e w (⟨t', nm', ls', a, cap, hg', rfl, O⟩ | ⟨hn, -⟩)
    · obtain ⟨rfl, rfl, rfl⟩ := good_one hg hg'
      exact ⟨a, cap, rfl, O⟩
    · exact absurd hg (hn t nm ls)
  · refine ⟨⟨0, 0, 0, 0, 0⟩, ⟨#[]⟩, [], false, by simp, ?_⟩
    rintro base e w (⟨t', nm', ls', a, cap, hg', rfl, O⟩ | ⟨-, rfl⟩)
    · exact absurd ⟨t', nm', ls', hg'⟩ h
    · exact ⟨none, 0, rfl, ⟨rfl, Or.inl ⟨rfl, rfl⟩⟩⟩

theorem specGet_is {s : ByteArray} {t : Hd} {nm : ByteArray} {ls : List Lg} {ok : Bool} (hs : s.size ≤ 1048576) (H : ∀ base e w, GetEnd s base e w → GetIs t nm ls ok base e w) (w : World) :
    Calls Tryd.prog 13 #[.string s] w fun e w' => GetIs t nm ls ok w.heap.size e w' ∧ Below w.heap.size w w' :=
  (specGet_val s w hs (fun _ _ _ h => shape h)).mono fun e w' h => ⟨H _ _ _ h.1, h.2⟩

theorem implGet_is {s : ByteArray} {t : Hd} {nm : ByteArray} {ls : List Lg} {ok : Bool} (hs : s.size ≤ 1048576) (H : ∀ base e w, GetEnd s base e w → GetIs t nm ls ok base e w) (w : World) (M : ML w) (Tn : Num.Tens w) :
    Calls Tryd.prog 10 #[.string s] w fun e w' => GetIs t nm ls ok w.heap.size e w' ∧ Below w.heap.size w w' :=
  (implGet_val s w hs M Tn).mono fun e w' h => ⟨H _ _ _ h.1, h.2⟩

theorem ml_of {w : World} (h : w.ShapedOpen Tryd.prog) : ML w :=
  cell_of_shapedOpen_int (zero := #[.int .i64 0]) (t := 3) h (of_decide_eq_true (by kernel_rfl)) (by kernel_rfl) rfl (by kernel_rfl) (by kernel_rfl) Tryd.underlying3

/-- The block of a row of legs, where there are legs. -/
theorem legs_blk {w : World} {base : Nat} {a : Option Addr} {ls : List Lg} {cap : Nat} (O : w.ownsRow base 40 6 (.slice a ls.length cap) ls.length (lcells ls)) (hb : base ≤ w.heap.size) :
    ∃ g, base ≤ g ∧ g ≠ w.heap.size ∧ (ls.length = 0 ∨ (a = some ⟨g, 0, none⟩ ∧ Room w g (ls.length * 6) ∧ g < w.heap.size)) ∧ ((Value.slice a ls.length cap).ownBlock = some g ∨ w.heap.size < g) := by
  by_cases h0 : ls.length = 0
  · exact ⟨w.heap.size + 1, by omega, by omega, Or.inl h0, Or.inr (by omega)⟩
  · obtain ⟨g, cp, e, h1, h2, h3, h4⟩ := own_cell O (by omega)
    simp only [Value.slice.injEq, true_and] at e
    obtain ⟨rfl, rfl⟩ := e
    refine ⟨g, h1, by omega, Or.inr ⟨rfl, fun j hj => ⟨?_, h4 j⟩, h2⟩, Or.inl rfl⟩
    have hx : j < (lcells ls).length := by rw [lcells_length]; omega
    exact ⟨_, h3 j _ (List.getElem?_eq_getElem hx)⟩

end Gt
end Go.Proofs.YtbfgfedblnldcaaDoor
