/- Contracts of PutTicket, of the program and of its model: the walks. -/
import Derived.Test.YtdfejmaekdgcdasDoorTkPut
import Derived.BigRegion
import Derived.Deep.RegionHeld3
namespace Go.Proofs.YtdfejmaekdgcdasDoor
namespace Tk
open Go.ChangeShapes Go.WideShapes Go.ChangeAt Go.RowKit
open Pk (new_below join_below cell_at heap_new frozen_at lt_of kept heap_old)
open Num (decS Tens)
set_option linter.unusedSimpArgs false
set_option linter.unusedVariables false

/-- A text and whether it is one. -/
abbrev p2V (s : ByteArray) (b : Bool) : Value := .tuple #[.string s, .bool b]

theorem head_i (t : Hd) (s X : ByteArray) (hX : X = ⟨#[104, 101, 97, 100]⟩ ++ ws [t.id, t.cl, t.pr, t.fi, t.la] ++ ⟨#[10]⟩) : X ++ ⟨#[110, 97, 109, 101]⟩ ++ ⟨#[32]⟩ ++ s ++ ⟨#[10]⟩ = headT t s := by
  subst hX
  unfold headT
  have e : (⟨#[10]⟩ : ByteArray) ++ ⟨#[110, 97, 109, 101]⟩ ++ ⟨#[32]⟩ = ⟨#[10, 110, 97, 109, 101, 32]⟩ := rfl
  rw [← e]
  simp only [ba_assoc]

theorem head_s (t : Hd) (s X : ByteArray) (hX : X = ws [t.id, t.cl, t.pr, t.fi, t.la]) : ⟨#[104, 101, 97, 100]⟩ ++ X ++ ⟨#[10, 110, 97, 109, 101, 32]⟩ ++ s ++ ⟨#[10]⟩ = headT t s := by
  subst hX
  rfl

theorem leg_s (l : Lg) (O X : ByteArray) (hX : X = ws [l.tr, l.dy, l.fr, l.to, l.co, l.se]) : O ++ ⟨#[108, 101, 103]⟩ ++ X ++ ⟨#[10]⟩ = O ++ legT l := by
  subst hX
  unfold legT
  simp only [ba_assoc]

theorem small_cat {a b : ByteArray} (ha : a.size ≤ 5000) (hb : b.size ≤ 5000) : ¬ (a.size + b.size > 9223372036854775807) := by omega

theorem undrew {w w1 : World} (h : Below w.drew.heap.size w.drew w1) : Below w.heap.size w w1 := ((Below.refl _ _).drew).trans h

theorem putS_yes (t : Hd) (s : ByteArray) (ls : List Lg) (h : okB t s ls = true) : putS t s ls = putT t s ls ls.length := if_pos h

theorem putS_no (t : Hd) (s : ByteArray) (ls : List Lg) (h : okB t s ls = false) : putS t s ls = ⟨#[]⟩ := if_neg (by rw [h]; simp)

end Tk
end Go.Proofs.YtdfejmaekdgcdasDoor
