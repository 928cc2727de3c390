/- A ticket that a function has made, marked and held against the marks. -/
import Derived.Test.YtcifgableeeooakDoorTkMark
import Derived.Test.YtcifgableeeooakDoorGtLegs
namespace Go.Proofs.YtcifgableeeooakDoor
namespace Gt
open Go.ChangeShapes Go.WideShapes Go.ChangeAt Go.RowKit
open Pk (own_at own_ge own_below own_form new_below join_below heap_new lt_of kept cell_at heap_old frozen_at Room)
open Tk (Lg Hd Legs tkV tkB Marked Band)
set_option linter.unusedSimpArgs false
set_option linter.unusedVariables false

/-- All blocks that were there, but one, are as they were. -/
structure But (g : Nat) (w w' : World) : Prop where
  os : w'.os = w.os
  tape : w'.tape = w.tape
  output : w'.output = w.output
  size : w.heap.size ≤ w'.heap.size
  block : ∀ b, b < w.heap.size → b ≠ g → w'.heap[b]? = w.heap[b]?

theorem But.below {g B : Nat} {a w w' : World} (h : But g w w') (L : Below B a w) (hB : B ≤ w.heap.size) (hg : B ≤ g) : Below B a w' :=
  ⟨h.os.trans L.os, h.tape.trans L.tape, h.output.trans L.output, Nat.le_trans L.size h.size, fun k hk => (h.block k (Nat.lt_of_lt_of_le hk hB) (by omega)).trans (L.block k hk)⟩

theorem But.keep {g b : Nat} {w w' : World} {x : Obj} (h : But g w w') (m : w.heap[b]? = some x) (hne : b ≠ g) : w'.heap[b]? = some x := (h.block b (lt_of m) hne).trans m

theorem But.own {g : Nat} {w w' : World} {base e z n : Nat} {v : Value} {xs : List Value} (h : But g w w') (O : w.ownsRow base e z v n xs) (hne : v.ownBlock ≠ some g) : w'.ownsRow base e z v n xs := by
  obtain ⟨hl, h2⟩ := O
  refine ⟨hl, ?_⟩
  rcases h2 with h2 | ⟨g', cap', cur, hv, hg, hh, h1, h3, h4, h5⟩
  · exact Or.inl h2
  · subst hv
    have hne2 : g' ≠ g := fun e => hne (by rw [e]; rfl)
    exact Or.inr ⟨g', cap', cur, rfl, hg, h.keep hh hne2, h1, h3, h4, h5⟩

theorem markTicket_val (t : Hd) (nm : ByteArray) (a : Option Addr) (g n cap : Nat) (w : World) (hn : n ≤ 1000000) (hg : g ≠ w.heap.size) (h : n = 0 ∨ (a = some ⟨g, 0, none⟩ ∧ Room w g (n * 6) ∧ g < w.heap.size)) :
    Calls Tryd.prog 15 #[tkV t nm a n cap, .int .i64 1] w fun e w' => e = .returned (.int .i64 (1 + 6 * (n : Int))) ∧ But g w w' ∧ Marked w' g n := by
  have N := new_below w (tkB t nm a n cap 33)
  have m0 := heap_new w (tkB t nm a n cap 33)
  have HM : Hid (∀ _ : Unit, _) := fun _ => Tk.markLegS_val a g n cap (w.alloc (tkB t nm a n cap 33)) (by omega) (h.imp id (fun h => ⟨h.1, fun j hj => by
    obtain ⟨⟨v, hv⟩, hf⟩ := h.2.1 j hj
    exact ⟨⟨v, by rw [N.cell (p := ⟨g, j, none⟩) h.2.2]; exact hv⟩, by rw [N.frozen (p := ⟨g, j, none⟩) h.2.2]; exact hf⟩⟩))
  have c6 : (w.alloc (tkB t nm a n cap 33)).cell? ⟨w.heap.size, 6, none⟩ = some (.slice a n cap) := cell_at m0 6
  clear h
  go_enter Tryd.func15, Tryd.ntmps15
  go_wp2_with fail
  refine (HM.out ()).mono ?_
  rintro e w1 ⟨rfl, B1, M1⟩
  have BB : But g w w1 := ⟨B1.os.trans N.os, B1.tape.trans N.tape, B1.output.trans N.output, by rw [B1.size]; exact N.size, fun b hb hne => (B1.block b (by omega)).trans (N.block b hb)⟩
  go_wp2
  go_ret
  exact ⟨rfl, BB, M1⟩

theorem heldTicket_val (t : Hd) (nm : ByteArray) (a : Option Addr) (g n cap : Nat) (w : World) (hn : n ≤ 1000000) (h : n = 0 ∨ (a = some ⟨g, 0, none⟩ ∧ g < w.heap.size)) (M : Marked w g n) :
    Calls Tryd.prog 16 #[tkV t nm a n cap, .int .i64 1] w fun e w' => e = .returned (.int .i64 (1 + 6 * (n : Int))) ∧ Below w.heap.size w w' := by
  have N := new_below w (tkB t nm a n cap 33)
  have m0 := heap_new w (tkB t nm a n cap 33)
  have M1 : Marked (w.alloc (tkB t nm a n cap 33)) g n := by
    rcases h with h | h
    · intro i hi
      omega
    · exact M.on N h.2
  have HM : Hid (∀ _ : Unit, _) := fun _ => Tk.heldLegS_val a g n cap (w.alloc (tkB t nm a n cap 33)) (by omega) (h.imp id (fun h => h.1)) M1
  have c6 : (w.alloc (tkB t nm a n cap 33)).cell? ⟨w.heap.size, 6, none⟩ = some (.slice a n cap) := cell_at m0 6
  clear h
  go_enter Tryd.func16, Tryd.ntmps16
  go_wp2_with fail
  refine (HM.out ()).mono ?_
  rintro e w1 ⟨rfl, rfl⟩
  go_wp2
  go_ret
  exact ⟨rfl, N⟩

end Gt
end Go.Proofs.YtcifgableeeooakDoor
