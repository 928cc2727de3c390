/- The draws of the law of tickets. -/
import Derived.Test.YtbfgfedblnldcaaDoorCurTk2
import Derived.Test.YtbfgfedblnldcaaDoorCurSpl
namespace Go.Proofs.YtbfgfedblnldcaaDoor
namespace Cur
open Go.ChangeShapes Go.WideShapes Go.ChangeAt Go.RowKit
open Pk (own_form new_below join_below heap_new lt_of kept cell_at heap_old frozen_at info_of own_below own_ne own_ne')
open Tk (Lg Hd tkV tkB putS putT okB p2V Legs)
open Gt (lcells lc1)
open Num (Tens)
set_option linter.unusedSimpArgs false
set_option linter.unusedVariables false

theorem Tkt.on {lo : Nat} {w w1 : World} {t : Hd} {nm : ByteArray} {va : Option Addr} {vc : Nat} {ls : List Lg} (h : Tkt lo w t nm va vc ls) (L : Below w.heap.size w w1) : Tkt lo w1 t nm va vc ls := ⟨own_below h.own L (Nat.le_refl _), h.nm, h.len⟩

theorem Tkt.legs {lo : Nat} {w : World} {t : Hd} {nm : ByteArray} {va : Option Addr} {vc : Nat} {ls : List Lg} (h : Tkt lo w t nm va vc ls) : Legs w va ls := by
  obtain ⟨a, c, e, I⟩ := Gt.own_legs h.own
  simp only [Value.slice.injEq, true_and] at e
  rw [e.1]
  exact I

theorem put_small (t : Hd) (nm : ByteArray) (ls : List Lg) : (putS t nm ls).size ≤ 1000 := by
  unfold putS
  split
  · rename_i h
    have h1 := Tk.putT_size t nm ls h ls.length (Nat.le_refl _)
    have h2 := (Tk.okB_parts t nm ls h).2.2.1.2
    omega
  · exact Nat.zero_le _

set_option maxRecDepth 100000 in
set_option maxHeartbeats 4000000 in
theorem drawPut (W0 : World) (a : Option Addr) (n cap : Nat) (hn : n ≤ 1048576) (B : Bytes W0 a n) :
    Calls Tryd.prog 5 #[.slice a n cap] W0 fun e w' => (∃ (t : Hd) (nm : ByteArray) (va : Option Addr) (vc : Nat) (ls : List Lg), e = .returned (tkV t nm va ls.length vc) ∧ Tkt W0.heap.size w' t nm va vc ls) ∧ Below W0.heap.size W0 w' := by
  have N1 := new_below W0 (tkB ⟨0, 0, 0, 0, 0⟩ ⟨#[]⟩ none 0 0 26)
  have p1 := heap_new W0 (tkB ⟨0, 0, 0, 0, 0⟩ ⟨#[]⟩ none 0 0 26)
  have e1 : (W0.alloc (tkB ⟨0, 0, 0, 0, 0⟩ ⟨#[]⟩ none 0 0 26)).heap.size = W0.heap.size + 1 := Array.size_push ..
  go_enter Tryd.func5, Tryd.ntmps5
  go_wp2_with fail
  refine (new_any (W0.alloc (tkB ⟨0, 0, 0, 0, 0⟩ ⟨#[]⟩ none 0 0 26)) a n cap hn (B.on N1)).mono ?_
  generalize W0.alloc (tkB ⟨0, 0, 0, 0, 0⟩ ⟨#[]⟩ none 0 0 26) = W1 at *
  rintro e w2 ⟨rfl, C2⟩
  have hPc : W0.heap.size ≠ W1.heap.size := by omega
  have p2 := kept C2.below (lt_of p1) p1
  have hsw : W0.heap.size ≤ w2.heap.size := by have := C2.lt; omega
  generalize W1.heap.size = c at *
  clear e1 p1 B
  go_wp2_with fail
  refine (any_any C2).mono ?_
  rintro e w3 ⟨⟨t, nm, va, vc, ls, rfl, D3⟩, C3, K3⟩
  have p3 := K3.at hPc p2
  clear p2 C2 K3
  have b0 : w3.cell? ⟨W0.heap.size, 0, none⟩ = some (.int .i64 0) := cell_at p3 0
  have f0 : w3.frozen? ⟨W0.heap.size, 0, none⟩ = false := frozen_at p3 0
  have b1 : w3.cell? ⟨W0.heap.size, 1, none⟩ = some (.string ⟨#[]⟩) := cell_at p3 1
  have f1 : w3.frozen? ⟨W0.heap.size, 1, none⟩ = false := frozen_at p3 1
  have b2 : w3.cell? ⟨W0.heap.size, 2, none⟩ = some (.int .i64 0) := cell_at p3 2
  have f2 : w3.frozen? ⟨W0.heap.size, 2, none⟩ = false := frozen_at p3 2
  have b3 : w3.cell? ⟨W0.heap.size, 3, none⟩ = some (.int .i64 0) := cell_at p3 3
  have f3 : w3.frozen? ⟨W0.heap.size, 3, none⟩ = false := frozen_at p3 3
  have b4 : w3.cell? ⟨W0.heap.size, 4, none⟩ = some (.int .i64 0) := cell_at p3 4
  have f4 : w3.frozen? ⟨W0.heap.size, 4, none⟩ = false := frozen_at p3 4
  have b5 : w3.cell? ⟨W0.heap.size, 5, none⟩ = some (.int .i64 0) := cell_at p3 5
  have f5 : w3.frozen? ⟨W0.heap.size, 5, none⟩ = false := frozen_at p3 5
  have b6 : w3.cell? ⟨W0.heap.size, 6, none⟩ = some (.slice none 0 0) := cell_at p3 6
  have f6 : w3.frozen? ⟨W0.heap.size, 6, none⟩ = false := frozen_at p3 6
  have BL : Below W0.heap.size W0 w3 := N1.trans (C3.below.mono N1.size)
  have O3 := own_lo D3.own hsw
  have hne := own_ne' O3 p3 (by decide)
  have hnm := D3.nm
  have hln := D3.len
  clear C3 p3 D3
  go_wp2
  refine bodyPost_ret (v := tkV t nm va ls.length vc) (by simp [results, Tryd.results5, go_sem, b0, b1, b2, b3, b4, b5, b6]) rfl ?_
  exact ⟨⟨t, nm, va, vc, ls, rfl, (own_else (i := 6) (own_else (i := 5) (own_else (i := 4) (own_else (i := 3) (own_else (i := 2) (own_else (i := 1) (own_else (i := 0) O3 hne) hne) hne) hne) hne) hne) hne), hnm, hln⟩, (((((((BL.setCell (p := ⟨W0.heap.size, 0, none⟩) (Nat.le_refl _) _).setCell (p := ⟨W0.heap.size, 1, none⟩) (Nat.le_refl _) _).setCell (p := ⟨W0.heap.size, 2, none⟩) (Nat.le_refl _) _).setCell (p := ⟨W0.heap.size, 3, none⟩) (Nat.le_refl _) _).setCell (p := ⟨W0.heap.size, 4, none⟩) (Nat.le_refl _) _).setCell (p := ⟨W0.heap.size, 5, none⟩) (Nat.le_refl _) _).setCell (p := ⟨W0.heap.size, 6, none⟩) (Nat.le_refl _) _)⟩

set_option maxRecDepth 100000 in
set_option maxHeartbeats 4000000 in
theorem drawGet (W0 : World) (a : Option Addr) (n cap : Nat) (hn : n ≤ 1048576) (B : Bytes W0 a n) :
    Calls Tryd.prog 12 #[.slice a n cap] W0 fun e w' => (∃ s : ByteArray, e = .returned (.string s) ∧ s.size ≤ 1001) ∧ Below W0.heap.size W0 w' := by
  go_enter Tryd.func12, Tryd.ntmps12
  go_wp2_with fail
  refine (new_any W0 a n cap hn B).mono ?_
  rintro e w2 ⟨rfl, C2⟩
  go_wp2_with fail
  refine (right_any C2).mono ?_
  rintro e w3 ⟨⟨t, nm, va, vc, ls, rfl, hnm, hl1, hl3, O3⟩, C3, K3⟩
  have I3 : Legs w3 va ls := by
    obtain ⟨a', c', e', I⟩ := Gt.own_legs O3
    simp only [Value.slice.injEq, true_and] at e'
    rw [e'.1]
    exact I
  have HP := Tk.specPut_val t nm va ls vc w3 (by unfold maxLen; omega) (by omega) I3
  have hps := put_small t nm ls
  generalize putS t nm ls = s at *
  generalize okB t nm ls = ok at *
  clear C2 K3 O3 I3 B
  go_wp2_with fail
  refine HP.mono ?_
  rintro e w4 ⟨rfl, L4⟩
  have C4 := C3.kept L4
  clear HP
  go_wp2_with fail
  refine (spoil_any C4 s (by omega)).mono ?_
  rintro e w5 ⟨⟨r, rfl, hr⟩, C5, K5⟩
  go_wp2
  go_ret
  exact ⟨⟨r, rfl, by omega⟩, C5.below⟩

end Cur
end Go.Proofs.YtbfgfedblnldcaaDoor
