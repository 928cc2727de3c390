/- Lists joined, of the program: the two of a delivery. -/
import Derived.Test.YtbmfhdlbbaabgaaCeEach
import Derived.Laws.AppendOwnNone
namespace Go.Proofs.Ytbmfhdlbbaabgaa
namespace Hn
open Go.ChangeShapes Go.WideShapes Go.ChangeAt Go.RowKit Go.Joins
open Pk (new_below join_below cell_at heap_new frozen_at lt_of kept heap_old Drawn info_of Room own_form own_below)
set_option linter.unusedSimpArgs false
set_option linter.unusedVariables false

/-- What is joined of the first lists. -/
def jn (l m : List Ct) : Nat → List Ct
  | 0 => []
  | 1 => l
  | _ => l ++ m

set_option maxRecDepth 100000 in
set_option maxHeartbeats 4000000 in
theorem implJoin_at (g : Nat) (a1 : Option Addr) (c1 : Nat) (a2 : Option Addr) (c2 : Nat) (l m : List Ct) (w : World) (hz : l.length ≤ 1048576) (hz2 : m.length ≤ 1048576) (h0 : w.heap[g]? = some (.cells #[.slice a1 l.length c1, .slice a2 m.length c2] 25)) (I : Controls w a1 l) (J : Controls w a2 m) (f1 : At a1 l.length c1) (f2 : At a2 m.length c2) :
    Calls Try.prog 37 #[.slice (some ⟨g, 0, none⟩) 2 2] w fun e w' => ∃ v, e = .returned v ∧ w'.ownsRow w.heap.size 37 6 v (l ++ m).length (ccells (l ++ m)) ∧ Below w.heap.size w w' := by
  obtain ⟨i0, hi, hy0, hy1, hy2⟩ := info_of info_control
  go_enter Try.func37, Try.ntmps37
  go_wp2
  go_loopw [3, 8] (fun v i wr => ∃ k : Nat, k ≤ 2 ∧ i = .int .i64 k ∧ Below w.heap.size w wr ∧ Hid (wr.ownsRow w.heap.size 37 6 v (jn l m k).length (ccells (jn l m k)))) (fun _ i _ => 2 - (intOf i).toNat)
  case atStart => exact ⟨0, by omega, rfl, Below.refl _ _, none_row _ _ _ _⟩
  case round =>
    obtain ⟨k, hk, rfl, LR, HO⟩ := hrel
    have k0 := kept LR (lt_of h0) h0
    have O1 := HO.out
    clear HO
    match k, hk with
    | 0, _ =>
      rcases f1 with ⟨rfl, hl0, rfl⟩ | ⟨b1, u1, rfl⟩
      · obtain rfl := List.length_eq_zero_iff.1 hl0
        have g0 : wr.cell? ⟨g, 0, none⟩ = some (.slice none 0 0) := cell_at k0 0
        have O2 : wr.ownsRow w.heap.size 37 6 _ 0 [] := O1
        obtain ⟨va, vc, rfl, -⟩ := own_form O2
        clear O1 k0
        go_wp2_with (at_builtin; refine wpList_append_own_none rfl _ _ 25 rfl w.heap.size 37 i0 6 Try.underlying25 hi _ _ _ rfl O2 rfl ?_)
        have HO6 : Hid (wr.ownsRow w.heap.size 37 6 (.slice va 0 vc) (jn [] m 1).length (ccells (jn [] m 1))) := by
          show wr.ownsRow _ _ _ _ _ _
          simpa [jn, ccells_nil] using O2
        clear O2 g0
        go_wp2
        go_roundw
        case rel => exact ⟨1, by omega, by go_num, LR, by simpa [jn, ccells_nil] using HO6⟩
        case measure => simp [intOf]
      have g0 : wr.cell? ⟨g, 0, none⟩ = some (.slice (some ⟨b1, u1, none⟩) l.length c1) := cell_at k0 0
      have HG : Hid (∀ j u, (ccells l)[j]? = some u → wr.cell? (Addr.add ⟨b1, u1, none⟩ j) = some u) := ctls_get (I.on LR)
      have O2 : wr.ownsRow w.heap.size 37 6 _ 0 [] := O1
      obtain ⟨va, vc, rfl, -⟩ := own_form O2
      clear O1 k0
      go_wp2_with (at_builtin; refine wpList_append_own_at _ rfl _ _ 25 rfl w.heap.size 37 i0 (lgV ⟨0, 0, 0, 0, 0, 0⟩) 6 48 Try.underlying25 hi hy0 hy1 hy2 rfl (by decide) _ _ _ rfl O2 ⟨b1, u1, none⟩ l.length c1 (ccells l) rfl (ccells_length l) HG.out (ccells_one l) ?c3 ?c4 ?c5 ?_)
      case c3 => unfold maxLen; omega
      case c4 => omega
      case c5 => exact LR.size
      intro v' w6 O6 G6 _ _
      have L6 : Below w.heap.size w w6 := LR.grown G6 LR.size (fun j hj => (O2.lt j hj).1)
      have HO6 : Hid (w6.ownsRow w.heap.size 37 6 v' (jn l m 1).length (ccells (jn l m 1))) := by
        show w6.ownsRow _ _ _ _ _ _
        simpa [jn] using O6
      clear O2 O6 G6 g0 HG
      go_wp2
      go_roundw
      case rel => exact ⟨1, by omega, by go_num, L6, HO6⟩
      case measure => simp [intOf]
    | 1, _ =>
      rcases f2 with ⟨rfl, hl0, rfl⟩ | ⟨b2, u2, rfl⟩
      · obtain rfl := List.length_eq_zero_iff.1 hl0
        have g0 : wr.cell? ⟨g, 1, none⟩ = some (.slice none 0 0) := cell_at k0 1
        have O2 : wr.ownsRow w.heap.size 37 6 _ l.length (ccells l) := O1
        obtain ⟨va, vc, rfl, -⟩ := own_form O2
        clear O1 k0
        go_wp2_with (at_builtin; refine wpList_append_own_none rfl _ _ 25 rfl w.heap.size 37 i0 6 Try.underlying25 hi _ _ _ rfl O2 rfl ?_)
        have HO6 : Hid (wr.ownsRow w.heap.size 37 6 (.slice va l.length vc) (jn l [] 2).length (ccells (jn l [] 2))) := by
          show wr.ownsRow _ _ _ _ _ _
          simpa [jn, ccells_nil] using O2
        clear O2 g0
        go_wp2
        go_roundw
        case rel => exact ⟨2, by omega, by go_num, LR, by simpa [jn, ccells_nil] using HO6⟩
        case measure => simp [intOf]
      have g0 : wr.cell? ⟨g, 1, none⟩ = some (.slice (some ⟨b2, u2, none⟩) m.length c2) := cell_at k0 1
      have HG : Hid (∀ j u, (ccells m)[j]? = some u → wr.cell? (Addr.add ⟨b2, u2, none⟩ j) = some u) := ctls_get (J.on LR)
      have O2 : wr.ownsRow w.heap.size 37 6 _ l.length (ccells l) := O1
      obtain ⟨va, vc, rfl, -⟩ := own_form O2
      clear O1 k0
      go_wp2_with (at_builtin; refine wpList_append_own_at _ rfl _ _ 25 rfl w.heap.size 37 i0 (lgV ⟨0, 0, 0, 0, 0, 0⟩) 6 48 Try.underlying25 hi hy0 hy1 hy2 rfl (by decide) _ _ _ rfl O2 ⟨b2, u2, none⟩ m.length c2 (ccells m) rfl (ccells_length m) HG.out (ccells_one m) ?c3 ?c4 ?c5 ?_)
      case c3 => unfold maxLen; omega
      case c4 => omega
      case c5 => exact LR.size
      intro v' w6 O6 G6 _ _
      have L6 : Below w.heap.size w w6 := LR.grown G6 LR.size (fun j hj => (O2.lt j hj).1)
      have HO6 : Hid (w6.ownsRow w.heap.size 37 6 v' (jn l m 2).length (ccells (jn l m 2))) := by
        show w6.ownsRow _ _ _ _ _ _
        rw [ccells_append] at O6
        simpa [jn] using O6
      clear O2 O6 G6 g0 HG
      go_wp2
      go_roundw
      case rel => exact ⟨2, by omega, by go_num, L6, HO6⟩
      case measure => simp [intOf]
    | 2, _ =>
      have O2 : wr.ownsRow w.heap.size 37 6 _ (l ++ m).length (ccells (l ++ m)) := O1
      obtain ⟨va, vc, rfl, -⟩ := own_form O2
      have HO2 : Hid (_) := O2
      clear O1 O2 k0
      go_wp2
      go_ret
      exact ⟨_, rfl, HO2.out, LR⟩

end Hn
end Go.Proofs.Ytbmfhdlbbaabgaa
