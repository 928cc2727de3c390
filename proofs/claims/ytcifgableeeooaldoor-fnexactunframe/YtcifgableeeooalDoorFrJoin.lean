/- The contract of the program's joinParts. -/
import Derived.Test.YtcifgableeeooalDoorFrCut
namespace Go.Proofs.YtcifgableeeooalDoor
namespace Fr
open Go.ChangeShapes Go.WideShapes Go.ChangeAt Go.RowKit
open Pk (new_below join_below cell_at heap_new frozen_at lt_of kept heap_old)
set_option linter.unusedSimpArgs false
set_option linter.unusedVariables false

/-- An issuer, a mark and a text as a result. -/
abbrev j3 (n r s : Int) (p : ByteArray) : Value := .tuple #[.int .i64 n, .agg #[.int .i64 r, .int .i64 s], .string p]

/-- Three parts in a row. -/
abbrev parts (n r s : Int) (p : ByteArray) : Array Value := #[.iface 49 (.int .i64 n), .iface 50 (.agg #[.int .i64 r, .int .i64 s]), .iface 51 (.string p)]

/-- How far the parts are joined. -/
def Far (n r s : Int) (p : ByteArray) (m k : Nat) (n' r' s' : Int) (p' : ByteArray) : Prop :=
  (k = 0 ∧ n' = 0 ∧ r' = 0 ∧ s' = 0 ∧ p' = ⟨#[]⟩) ∨ (k = 1 ∧ n' = n ∧ r' = 0 ∧ s' = 0 ∧ p' = ⟨#[]⟩) ∨ (k = 2 ∧ n' = n ∧ r' = r ∧ s' = s ∧ p' = ⟨#[]⟩) ∨ (k = 3 ∧ n' = n ∧ r' = r ∧ s' = s ∧ p' = p)

theorem set_two (w : World) (P : Nat) (a b c d : Value) (t : TypeId) (h : w.heap[P]? = some (.cells #[a, b] t (0, 0))) : ((w.setCell ⟨P, 0, none⟩ c).setCell ⟨P, 1, none⟩ d).heap[P]? = some (.cells #[c, d] t (0, 0)) := by
  unfold World.setCell
  simp [Array.getElem?_modify, h]

theorem ta_yes1 (n : Int) (w : World) : (Instr.typeAssert (.iface 49 (.int .i64 n)) 53 49 true).run Tryd.prog w = .ok (.tuple #[.int .i64 n, .bool true]) w := by kernel_rfl

theorem ta_no1 (v : Value) (w : World) : (Instr.typeAssert (.iface 50 v) 53 49 true).run Tryd.prog w = .ok (.tuple #[.int .i64 0, .bool false]) w := by kernel_rfl

theorem ta_yes2 (v : Value) (w : World) : (Instr.typeAssert (.iface 50 v) 53 50 true).run Tryd.prog w = .ok (.tuple #[v, .bool true]) w := by kernel_rfl

theorem ta_no2 (v : Value) (w : World) : (Instr.typeAssert (.iface 51 v) 53 49 true).run Tryd.prog w = .ok (.tuple #[.int .i64 0, .bool false]) w := by kernel_rfl

theorem ta_no3 (v : Value) (w : World) : (Instr.typeAssert (.iface 51 v) 53 50 true).run Tryd.prog w = .ok (.tuple #[.agg #[.int .i64 0, .int .i64 0], .bool false]) w := by kernel_rfl

theorem ta_yes3 (v : Value) (w : World) : (Instr.typeAssert (.iface 51 v) 53 51 true).run Tryd.prog w = .ok (.tuple #[v, .bool true]) w := by kernel_rfl

set_option maxRecDepth 100000 in
set_option maxHeartbeats 4000000 in
theorem join_val (n r s : Int) (p : ByteArray) (m g cp : Nat) (a : Option Addr) (w : World) (hm : (m = 0 ∧ a = none ∧ cp = 0) ∨ (m = 3 ∧ a = some ⟨g, 0, none⟩ ∧ g < w.heap.size ∧ w.heap[g]? = some (.cells (parts n r s p) 53 (0, 0)))) :
    Calls Tryd.prog 11 #[.slice a m cp] w fun e w' => (∃ n' r' s' p', e = .returned (j3 n' r' s' p') ∧ Far n r s p m m n' r' s' p') ∧ Below w.heap.size w w' := by
  have N := new_below w (.cells #[.int .i64 0, .int .i64 0] 23)
  have m0 := heap_new w (.cells #[.int .i64 0, .int .i64 0] 23)
  have HM : Hid (_) := hm
  have hm3 : m ≤ 3 := by omega
  have y1 := ta_yes1 n
  have y2 := ta_yes2 (.agg #[.int .i64 r, .int .i64 s])
  have y3 := ta_yes3 (.string p)
  have x1 := ta_no1 (.agg #[.int .i64 r, .int .i64 s])
  have x2 := ta_no2 (.string p)
  have x3 := ta_no3 (.string p)
  go_enter Tryd.func11, Tryd.ntmps11
  go_wp2
  generalize w.alloc (.cells #[.int .i64 0, .int .i64 0] 23) = W at *
  go_loopw [2, 4, 12] (fun t2 t4 i wr => ∃ (k : Nat) (n' r' s' : Int) (p' : ByteArray), k ≤ m ∧ i = .int .i64 k ∧ t2 = .int .i64 n' ∧ t4 = .string p' ∧ wr.heap[w.heap.size]? = some (.cells #[.int .i64 r', .int .i64 s'] 23 (0, 0)) ∧ Below w.heap.size w wr ∧ Hid (Far n r s p m k n' r' s' p')) (fun _ _ i _ => m - (intOf i).toNat)
  case atStart => exact ⟨0, 0, 0, 0, ⟨#[]⟩, by omega, rfl, rfl, rfl, m0, N, Or.inl ⟨rfl, rfl, rfl, rfl, rfl⟩⟩
  case round =>
    clear m0 N
    obtain ⟨k, n', r', s', p', hk, rfl, rfl, rfl, mr, LR, HF⟩ := hrel
    by_cases hkn : k < m
    · obtain ⟨rfl, rfl, hg, hh⟩ : m = 3 ∧ a = some ⟨g, 0, none⟩ ∧ g < w.heap.size ∧ w.heap[g]? = some (.cells (parts n r s p) 53 (0, 0)) := by
        rcases HM.out with h | h
        · omega
        · exact h
      have hh2 : wr.heap[g]? = some (.cells (parts n r s p) 53 (0, 0)) := by rw [LR.block g hg]; exact hh
      have c0 : wr.cell? ⟨g, 0, none⟩ = some (.iface 49 (.int .i64 n)) := cell_at hh2 0
      have c1 : wr.cell? ⟨g, 1, none⟩ = some (.iface 50 (.agg #[.int .i64 r, .int .i64 s])) := cell_at hh2 1
      have c2 : wr.cell? ⟨g, 2, none⟩ = some (.iface 51 (.string p)) := cell_at hh2 2
      clear hh hh2 hm
      rcases HF.out with ⟨rfl, rfl, rfl, rfl, rfl⟩ | ⟨rfl, rfl, rfl, rfl, rfl⟩ | ⟨rfl, rfl, rfl, rfl, rfl⟩ | ⟨rfl, -⟩
      · go_wp2
        go_roundw
        case rel => exact ⟨1, n, 0, 0, ⟨#[]⟩, by omega, rfl, rfl, rfl, mr, LR, Or.inr (Or.inl ⟨rfl, rfl, rfl, rfl, rfl⟩)⟩
        case measure => simp [intOf]
      · have mr2 := heap_old mr (.cells #[.int .i64 r, .int .i64 s] 50)
        have d0 := cell_at mr2 0
        have d1 := cell_at mr2 1
        have f0 := frozen_at mr2 0
        have f1 := frozen_at mr2 1
        have HS : Hid (_) := set_two _ w.heap.size _ _ (.int .i64 r) (.int .i64 s) _ mr2
        have HL : Hid (Below w.heap.size w (((wr.alloc (.cells #[.int .i64 r, .int .i64 s] 50)).setCell ⟨w.heap.size, 0, none⟩ (.int .i64 r)).setCell ⟨w.heap.size, 1, none⟩ (.int .i64 s))) := ((LR.alloc LR.size _).setCell (p := ⟨w.heap.size, 0, none⟩) (Nat.le_refl _) _).setCell (p := ⟨w.heap.size, 1, none⟩) (Nat.le_refl _) _
        simp at d0 d1
        go_wp2
        go_roundw
        case rel => exact ⟨2, n', r, s, ⟨#[]⟩, by omega, rfl, rfl, rfl, HS.out, HL.out, Or.inr (Or.inr (Or.inl ⟨rfl, rfl, rfl, rfl, rfl⟩))⟩
        case measure => simp [intOf]
      · go_wp2
        go_roundw
        case rel => exact ⟨3, n', r', s', p, by omega, rfl, rfl, rfl, mr, LR, Or.inr (Or.inr (Or.inr ⟨rfl, rfl, rfl, rfl, rfl⟩))⟩
        case measure => simp [intOf]
      · omega
    · obtain rfl : k = m := by omega
      have d0 : wr.cell? ⟨w.heap.size, 0, none⟩ = some (.int .i64 r') := cell_at mr 0
      have d1 : wr.cell? ⟨w.heap.size, 1, none⟩ = some (.int .i64 s') := cell_at mr 1
      have f0 := frozen_at mr 0
      have f1 := frozen_at mr 1
      have HS : Hid (_) := set_two _ w.heap.size _ _ (.int .i64 r') (.int .i64 s') _ mr
      have HL : Hid (Below w.heap.size w ((wr.setCell ⟨w.heap.size, 0, none⟩ (.int .i64 r')).setCell ⟨w.heap.size, 1, none⟩ (.int .i64 s'))) := (LR.setCell (p := ⟨w.heap.size, 0, none⟩) (Nat.le_refl _) _).setCell (p := ⟨w.heap.size, 1, none⟩) (Nat.le_refl _) _
      clear mr LR hm
      go_wp2
      go_region
      all_goals
        go_wp2
        have mE := HS.out
        have HLD := HL.out.drew
        generalize (wr.setCell ⟨w.heap.size, 0, none⟩ (.int .i64 r')).setCell ⟨w.heap.size, 1, none⟩ (.int .i64 s') = WE at *
        have q0 : WE.drew.cell? ⟨w.heap.size, 0, none⟩ = some (.int .i64 r') := cell_at (w := WE.drew) mE 0
        have q1 : WE.drew.cell? ⟨w.heap.size, 1, none⟩ = some (.int .i64 s') := cell_at (w := WE.drew) mE 1
        refine bodyPost_ret (v := j3 n' r' s' p') (by simp [results, Tryd.results11, go_sem, q0, q1]) rfl ?_
        exact ⟨⟨n', r', s', p', rfl, HF.out⟩, HLD⟩

end Fr
end Go.Proofs.YtcifgableeeooalDoor
