/- The model's Release and Held. -/
import Derived.Test.YtiollklighmojadSeAdd
namespace Go.Proofs.Ytiollklighmojad
namespace Se
open Go.ChangeShapes Go.WideShapes Go.ChangeAt Go.RowKit
open Pk (new_below join_below cell_at heap_new frozen_at lt_of kept heap_old Drawn info_of own_form own_below Room)
set_option linter.unusedSimpArgs false
set_option linter.unusedVariables false

theorem nil_own (w : World) (t : TypeId) : (w.alloc (.cells #[] t)).ownsRow w.heap.size t 7 (.slice (some ⟨w.heap.size, 0, none⟩) 0 0) 0 [] :=
  ⟨rfl, Or.inr ⟨w.heap.size, 0, #[], rfl, Nat.le_refl _, heap_new _ _, by simp, by simp, by simp, by simp⟩⟩

set_option maxRecDepth 100000 in
set_option maxHeartbeats 2000000 in
theorem specRelease_val (a : Option Addr) (l : List Hl) (cap : Nat) (x : Int) (w : World) (hl : l.length ≤ 1048577) (I : Holds w a l) :
    Calls Try.prog 61 #[.slice a l.length cap, .int .i64 x] w fun e w' => ∃ v, e = .returned v ∧ w'.ownsRow w.heap.size 77 7 v (l.filter fun p => decide (p.od ≠ x)).length (hcells (l.filter fun p => decide (p.od ≠ x))) ∧ Below w.heap.size w w' := by
  obtain ⟨i0, hi, hz0, hz1, hz2⟩ := info_of info_hold
  have hdef : (fun p : Hl => decide (p.od ≠ x)) = (fun p : Hl => (p.od != x)) := by
    funext p
    by_cases e : p.od = x <;> simp [e]
  rw [hdef]
  clear hdef
  obtain ⟨g, hg⟩ : ∃ g : Hl → Bool, g = fun p => (p.od != x) := ⟨_, rfl⟩
  have HG : Hid (∀ p : Hl, (p.od != x) = g p) := fun p => by rw [hg]
  rw [← hg]
  clear hg
  have O0 := nil_own w 77
  have N0 := new_below w (.cells #[] 77)
  go_enter Try.func61, Try.ntmps61
  go_wp2
  generalize w.alloc (.cells #[] 77) = W at *
  go_loopw [5, 6] (fun v i wr => ∃ k : Nat, k ≤ l.length ∧ i = .int .i64 k ∧ Below w.heap.size w wr ∧ Hid (wr.ownsRow w.heap.size 77 7 v ((l.take k).filter g).length (hcells ((l.take k).filter g)))) (fun _ i _ => l.length - (intOf i).toNat)
  case atStart => exact ⟨0, by omega, rfl, N0, O0⟩
  case round =>
    obtain ⟨k, hk, rfl, L, HO⟩ := hrel
    by_cases hkn : k < l.length
    · obtain ⟨b, o, rfl, hlt, c0, c1, c2, c3, c4, c5, c6⟩ := (I.on L).at k hkn
      have hf : ((l.take k).filter g).length ≤ 1048577 := by
        have h1 := List.length_filter_le g (l.take k)
        rw [List.length_take] at h1
        omega
      have HT : Hid ((l.take (k + 1)).filter g = if g l[k] = true then (l.take k).filter g ++ [l[k]] else (l.take k).filter g) := by
        show _ = _
        rw [List.take_succ_eq_append_getElem hkn, List.filter_append]
        by_cases e : g l[k] = true
        · rw [if_pos e]
          simp [e]
        · rw [if_neg e]
          simp [e]
      have HP : Hid (_) := HG.out l[k]
      generalize l[k] = p at *
      have N4 := new_below wr (.cells #[.int .i64 p.tr, .int .i64 p.dy, .int .i64 p.co, .int .i64 p.se, .int .i64 p.ba, .int .i64 p.be, .int .i64 p.od] 77)
      have m4 := heap_new wr (.cells #[.int .i64 p.tr, .int .i64 p.dy, .int .i64 p.co, .int .i64 p.se, .int .i64 p.ba, .int .i64 p.be, .int .i64 p.od] 77)
      have O4 := own_below HO.out N4 (Nat.le_refl _)
      have L4 := join_below L N4
      obtain ⟨va, vc, rfl, -⟩ := own_form O4
      by_cases e : g p = true
      · have ht : (p.od != x) = true := HP.out.trans e
        rw [if_pos e] at HT
        clear e HP HG HO
        generalize (l.take k).filter g = d at *
        go_wp2_with (at_builtin; refine wpList_append_own_at _ rfl _ _ 70 rfl w.heap.size 77 i0 (lgV ⟨0, 0, 0, 0, 0, 0, 0⟩) 7 56 Try.underlying70 hi hz0 hz1 hz2 rfl (by decide) _ _ _ rfl O4 ⟨wr.heap.size, 0, none⟩ 1 1 (hc1 p) rfl rfl ?c1 ?c2 ?c3 ?c4 ?c5 ?_)
        case c1 => exact seven_at m4
        case c2 => intro u hu; simp [hc1] at hu; rcases hu with rfl | rfl | rfl | rfl | rfl | rfl | rfl <;> rfl
        case c3 => unfold maxLen; omega
        case c4 => omega
        case c5 => exact L4.size
        intro v' w5 O5 G5 _ _
        have L5 : Below w.heap.size w w5 := L4.grown G5 L4.size (fun j hj => (O4.lt j hj).1)
        have O6 : Hid (w5.ownsRow w.heap.size 77 7 v' ((l.take (k + 1)).filter g).length (hcells ((l.take (k + 1)).filter g))) := by
          show World.ownsRow _ _ _ _ _ _ _
          rw [HT.out, ← hcells_snoc, List.length_append]
          exact O5
        clear O4 O5 G5 L4 N4 m4 HT
        go_wp2
        go_roundw
        case rel => exact ⟨k + 1, by omega, by go_num, L5, O6⟩
        case measure => simp [intOf]; omega
      · have ht : (p.od != x) = false := HP.out.trans (Bool.eq_false_iff.2 e)
        rw [if_neg e] at HT
        have O2 : Hid (wr.ownsRow w.heap.size 77 7 (.slice va ((l.take k).filter g).length vc) ((l.take (k + 1)).filter g).length (hcells ((l.take (k + 1)).filter g))) := by
          rw [HT.out]
          exact HO.out
        clear O4 L4 N4 m4 HT HO e HP HG
        go_wp2
        go_roundw
        case rel => exact ⟨k + 1, by omega, by go_num, L, O2⟩
        case measure => simp [intOf]; omega
    · obtain rfl : k = l.length := by omega
      have HO2 := HO.out
      rw [List.take_length] at HO2
      have HO3 : Hid (_) := HO2
      obtain ⟨va, vc, rfl, -⟩ := own_form HO2
      clear HO HO2
      go_wp2
      go_ret
      exact ⟨_, rfl, HO3.out, L⟩


end Se
end Go.Proofs.Ytiollklighmojad
