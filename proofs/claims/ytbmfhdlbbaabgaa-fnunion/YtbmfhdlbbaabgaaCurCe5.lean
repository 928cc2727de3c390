/- Draws of the laws of centres: places. -/
import Derived.Test.YtbmfhdlbbaabgaaCurCe3
import Derived.Deep.RegionHeld3
namespace Go.Proofs.Ytbmfhdlbbaabgaa
namespace Hn
open Go.ChangeShapes Go.WideShapes Go.ChangeAt Go.RowKit Go.Joins
open Pk (new_below join_below cell_at heap_new frozen_at lt_of kept heap_old Drawn info_of Room own_form own_below)
open Cur (Is Moved Bytes Kb new_any below_any pickInt_any rowOf_new RowOf owns_moved)
set_option linter.unusedSimpArgs false
set_option linter.unusedVariables false

theorem icells_snoc (l : List Int) (z : Int) : icells l ++ [.int .i64 z] = icells (l ++ [z]) := by simp [icells]

set_option maxRecDepth 100000 in
set_option maxHeartbeats 8000000 in
theorem drawPick (W0 : World) (a : Option Addr) (n cap : Nat) (hn : n ≤ 1048576) (B : Bytes W0 a n) :
    Calls Try.prog 7 #[.slice a n cap] W0 fun e w' => (∃ (b : Option Addr) (l : List Ct) (vc : Nat) (pa : Option Addr) (ps : List Int) (pc : Nat), e = .returned (.tuple #[.slice b l.length vc, .slice pa ps.length pc]) ∧ DrwL W0.heap.size w' b l vc ∧ Ints w' pa ps ∧ ps.length ≤ 11) ∧ Below W0.heap.size W0 w' := by
  obtain ⟨i0, hi, hz0, hz1, hz2⟩ := info_of intInfo
  go_enter Try.func7, Try.ntmps7
  go_wp2_with fail
  refine (new_any W0 a n cap hn B).mono ?_
  rintro e w2 ⟨rfl, C2⟩
  have hcw := C2.lt
  have hsw : W0.heap.size ≤ w2.heap.size := by omega
  go_wp2_with fail
  refine (list_any C2).mono ?_
  rintro e w3 ⟨⟨l, g, vc, rfl, O3, hwl, hl9⟩, C3, K3⟩
  have C4 := C3.alloc (.cells #[] 3)
  have K4 := K3.alloc (.cells #[] 3)
  have O4 := own_below O3 (new_below w3 (.cells #[] 3)) (Nat.le_refl _)
  have OI := own_lower (nil_row w3 3 1) K3.size
  have HWL : Hid (Wfs l ∧ l.length ≤ 9) := ⟨hwl, hl9⟩
  clear C3 K3 O3 C2 B hwl hl9
  go_wp2_with fail
  refine (below_any C4 12).mono ?_
  generalize w3.alloc (.cells #[] 3) = w4 at *
  rintro e w5 ⟨⟨x0, rfl, hx0, hx1⟩, C5, M5⟩
  have hx2 := hx1 (by omega)
  obtain ⟨m, rfl⟩ : ∃ m : Nat, x0 = m := ⟨x0.toNat, by omega⟩
  have K5 := K4.trans (Kb.moved M5)
  have O5 := own_kb O4 (Kb.moved M5) hcw
  have I5 := own_kb OI (Kb.moved M5) hcw
  clear hx0 hx1 C4 K4 O4 OI M5
  go_wp2
  go_loopw [6, 8] (fun v i wr => ∃ (k : Nat) (ps : List Int) (pa : Option Addr) (pc : Nat), k ≤ m ∧ i = .int .i64 k ∧ v = .slice pa ps.length pc ∧ Hid (ps.length = k) ∧ Is W0 a n cap W0.heap.size wr ∧ Kb W0.heap.size w2 wr ∧ Hid (wr.ownsRow w2.heap.size 37 6 (.slice (some ⟨g, 0, none⟩) l.length vc) l.length (ccells l)) ∧ Hid (wr.ownsRow w2.heap.size 3 1 (.slice pa ps.length pc) ps.length (icells ps))) (fun _ i _ => m - (intOf i).toNat)
  case atStart => exact ⟨0, [], _, _, by omega, rfl, rfl, rfl, C5, K5, O5, I5⟩
  case round =>
    obtain ⟨k, ps, pa, pc, hk, rfl, rfl, hpk, CR, KR, HOL, HOI⟩ := hrel
    clear C5 K5 O5 I5
    by_cases hkm : k < m
    · go_wp2_with fail
      refine (below_any CR _).mono ?_
      rintro e w6 ⟨⟨x, rfl, hx0, hx1⟩, C6, M6⟩
      have K6 := KR.trans (Kb.moved M6)
      have OL := own_kb HOL.out (Kb.moved M6) hcw
      have OI := own_kb HOI.out (Kb.moved M6) hcw
      obtain ⟨z, hz'⟩ : ∃ z : Int, IntKind.i64.wrap (x - 1) = z := ⟨_, rfl⟩
      have hz : wrap64 (x - 1) = z := by clear hx0 hx1; rw [← hz', IntKind.wrap_i64]; unfold wrap64; omega
      have CA := C6.alloc (.cells #[.int .i64 z] 3)
      have KA := K6.alloc (.cells #[.int .i64 z] 3)
      have LA := own_below OL (new_below w6 (.cells #[.int .i64 z] 3)) (Nat.le_refl _)
      have IA := own_below OI (new_below w6 (.cells #[.int .i64 z] 3)) (Nat.le_refl _)
      have HG : Hid (_) := one_at (heap_new w6 (.cells #[.int .i64 z] 3))
      have hsA : w2.heap.size ≤ (w6.alloc (.cells #[.int .i64 z] 3)).heap.size := KA.size
      clear CR KR HOL HOI C6 M6 K6 OL OI hx0 hx1
      go_wp2_with (at_builtin; refine wpList_append_own_at _ rfl _ _ 24 rfl w2.heap.size 3 i0 (.int .i64 0) 1 8 Try.underlying24 hi hz0 hz1 hz2 rfl (by decide) _ _ _ rfl IA ⟨w6.heap.size, 0, none⟩ 1 1 [.int .i64 z] rfl rfl ?c1 ?c2 ?c3 ?c4 ?c5 ?_)
      case c1 => exact HG.out
      case c2 => intro u hu; simp at hu; subst hu; rfl
      case c3 => clear hz hz'; have := hpk.out; unfold maxLen; omega
      case c4 => clear hz hz'; have := hpk.out; omega
      case c5 => exact hsA
      intro v' w9 O9 G9 _ _
      clear hz hz'
      have C9 : Is W0 a n cap W0.heap.size w9 := CA.grown G9 (fun h => by have := (IA.lt _ h).1; omega) (fun k h => by have := (IA.lt _ h).1; omega)
      have K9 : Kb W0.heap.size w2 w9 := KA.grown G9 (fun k h => (IA.lt _ h).1)
      have HL9 : Hid (w9.ownsRow w2.heap.size 37 6 (.slice (some ⟨g, 0, none⟩) l.length vc) l.length (ccells l)) := own_grown LA G9 IA (by decide)
      rw [icells_snoc] at O9
      obtain ⟨va, vc2, rfl, -⟩ := own_form O9
      have e9 : ps.length + 1 = (ps ++ [z]).length := by simp
      have HI9 : Hid (w9.ownsRow w2.heap.size 3 1 (.slice va (ps ++ [z]).length vc2) (ps ++ [z]).length (icells (ps ++ [z]))) := by
        show w9.ownsRow _ _ _ _ _ _
        rw [← e9]
        exact O9
      have HE9 : Hid (ps.length + 1 = (ps ++ [z]).length) := e9
      clear HG LA IA CA KA O9 G9 e9 hsA
      go_wp2
      go_roundw
      case rel => exact ⟨k + 1, ps ++ [z], va, vc2, by omega, by go_num, by rw [← HE9.out], (by show _ = _; rw [← HE9.out, hpk.out]), C9, K9, HL9, HI9⟩
      case measure => simp [intOf]; omega
    · obtain rfl : k = m := by omega
      have hpl := hpk.out
      have HJ : Hid (Ints wr pa ps) := by
        obtain ⟨a', c', e, J⟩ := own_ints HOI.out
        simp only [Value.slice.injEq, true_and] at e
        show Ints _ _ _
        rw [e.1]
        exact J
      go_wp2
      refine bodyPost_ret (v := .tuple #[.slice (some ⟨g, 0, none⟩) l.length vc, .slice pa ps.length pc]) (by simp [results, Try.results7, go_sem]) rfl ?_
      exact ⟨⟨_, l, vc, pa, ps, pc, rfl, ⟨own_lower HOL.out hsw, ⟨_, rfl⟩, HWL.out.1, HWL.out.2⟩, HJ.out, by omega⟩, CR.below⟩

end Hn
end Go.Proofs.Ytbmfhdlbbaabgaa
