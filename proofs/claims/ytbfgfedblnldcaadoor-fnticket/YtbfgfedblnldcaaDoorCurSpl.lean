/- The draw of a text with a byte changed, cut or put in: some text, hardly longer. -/
import Derived.Test.YtbfgfedblnldcaaDoorCurDec
import Derived.Test.YtbfgfedblnldcaaDoorCurKb
import Derived.Deep.RegionHeld3
namespace Go.Proofs.YtbfgfedblnldcaaDoor
namespace Cur
open Go.ChangeShapes Go.WideShapes Go.ChangeAt Go.RowKit
set_option linter.unusedSimpArgs false
set_option linter.unusedVariables false

theorem size_join (a b c : ByteArray) : (a ++ b ++ c).size = a.size + b.size + c.size := by rw [ByteArray.size_append, ByteArray.size_append]

set_option maxRecDepth 100000 in
set_option maxHeartbeats 4000000 in
theorem spoil_any {W0 : World} {a : Option Addr} {n cap c : Nat} {w : World} (C : Is W0 a n cap c w) (s : ByteArray) (hs : s.size ≤ 1000000) :
    Calls Tryd.prog 28 #[.pointer (some ⟨c, 0, none⟩), .string s] w fun e w' => (∃ r : ByteArray, e = .returned (.string r) ∧ r.size ≤ s.size + 1) ∧ Is W0 a n cap c w' ∧ Kb c w w' := by
  have HB1 : Hid (∀ _ : Unit, _) := fun _ => below_any C ((s.size : Int) + 1)
  go_enter Tryd.func28, Tryd.ntmps28
  go_wp2_with fail
  refine (HB1.out ()).mono ?_
  rintro e w1 ⟨⟨x, rfl, hx0, hx1⟩, C1, M1⟩
  have hx2 := hx1 (by omega)
  obtain ⟨i, rfl⟩ : ∃ i : Nat, x = i := ⟨x.toNat, by omega⟩
  have K1 := Kb.moved M1
  clear HB1 hx1 hx0 M1
  go_wp2_with fail
  refine (below_any C1 8).mono ?_
  rintro e w2 ⟨⟨y, rfl, hy0, hy1⟩, C2, M2⟩
  have hy2 := hy1 (by omega)
  have K2 := K1.trans (Kb.moved M2)
  have hi0 : (0 : Int) ≤ (i : Int) := by omega
  have hi1 : (i : Int) ≤ (s.size : Int) := by omega
  clear C1 K1 M2 hy1
  by_cases y0 : y = 0
  · subst y0
    go_wp2
    go_ret
    exact ⟨⟨_, rfl, by rw [ByteArray.size_extract]; omega⟩, C2, K2⟩
  · by_cases y1 : y = 1
    · subst y1
      have CP : Is W0 a n cap c (w2.alloc (.cells #[.string ⟨#[32]⟩, .string ⟨#[48]⟩, .string ⟨#[10]⟩, .string ⟨#[120]⟩] 9)).drew := (C2.alloc (.cells #[.string ⟨#[32]⟩, .string ⟨#[48]⟩, .string ⟨#[10]⟩, .string ⟨#[120]⟩] 9)).drewN 1
      have RW : RowOfS (fun z => z.size = 1) (w2.alloc (.cells #[.string ⟨#[32]⟩, .string ⟨#[48]⟩, .string ⟨#[10]⟩, .string ⟨#[120]⟩] 9)).drew w2.heap.size 4 := rowOfS_new (fun z => z.size = 1) w2 [⟨#[32]⟩, ⟨#[48]⟩, ⟨#[10]⟩, ⟨#[120]⟩] 9 (by
        intro z hz
        simp at hz
        rcases hz with rfl | rfl | rfl | rfl <;> rfl)
      have hwc : w2.heap.size ≠ c := by have := C2.lt; omega
      have HPK : Hid (∀ _ : Unit, _) := fun _ => pick_any CP (fun z => z.size = 1) w2.heap.size 4 4 hwc (by omega) (by omega) RW
      clear RW CP
      go_wp2
      go_region_with (go_at_call 33; (with_reducible refine (HPK.out ()).mono ?_); rintro e x5 ⟨⟨d, rfl, hd⟩, C5, M5⟩; have KD : Kb c w x5 := (K2.alloc _).drew.trans (Kb.moved M5); have hq1 : ¬ 9223372036854775807 < (s.extract 0 i).size + d.size := (by rw [ByteArray.size_extract]; omega); have hq2 : ¬ 9223372036854775807 < (s.extract 0 i).size + d.size + (s.extract i s.size).size := (by rw [ByteArray.size_extract, ByteArray.size_extract]; omega))
      all_goals
        go_wp2
        go_ret
        exact ⟨⟨_, rfl, by rw [size_join, ByteArray.size_extract, ByteArray.size_extract]; omega⟩, C5, KD⟩
    · by_cases y3 : y = 2
      · subst y3
        by_cases hlt : i < s.size
        · have hlI : (i : Int) < (s.size : Int) := by omega
          have hi2 : (i : Int) + 1 ≤ (s.size : Int) := by omega
          have hi3 : (0 : Int) ≤ (i : Int) + 1 := by omega
          have hi4 : ((i : Int) + 1).toNat = i + 1 := by omega
          have hwr : IntKind.i64.wrap ((i : Int) + 1) = (i : Int) + 1 := by rw [IntKind.wrap_i64]; omega
          have hi5 : decide ((i : Int) + 1 ≤ (s.size : Int)) = true := decide_eq_true hi2
          have hi6 : ¬ (s.size : Int) < (i : Int) + 1 := by omega
          have hsl : ∀ W, (Instr.slice 9 (.string s) (some (.int .i64 ((i : Int) + 1))) none none).run Tryd.prog W = .ok (.string (s.extract (i + 1) s.size)) W := fun W => by
            simp [go_sem, Tryd.underlying9, hi2, hi3, hi4]
            try omega
          have HBK : Hid (∀ wx, Is W0 a n cap c wx → _) := fun wx hC => bytes_kb hC 1 (by omega)
          rw [show ((1 : Nat) : Int) = 1 from rfl] at HBK
          go_wp2
          go_region_with (go_at_call 42; (with_reducible refine (HBK.out _ ?_).mono ?_); (first | exact C2 | exact C2.drewN 1); rintro e x5 ⟨⟨d, rfl, hd⟩, C5, M5⟩; have KD : Kb c w x5 := (by first | exact K2.trans M5 | exact K2.drew.trans M5); have hq1 : ¬ 9223372036854775807 < (s.extract 0 i).size + d.size := (by rw [ByteArray.size_extract]; omega); have hq2 : ¬ 9223372036854775807 < (s.extract 0 i).size + d.size + (s.extract (i + 1) s.size).size := (by rw [ByteArray.size_extract, ByteArray.size_extract]; omega))
          all_goals
            go_wp2
            go_ret
            exact ⟨⟨_, rfl, by rw [size_join, ByteArray.size_extract, ByteArray.size_extract]; omega⟩, C5, KD⟩
        · have hlI : ¬ (i : Int) < (s.size : Int) := by omega
          go_wp2
          go_ret
          exact ⟨⟨s, rfl, by omega⟩, C2, K2⟩
      · have z0 : (y == 0) = false := beq_eq_false_iff_ne.2 y0
        have z1 : (y == 1) = false := beq_eq_false_iff_ne.2 y1
        have z2 : (y == 2) = false := beq_eq_false_iff_ne.2 y3
        go_wp2
        go_ret
        exact ⟨⟨s, rfl, by omega⟩, C2, K2⟩

end Cur
end Go.Proofs.YtbfgfedblnldcaaDoor
