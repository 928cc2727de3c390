/- Scan, of the program and of its model, whatever the square. -/
import Derived.Test.YtkhibgicejcmlamSqScanP
import Derived.Test.YtkhibgicejcmlamSqScanS
namespace Go.Proofs.Ytkhibgicejcmlam
namespace Sq
open Go.ChangeShapes Go.WideShapes Go.ChangeAt Go.RowKit
set_option linter.unusedSimpArgs false
set_option linter.unusedVariables false

/-- The square that stands upright. -/
def upS (n : Int) (s : ByteArray) : ByteArray := turnN n s (heartV n s % 4).toNat

/-- The text that Scan answers. -/
def scT (n : Int) (s : ByteArray) : ByteArray := if heartV n s = -1 then ⟨#[]⟩ else scanT n (upS n s) (bodyR (Int.tdiv n 2).toNat (upS n s))

/-- What Scan says. -/
def scC (n : Int) (s : ByteArray) : Int := if heartV n s = -1 then 1 else scanC n (upS n s) (bodyR (Int.tdiv n 2).toNat (upS n s))

theorem heart_ok {n : Int} {s : ByteArray} (h : ¬ heartV n s = -1) : okQ n s = true := by
  cases hok : okQ n s
  · exact absurd (heartV_no hok) h
  · rfl

theorem implScan_val (n : Int) (s : ByteArray) (w : World) (hs : s.size ≤ maxLen) :
    Calls Try.prog 21 #[sqV n s] w fun e w' => e = .returned (.tuple #[.string (scT n s), .int .i64 (scC n s)]) ∧ Below w.heap.size w w' := by
  unfold scT scC
  by_cases hh : heartV n s = -1
  · rw [if_pos hh, if_pos hh]
    exact implScan_no n s w hs hh
  · rw [if_neg hh, if_neg hh]
    have hok := heart_ok hh
    obtain ⟨h, h4, h1, rfl, hz, hg⟩ := ok_form hok
    have hb := heart_bd (n := 2 * (h : Int) + 1) (s := s)
    rw [half_is, Int.toNat_natCast]
    exact implScan_ok h s w hok h4 h1 hz _ rfl (by omega) (by omega) _ _ rfl rfl

theorem specScan_val (n : Int) (s : ByteArray) (w : World) (hs : s.size ≤ maxLen) :
    Calls Try.prog 20 #[sqV n s] w fun e w' => e = .returned (.tuple #[.string (scT n s), .int .i64 (scC n s)]) ∧ Below w.heap.size w w' := by
  unfold scT scC
  by_cases hh : heartV n s = -1
  · rw [if_pos hh, if_pos hh]
    exact specScan_no n s w hs hh
  · rw [if_neg hh, if_neg hh]
    have hok := heart_ok hh
    obtain ⟨h, h4, h1, rfl, hz, hg⟩ := ok_form hok
    have hb := heart_bd (n := 2 * (h : Int) + 1) (s := s)
    rw [half_is, Int.toNat_natCast]
    exact specScan_ok h s w hok h4 h1 hz _ rfl (by omega) (by omega) _ _ rfl rfl

end Sq
end Go.Proofs.Ytkhibgicejcmlam
