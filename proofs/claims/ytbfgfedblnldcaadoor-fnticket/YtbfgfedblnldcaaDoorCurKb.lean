/- The draw of a text that tells which blocks it keeps. -/
import Derived.Test.YtbfgfedblnldcaaDoorCurSign
import Derived.Test.YtbfgfedblnldcaaDoorCurBytes
import Derived.BigRegion
import Derived.Deep.RegionHeld3
namespace Go.Proofs.YtbfgfedblnldcaaDoor
namespace Cur
open Go.ChangeShapes Go.WideShapes Go.ChangeAt Go.RowKit
set_option linter.unusedSimpArgs false
set_option linter.unusedVariables false

/-- What only makes new blocks is no part of the cursor. -/
theorem Is.kept {W0 : World} {a : Option Addr} {n cap c : Nat} {w w1 : World} (C : Is W0 a n cap c w) (hb : Below w.heap.size w w1) : Is W0 a n cap c w1 := by
  refine ⟨C.below.trans (hb.mono C.below.size), C.ge, Nat.lt_of_lt_of_le C.lt hb.size, C.len, C.code, ?_, ?_, ?_, ?_, ?_⟩
  · rw [hb.cell (p := ⟨c, 0, none⟩) C.lt]; exact C.cb
  · obtain ⟨i, h1, h2⟩ := C.ci
    exact ⟨i, h1, by rw [hb.cell (p := ⟨c, 1, none⟩) C.lt]; exact h2⟩
  · obtain ⟨h0, h2⟩ := C.ch
    exact ⟨h0, by rw [hb.cell (p := ⟨c, 2, none⟩) C.lt]; exact h2⟩
  · rw [hb.frozen (p := ⟨c, 1, none⟩) C.lt]; exact C.fi
  · rw [hb.frozen (p := ⟨c, 2, none⟩) C.lt]; exact C.fh

theorem bytes_kb {W0 : World} {a : Option Addr} {n cap c : Nat} {w : World} (C : Is W0 a n cap c w) (m : Nat) (hm : m ≤ 1000000) :
    Calls Tryd.prog 42 #[.pointer (some ⟨c, 0, none⟩), .int .i64 m] w fun e w' => (∃ s : ByteArray, e = .returned (.string s) ∧ s.size = m) ∧ Is W0 a n cap c w' ∧ Kb c w w' := by
  have hlt := C.lt
  obtain ⟨i0, hi, hz0, hz1, hz2⟩ := info_parts Tryd.info5
  go_enter Tryd.func42, Tryd.ntmps42
  go_wp2
  go_loopw [5, 6] (fun v i wr => ∃ (k : Nat) (l : List UInt8), k ≤ m ∧ l.length = k ∧ i = .int .i64 k ∧ wr.ownsRow w.heap.size 5 1 v k (bcells l) ∧ Is W0 a n cap c wr ∧ Kb c w wr) (fun _ i _ => m - (intOf i).toNat)
  case atStart => exact ⟨0, [], by omega, rfl, rfl, ⟨rfl, Or.inr ⟨w.heap.size, 0, #[], rfl, Nat.le_refl _, (MapKept.heap_alloc w _).1, by omega, by unfold maxLen; omega, rfl, rfl⟩⟩, C.alloc _, (Kb.refl c w).alloc _⟩
  case round =>
    obtain ⟨k, l, hk, hl, rfl, hown, Cr, K⟩ := hrel
    by_cases hkm : k < m
    · go_wp2_with fail
      refine (below_any Cr _).mono ?_
      rintro e w2 ⟨⟨x, rfl, hx0, hx1⟩, C2, M2⟩
      have hx2 := hx1 (by omega)
      clear hx1
      have hown2 := owns_moved hown M2 hlt
      have K2 := K.trans (Kb.moved M2)
      have hsz2 := K2.size
      clear hown M2
      go_wp2_with (at_builtin; refine wpList_append_own _ rfl _ _ 22 rfl w.heap.size 5 i0 (.int .u8 0) 1 1 Tryd.underlying22 hi hz0 hz1 hz2 rfl (by decide) _ _ _ rfl (hown2.alloc _) ⟨w2.heap.size, 0, none⟩ 1 1 [.int .u8 x] rfl rfl ?c1 ?c2 ?c3 ?c4 ?c5 ?_)
      try (case c1 => exact cell_one_new _ _ _)
      case c2 => first | (intro u hu; simp at hu; subst hu; rfl) | rfl | (simp; done)
      case c3 => unfold maxLen; omega
      case c4 => omega
      case c5 => first | omega | (simp; omega)
      · intro v' w3 hown3 hgrow _
        have hb3 := own_block hown2
        have C3 : Is W0 a n cap c w3 := (C2.alloc _).grown hgrow (fun h => by have := hb3 _ h; omega) (fun k h => by have := hb3 _ h; have := C.below.size; omega)
        have K3 : Kb c w w3 := (K2.alloc _).grown hgrow (fun k h => hb3 _ h)
        rw [bcells_snoc l x hx0 (by omega)] at hown3
        clear hown2 hgrow C2 hb3
        go_wp2
        go_roundw
        case rel => exact ⟨k + 1, l ++ [UInt8.ofNat x.toNat], by omega, by simp [hl], by go_num, hown3, C3, K3⟩
        case measure => simp [intOf]; omega
    · obtain rfl : k = m := by omega
      have hconv := conv_own hown
      go_wp2
      go_ret
      exact ⟨⟨_, rfl, by simpa [ByteArray.size] using hl⟩, Cr, K⟩

end Cur
end Go.Proofs.YtbfgfedblnldcaaDoor
