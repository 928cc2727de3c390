/- The draw of a text that tells which blocks it keeps. -/
import Derived.Test.YtbmfhdlbbaabgaaCurSign
import Derived.Test.YtbmfhdlbbaabgaaCurBytes
import Derived.BigRegion
import Derived.Deep.RegionHeld3
namespace Go.Proofs.Ytbmfhdlbbaabgaa
namespace Cur
open Go.ChangeShapes Go.WideShapes Go.ChangeAt Go.RowKit
set_option linter.unusedSimpArgs false
set_option linter.unusedVariables false

/-- What only makes new blocks is no part of the cursor. -/
theorem Is.kept {W0 : World} {a : Option Addr} {n cap c : Nat} {w w1 : World} (C : Is W0 a n cap c w) (hb : Below w.heap.size w w1) : Is W0 a n cap c w1 := by
  refine ⟨C.below.trans (hb.mono C.below.size), C.ge, Nat.lt_of_lt_of_le C.lt hb.size, C.len, C.code, ?_, ?_, ?_, ?_, ?_⟩
  · rw [hb.cell (p := ⟨c, 0, none⟩) C.lt]; exact C.cb
  · obtain ⟨i, h1, h2⟩ := C.ci
    exact ⟨i, h1, by rw [hb.cell (p := ⟨c, 1, none⟩) C.lt]; exact h2⟩
  · obtain ⟨h0, h2⟩ := C.ch
    exact ⟨h0, by rw [hb.cell (p := ⟨c, 2, none⟩) C.lt]; exact h2⟩
  · rw [hb.frozen (p := ⟨c, 1, none⟩) C.lt]; exact C.fi
  · rw [hb.frozen (p := ⟨c, 2, none⟩) C.lt]; exact C.fh

end Cur
end Go.Proofs.Ytbmfhdlbbaabgaa
