/- Contracts of the draws of chapter 2: spoilt parameters, and what is verified. -/
import Derived.Test.YtllmmelnkkmfoabDoorCurSign
import Derived.Test.YtllmmelnkkmfoabDoorCurBytes
import Derived.Test.YtllmmelnkkmfoabDoorSignVals
import Derived.Test.YtllmmelnkkmfoabDoorSignVer
import Derived.BigRegion
import Derived.Deep.RegionHeld3
namespace Go.Proofs.YtllmmelnkkmfoabDoor
namespace Cur
open Go.ChangeShapes Go.WideShapes Go.ChangeAt Go.RowKit
open Num (pv mv pb mb sv signV keyI keyB okP)
set_option linter.unusedSimpArgs false
set_option linter.unusedVariables false

/-- What only makes new blocks is no part of the cursor. -/
theorem Is.kept {W0 : World} {a : Option Addr} {n cap c : Nat} {w w1 : World} (C : Is W0 a n cap c w) (hb : Below w.heap.size w w1) : Is W0 a n cap c w1 := by
  refine ⟨C.below.trans (hb.mono C.below.size), C.ge, Nat.lt_of_lt_of_le C.lt hb.size, C.len, C.code, ?_, ?_, ?_, ?_, ?_⟩
  · rw [hb.cell (p := ⟨c, 0, none⟩) C.lt]; exact C.cb
  · obtain ⟨i, h1, h2⟩ := C.ci
    exact ⟨i, h1, by rw [hb.cell (p := ⟨c, 1, none⟩) C.lt]; exact h2⟩
  · obtain ⟨h0, h2⟩ := C.ch
    exact ⟨h0, by rw [hb.cell (p := ⟨c, 2, none⟩) C.lt]; exact h2⟩
  · rw [hb.frozen (p := ⟨c, 1, none⟩) C.lt]; exact C.fi
  · rw [hb.frozen (p := ⟨c, 2, none⟩) C.lt]; exact C.fh

theorem bytes_kb {W0 : World} {a : Option Addr} {n cap c : Nat} {w : World} (C : Is W0 a n cap c w) (m : Nat) (hm : m ≤ 1000000) :
    Calls Tryd.prog 45 #[.pointer (some ⟨c, 0, none⟩), .int .i64 m] w fun e w' => (∃ s : ByteArray, e = .returned (.string s) ∧ s.size = m) ∧ Is W0 a n cap c w' ∧ Kb c w w' := by
  have hlt := C.lt
  obtain ⟨i0, hi, hz0, hz1, hz2⟩ := info_parts Tryd.info5
  go_enter Tryd.func45, Tryd.ntmps45
  go_wp2
  go_loopw [5, 6] (fun v i wr => ∃ (k : Nat) (l : List UInt8), k ≤ m ∧ l.length = k ∧ i = .int .i64 k ∧ wr.ownsRow w.heap.size 5 1 v k (bcells l) ∧ Is W0 a n cap c wr ∧ Kb c w wr) (fun _ i _ => m - (intOf i).toNat)
  case atStart => exact ⟨0, [], by omega, rfl, rfl, ⟨rfl, Or.inr ⟨w.heap.size, 0, #[], rfl, Nat.le_refl _, (MapKept.heap_alloc w _).1, by omega, by unfold maxLen; omega, rfl, rfl⟩⟩, C.alloc _, (Kb.refl c w).alloc _⟩
  case round =>
    obtain ⟨k, l, hk, hl, rfl, hown, Cr, K⟩ := hrel
    by_cases hkm : k < m
    · go_wp2_with fail
      refine (below_any Cr _).mono ?_
      rintro e w2 ⟨⟨x, rfl, hx0, hx1⟩, C2, M2⟩
      have hx2 := hx1 (by omega)
      clear hx1
      have hown2 := owns_moved hown M2 hlt
      have K2 := K.trans (Kb.moved M2)
      have hsz2 := K2.size
      clear hown M2
      go_wp2_with (at_builtin; refine wpList_append_own _ rfl _ _ 22 rfl w.heap.size 5 i0 (.int .u8 0) 1 1 Tryd.underlying22 hi hz0 hz1 hz2 rfl (by decide) _ _ _ rfl (hown2.alloc _) ⟨w2.heap.size, 0, none⟩ 1 1 [.int .u8 x] rfl rfl ?c1 ?c2 ?c3 ?c4 ?c5 ?_)
      try (case c1 => exact cell_one_new _ _ _)
      case c2 => first | (intro u hu; simp at hu; subst hu; rfl) | rfl | (simp; done)
      case c3 => unfold maxLen; omega
      case c4 => omega
      case c5 => first | omega | (simp; omega)
      · intro v' w3 hown3 hgrow _
        have hb3 := own_block hown2
        have C3 : Is W0 a n cap c w3 := (C2.alloc _).grown hgrow (fun h => by have := hb3 _ h; omega) (fun k h => by have := hb3 _ h; have := C.below.size; omega)
        have K3 : Kb c w w3 := (K2.alloc _).grown hgrow (fun k h => hb3 _ h)
        rw [bcells_snoc l x hx0 (by omega)] at hown3
        clear hown2 hgrow C2 hb3
        go_wp2
        go_roundw
        case rel => exact ⟨k + 1, l ++ [UInt8.ofNat x.toNat], by omega, by simp [hl], by go_num, hown3, C3, K3⟩
        case measure => simp [intOf]; omega
    · obtain rfl : k = m := by omega
      have hconv := conv_own hown
      go_wp2
      go_ret
      exact ⟨⟨_, rfl, by simpa [ByteArray.size] using hl⟩, Cr, K⟩

theorem hs_same {w : World} {c i : Nat} {cs : Array Value} {t : TypeId} {f : Nat × Nat} (h : w.heap[c]? = some (.cells cs t f)) (u : Value) : (w.setCell ⟨c, i, none⟩ u).heap[c]? = some (.cells (cs.setIfInBounds i u) t f) := by
  unfold World.setCell
  simp [Array.getElem?_modify, h]

theorem hs_other {w : World} {k g i : Nat} {x : Obj} (h : w.heap[k]? = some x) (hne : k ≠ g) (u : Value) : (w.setCell ⟨g, i, none⟩ u).heap[k]? = some x := by
  rw [Below.heap_setCell w ⟨g, i, none⟩ u k hne]
  exact h

theorem mark_set {w : World} {M : Nat} (r s : Int) (h : w.heap[M]? = some (mb 0 0)) : ((w.setCell ⟨M, 0, none⟩ (.int .i64 r)).setCell ⟨M, 1, none⟩ (.int .i64 s)).heap[M]? = some (mb r s) := hs_same (i := 1) (hs_same (i := 0) h (.int .i64 r)) (.int .i64 s)

theorem two_other {w : World} {M k : Nat} {x : Obj} (u v : Value) (h : w.heap[k]? = some x) (hne : k ≠ M) : ((w.setCell ⟨M, 0, none⟩ u).setCell ⟨M, 1, none⟩ v).heap[k]? = some x := hs_other (hs_other h hne u) hne v

theorem wrap_is (n : Int) (h : -9223372036854775808 ≤ n ∧ n ≤ 9223372036854775807) : IntKind.i64.wrap n = n := by
  rw [IntKind.wrap_i64]
  omega

theorem listed_bd {p q g : Int} (h : Listed p q g) : 100 ≤ q ∧ q ≤ 1000003 ∧ 1000 ≤ p ∧ p ≤ 36000109 ∧ 2 ≤ g ∧ g ≤ 36000109 := by
  unfold Listed at h
  omega

theorem listed_ok {p q g : Int} (h : Listed p q g) : okP p q g = true := by
  rcases h with ⟨rfl, rfl, rfl⟩ | ⟨rfl, rfl, rfl⟩ | ⟨rfl, rfl, rfl⟩ | ⟨rfl, rfl, rfl⟩ | ⟨rfl, rfl, rfl⟩ | ⟨rfl, rfl, rfl⟩
  · exact Num.ok1
  · exact Num.ok2
  · exact Num.ok3
  · exact Num.ok4
  · exact Num.ok5
  · exact Num.ok6

theorem sg_bd {p q g x h : Int} (hq : Num.Meas q) (zs : List Int) (i : Int) : (0 ≤ (Num.sg p q g x h zs i).1 ∧ (Num.sg p q g x h zs i).1 < q) ∧ (0 ≤ (Num.sg p q g x h zs i).2.1 ∧ (Num.sg p q g x h zs i).2.1 < q) := by
  have h2 := hq.1
  induction zs generalizing i with
  | nil => exact ⟨⟨Int.le_refl _, by show (0 : Int) < q; omega⟩, ⟨Int.le_refl _, by show (0 : Int) < q; omega⟩⟩
  | cons k r ih =>
    rw [Num.sg]
    split
    · exact ⟨Num.rV_bd hq, Num.sV_bd hq⟩
    · exact ih (i + 1)

theorem sign_bd {p q g x : Int} {t : ByteArray} {zs : List Int} (h : Listed p q g) : (0 ≤ (signV p q g x t zs).1 ∧ (signV p q g x t zs).1 < q) ∧ (0 ≤ (signV p q g x t zs).2.1 ∧ (signV p q g x t zs).2.1 < q) := by
  have hb := listed_bd h
  unfold signV
  split
  · exact sg_bd (Num.okP_facts (listed_ok h)).2.1 zs 0
  · exact ⟨⟨Int.le_refl _, by show (0 : Int) < q; omega⟩, ⟨Int.le_refl _, by show (0 : Int) < q; omega⟩⟩

theorem key_bd {p q g x : Int} (h : Listed p q g) (h0 : 0 ≤ x) (h1 : x ≤ 2147483647) : 0 ≤ keyI p q g x ∧ keyI p q g x ≤ 36000109 := by
  have hb := listed_bd h
  unfold keyI
  split
  · have := Num.powV_bd g (Num.okP_facts (listed_ok h)).1 h0 h1
    omega
  · omega

theorem ints_new (w : World) (zs : List Int) (t : TypeId) : Num.Ints (w.alloc (.cells (zs.map (Value.int .i64)).toArray t)) (some ⟨w.heap.size, 0, none⟩) zs := by
  refine Or.inr ⟨w.heap.size, 0, rfl, by simp, fun i hi => ?_⟩
  rw [cs_cell (Num.heap_new w _), Nat.zero_add]
  simp [hi]

theorem row_any (w : World) (zs : List Int) (P : Int → Prop) (h : ∀ z ∈ zs, P z) : RowOf P (w.alloc (.cells (zs.map (Value.int .i64)).toArray 3)) w.heap.size zs.length := rowOf_new P w zs _ h

end Cur
end Go.Proofs.YtllmmelnkkmfoabDoor
