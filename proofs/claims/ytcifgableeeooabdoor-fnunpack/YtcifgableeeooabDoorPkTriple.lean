/- Three bytes of a text as a key, and what is known of a map of such keys. -/
import Derived.Test.YtcifgableeeooabDoorPkPieces
import Derived.BigRegion
import Derived.DeepKeys4
import Derived.WideKeyEntry
namespace Go.Proofs.YtcifgableeeooabDoor
namespace Pk
open Go.ChangeShapes Go.WideShapes Go.ChangeAt Go.RowKit
set_option linter.unusedSimpArgs false
set_option linter.unusedVariables false

/-- Three bytes as a key. -/
abbrev triV (a b c : UInt8) : Value := .agg #[.int .u8 (a.toNat : Int), .int .u8 (b.toNat : Int), .int .u8 (c.toNat : Int)]

set_option maxHeartbeats 1000000 in
theorem triple_is (s : ByteArray) (i i1 i2 : Nat) (w : World) (hs : s.size ≤ 3000) (h0 : i < s.size) (h1 : i1 < s.size) (h2 : i2 < s.size) (e1 : (i : Int) + 1 = i1) (e2 : (i : Int) + 2 = i2) :
    Calls Tryd.prog 144 #[.string s, .int .i64 i] w fun e w' => e = .returned (triV s[i] s[i1] s[i2]) ∧ Below w.heap.size w w' := by
  have b0 := s[i].toNat_lt
  have b1 := s[i1].toNat_lt
  have b2 := s[i2].toNat_lt
  have m0 := heap_new w (.cells #[.int .u8 0, .int .u8 0, .int .u8 0] 152)
  have L0 := new_below w (.cells #[.int .u8 0, .int .u8 0, .int .u8 0] 152)
  go_enter Tryd.func144, Tryd.ntmps144
  go_wp2
  generalize w.alloc (.cells #[.int .u8 0, .int .u8 0, .int .u8 0] 152) = w1 at *
  have d0 : w1.cell? ⟨w.heap.size, 0, none⟩ = some (.int .u8 0) := cell_at m0 0
  have d1 : w1.cell? ⟨w.heap.size, 1, none⟩ = some (.int .u8 0) := cell_at m0 1
  have d2 : w1.cell? ⟨w.heap.size, 2, none⟩ = some (.int .u8 0) := cell_at m0 2
  have f0 : w1.frozen? ⟨w.heap.size, 0, none⟩ = false := frozen_at m0 0
  have f1 : w1.frozen? ⟨w.heap.size, 1, none⟩ = false := frozen_at m0 1
  have f2 : w1.frozen? ⟨w.heap.size, 2, none⟩ = false := frozen_at m0 2
  go_region
  go_wp2
  refine bodyPost_ret (v := triV s[i] s[i1] s[i2]) (by simp [results, Tryd.results144, go_sem, d0, d1, d2]) rfl ?_
  exact ⟨rfl, (((L0.setCell (Nat.le_refl _) _).setCell (Nat.le_refl _) _).setCell (Nat.le_refl _) _).drew⟩

theorem keyLaw : WideMaps.KeyLaw Tryd.prog 152 := deep_law_laid (m := 3) (by kernel_rfl) (by omega) (of_decide_eq_true (by kernel_rfl)) (by kernel_rfl) (by kernel_rfl)

/-- Three bytes. -/
abbrev Key := UInt8 × UInt8 × UInt8

def kv (k : Key) : Value := triV k.1 k.2.1 k.2.2

theorem kv_inj {a b : Key} (h : kv a = kv b) : a = b := by
  obtain ⟨a1, a2, a3⟩ := a
  obtain ⟨b1, b2, b3⟩ := b
  simp only [kv, triV, Value.agg.injEq, Array.mk.injEq, List.cons.injEq, Value.int.injEq, true_and, and_true] at h
  obtain ⟨h1, h2, h3⟩ := h
  have e1 : a1 = b1 := UInt8.toNat_inj.1 (by omega)
  have e2 : a2 = b2 := UInt8.toNat_inj.1 (by omega)
  have e3 : a3 = b3 := UInt8.toNat_inj.1 (by omega)
  rw [e1, e2, e3]

theorem wf_u8' (a : UInt8) : (Lit.int .u8 (a.toNat : Int)).wf = true := by
  have := a.toNat_lt
  refine WalkArith.wf_u8 ?_
  omega

theorem kv_key (k : Key) : ∃ l, keyOf Tryd.prog 152 (kv k) = some l := by
  obtain ⟨a, b, c⟩ := k
  have c3 : Tryd.prog.cellsOf 152 = 3 := by kernel_rfl
  have c1 : Tryd.prog.cellsOf 5 = 1 := by kernel_rfl
  have wa := wf_u8' a
  have wb := wf_u8' b
  have wc := wf_u8' c
  have kl : ∀ d, Tryd.prog.keyLits (d + 2) 152 [.int .u8 (a.toNat : Int), .int .u8 (b.toNat : Int), .int .u8 (c.toNat : Int)] = some [.int .u8 (a.toNat : Int), .int .u8 (b.toNat : Int), .int .u8 (c.toNat : Int)] := by
    intro d
    simp [Program.keyLits, Tryd.underlying152, Tryd.underlying5, c3, c1, List.range, List.range.loop, wa, wb, wc]
  unfold kv keyOf
  simp [go_sem]
  refine ⟨⟨by kernel_rfl, ?_⟩, _, _, kl _, rfl⟩
  simp [Value.formed, Tryd.underlying152, c3]

end Pk
end Go.Proofs.YtcifgableeeooabDoor
