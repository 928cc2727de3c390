/- Contracts of MarkText and ReadMark, of the program and of the model. -/
import Derived.Test.YtllmmelnkkmfoaaDoorNumWord
import Derived.Deep.RegionWith
namespace Go.Proofs.YtllmmelnkkmfoaaDoor
namespace Num
open Go.ChangeShapes Go.WideShapes Go.ChangeAt Go.RowKit
set_option linter.unusedSimpArgs false
set_option linter.unusedVariables false

/-- Whether a number is a word. -/
def wideB (x : Int) : Bool := decide (0 ≤ x ∧ x ≤ 4294967295)

/-- What MarkText answers. -/
def markS (r s : Int) : ByteArray := if (wideB r && wideB s) = true then wordS r.toNat ++ wordS s.toNat else ⟨#[]⟩

theorem markS_yes {r s : Int} (h : (wideB r && wideB s) = true) : markS r s = wordS r.toNat ++ wordS s.toNat := if_pos h

theorem markS_no {r s : Int} (h : (wideB r && wideB s) = false) : markS r s = ⟨#[]⟩ := if_neg (by rw [h]; simp)

theorem implWide_is (x : Int) (b : Bool) (h : wideB x = b) (w : World) :
    Calls Tryd.prog 42 #[.int .i64 x] w fun e w' => e = .returned (.bool b) ∧ w' = w := by
  subst h
  by_cases h1 : 0 ≤ x <;> by_cases h2 : x ≤ 4294967295
  all_goals
    go_enter Tryd.func42, Tryd.ntmps42
    go_wp2
    go_ret
    exact ⟨by simp [wideB, h1, h2], rfl⟩

theorem cells2 {w w1 : World} {p q : Int} {t : TypeId} (L : Below (w.alloc (.cells #[.int .i64 p, .int .i64 q] t)).heap.size (w.alloc (.cells #[.int .i64 p, .int .i64 q] t)) w1) :
    w1.cell? ⟨w.heap.size, 0, none⟩ = some (.int .i64 p) ∧ w1.cell? ⟨w.heap.size, 1, none⟩ = some (.int .i64 q) := by
  refine ⟨?_, ?_⟩
  · rw [L.cell (by simp)]; exact World.cell?_alloc_mark _ _ _ _ 0
  · rw [L.cell (by simp)]; exact World.cell?_alloc_mark _ _ _ _ 1

theorem undrew {X w3 : World} (L : Below X.drew.heap.size X.drew w3) : Below X.heap.size X w3 := (Below.refl X.heap.size X).drew.trans L

theorem implWord_wrap (x : Nat) (w : World) (hx : x < 4294967296) :
    Calls Tryd.prog 43 #[.int .u32 (IntKind.u32.wrap (x : Int))] w fun e w' => e = .returned (.string (wordS x)) ∧ Below w.heap.size w w' := by
  have e : IntKind.u32.wrap (x : Int) = x := by rw [IntKind.wrap_u32]; omega
  rw [e]
  refine (implWordText_any x w hx).mono ?_
  rintro e w' ⟨rfl, -, L⟩
  exact ⟨rfl, L⟩

set_option maxHeartbeats 1000000 in
theorem implMarkText_val (r s : Int) (w : World) :
    Calls Tryd.prog 19 #[.agg #[.int .i64 r, .int .i64 s]] w fun e w' => e = .returned (.string (markS r s)) ∧ Below w.heap.size w w' := by
  cases hr : wideB r
  · have HV : Hid (markS r s = ⟨#[]⟩) := markS_no (by rw [hr]; rfl)
    have HR : Hid (wideB r = false) := hr
    clear hr
    go_enter Tryd.func19, Tryd.ntmps19
    go_wp2_with fail
    refine (implWide_is r false HR.out _).mono ?_
    rintro e w1 ⟨rfl, rfl⟩
    go_wp2
    go_ret
    rw [HV.out]
    exact ⟨rfl, (Below.refl _ _).alloc (Nat.le_refl _) _⟩
  · cases hs : wideB s
    · have HV : Hid (markS r s = ⟨#[]⟩) := markS_no (by rw [hr, hs]; rfl)
      have HR : Hid (wideB r = true) := hr
      have HS : Hid (wideB s = false) := hs
      clear hr hs
      go_enter Tryd.func19, Tryd.ntmps19
      go_wp2_with fail
      refine (implWide_is r true HR.out _).mono ?_
      rintro e w1 ⟨rfl, rfl⟩
      go_wp2_with fail
      refine (implWide_is s false HS.out _).mono ?_
      rintro e w2 ⟨rfl, rfl⟩
      go_wp2
      go_ret
      rw [HV.out]
      exact ⟨rfl, (Below.refl _ _).alloc (Nat.le_refl _) _⟩
    · have HV : Hid (markS r s = wordS r.toNat ++ wordS s.toNat) := markS_yes (by rw [hr, hs]; rfl)
      have HR : Hid (wideB r = true) := hr
      have HS : Hid (wideB s = true) := hs
      have hr1 := of_decide_eq_true hr
      have hs1 := of_decide_eq_true hs
      clear hr hs
      obtain ⟨x, rfl⟩ := Int.eq_ofNat_of_zero_le hr1.1
      obtain ⟨y, rfl⟩ := Int.eq_ofNat_of_zero_le hs1.1
      rw [Int.toNat_natCast, Int.toNat_natCast] at HV
      have HX : Hid (∀ w, _) := fun w => implWord_wrap x w (by omega)
      have HY : Hid (∀ w, _) := fun w => implWord_wrap y w (by omega)
      have h8 : ¬ ((wordS x).size + (wordS y).size > 9223372036854775807) := by rw [wordS_size, wordS_size]; omega
      have L0 : Below w.heap.size w (w.alloc (.cells #[.int .i64 x, .int .i64 y] 36)) := (Below.refl _ _).alloc (Nat.le_refl _) _
      go_enter Tryd.func19, Tryd.ntmps19
      go_wp2_with fail
      refine (implWide_is x true HR.out _).mono ?_
      rintro e w1 ⟨rfl, rfl⟩
      go_wp2_with fail
      refine (implWide_is y true HS.out _).mono ?_
      rintro e w2 ⟨rfl, rfl⟩
      go_wp2
      generalize hx : wordS x = X at *
      generalize hy : wordS y = Y at *
      clear hx hy
      go_region_with (first
        | (go_at_call 43; with_reducible refine (HX.out _).mono ?_; rintro e w3 ⟨rfl, L3⟩; have L4 := undrew L3; obtain ⟨c0, c1⟩ := cells2 L4)
        | (go_at_call 43; with_reducible refine (HY.out _).mono ?_; rintro e w5 ⟨rfl, L5⟩))
      all_goals
        go_wp2
        go_ret
        rw [HV.out]
        exact ⟨rfl, L0.trans ((L4.trans (L5.mono L4.size)).mono L0.size)⟩

end Num
end Go.Proofs.YtllmmelnkkmfoaaDoor
