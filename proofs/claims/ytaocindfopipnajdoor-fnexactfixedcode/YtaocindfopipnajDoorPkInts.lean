/- Contracts of the laws' own helpers over rows of numbers that a function has made: two held against each other, one marked, one held against its marks. -/
import Derived.Test.YtaocindfopipnajDoorPkBits
namespace Go.Proofs.YtaocindfopipnajDoor
namespace Pk
open Go.ChangeShapes Go.WideShapes Go.ChangeAt Go.RowKit
set_option linter.unusedSimpArgs false
set_option linter.unusedVariables false

/-- What keeps the blocks below B keeps a row whose block lies there. -/
theorem own_keep {w w1 : World} {B base e size : Nat} {v : Value} {n : Nat} {xs : List Value} (h : w.ownsRow base e size v n xs) (L : Below B w w1) (hlt : ∀ k, v.ownBlock = some k → k < B) : w1.ownsRow base e size v n xs := by
  obtain ⟨h1, h2⟩ := h
  refine ⟨h1, ?_⟩
  rcases h2 with h2 | ⟨g, cap, cur, hv, hg, hh, hr⟩
  · exact Or.inl h2
  · exact Or.inr ⟨g, cap, cur, hv, hg, kept L (hlt g (by rw [hv]; rfl)) hh, hr⟩

theorem eqInts_same (B C : Nat) (u v : Value) (l : List Nat) (n : Nat) (w : World) (hn : n ≤ 1048576) (hl : l.length = n) (I : w.ownsRow B 3 1 u n (icells l)) (J : w.ownsRow C 3 1 v n (icells l)) :
    Calls Tryd.prog 7 #[u, v] w fun e w' => e = .returned (.bool true) ∧ Drawn w w' := by
  obtain ⟨ua, uc, rfl, -⟩ := own_form I
  obtain ⟨va, vc, rfl, -⟩ := own_form J
  go_enter Tryd.func7, Tryd.ntmps7
  go_wp2
  go_loopw [5] (fun i wr => ∃ (k m : Nat), k ≤ n ∧ i = .int .i64 k ∧ wr = w.drewN m) (fun i _ => n - (intOf i).toNat)
  case atStart => exact ⟨0, 0, by omega, rfl, rfl⟩
  case round =>
    obtain ⟨k, m, hk, rfl, rfl⟩ := hrel
    by_cases hkn : k < n
    · obtain ⟨x, xc, hxe, -, -, y, hy, hxc⟩ := own_at I k hkn
      obtain ⟨z, zc, hze, -, -, y2, hy2, hzc⟩ := own_at J k hkn
      simp only [Value.slice.injEq] at hxe hze
      obtain ⟨rfl, -, -⟩ := hxe
      obtain ⟨rfl, -, -⟩ := hze
      rw [icells_at l k (by omega)] at hy hy2
      simp only [Option.some.injEq] at hy hy2
      subst hy hy2
      generalize l[k] = y at *
      go_wp2
      go_quiet (fail)
      go_wp2
      go_roundw
      case rel => exact ⟨k + 1, m + nq, by omega, by go_num, rfl⟩
      case measure => simp [intOf]; omega
    · go_wp2
      go_ret
      exact ⟨rfl, m, rfl⟩

/-- A row of which the first k are marked. -/
def marked (l : List Nat) (k : Nat) : List Nat := (List.range k).map (· + 1) ++ l.drop k

theorem marked_length (l : List Nat) (k : Nat) (h : k ≤ l.length) : (marked l k).length = l.length := by
  unfold marked
  simp
  omega

theorem marked_set (l : List Nat) (k : Nat) (h : k < l.length) : (marked l k).set k (k + 1) = marked l (k + 1) := by
  unfold marked
  rw [List.set_append_right _ _ (by simp)]
  simp only [List.length_map, List.length_range, Nat.sub_self]
  rw [List.drop_eq_getElem_cons h, List.set_cons_zero, List.range_succ, List.map_append]
  simp

theorem icells_set (l : List Nat) (i : Nat) (b : Nat) : (icells l).set i (.int .i64 (b : Int)) = icells (l.set i b) := by simp [icells, List.map_set]

theorem marked_at (l : List Nat) (k : Nat) (h : k < l.length) : (marked l l.length)[k]? = some (k + 1) := by
  unfold marked
  rw [List.getElem?_append_left (by simp; exact h)]
  simp [h]

theorem markInts_val (B : Nat) (v : Value) (l : List Nat) (n : Nat) (w : World) (hn : n ≤ 1048576) (hl : l.length = n) (hB : B ≤ w.heap.size) (I : w.ownsRow B 3 1 v n (icells l)) :
    Calls Tryd.prog 8 #[v, .int .i64 1] w fun e w' => e = .returned (.int .i64 ((n : Int) + 1)) ∧ w'.ownsRow B 3 1 v n (icells (marked l n)) ∧ Below B w w' := by
  obtain ⟨va, vc, rfl, -⟩ := own_form I
  go_enter Tryd.func8, Tryd.ntmps8
  go_wp2
  go_loopw [1, 5] (fun t i wr => ∃ (k : Nat), k ≤ n ∧ i = .int .i64 k ∧ t = .int .i64 ((k : Int) + 1) ∧ wr.ownsRow B 3 1 (.slice va n vc) n (icells (marked l k)) ∧ Below B w wr) (fun _ i _ => n - (intOf i).toNat)
  case atStart => exact ⟨0, by omega, rfl, rfl, by rw [show marked l 0 = l from rfl]; exact I, Below.refl _ _⟩
  case round =>
    obtain ⟨k, hk, rfl, rfl, hown, L⟩ := hrel
    by_cases hkn : k < n
    · obtain ⟨g, cp, he, hg1, hg2, y, hy, hc⟩ := own_at hown k hkn
      simp only [Value.slice.injEq] at he
      obtain ⟨rfl, -, -⟩ := he
      have hf : wr.frozen? ⟨g, k, none⟩ = false := by
        obtain ⟨-, h2⟩ := hown
        rcases h2 with ⟨hv, -⟩ | ⟨g', cap', cur, hv, hg, hh, -⟩
        · cases hv
        · simp only [Value.slice.injEq, Option.some.injEq, Addr.mk.injEq] at hv
          rw [hv.1.1]
          exact frozen_at hh k
      have hs := own_set hown hkn (.int .i64 ((k + 1 : Nat) : Int))
      rw [icells_set, marked_set l k (by omega)] at hs
      have HS : Hid (_) := hs
      clear hs hown hy
      go_wp2
      go_roundw
      case rel => exact ⟨k + 1, by omega, by go_num, by go_num, HS.out, L.setCell hg1 _⟩
      case measure => simp [intOf]; omega
    · obtain rfl : k = n := by omega
      go_wp2
      go_ret
      exact ⟨rfl, hown, L⟩

theorem heldInts_val (B : Nat) (v : Value) (l : List Nat) (n : Nat) (w : World) (hn : n ≤ 1048576) (hl : l.length = n) (I : w.ownsRow B 3 1 v n (icells (marked l n))) :
    Calls Tryd.prog 9 #[v, .int .i64 1] w fun e w' => e = .returned (.int .i64 ((n : Int) + 1)) ∧ w' = w := by
  obtain ⟨va, vc, rfl, -⟩ := own_form I
  go_enter Tryd.func9, Tryd.ntmps9
  go_wp2
  go_loop [1, 5] (fun t i => ∃ (k : Nat), k ≤ n ∧ i = .int .i64 k ∧ t = .int .i64 ((k : Int) + 1)) (fun _ i => n - (intOf i).toNat)
  case atStart => exact ⟨0, by omega, rfl, rfl⟩
  case round =>
    obtain ⟨k, hk, rfl, rfl⟩ := hrel
    by_cases hkn : k < n
    · obtain ⟨g, cp, he, hg1, hg2, y, hy, hc⟩ := own_at I k hkn
      simp only [Value.slice.injEq] at he
      obtain ⟨rfl, -, -⟩ := he
      have hy2 : y = .int .i64 ((k : Int) + 1) := by
        have h1 : (icells (marked l n))[k]? = some (.int .i64 ((k + 1 : Nat) : Int)) := by
          subst hl
          simp [icells, marked_at l k hkn]
        rw [h1] at hy
        simp only [Option.some.injEq] at hy
        rw [← hy]
        simp
      subst hy2
      go_wp2
      go_round
      case rel => exact ⟨k + 1, by omega, by go_num, by go_num⟩
      case measure => simp [intOf]; omega
    · obtain rfl : k = n := by omega
      go_wp2
      go_ret
      exact ⟨rfl, rfl⟩

end Pk
end Go.Proofs.YtaocindfopipnajDoor
