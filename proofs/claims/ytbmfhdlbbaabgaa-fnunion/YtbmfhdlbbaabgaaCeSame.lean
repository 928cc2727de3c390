/- The laws' own comparisons of lists, of equal ones. -/
import Derived.Test.YtbmfhdlbbaabgaaCeCtr
import Derived.BigQuiet
namespace Go.Proofs.Ytbmfhdlbbaabgaa
namespace Hn
open Go.ChangeShapes Go.WideShapes Go.ChangeAt Go.RowKit Go.Joins
open Pk (new_below join_below cell_at heap_new frozen_at lt_of kept heap_old Drawn info_of Room own_form own_below)
set_option linter.unusedSimpArgs false
set_option linter.unusedVariables false

theorem sameInts_same (a b : Option Addr) (zs : List Int) (c1 c2 : Nat) (w : World) (hz : zs.length ≤ 1048576) (I : Ints w a zs) (J : Ints w b zs) :
    Calls Try.prog 18 #[.slice a zs.length c1, .slice b zs.length c2] w fun e w' => e = .returned (.bool true) ∧ Drawn w w' := by
  go_enter Try.func18, Try.ntmps18
  go_wp2
  go_loopw [5] (fun i wr => ∃ (k n : Nat), k ≤ zs.length ∧ i = .int .i64 k ∧ wr = w.drewN n) (fun i _ => zs.length - (intOf i).toNat)
  case atStart => exact ⟨0, 0, by omega, rfl, rfl⟩
  case round =>
    obtain ⟨k, n, hk, rfl, rfl⟩ := hrel
    by_cases hkn : k < zs.length
    · obtain ⟨x, o, rfl, hx, hxc⟩ := I.at k hkn
      obtain ⟨y, u, rfl, hy, hyc⟩ := J.at k hkn
      generalize zs[k] = z at *
      go_wp2
      go_quiet (fail)
      go_wp2
      go_roundw
      case rel => exact ⟨k + 1, n + nq, by omega, by go_num, rfl⟩
      case measure => simp [intOf]; omega
    · go_wp2
      go_ret
      exact ⟨rfl, n, rfl⟩

theorem sameControls_same (a b : Option Addr) (ps : List Ct) (c1 c2 : Nat) (w : World) (hz : ps.length ≤ 1048576) (I : Controls w a ps) (J : Controls w b ps) :
    Calls Try.prog 8 #[.slice a ps.length c1, .slice b ps.length c2] w fun e w' => e = .returned (.bool true) ∧ Drawn w w' := by
  go_enter Try.func8, Try.ntmps8
  go_wp2
  go_loopw [5] (fun i wr => ∃ (k n : Nat), k ≤ ps.length ∧ i = .int .i64 k ∧ wr = w.drewN n) (fun i _ => ps.length - (intOf i).toNat)
  case atStart => exact ⟨0, 0, by omega, rfl, rfl⟩
  case round =>
    obtain ⟨k, n, hk, rfl, rfl⟩ := hrel
    by_cases hkn : k < ps.length
    · obtain ⟨x, o, rfl, hx, h0, h1, h2, h3, h4, h5⟩ := I.at k hkn
      obtain ⟨y, u, rfl, hy, g0, g1, g2, g3, g4, g5⟩ := J.at k hkn
      generalize ps[k] = z at *
      go_wp2
      go_quiet (fail)
      go_wp2
      go_roundw
      case rel => exact ⟨k + 1, n + nq, by omega, by go_num, rfl⟩
      case measure => simp [intOf]; omega
    · go_wp2
      go_ret
      exact ⟨rfl, n, rfl⟩

end Hn
end Go.Proofs.Ytbmfhdlbbaabgaa
