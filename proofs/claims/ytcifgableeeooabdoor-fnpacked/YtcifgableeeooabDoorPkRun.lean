/- Contracts of the two functions that count like bytes, of the program and of its model. -/
import Derived.Test.YtcifgableeeooabDoorPkRow
import Derived.Test.YtcifgableeeooabDoorMathPieces
namespace Go.Proofs.YtcifgableeeooabDoor
namespace Pk
open Go.ChangeShapes Go.WideShapes Go.ChangeAt Go.RowKit
set_option linter.unusedSimpArgs false
set_option linter.unusedVariables false

theorem bytes_eq (s : ByteArray) (j m : Nat) (hj : j < s.size) (hm : m < s.size) : (s[j]? = s[m]?) ↔ ((s[j].toNat : Int) == (s[m].toNat : Int)) = true := by
  rw [getElem?_pos s j hj, getElem?_pos s m hm, Option.some.injEq, beq_iff_eq]
  constructor
  · intro h; rw [h]
  · intro h
    apply UInt8.toNat_inj.1
    omega

theorem beq_turn {a b : Int} (h : (a == b) = true) : (b == a) = true := by
  rw [beq_iff_eq] at h ⊢
  exact h.symm

set_option maxHeartbeats 1000000 in
theorem alike_val (s : ByteArray) (e l : Nat) (w : World) (hs : s.size ≤ 3000) (hel : e < l) (hl : l ≤ s.size) :
    Calls Tryd.prog 145 #[.string s, .int .i64 e, .int .i64 l] w fun r w' => r = .returned (.int .i64 (Math.run s e l)) ∧ Drawn w w' := by
  go_enter Tryd.func145, Tryd.ntmps145
  go_wp2
  go_loopw [7] (fun i wr => ∃ (n m : Nat), n ≤ 258 ∧ l + n ≤ s.size ∧ i = .int .i64 n ∧ wr = w.drewN m ∧ Hid (Math.runFrom s e l (258 - n) n = Math.run s e l)) (fun i _ => 258 - (intOf i).toNat)
  case atStart => exact ⟨0, 0, by omega, by omega, rfl, rfl, rfl⟩
  case round =>
    obtain ⟨n, q, hn, hln, rfl, rfl, H⟩ := hrel
    by_cases h1 : n < 258
    · have hd1 : decide ((n : Int) < 258) = true := decide_eq_true (by omega)
      have H1 : Hid (n < 258) := h1
      by_cases h2 : l + n < s.size
      · have hj : e + n < s.size := by omega
        have hbe := bytes_eq s (e + n) (l + n) hj h2
        have i1 : (e : Int) + (n : Int) = ((e + n : Nat) : Int) := by omega
        have i2 : (l : Int) + (n : Int) = ((l + n : Nat) : Int) := by omega
        by_cases h3 : s[e + n]? = s[l + n]?
        · have hx := hbe.1 h3
          have HS : Hid (_) := (Math.runFrom_yes s e l n h1 h2 h3).symm.trans H.out
          clear hbe h3 H h1
          generalize hJ : e + n = j at *
          generalize hM : l + n = m at *
          have HM : Hid (l + n = m) := hM
          clear hJ hM
          go_wp2
          go_quiet (fail)
          go_wp2
          go_roundw
          case rel => exact ⟨n + 1, q + nq, H1.out, by have := HM.out; omega, by go_num, by first | rfl | rw [World.drewN_drewN], HS⟩
          case measure => have := H1.out; simp [intOf]; omega
        · have hx : ((s[e + n].toNat : Int) == (s[l + n].toNat : Int)) = false := by
            rw [Bool.eq_false_iff]
            intro h
            exact h3 (hbe.2 h)
          have HS : Hid (_) := (Math.runFrom_no s e l n (by intro h; exact h3 h.2.2)).symm.trans H.out
          clear hbe h3 H h1
          generalize hJ : e + n = j at *
          generalize hM : l + n = m at *
          clear hJ hM
          go_wp2
          go_quiet (fail)
          go_wp2
          go_ret
          exact ⟨ret_int (by rw [← HS.out]), q + nq, by first | rfl | rw [World.drewN_drewN]⟩
      · have HS : Hid (_) := (Math.runFrom_no s e l n (by intro h; exact h2 h.2.1)).symm.trans H.out
        have hd : decide ((l : Int) + (n : Int) < (s.size : Int)) = false := decide_eq_false (by omega)
        clear H h1
        go_wp2
        go_quiet (fail)
        go_wp2
        go_ret
        exact ⟨ret_int (by rw [← HS.out]), q + nq, by first | rfl | rw [World.drewN_drewN]⟩
    · have HS : Hid (_) := (Math.runFrom_no s e l n (by intro h; exact h1 h.1)).symm.trans H.out
      have hd : decide ((n : Int) < 258) = false := decide_eq_false (by omega)
      clear H
      go_wp2
      go_quiet (fail)
      go_wp2
      go_ret
      exact ⟨ret_int (by rw [← HS.out]), q + nq, by first | rfl | rw [World.drewN_drewN]⟩

set_option maxHeartbeats 1000000 in
theorem specRun_val (s : ByteArray) (l d : Nat) (w : World) (hs : s.size ≤ 3000) (hd0 : 1 ≤ d) (hdl : d ≤ l) (hl : l ≤ s.size) :
    Calls Tryd.prog 113 #[.string s, .int .i64 l, .int .i64 d] w fun r w' => r = .returned (.int .i64 (Math.run s (l - d) l)) ∧ Drawn w w' := by
  generalize he : l - d = e
  have hed : (l : Int) - d = e := by omega
  have hel : e < l := by omega
  go_enter Tryd.func113, Tryd.ntmps113
  go_wp2
  go_loopw [7] (fun i wr => ∃ (n m : Nat), n ≤ 258 ∧ l + n ≤ s.size ∧ i = .int .i64 n ∧ wr = w.drewN m ∧ Hid (Math.runFrom s e l (258 - n) n = Math.run s e l)) (fun i _ => 258 - (intOf i).toNat)
  case atStart => exact ⟨0, 0, by omega, by omega, rfl, rfl, rfl⟩
  case round =>
    obtain ⟨n, q, hn, hln, rfl, rfl, H⟩ := hrel
    by_cases h1 : n < 258
    · have hd1 : decide ((n : Int) < 258) = true := decide_eq_true (by omega)
      have H1 : Hid (n < 258) := h1
      by_cases h2 : l + n < s.size
      · have hj : e + n < s.size := by omega
        have hbe := bytes_eq s (e + n) (l + n) hj h2
        have i1 : (e : Int) + (n : Int) = ((e + n : Nat) : Int) := by omega
        have i2 : (l : Int) + (n : Int) = ((l + n : Nat) : Int) := by omega
        have i3 : ((l + n : Nat) : Int) - (d : Int) = ((e + n : Nat) : Int) := by omega
        by_cases h3 : s[e + n]? = s[l + n]?
        · have hx := beq_turn (hbe.1 h3)
          have HS : Hid (_) := (Math.runFrom_yes s e l n h1 h2 h3).symm.trans H.out
          clear hbe h3 H h1
          generalize hJ : e + n = j at *
          generalize hM : l + n = m at *
          have HM : Hid (l + n = m) := hM
          clear hJ hM
          go_wp2
          go_quiet (fail)
          go_wp2
          go_roundw
          case rel => exact ⟨n + 1, q + nq, H1.out, by have := HM.out; omega, by go_num, by first | rfl | rw [World.drewN_drewN], HS⟩
          case measure => have := H1.out; simp [intOf]; omega
        · have hx : ((s[l + n].toNat : Int) == (s[e + n].toNat : Int)) = false := by
            rw [Bool.eq_false_iff]
            intro h
            exact h3 (hbe.2 (beq_turn h))
          have HS : Hid (_) := (Math.runFrom_no s e l n (by intro h; exact h3 h.2.2)).symm.trans H.out
          clear hbe h3 H h1
          generalize hJ : e + n = j at *
          generalize hM : l + n = m at *
          clear hJ hM
          go_wp2
          go_quiet (fail)
          go_wp2
          go_ret
          exact ⟨ret_int (by rw [← HS.out]), q + nq, by first | rfl | rw [World.drewN_drewN]⟩
      · have HS : Hid (_) := (Math.runFrom_no s e l n (by intro h; exact h2 h.2.1)).symm.trans H.out
        have hd : decide ((l : Int) + (n : Int) < (s.size : Int)) = false := decide_eq_false (by omega)
        clear H h1
        go_wp2
        go_quiet (fail)
        go_wp2
        go_ret
        exact ⟨ret_int (by rw [← HS.out]), q + nq, by first | rfl | rw [World.drewN_drewN]⟩
    · have HS : Hid (_) := (Math.runFrom_no s e l n (by intro h; exact h1 h.1)).symm.trans H.out
      have hd : decide ((n : Int) < 258) = false := decide_eq_false (by omega)
      clear H
      go_wp2
      go_quiet (fail)
      go_wp2
      go_ret
      exact ⟨ret_int (by rw [← HS.out]), q + nq, by first | rfl | rw [World.drewN_drewN]⟩

end Pk
end Go.Proofs.YtcifgableeeooabDoor
