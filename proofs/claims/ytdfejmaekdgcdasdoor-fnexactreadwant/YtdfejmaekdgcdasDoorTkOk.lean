/- Contracts of TicketOk, of the program and of its model. -/
import Derived.Test.YtdfejmaekdgcdasDoorTkLegs
namespace Go.Proofs.YtdfejmaekdgcdasDoor
namespace Tk
open Go.ChangeShapes Go.WideShapes Go.ChangeAt Go.RowKit
open Pk (new_below join_below cell_at heap_new frozen_at lt_of kept)
set_option linter.unusedSimpArgs false
set_option linter.unusedVariables false

/-- A number lies between two. -/
def inB (x a b : Int) : Bool := decide (a ≤ x ∧ x ≤ b)

theorem inB_yes {x a b : Int} (h : inB x a b = true) : a ≤ x ∧ x ≤ b := of_decide_eq_true h

/-- A ticket's numbers but for its name and its legs. -/
structure Hd where
  id : Int
  cl : Int
  pr : Int
  fi : Int
  la : Int

def headB (t : Hd) : Bool := inB t.id 1 999999999 && inB t.cl 1 2 && inB t.pr 0 100000000 && inB t.fi 0 99999 && inB t.la t.fi 99999

/-- The bytes of a name from a place on are right. -/
def nameFrom (s : ByteArray) (i : Nat) : Bool := (s.data.toList.drop i).all fun b => decide (32 ≤ b.toNat ∧ b.toNat ≤ 126)

def nameB (s : ByteArray) : Bool := nameFrom s 0 && decide (s.size ≤ 40)

def seatB (l : Lg) : Bool := (decide (l.co = 0) && decide (l.se = 0)) || (inB l.co 1 99 && inB l.se 1 99)

def legB (l : Lg) (fi la : Int) : Bool := inB l.tr 1 9999 && inB l.dy fi la && inB l.fr 1 9999 && inB l.to 1 9999 && !decide (l.fr = l.to) && seatB l

def legsFrom (ls : List Lg) (fi la : Int) (i : Nat) : Bool := (ls.drop i).all fun l => legB l fi la

def okB (t : Hd) (s : ByteArray) (ls : List Lg) : Bool := headB t && nameB s && inB ls.length 1 6 && legsFrom ls t.fi t.la 0

theorem nameFrom_step (s : ByteArray) (i : Nat) (h : i < s.size) : nameFrom s i = (decide (32 ≤ s[i].toNat ∧ s[i].toNat ≤ 126) && nameFrom s (i + 1)) := by
  unfold nameFrom
  have h1 : i < s.data.toList.length := by rw [Array.length_toList]; exact h
  rw [List.drop_eq_getElem_cons h1, List.all_cons]
  rfl

theorem nameFrom_end (s : ByteArray) (i : Nat) (h : ¬ i < s.size) : nameFrom s i = true := by
  unfold nameFrom
  rw [List.drop_eq_nil_of_le (by rw [Array.length_toList]; exact Nat.le_of_not_lt h)]
  rfl

theorem legsFrom_step (ls : List Lg) (fi la : Int) (i : Nat) (h : i < ls.length) : legsFrom ls fi la i = (legB ls[i] fi la && legsFrom ls fi la (i + 1)) := by
  unfold legsFrom
  rw [List.drop_eq_getElem_cons h, List.all_cons]

theorem legsFrom_end (ls : List Lg) (fi la : Int) (i : Nat) (h : ¬ i < ls.length) : legsFrom ls fi la i = true := by
  unfold legsFrom
  rw [List.drop_eq_nil_of_le (Nat.le_of_not_lt h)]
  rfl

theorem between_val (x a b : Int) (w : World) :
    Calls Tryd.prog 21 #[.int .i64 x, .int .i64 a, .int .i64 b] w fun e w' => e = .returned (.bool (inB x a b)) ∧ w' = w := by
  by_cases h1 : a ≤ x <;> by_cases h2 : x ≤ b
  all_goals
    go_enter Tryd.func21, Tryd.ntmps21
    go_wp2
    go_ret
    exact ⟨by simp [inB, h1, h2], rfl⟩

theorem in_val (x a b : Int) (w : World) :
    Calls Tryd.prog 30 #[.int .i64 x, .int .i64 a, .int .i64 b] w fun e w' => e = .returned (.bool (inB x a b)) ∧ w' = w := by
  by_cases h1 : a ≤ x <;> by_cases h2 : x ≤ b
  all_goals
    go_enter Tryd.func30, Tryd.ntmps30
    go_wp2
    go_ret
    exact ⟨by simp [inB, h1, h2], rfl⟩

theorem nameOk_val (s : ByteArray) (w : World) (hs : s.size ≤ maxLen) :
    Calls Tryd.prog 19 #[.string s] w fun e w' => e = .returned (.bool (nameB s)) ∧ w' = w := by
  unfold maxLen at hs
  by_cases h40 : s.size ≤ 40
  · have e40 : nameB s = nameFrom s 0 := by unfold nameB; rw [decide_eq_true h40, Bool.and_true]
    rw [e40]
    have hd : decide ((40 : Int) < (s.size : Int)) = false := decide_eq_false (by omega)
    clear e40
    go_enter Tryd.func19, Tryd.ntmps19
    go_wp2
    go_loop [9] (fun i => ∃ (k : Nat), k ≤ s.size ∧ i = .int .i64 k ∧ Hid (nameFrom s 0 = nameFrom s k)) (fun i => s.size - (intOf i).toNat)
    case atStart => exact ⟨0, by omega, rfl, rfl⟩
    case round =>
      obtain ⟨k, hk, rfl, H⟩ := hrel
      by_cases hks : k < s.size
      · have HS : Hid (_) := nameFrom_step s k hks
        have hb := s[k].toNat_lt
        by_cases h1 : (s[k].toNat : Int) < 32
        · have HE : Hid (nameFrom s 0 = false) := by show _ = _; rw [H.out, HS.out, decide_eq_false (by omega)]; rfl
          go_wp2
          go_ret
          exact ⟨by rw [HE.out] <;> rfl, rfl⟩
        · by_cases h2 : (126 : Int) < (s[k].toNat : Int)
          · have HE : Hid (nameFrom s 0 = false) := by show _ = _; rw [H.out, HS.out, decide_eq_false (by omega)]; rfl
            go_wp2
            go_ret
            exact ⟨by rw [HE.out] <;> rfl, rfl⟩
          · have HE : Hid (nameFrom s 0 = nameFrom s (k + 1)) := by show _ = _; rw [H.out, HS.out, decide_eq_true (by omega)]; rfl
            go_wp2
            go_round
            case rel => exact ⟨k + 1, by omega, by go_num, HE⟩
            case measure => simp [intOf]; omega
      · have HE : Hid (nameFrom s 0 = true) := by show _ = _; rw [H.out, nameFrom_end s k hks]
        go_wp2
        go_ret
        exact ⟨by rw [HE.out] <;> rfl, rfl⟩
  · have e40 : nameB s = false := by unfold nameB; rw [decide_eq_false h40, Bool.and_false]
    rw [e40]
    have hd : decide ((40 : Int) < (s.size : Int)) = true := decide_eq_true (by omega)
    clear e40 h40
    go_enter Tryd.func19, Tryd.ntmps19
    go_wp2
    go_ret
    exact ⟨rfl, rfl⟩

theorem nameIn (b : UInt8) : inB (b.toNat : Int) 32 126 = decide (32 ≤ b.toNat ∧ b.toNat ≤ 126) := by
  unfold inB
  by_cases h : 32 ≤ b.toNat ∧ b.toNat ≤ 126
  · rw [decide_eq_true h, decide_eq_true (by omega)]
  · rw [decide_eq_false h, decide_eq_false (by omega)]

theorem name_val (s : ByteArray) (w : World) (hs : s.size ≤ maxLen) :
    Calls Tryd.prog 16 #[.string s] w fun e w' => e = .returned (.bool (nameB s)) ∧ w' = w := by
  unfold maxLen at hs
  go_enter Tryd.func16, Tryd.ntmps16
  go_wp2
  go_loop [3] (fun i => ∃ (k : Nat), k ≤ s.size ∧ i = .int .i64 k ∧ Hid (nameFrom s 0 = nameFrom s k)) (fun i => s.size - (intOf i).toNat)
  case atStart => exact ⟨0, by omega, rfl, rfl⟩
  case round =>
    obtain ⟨k, hk, rfl, H⟩ := hrel
    by_cases hks : k < s.size
    · have HS : Hid (_) := nameFrom_step s k hks
      have hb := s[k].toNat_lt
      have HI : Hid (∀ w, _) := fun w => in_val (s[k].toNat : Int) 32 126 w
      rw [nameIn s[k]] at HI
      generalize decide (32 ≤ s[k].toNat ∧ s[k].toNat ≤ 126) = b at *
      go_wp2_with fail
      refine (HI.out _).mono ?_
      rintro e w1 ⟨rfl, rfl⟩
      cases b
      · have HE : Hid (nameB s = false) := by show _ = _; unfold nameB; rw [H.out, HS.out]; rfl
        go_wp2
        go_ret
        exact ⟨by rw [HE.out] <;> rfl, rfl⟩
      · have HE : Hid (nameFrom s 0 = nameFrom s (k + 1)) := by show _ = _; rw [H.out, HS.out]; rfl
        go_wp2
        go_round
        case rel => exact ⟨k + 1, by omega, by go_num, HE⟩
        case measure => simp [intOf]; omega
    · have HE : Hid (nameB s = decide ((s.size : Int) ≤ 40)) := by
        show _ = _
        unfold nameB
        rw [H.out, nameFrom_end s k hks, Bool.true_and]
        by_cases h : s.size ≤ 40
        · rw [decide_eq_true h, decide_eq_true (by omega)]
        · rw [decide_eq_false h, decide_eq_false (by omega)]
      go_wp2
      go_ret
      exact ⟨by rw [HE.out] <;> rfl, rfl⟩

/-- A ticket as a value. -/
abbrev tkV (t : Hd) (s : ByteArray) (a : Option Addr) (n cap : Nat) : Value := .agg #[.int .i64 t.id, .string s, .int .i64 t.cl, .int .i64 t.pr, .int .i64 t.fi, .int .i64 t.la, .slice a n cap]

abbrev tkB (t : Hd) (s : ByteArray) (a : Option Addr) (n cap : Nat) (T : TypeId) : Obj := .cells #[.int .i64 t.id, .string s, .int .i64 t.cl, .int .i64 t.pr, .int .i64 t.fi, .int .i64 t.la, .slice a n cap] T

theorem okB_no (t : Hd) (s : ByteArray) (ls : List Lg) (k : Nat) (h : legsFrom ls t.fi t.la 0 = legsFrom ls t.fi t.la k) (hk : legsFrom ls t.fi t.la k = false) : okB t s ls = false := by
  unfold okB
  rw [h, hk, Bool.and_false]

end Tk
end Go.Proofs.YtdfejmaekdgcdasDoor
