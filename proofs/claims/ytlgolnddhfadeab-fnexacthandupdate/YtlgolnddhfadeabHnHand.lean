/- Devices as values: what they hold, and where it lies. -/
import Derived.Test.YtlgolnddhfadeabHnOff
namespace Go.Proofs.Ytlgolnddhfadeab
namespace Hn
open Go.ChangeShapes Go.WideShapes Go.ChangeAt Go.RowKit
open Pk (new_below join_below cell_at heap_new frozen_at lt_of kept heap_old Drawn info_of Room)
set_option linter.unusedSimpArgs false
set_option linter.unusedVariables false

/-- What a device holds. -/
structure Hnd where
  dv : Int
  p : Int
  q : Int
  g : Int
  op : Int
  is : Int
  ve : Int
  ol : List Int
  sl : List Ct

/-- Where its lists lie. -/
structure Pl where
  a : Option Addr
  c : Nat
  b : Option Addr
  d : Nat

/-- It as a value, and as a block. -/
abbrev hnV (x : Pl) (o : Hnd) : Value := .agg #[.int .i64 o.dv, .int .i64 o.p, .int .i64 o.q, .int .i64 o.g, .int .i64 o.op, .int .i64 o.is, .int .i64 o.ve, .slice x.a o.ol.length x.c, .slice x.b o.sl.length x.d]
abbrev hnB (x : Pl) (o : Hnd) (t : TypeId) : Obj := .cells #[.int .i64 o.dv, .int .i64 o.p, .int .i64 o.q, .int .i64 o.g, .int .i64 o.op, .int .i64 o.is, .int .i64 o.ve, .slice x.a o.ol.length x.c, .slice x.b o.sl.length x.d] t

/-- Its lists lie there. -/
structure In (w : World) (x : Pl) (o : Hnd) : Prop where
  off : Ints w x.a o.ol
  seen : Controls w x.b o.sl

theorem In.on {w w1 : World} {x : Pl} {o : Hnd} (h : In w x o) (L : Below w.heap.size w w1) : In w1 x o := ⟨h.off.on L, h.seen.on L⟩

/-- The controls are those of the device, numbered on from k. -/
def seenF (dv : Int) (k : Nat) : List Ct → Bool
  | [] => true
  | c :: t => decide (c.dv = dv) && (decide (c.no = (k : Int) + 1) && seenF dv (k + 1) t)

def seenB (dv : Int) (l : List Ct) : Bool := decide (l.length ≤ 300) && seenF dv 0 l

/-- Whether a device is right. -/
def handB (o : Hnd) : Bool := inB o.dv 1 9999 && (inB o.is 0 9999 && (decide (0 ≤ o.ve) && (offB o.ol && seenB o.dv o.sl)))

theorem seen_step {dv : Int} {l : List Ct} {k : Nat} (hk : k < l.length) : seenF dv k (l.drop k) = (decide (l[k].dv = dv) && (decide (l[k].no = (k : Int) + 1) && seenF dv (k + 1) (l.drop (k + 1)))) := by
  rw [List.drop_eq_getElem_cons hk]
  rfl

theorem seen_end (dv : Int) (k : Nat) (l : List Ct) : seenF dv k (l.drop l.length) = true := by simp [seenF]

theorem seen_yes {dv x y : Int} {k : Int} {r s : Bool} (h : (decide (x = dv) && (decide (y = k) && r)) = s) (h1 : x = dv) (h2 : y = k) : r = s := by
  rw [decide_eq_true h1, decide_eq_true h2, Bool.true_and, Bool.true_and] at h
  exact h

theorem seen_no {dv x y : Int} {k : Int} {r s : Bool} (h : (decide (x = dv) && (decide (y = k) && r)) = s) (h1 : ¬ (x = dv ∧ y = k)) : s = false := by
  rw [← h]
  by_cases h2 : x = dv
  · have h3 : ¬ y = k := fun h3 => h1 ⟨h2, h3⟩
    rw [decide_eq_false h3]
    simp
  · rw [decide_eq_false h2]
    simp

set_option maxHeartbeats 2000000 in
theorem implSeen_val (a : Option Addr) (l : List Ct) (cap : Nat) (dv : Int) (w : World) (hz : l.length ≤ 1048576) (I : Controls w a l) :
    Calls Try.prog 34 #[.slice a l.length cap, .int .i64 dv] w fun e w' => e = .returned (.bool (seenB dv l)) ∧ Below w.heap.size w w' := by
  by_cases h2 : l.length ≤ 300
  · have hd : decide ((300 : Int) < (l.length : Int)) = false := decide_eq_false (by omega)
    have HO : Hid (seenB dv l = seenF dv 0 l) := by show seenB dv l = seenF dv 0 l; unfold seenB; rw [decide_eq_true h2, Bool.true_and]
    clear h2
    go_enter Try.func34, Try.ntmps34
    go_wp2
    go_loopw [12] (fun i wr => ∃ (k : Nat), k ≤ l.length ∧ i = .int .i64 k ∧ Below w.heap.size w wr ∧ Hid (seenF dv k (l.drop k) = seenF dv 0 l)) (fun i _ => l.length - (intOf i).toNat)
    case atStart => exact ⟨0, by omega, rfl, Below.refl _ _, rfl⟩
    case round =>
      obtain ⟨k, hk, rfl, LR, HP⟩ := hrel
      by_cases hkn : k < l.length
      · obtain ⟨b, o, rfl, hlt, hc0, hc1, hc2, hc3, hc4, hc5⟩ := (I.on LR).at k hkn
        have HS : Hid (_ = _) := (seen_step (dv := dv) hkn).symm.trans HP.out
        clear HP
        generalize l[k] = x at *
        have LN := join_below LR (new_below wr (.cells #[.int .i64 x.dv, .int .i64 x.no, .int .i64 x.tk, .int .i64 x.tr, .int .i64 x.dy, .int .i64 x.sa] 53))
        by_cases h3 : x.dv = dv
        · have d3 : (x.dv != dv) = false := by simp [h3]
          by_cases h4 : x.no = (k : Int) + 1
          · have d4 : (x.no != (k : Int) + 1) = false := by simp [h4]
            have HN : Hid (seenF dv (k + 1) (l.drop (k + 1)) = seenF dv 0 l) := seen_yes HS.out h3 h4
            clear h3 h4 HS
            go_wp2
            go_roundw
            case rel => exact ⟨k + 1, by omega, by go_num, LN, HN⟩
            case measure => simp [intOf]; omega
          · have d4 : (x.no != (k : Int) + 1) = true := by simp [h4]
            have HN : Hid (seenB dv l = false) := HO.out.trans (seen_no HS.out fun h => h4 h.2)
            clear h3 h4 HS
            go_wp2
            go_ret
            exact ⟨by rw [HN.out] <;> rfl, LN⟩
        · have d3 : (x.dv != dv) = true := by simp [h3]
          have HN : Hid (seenB dv l = false) := HO.out.trans (seen_no HS.out fun h => h3 h.1)
          clear h3 HS
          go_wp2
          go_ret
          exact ⟨by rw [HN.out] <;> rfl, LN⟩
      · obtain rfl : k = l.length := by omega
        have HN : Hid (seenB dv l = true) := HO.out.trans (HP.out.symm.trans (seen_end dv _ l))
        go_wp2
        go_ret
        exact ⟨by rw [HN.out] <;> rfl, LR⟩
  · have hd : decide ((300 : Int) < (l.length : Int)) = true := decide_eq_true (by omega)
    have HO : Hid (seenB dv l = false) := by show seenB dv l = false; unfold seenB; rw [decide_eq_false h2, Bool.false_and]
    clear h2
    go_enter Try.func34, Try.ntmps34
    go_wp2
    go_ret
    exact ⟨by rw [HO.out] <;> rfl, Below.refl _ _⟩

end Hn
end Go.Proofs.Ytlgolnddhfadeab
