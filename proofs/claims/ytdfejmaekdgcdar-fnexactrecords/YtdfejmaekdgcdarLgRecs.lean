/- The records that a log begins with: the model. -/
import Derived.Test.YtdfejmaekdgcdarLgRec
import Derived.Test.YtdfejmaekdgcdarSignRead
import Derived.Test.YtdfejmaekdgcdarGtSplit
import Derived.Deep.RegionHeld3
import Derived.Deep.Cut
import Derived.Deep.CutBlock
namespace Go.Proofs.Ytdfejmaekdgcdar
namespace Lg10
open Go.ChangeShapes Go.WideShapes Go.ChangeAt Go.RowKit
open Pk (own_at own_ge own_below info_of new_below join_below)
open Gt (tcells tcells_snoc cell_one info_str own_new)
set_option linter.unusedSimpArgs false
set_option linter.unusedVariables false

/-- How many bytes the record at a place tells. -/
def txN (l : ByteArray) (k : Nat) : Nat := Num.part (l.extract k (k + 4)) 4

/-- The text of the record at a place. -/
def txS (l : ByteArray) (k : Nat) : ByteArray := l.extract (k + 8) (k + 8 + txN l k)

/-- There is a whole record at a place whose sum is right. -/
def recB (l : ByteArray) (k : Nat) : Bool := decide (k + 8 ≤ l.size) && decide (txN l k ≤ 3000) && decide (k + 8 + txN l k ≤ l.size) && decide (l.extract (k + 4) (k + 8) = Num.wordS (Math.crc (txS l k).data.toList))

/-- The texts from a place on. -/
def rcs (l : ByteArray) : Nat → Nat → List ByteArray
  | 0, _ => []
  | n + 1, k => if recB l k = true then txS l k :: rcs l n (k + 8 + txN l k) else []

/-- Where they end. -/
def rce (l : ByteArray) : Nat → Nat → Nat
  | 0, k => k
  | n + 1, k => if recB l k = true then rce l n (k + 8 + txN l k) else k

theorem rcs_no {l : ByteArray} {n k : Nat} (h : recB l k = false) : rcs l n k = [] ∧ rce l n k = k := by
  cases n with
  | zero => exact ⟨rfl, rfl⟩
  | succ n => rw [rcs, rce, if_neg (by rw [h]; simp), if_neg (by rw [h]; simp)]; exact ⟨rfl, rfl⟩

/-- What Records answers. -/
def rsL (l : ByteArray) : List ByteArray := if l.size ≤ 200000 then rcs l l.size 0 else []
def rsE (l : ByteArray) : Nat := if l.size ≤ 200000 then rce l l.size 0 else 0

theorem drawn_below {w w' : World} (h : Num.Drawn w w') : Below w.heap.size w w' := by
  obtain ⟨n, rfl⟩ := h
  exact ⟨rfl, rfl, rfl, Nat.le_refl _, fun _ _ => rfl⟩

set_option maxRecDepth 100000 in
set_option maxHeartbeats 4000000 in
theorem specRecords_val (l : ByteArray) (w : World) (hl : l.size ≤ maxLen) :
    Calls Try.prog 24 #[.string l] w fun e w' => (∃ v, e = .returned (.tuple #[v, .int .i64 (rsE l : Nat)]) ∧ w'.ownsRow w.heap.size 9 1 v (rsL l).length (tcells (rsL l))) ∧ Below w.heap.size w w' := by
  obtain ⟨i0, hi, hz0, hz1, hz2⟩ := info_of info_str
  unfold maxLen at hl
  have O0 := own_new w 9 1
  have N0 := new_below w (.cells #[] 9)
  by_cases h2 : l.size ≤ 200000
  · have HL : Hid (rsL l = rcs l l.size 0) := if_pos h2
    have HE : Hid (rsE l = rce l l.size 0) := if_pos h2
    generalize rsL l = RL at *
    generalize rsE l = RE at *
    have h2I : (l.size : Int) ≤ 200000 := by omega
    go_enter Try.func24, Try.ntmps24
    go_wp2
    go_loopw [4, 5] (fun v i wr => ∃ (k n : Nat) (done : List ByteArray), i = .int .i64 k ∧ k ≤ l.size ∧ l.size ≤ n + k ∧ done.length ≤ k ∧ Hid (RL = done ++ rcs l n k) ∧ Hid (RE = rce l n k) ∧ wr.ownsRow w.heap.size 9 1 v done.length (tcells done) ∧ Hid (Below w.heap.size w wr)) (fun _ i _ => l.size - (intOf i).toNat)
    case atStart => exact ⟨0, l.size, [], rfl, by omega, by omega, by simp, HL, HE, O0, N0⟩
    case round =>
      clear O0 N0 HL HE
      obtain ⟨k, n, done, rfl, hk, hn, hd, HL, HE, O, L⟩ := hrel
      by_cases h8 : k + 8 ≤ l.size
      · have h8I : (8 : Int) ≤ (l.size : Int) - (k : Int) := by omega
        have k4 : (k : Int) + 4 ≤ (l.size : Int) := by omega
        have HWN : Hid (∀ W, _) := fun W => Num.specWordN_part (l.extract k (k + 4)) W (by rw [ByteArray.size_extract]; omega)
        rw [show Num.part (l.extract k (k + 4)) 4 = txN l k from rfl] at HWN
        have kk0 : (0 : Int) ≤ (k : Int) := by omega
        have kk4 : ((k : Int) + 4).toNat = k + 4 := by omega
        have kk5 : (k : Int) ≤ (k : Int) + 4 := by omega
        go_wp2_with fail
        refine (HWN.out _).mono ?_
        rintro e w1 ⟨rfl, D1⟩
        have L1 := drawn_below D1
        have O1 := own_below O L1 (Nat.le_refl _)
        have K1 := join_below L.out L1
        clear O L D1 HWN
        by_cases hA : txN l k ≤ 3000
        · by_cases hB : k + 8 + txN l k ≤ l.size
          · have HRB : Hid (recB l k = decide (l.extract (k + 4) (k + 8) = Num.wordS (Math.crc (txS l k).data.toList))) := by
              show _ = _
              unfold recB
              rw [decide_eq_true h8, decide_eq_true hA, decide_eq_true hB]
              rfl
            obtain ⟨n', rfl⟩ : ∃ n', n = n' + 1 := ⟨n - 1, by omega⟩
            have HST : Hid (rcs l (n' + 1) k = if recB l k = true then txS l k :: rcs l n' (k + 8 + txN l k) else []) := rfl
            have HSE : Hid (rce l (n' + 1) k = if recB l k = true then rce l n' (k + 8 + txN l k) else k) := rfl
            have hTX : l.extract (k + 8) (k + 8 + txN l k) = txS l k := rfl
            have htz : (txS l k).size ≤ 3000 := by unfold txS; rw [ByteArray.size_extract]; omega
            have HCS : Hid (∀ W, _) := fun W => Num.specCheckSum_any (txS l k) W (by unfold maxLen; omega)
            have HWT : Hid (∀ W, _) := fun W => Num.specWordText_any (Math.crc (txS l k).data.toList) W (Math.crc_lt _)
            generalize txS l k = tx at *
            generalize txN l k = m at *
            generalize Math.crc tx.data.toList = cr at *
            generalize Num.wordS cr = wd at *
            have g1 : ¬ (3000 : Int) < (m : Int) := by omega
            have g2 : ¬ (l.size : Int) - (k : Int) - 8 < (m : Int) := by omega
            have y1 : (k : Int) + 8 + (m : Int) ≤ (l.size : Int) := by omega
            have y2 : ((k : Int) + 8 + (m : Int)).toNat = k + 8 + m := by omega
            have y3 : ((k : Int) + 8).toNat = k + 8 := by omega
            have y4 : (k : Int) + 8 ≤ (k : Int) + 8 + (m : Int) := by omega
            have y5 : (0 : Int) ≤ (k : Int) + 8 := by omega
            have y6 : (k : Int) + 8 ≤ (l.size : Int) := by omega
            have y7 : (k : Int) + 4 ≤ (k : Int) + 8 := by omega
            have y8 : (0 : Int) ≤ (k : Int) + 4 := by omega
            have w8 : IntKind.i64.wrap ((k : Int) + 8) = (k : Int) + 8 := by rw [IntKind.wrap_i64]; omega
            have w4 : IntKind.i64.wrap ((k : Int) + 4) = (k : Int) + 4 := by rw [IntKind.wrap_i64]; omega
            have hsl : ∀ W, (Instr.slice 9 (.string l) (some (.int .i64 ((k : Int) + 4))) (some (.int .i64 ((k : Int) + 8))) none).run Try.prog W = .ok (.string (l.extract (k + 4) (k + 8))) W := fun W => by
              simp [go_sem, Try.underlying9, y3, y5, y6, y7, y8, kk4]
              try omega
            go_wp2
            by_cases hEq : l.extract (k + 4) (k + 8) = wd
            · have hyes : recB l k = true := by rw [HRB.out]; exact decide_eq_true hEq
              rw [HST.out, if_pos hyes] at HL
              rw [HSE.out, if_pos hyes] at HE
              go_cut [53] from 9 to 61 (fun v wc => v = .bool false ∧ Below w1.heap.size w1 wc)
              case first =>
                go_region_with (first
                  | (go_at_call 73; (with_reducible refine (HCS.out _).mono ?_); rintro e x1 ⟨rfl, hx1⟩; subst hx1)
                  | (go_at_call 72; (with_reducible refine (HWT.out _).mono ?_); rintro e x2 ⟨rfl, -, LX⟩; have L2 : Below w1.heap.size w1 x2 := (by first | exact LX | exact ((Below.refl _ _).drew).trans LX | exact (((Below.refl _ _).drew).drew).trans LX)))
                all_goals
                  go_wp2
                  go_meet
                  case rel => exact ⟨by first | rfl | (simp [hEq]; done), by first | exact L2 | exact L2.drew⟩
              case rest =>
                obtain ⟨rfl, LX⟩ := hcut
                have O2 := own_below O1 LX (Nat.le_refl _)
                have K2 := join_below K1 LX
                have hBr : w.heap.size ≤ wc.heap.size := K2.size
                clear O1 K1 LX HCS HWT hsl
                go_wp2_with (at_builtin; refine wpList_append_own _ rfl _ _ 54 rfl w.heap.size 9 i0 (.string ⟨#[]⟩) 1 16 Try.underlying54 hi hz0 hz1 hz2 rfl (by decide) _ _ _ rfl (O2.alloc _) ⟨wc.heap.size, 0, none⟩ 1 1 [.string tx] rfl rfl ?c1 ?c2 ?c3 ?c4 ?c5 ?_)
                case c1 => exact cell_one _ _ _
                case c2 => intro u hu; simp at hu; subst hu; rfl
                case c3 => unfold maxLen; omega
                case c4 => omega
                case c5 => simp; omega
                intro v' w5 own5 grow5 _
                have L5 : Below w.heap.size w w5 := (K2.alloc hBr _).grown grow5 (by simp; omega) (fun m h => own_ge O2 m h)
                rw [tcells_snoc, show done.length + 1 = (done ++ [tx]).length from by simp] at own5
                have HL2 : Hid (RL = (done ++ [tx]) ++ rcs l n' (k + 8 + m)) := by
                  show _ = _
                  rw [HL.out, List.append_assoc]
                  rfl
                clear grow5
                go_wp2
                go_roundw
                case rel => exact ⟨k + 8 + m, n', done ++ [tx], by go_num, by omega, by omega, by simp; omega, HL2, HE, own5, L5⟩
                case measure => simp [intOf]; omega
            · have hno : recB l k = false := by rw [HRB.out]; exact decide_eq_false hEq
              have z1 : ¬ (l.extract (k + 4) (k + 8)).toList = wd.toList := fun e => hEq (Go.WideShapes.bytes_inj (by rw [← ByteArray.toList_eq, ← ByteArray.toList_eq]; exact e))
              go_cut [53] from 9 to 61 (fun v wc => v = .bool true ∧ Below w1.heap.size w1 wc)
              case first =>
                go_region_with (first
                  | (go_at_call 73; (with_reducible refine (HCS.out _).mono ?_); rintro e x1 ⟨rfl, hx1⟩; subst hx1)
                  | (go_at_call 72; (with_reducible refine (HWT.out _).mono ?_); rintro e x2 ⟨rfl, -, LX⟩; have L2 : Below w1.heap.size w1 x2 := (by first | exact LX | exact ((Below.refl _ _).drew).trans LX | exact (((Below.refl _ _).drew).drew).trans LX)))
                all_goals
                  go_wp2
                  go_meet
                  case rel => exact ⟨by first | rfl | (simp [z1]; done) | (simp [hEq]; done) | (simp [hEq]; exact z1), by first | exact L2 | exact L2.drew⟩
              case rest =>
                obtain ⟨rfl, LX⟩ := hcut
                have O2 := own_below O1 LX (Nat.le_refl _)
                have K2 := join_below K1 LX
                obtain ⟨e1, e2⟩ := rcs_no (n := n' + 1) hno
                rw [e1, List.append_nil] at HL
                rw [e2] at HE
                obtain rfl : RL = done := HL
                obtain rfl : RE = k := HE
                go_wp2
                go_ret2
                exact ⟨⟨_, rfl, O2⟩, K2⟩
          · have hno : recB l k = false := by unfold recB; rw [decide_eq_false hB]; simp
            have g1 : ¬ (3000 : Int) < (txN l k : Int) := by omega
            have g2 : (l.size : Int) - (k : Int) - 8 < (txN l k : Int) := by omega
            generalize txN l k = m at *
            obtain ⟨e1, e2⟩ := rcs_no (n := n) hno
            rw [e1, List.append_nil] at HL
            rw [e2] at HE
            obtain rfl : RL = done := HL
            obtain rfl : RE = k := HE
            go_wp2
            go_ret2
            exact ⟨⟨_, rfl, O1⟩, K1⟩
        · have hno : recB l k = false := by unfold recB; rw [decide_eq_false hA]; simp
          have g1 : (3000 : Int) < (txN l k : Int) := by omega
          generalize txN l k = m at *
          obtain ⟨e1, e2⟩ := rcs_no (n := n) hno
          rw [e1, List.append_nil] at HL
          rw [e2] at HE
          obtain rfl : RL = done := HL
          obtain rfl : RE = k := HE
          go_wp2
          go_ret2
          exact ⟨⟨_, rfl, O1⟩, K1⟩
      · have h8I : ¬ (8 : Int) ≤ (l.size : Int) - (k : Int) := by omega
        have hno : recB l k = false := by unfold recB; rw [decide_eq_false h8]; rfl
        obtain ⟨e1, e2⟩ := rcs_no (n := n) hno
        rw [e1, List.append_nil] at HL
        rw [e2] at HE
        obtain rfl : RL = done := HL
        obtain rfl : RE = k := HE
        go_wp2
        go_ret2
        exact ⟨⟨_, rfl, O⟩, L.out⟩
  · have HL : Hid (rsL l = []) := if_neg h2
    have HE : Hid (rsE l = 0) := if_neg h2
    rw [HL.out, HE.out]
    have h2I : ¬ (l.size : Int) ≤ 200000 := by omega
    go_enter Try.func24, Try.ntmps24
    go_wp2
    go_loopw [4, 5] (fun v i wr => i = .int .i64 0 ∧ v = .slice (some ⟨w.heap.size, 0, none⟩) 0 0 ∧ wr = w.alloc (.cells #[] 9)) (fun _ _ _ => 0)
    case atStart => exact ⟨rfl, rfl, rfl⟩
    case round =>
      obtain ⟨rfl, rfl, rfl⟩ := hrel
      go_wp2
      go_ret2
      exact ⟨⟨_, rfl, O0⟩, N0⟩

end Lg10
end Go.Proofs.Ytdfejmaekdgcdar
