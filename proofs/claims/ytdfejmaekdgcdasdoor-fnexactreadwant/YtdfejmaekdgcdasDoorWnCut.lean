/- The numbers that a text begins with: the program's cutNumbers. -/
import Derived.Test.YtdfejmaekdgcdasDoorGtMl
import Derived.Test.YtdfejmaekdgcdasDoorLgWant
namespace Go.Proofs.YtdfejmaekdgcdasDoor
namespace Wn
open Go.ChangeShapes Go.WideShapes Go.ChangeAt Go.RowKit
open Pk (own_at own_ge own_below info_of new_below join_below heap_new info_int lt_of kept cell_at heap_old frozen_at)
open Sq (tab row_at row_set make_run tab_at)
open Gt (ML rv rv_yes rv_no Rd vl)
set_option linter.unusedSimpArgs false
set_option linter.unusedVariables false

/-- What stands ahead of the first blank, and what behind it. -/
def cA (s : ByteArray) : ByteArray := ⟨(Lib.cut s.data.toList [32]).1.toArray⟩
def cR (s : ByteArray) : ByteArray := ⟨(Lib.cut s.data.toList [32]).2.1.toArray⟩
def cB (s : ByteArray) : Bool := (Lib.cut s.data.toList [32]).2.2

theorem c_size (s : ByteArray) : (cA s).size ≤ s.size ∧ (cR s).size ≤ s.size := by
  have hl : s.data.toList.length = s.size := Array.length_toList
  have e : ∀ l : List UInt8, (⟨l.toArray⟩ : ByteArray).size = l.length := fun l => by simp [ByteArray.size]
  unfold cA cR
  simp only [e]
  generalize s.data.toList = l at *
  unfold Lib.cut
  split
  · simp only [List.length_take, List.length_drop]
    have h1 : ([32] : List UInt8).length = 1 := rfl
    omega
  · simp only [List.length_nil]
    omega

theorem below_drewN {B : Nat} {a w : World} (h : Below B a w) (n : Nat) : Below B a (w.drewN n) := ⟨h.os, h.tape, h.output, h.size, h.block⟩

theorem cutb_val (s : ByteArray) (w : World) (hs : s.size ≤ 1048576) (M : ML w) :
    Calls Tryd.prog 38 #[.string s, .string ⟨#[32]⟩] w fun e w' => e = .returned (.tuple #[.string (cA s), .string (cR s), .bool (cB s)]) ∧ Below w.heap.size w w' := by
  obtain ⟨m, hm⟩ := M
  refine (Tryd.strings_Cut s ⟨#[32]⟩ m w (by omega) hm).mono ?_
  rintro e w' ⟨rfl, n, rfl⟩
  exact ⟨rfl, below_drewN (Below.refl _ _) n⟩

/-- What is left behind k words, and the number that word k tells. -/
def cZ (s : ByteArray) : Nat → ByteArray
  | 0 => s
  | k + 1 => cR (cZ s k)

noncomputable def nW (s : ByteArray) (j : Nat) : Nat := rv (cA (cZ s j))

theorem cZ_size (s : ByteArray) : ∀ k, (cZ s k).size ≤ s.size
  | 0 => Nat.le_refl _
  | k + 1 => Nat.le_trans (c_size (cZ s k)).2 (cZ_size s k)

theorem nW_bd (s : ByteArray) (j : Nat) : nW s j ≤ 999999999 := Gt.rv_bd _

/-- The cells behind i words. -/
noncomputable def wF (s : ByteArray) (i j : Nat) : Value := .int .i64 ((if j < i then nW s j else 0 : Nat) : Int)

theorem wF_step (s : ByteArray) (i j : Nat) : wF s (i + 1) j = if j = i then .int .i64 ((nW s i : Nat) : Int) else wF s i j := by
  unfold wF
  by_cases e : j = i
  · rw [if_pos e, if_pos (by omega), e]
  · rw [if_neg e]
    by_cases h : j < i
    · rw [if_pos h, if_pos (by omega)]
    · rw [if_neg h, if_neg (by omega)]

open Classical in
/-- Whether a word tells a number. -/
noncomputable def rB (x : ByteArray) : Bool := decide (Rd x)

theorem rB_yes {x : ByteArray} (h : Rd x) : rB x = true := by unfold rB; simp [h]
theorem rB_no {x : ByteArray} (h : ¬ Rd x) : rB x = false := by unfold rB; simp [h]

theorem read_any (s : ByteArray) (w : World) (hs : s.size ≤ maxLen) :
    Calls Tryd.prog 39 #[.string s] w fun e w' => e = .returned (.tuple #[.int .i64 ((rv s : Nat) : Int), .bool (rB s)]) ∧ w' = w := by
  by_cases h : Rd s
  · rw [rv_yes h, rB_yes h]
    exact Num.implReadDec_yes s w hs h
  · rw [rv_no h, rB_no h]
    exact Num.implReadDec_no s w hs h

set_option maxRecDepth 100000 in
set_option maxHeartbeats 4000000 in
theorem cutNumbers_val (s : ByteArray) (c : Nat) (w : World) (hs : s.size ≤ 1048576) (hc1 : 1 ≤ c) (hc : c ≤ 10) (M : ML w) :
    Calls Tryd.prog 35 #[.string s, .int .i64 c] w fun e w' => (∃ g, e = .returned (.tuple #[.slice (some ⟨g, 0, none⟩) c c, .string (cZ s c)]) ∧ w.heap.size ≤ g ∧ g < w'.heap.size ∧ ∀ j, j < c → w'.cell? ⟨g, j, none⟩ = some (.int .i64 ((nW s j : Nat) : Int))) ∧ Below w.heap.size w w' := by
  have hmk := make_run 39 3 _ 8 c Tryd.underlying39 Gt.info_int' rfl (by omega) (by omega)
  have N1 := new_below w (.cells (tab c (fun _ => .int .i64 0)) 3)
  have m1 := heap_new w (.cells (tab c (fun _ => .int .i64 0)) 3)
  have HIS : Hid (∀ i j, _) := wF_step s
  have HIF : Hid (∀ i j, wF s i j = .int .i64 ((if j < i then nW s j else 0 : Nat) : Int)) := fun i j => rfl
  have H0 : Hid (tab c (fun _ => .int .i64 0) = tab c (wF s 0)) := by
    show _ = _
    unfold tab
    congr 1
  have HML : Hid (∀ W, Below w.heap.size w W → ML W) := fun W L => M.on L
  have HZS : Hid (∀ k, (cZ s k).size ≤ s.size) := cZ_size s
  have hcI : (c : Int) ≤ 10 := by omega
  rw [H0.out] at m1
  go_enter Tryd.func35, Tryd.ntmps35
  go_wp2
  go_loopw [0, 13] (fun t i wr => ∃ k : Nat, k ≤ c ∧ i = .int .i64 k ∧ t = .string (cZ s k) ∧ wr.heap[w.heap.size]? = some (.cells (tab c (wF s k)) 3) ∧ Hid (Below w.heap.size w wr)) (fun _ i _ => c - (intOf i).toNat)
  case atStart => exact ⟨0, by omega, rfl, rfl, m1, N1⟩
  case round =>
    clear m1 N1 H0 hmk
    obtain ⟨k, hk, rfl, rfl, m4, K4⟩ := hrel
    by_cases hlt : k < c
    · have hki : (k : Int) < (c : Int) := by omega
      have hk0 : (0 : Int) ≤ (k : Int) := by omega
      have hz := HZS.out k
      have HCV : Hid (∀ W, ML W → _) := fun W h => cutb_val (cZ s k) W (by omega) h
      have hcz := (c_size (cZ s k)).1
      have HRV : Hid (∀ W, _) := fun W => read_any (cA (cZ s k)) W (by unfold maxLen; omega)
      have HN : Hid (nW s k = rv (cA (cZ s k))) := rfl
      have HR : Hid (cZ s (k + 1) = cR (cZ s k)) := rfl
      rw [← HN.out] at HRV
      generalize rB (cA (cZ s k)) = bd at *
      generalize cB (cZ s k) = bb at *
      generalize hr : cR (cZ s k) = rr at *
      generalize cA (cZ s k) = aa at *
      generalize cZ s k = zz at *
      go_wp2_with fail
      refine (HCV.out _ (HML.out _ K4.out)).mono ?_
      rintro e w5 ⟨rfl, L5⟩
      have m5 := kept L5 (lt_of m4) m4
      have K5 := join_below K4.out L5
      clear m4 K4 L5 HCV
      go_wp2_with fail
      refine (HRV.out _).mono ?_
      rintro e w6 ⟨rfl, hw6⟩
      have hw7 := hw6.symm
      subst hw7
      have f0 : w5.frozen? ⟨w.heap.size, k, none⟩ = false := frozen_at m5 k
      have r1 : w5.cell? ⟨w.heap.size, k, none⟩ = some (wF s k k) := row_at m5 k hlt
      have m6 := row_set (f' := wF s (k + 1)) m5 k (.int .i64 ((nW s k : Nat) : Int)) (fun j _ => HIS.out k j)
      have K6 := K5.setCell (p := ⟨w.heap.size, k, none⟩) (Nat.le_refl _) (.int .i64 ((nW s k : Nat) : Int))
      generalize wF s k k = old at *
      generalize nW s k = nv at *
      go_wp2
      go_roundw
      case rel => exact ⟨k + 1, by omega, by go_num, by rw [HR.out], m6, K6⟩
      case measure => simp [intOf]; omega
    · obtain rfl : k = c := by omega
      have hki : ¬ (k : Int) < (k : Int) := by omega
      have HC : Hid (∀ j, j < k → wr.cell? ⟨w.heap.size, j, none⟩ = some (.int .i64 ((nW s j : Nat) : Int))) := fun j hj => by
        rw [row_at m4 j hj, HIF.out, if_pos hj]
      have hgl := lt_of m4
      go_wp2
      go_ret2
      exact ⟨⟨w.heap.size, rfl, Nat.le_refl _, hgl, HC.out⟩, K4.out⟩

/-- The ride that a text begins with; some of them; and what is left. -/
noncomputable def rI (r : ByteArray) : Rd.Ri := ⟨(nW r 0 : Nat), (nW r 1 : Nat), (nW r 2 : Nat), (nW r 3 : Nat)⟩

noncomputable def gQ : Nat → ByteArray → List Rd.Ri
  | 0, _ => []
  | n + 1, r => rI r :: gQ n (cZ r 4)

def gE : Nat → ByteArray → ByteArray
  | 0, r => r
  | n + 1, r => gE n (cZ r 4)

/-- What guessWant guesses. -/
noncomputable def gwH (s : ByteArray) : Wh := ⟨(nW s 0 : Nat), (nW s 1 : Nat), (nW s 2 : Nat), (nW s 3 : Nat), (nW s 4 : Nat)⟩
noncomputable def gwR (s : ByteArray) : List Rd.Ri := gQ (min (nW s 5) 6) (cZ s 6)
noncomputable def gwN (s : ByteArray) : ByteArray := gE (min (nW s 5) 6) (cZ s 6)

theorem gQ_length : ∀ n r, (gQ n r).length = n
  | 0, _ => rfl
  | n + 1, r => by rw [gQ, List.length_cons, gQ_length n]

theorem gE_size : ∀ n r, (gE n r).size ≤ r.size
  | 0, _ => Nat.le_refl _
  | n + 1, r => Nat.le_trans (gE_size n (cZ r 4)) (cZ_size r 4)

theorem gwN_size (s : ByteArray) : (gwN s).size ≤ s.size := Nat.le_trans (gE_size _ _) (cZ_size s 6)

theorem gwR_length (s : ByteArray) : (gwR s).length ≤ 6 := by
  unfold gwR
  rw [gQ_length]
  omega

end Wn
end Go.Proofs.YtdfejmaekdgcdasDoor
