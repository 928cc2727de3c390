/- Contracts of the program's Pack. -/
import Derived.Test.YtcifgableeeooabDoorMathPk
import Derived.Test.YtcifgableeeooabDoorPkStored
import Derived.Test.YtcifgableeeooabDoorPkPcsOwn
namespace Go.Proofs.YtcifgableeeooabDoor
namespace Pk
open Go.ChangeShapes Go.WideShapes Go.ChangeAt Go.RowKit
open Math (Pc Bits bytesOf lowL highL)
set_option linter.unusedSimpArgs false
set_option linter.unusedVariables false

/-- What only makes new blocks keeps a writer. -/
theorem Wr.on {B c : Nat} {l : List Nat} {w w1 : World} (H : Wr B c l w) (L : Below w.heap.size w w1) : Wr B c l w1 := by
  obtain ⟨h1, h2, v, m, hown⟩ := H
  exact ⟨h1, h2, v, kept L (lt_of m) m, own_below hown L (Nat.le_refl _)⟩

theorem Wr.bits {B c : Nat} {l : List Nat} {w : World} (H : Wr B c l w) : Bits l := H.2.1

set_option maxHeartbeats 1000000 in
theorem symbol_val (B c : Nat) (l : List Nat) (s : Int) (w : World) (H : Wr B c l w) (R : Runs w) (hG : 0 < B) (hB : B ≤ w.heap.size) (hN : l.length ≤ 800000) :
    Calls Tryd.prog 68 #[.pointer (some ⟨c, 0, none⟩), .int .i64 s] w fun e w' => e = .returned (.tuple #[]) ∧ Wr B c (l ++ fixL s) w' ∧ Below B w w' ∧ KeepT w w' := by
  have hfb := fixL_bits s
  have hfl := fixL_length s
  have HF : Hid (_) := implFix_val s w R
  generalize fixL s = F at *
  generalize hn : F.length = n at *
  have HL : Hid (F.length = n) := hn
  clear hn
  go_enter Tryd.func68, Tryd.ntmps68
  go_wp2_with fail
  refine (Calls.mono HF.out ?_)
  rintro e w1 ⟨v, rfl, hown, L1⟩
  have H1 := H.on L1
  have L1' : Below B w w1 := L1.mono hB
  have K1 : KeepT w w1 := KeepT.of L1
  have hB1 : B ≤ w1.heap.size := Nat.le_trans hB L1.size
  obtain ⟨va, vc, rfl, -⟩ := own_form hown
  clear HF L1
  go_wp2
  go_loopw [9] (fun i wr => ∃ (j : Nat), j ≤ n ∧ i = .int .i64 j ∧ Hid (Wr B c (l ++ F.take j) wr) ∧ Below B w wr ∧ KeepT w wr ∧ wr.ownsRow w.heap.size 3 1 (.slice va n vc) n (icells F)) (fun i _ => n - (intOf i).toNat)
  case atStart => exact ⟨0, by omega, rfl, by show Wr B c (l ++ []) w1; rw [List.append_nil]; exact H1, L1', K1, hown⟩
  case round =>
    obtain ⟨j, hj, rfl, HW, L, K, hown2⟩ := hrel
    by_cases hjn : j < n
    · obtain ⟨g, cp, he, -, -, y, hy, hc⟩ := own_at hown2 j hjn
      simp only [Value.slice.injEq] at he
      obtain ⟨rfl, -, -⟩ := he
      have hjF : j < F.length := by rw [HL.out]; exact hjn
      rw [icells_at F j hjF] at hy
      simp only [Option.some.injEq] at hy
      subst hy
      have hb1 : F[j] ≤ 1 := hfb _ (List.getElem_mem hjF)
      have HS : Hid (F.take (j + 1) = F.take j ++ [F[j]]) := by
        show _ = _
        rw [List.take_add_one, List.getElem?_eq_getElem hjF]
        rfl
      generalize F[j] = b at *
      have hBr : B ≤ wr.heap.size := Nat.le_trans hB L.size
      have HB : Hid (_) := bit_val B c (l ++ F.take j) b wr HW.out hBr hb1 (by rw [List.length_append, List.length_take]; omega)
      clear hjF HW
      go_wp2_with fail
      refine (Calls.mono HB.out ?_)
      rintro e w2 ⟨rfl, W2, L2, K2⟩
      rw [List.append_assoc, ← HS.out] at W2
      have W3 : Hid (_) := W2
      have L3 := L.trans L2
      have K3 := K.trans K2
      have hown3 := K2.row hown2 (by decide) (by decide)
      clear W2 L2 HB L K K2 hown2 hc
      go_wp2
      go_roundw
      case rel => exact ⟨j + 1, by omega, by go_num, W3, L3, K3, hown3⟩
      case measure => simp [intOf]; omega
    · obtain rfl : j = n := by omega
      have HT : Hid (F.take j = F) := by show _ = _; rw [← HL.out]; exact List.take_length
      rw [HT.out] at HW
      go_wp2
      go_end0
      exact ⟨rfl, HW.out, L, K⟩

theorem pcBits_byte (x d : Int) : pcBits ⟨x, 0, d⟩ = fixL x := if_pos rfl

theorem pcBits_copy (x n d : Int) (h : n ≠ 0) : pcBits ⟨x, n, d⟩ = fixL (lenC n) ++ lowL (lenX n).toNat (lenB n).toNat ++ highL (backC d).toNat 5 ++ lowL (backX d).toNat (backB d).toNat := if_neg h

set_option maxHeartbeats 2000000 in
theorem piece_val (B c : Nat) (l : List Nat) (x n d : Int) (w : World) (hok : PcOk ⟨x, n, d⟩) (H : Wr B c l w) (R : Runs w) (hG : 0 < B) (hB : B ≤ w.heap.size) (hN : l.length ≤ 700000) :
    Calls Tryd.prog 67 #[.pointer (some ⟨c, 0, none⟩), pcV x n d] w fun e w' => e = .returned (.tuple #[]) ∧ Wr B c (l ++ pcBits ⟨x, n, d⟩) w' ∧ Below B w w' ∧ KeepT w w' := by
  have m1 := heap_new w (.cells #[.int .i64 x, .int .i64 n, .int .i64 d] 84)
  have N1 := new_below w (.cells #[.int .i64 x, .int .i64 n, .int .i64 d] 84)
  have W1 := H.on N1
  have R1 := R.on N1 R.lt
  have L1 := N1.mono hB
  have K1 := KeepT.of N1
  have hB1 : B ≤ (w.alloc (.cells #[.int .i64 x, .int .i64 n, .int .i64 d] 84)).heap.size := Nat.le_trans hB N1.size
  by_cases h0 : n = 0
  · subst h0
    rw [pcBits_byte]
    go_enter Tryd.func67, Tryd.ntmps67
    go_wp2_with fail
    refine (symbol_val B c l x _ W1 R1 hG hB1 (by omega)).mono ?_
    rintro e w2 ⟨rfl, W2, L2, K2⟩
    go_wp2
    (try simp only [Exit.inBlock, Exit.then])
    refine bodyPost_ret (results_none rfl _ _ _) rfl ?_
    exact ⟨rfl, W2, L1.trans L2, K1.trans K2⟩
  · rw [pcBits_copy x n d h0]
    have hc : 3 ≤ n ∧ n ≤ 258 ∧ 1 ≤ d ∧ d ≤ 1024 := by
      rcases hok with h | h
      · exact absurd h.1 h0
      · exact h.2
    have hn0 : (n == 0) = false := beq_eq_false_iff_ne.2 h0
    obtain ⟨⟨a1, a2⟩, ⟨b1, b2⟩, ⟨x1, x2⟩, ⟨c1, c2⟩, ⟨d1, d2⟩, ⟨y1, y2⟩⟩ := copy_nums n d hc
    have HLen : Hid (∀ w, _) := fun w => implLen_val n w
    have HBack : Hid (∀ w, _) := fun w => implBack_val d w
    clear hok hc h0
    generalize lenC n = A at *
    obtain ⟨b, hb⟩ := Int.eq_ofNat_of_zero_le b1
    obtain ⟨X, hx⟩ := Int.eq_ofNat_of_zero_le x1
    obtain ⟨C, hC⟩ := Int.eq_ofNat_of_zero_le c1
    obtain ⟨D, hD⟩ := Int.eq_ofNat_of_zero_le d1
    obtain ⟨Y, hY⟩ := Int.eq_ofNat_of_zero_le y1
    rw [hb] at b2 HLen ⊢
    rw [hx] at x2 HLen ⊢
    rw [hC] at c2 HBack ⊢
    rw [hD] at d2 HBack ⊢
    rw [hY] at y2 HBack ⊢
    simp only [Int.toNat_natCast]
    clear b1 x1 c1 d1 y1 hb hx hC hD hY
    have hfl := fixL_length A
    go_enter Tryd.func67, Tryd.ntmps67
    go_wp2_with fail
    refine (HLen.out _).mono ?_
    rintro e w2 ⟨rfl, D2⟩
    have N2 := D2.below (w.alloc (.cells #[.int .i64 x, .int .i64 n, .int .i64 d] 84)).heap.size
    have W2 := W1.on N2
    have R2 := R1.on N2 R1.lt
    have m2 := kept N2 (lt_of m1) m1
    have L2 := L1.trans (N2.mono hB1)
    have K2 := K1.trans (KeepT.of N2)
    have hB2 : B ≤ w2.heap.size := Nat.le_trans hB1 N2.size
    clear W1 R1 N1 D2 N2 L1 K1 m1 hB1
    go_wp2_with fail
    refine (symbol_val B c l A _ W2 R2 hG hB2 (by omega)).mono ?_
    rintro e w3 ⟨rfl, W3, L3, K3⟩
    have m3 := K3 _ _ _ _ m2 (by decide) (by decide)
    have L4 := L2.trans L3
    have K4 := K2.trans K3
    have hB3 : B ≤ w3.heap.size := Nat.le_trans hB2 L3.size
    clear W2 R2 L2 L3 K2 K3 m2 hB2
    go_wp2_with fail
    refine (low_val B c (l ++ fixL A) X b _ W3 hB3 (by omega) (by omega) (by rw [List.length_append]; omega)).mono ?_
    rintro e w5 ⟨rfl, W5, L5, K5⟩
    have m5 := K5 _ _ _ _ m3 (by decide) (by decide)
    have L6 := L4.trans L5
    have K6 := K4.trans K5
    have hB5 : B ≤ w5.heap.size := Nat.le_trans hB3 L5.size
    clear W3 L4 L5 K4 K5 m3 hB3
    have e2 : w5.cell? ⟨w.heap.size, 2, none⟩ = some (.int .i64 d) := cell_at m5 2
    go_wp2_with fail
    refine (HBack.out _).mono ?_
    rintro e w7 ⟨rfl, D7⟩
    have N7 := D7.below w5.heap.size
    have W7 := W5.on N7
    have L8 := L6.trans (N7.mono hB5)
    have K8 := K6.trans (KeepT.of N7)
    have hB7 : B ≤ w7.heap.size := Nat.le_trans hB5 N7.size
    clear W5 N7 D7 L6 K6 e2 m5 hB5
    go_wp2_with fail
    refine (high_val B c (l ++ fixL A ++ lowL X b) C 5 _ W7 hB7 (by omega) (by omega) (by rw [List.length_append, List.length_append, Math.lowL_length]; omega)).mono ?_
    rintro e w9 ⟨rfl, W9, L9, K9⟩
    have L10 := L8.trans L9
    have K10 := K8.trans K9
    have hB9 : B ≤ w9.heap.size := Nat.le_trans hB7 L9.size
    clear W7 L8 L9 K8 K9 hB7
    go_wp2_with fail
    refine (low_val B c (l ++ fixL A ++ lowL X b ++ highL C 5) Y D _ W9 hB9 (by omega) (by omega) (by rw [List.length_append, List.length_append, List.length_append, Math.lowL_length, Math.highL_length]; omega)).mono ?_
    rintro e w11 ⟨rfl, W11, L11, K11⟩
    have L12 := L10.trans L11
    have K12 := K10.trans K11
    clear W9 L10 L11 K10 K11 hB9
    have eA : l ++ fixL A ++ lowL X b ++ highL C 5 ++ lowL Y D = l ++ (fixL A ++ lowL X b ++ highL C 5 ++ lowL Y D) := by simp only [List.append_assoc]
    rw [eA] at W11
    clear eA
    go_wp2
    go_end0
    exact ⟨rfl, W11, L12, K12⟩

set_option maxHeartbeats 2000000 in
theorem implPack_val (s : ByteArray) (w : World) (hs : s.size ≤ maxLen) (R : Runs w) :
    Calls Tryd.prog 15 #[.string s] w fun e w' => e = .returned (t2' (packS s) (decide (s.size ≤ 3000))) ∧ Below w.heap.size w w' := by
  have hs' := hs
  unfold maxLen at hs
  by_cases h : s.size ≤ 3000
  · rw [packS_yes s h, decide_eq_true h]
    have hd : decide ((3000 : Int) < (s.size : Int)) = false := decide_eq_false (by omega)
    have W0 := wr_new w
    have L0 := new_below w (.cells #[.slice none 0 0, .int .i64 0] 79)
    have hG := R.lt
    have HP : Hid (∀ w, _) := fun w => implPieces_val s w hs'
    have hok := pieces_ok s
    have hpl := pieces_length s
    have HK : Hid (packL s = [1] ++ lowL 1 2 ++ pcsBits (Math.pieces s) ++ fixL 256) := rfl
    generalize Math.pieces s = ps at *
    have HOK : Hid (_) := hok
    generalize hn : ps.length = n at *
    have HL : Hid (ps.length = n) := hn
    have hbl := pcsBits_length
    clear h hn hok
    generalize hSS : (⟨(bytesOf (packL s)).toArray⟩ : ByteArray) = S at *
    have HSS : Hid (_) := hSS
    clear hSS
    go_enter Tryd.func15, Tryd.ntmps15
    go_wp2_with fail
    refine (head_val _ _ 1 _ W0 L0.size (by omega)).mono ?_
    rintro e w1 ⟨rfl, W1, L1, K1⟩
    have hB1 : w.heap.size ≤ w1.heap.size := Nat.le_trans L0.size L1.size
    have L2 := L0.trans L1
    clear W0 L0 L1 K1
    go_wp2_with fail
    refine (HP.out _).mono ?_
    rintro e w3 ⟨v, rfl, hown, L3⟩
    have W3 := W1.on L3
    have L4 := L2.trans (L3.mono L2.size)
    obtain ⟨va, vc, rfl, -⟩ := own_form hown
    clear L2 L3 W1
    go_wp2
    go_loopw [15] (fun i wr => ∃ (j : Nat), j ≤ n ∧ i = .int .i64 j ∧ Hid (Wr w.heap.size w.heap.size ([1] ++ lowL 1 2 ++ pcsBits (ps.take j)) wr) ∧ Below w.heap.size w wr ∧ wr.ownsRow w1.heap.size 84 3 (.slice va n vc) n (pcells ps)) (fun i _ => n - (intOf i).toNat)
    case atStart => exact ⟨0, by omega, rfl, by show Wr _ _ ([1] ++ lowL 1 2 ++ []) w3; rw [List.append_nil]; exact W3, L4, hown⟩
    case round =>
      obtain ⟨j, hj, rfl, HW, L, hown2⟩ := hrel
      have hlen : ∀ j, (([1] ++ lowL 1 2 ++ pcsBits (ps.take j) : List Nat)).length ≤ 200000 := by
        intro j
        have h1 := hbl (ps.take j) fun p hp => HOK.out p (List.mem_of_mem_take hp)
        have h2 : (ps.take j).length ≤ 3000 := by rw [List.length_take, HL.out]; omega
        rw [List.length_append, List.length_append, Math.lowL_length]
        simp
        omega
      by_cases hjn : j < n
      · have hjp : j < ps.length := by rw [HL.out]; exact hjn
        obtain ⟨g, cp, he, hg1, hg2, c0, c1, c2, -⟩ := own_pc hown2 j hjn ps[j] (List.getElem?_eq_getElem hjp)
        simp only [Value.slice.injEq] at he
        obtain ⟨rfl, -, -⟩ := he
        have hpo := HOK.out ps[j] (List.getElem_mem hjp)
        have HS : Hid (_) := pcsBits_take ps j hjp
        generalize ps[j] = p at *
        obtain ⟨x, m, d⟩ := p
        dsimp only at c0 c1 c2
        have N1 := new_below wr (.cells #[.int .i64 x, .int .i64 m, .int .i64 d] 84)
        have L5 := L.trans (N1.mono L.size)
        have W5 := HW.out.on N1
        have hown5 := own_below hown2 N1 (Nat.le_refl _)
        have HPV : Hid (_) := piece_val w.heap.size w.heap.size _ x m d _ hpo W5 (R.on L5 hG) hG L5.size (Nat.le_trans (hlen j) (by omega))
        clear hlen hbl hjp hpo W5 HW L N1 hown2
        go_wp2_with fail
        refine (Calls.mono HPV.out ?_)
        rintro e w6 ⟨rfl, W6, L6, K6⟩
        rw [List.append_assoc, ← HS.out] at W6
        have W7 : Hid (_) := W6
        have L7 := L5.trans L6
        have hown7 := K6.row hown5 (by decide) (by decide)
        clear W6 L6 K6 L5 hown5 HPV c0 c1 c2
        go_wp2
        go_roundw
        case rel => exact ⟨j + 1, by omega, by go_num, W7, L7, hown7⟩
        case measure => simp [intOf]; omega
      · obtain rfl : j = n := by omega
        have HT : Hid (ps.take j = ps) := by show _ = _; rw [← HL.out]; exact List.take_length
        have hl2 := hlen j
        rw [HT.out] at HW hl2
        have HSY : Hid (_) := symbol_val w.heap.size w.heap.size _ 256 _ HW.out (R.on L hG) hG L.size (Nat.le_trans hl2 (by omega))
        clear hlen hl2 hbl HW hown2
        go_wp2_with fail
        refine (Calls.mono HSY.out ?_)
        rintro e w6 ⟨rfl, W6, L6, -⟩
        rw [← HK.out] at W6
        have L7 := L.trans L6
        obtain ⟨-, -, v, m7, hown7⟩ := W6
        have hconv := conv_own hown7
        have c0 : w6.cell? ⟨w.heap.size, 0, none⟩ = some v := cell_at m7 0
        obtain ⟨va', vc', rfl, -⟩ := own_form hown7
        clear m7 hown7 L L6 HSY HK
        rw [HSS.out] at hconv
        generalize (bytesOf (packL s)).length = M at *
        go_wp2
        go_ret2
        exact ⟨rfl, L7⟩
  · rw [packS_no s h, decide_eq_false h]
    have hd : decide ((3000 : Int) < (s.size : Int)) = true := decide_eq_true (by omega)
    clear h
    go_enter Tryd.func15, Tryd.ntmps15
    go_wp2
    go_ret2
    exact ⟨rfl, Below.refl _ _⟩

end Pk
end Go.Proofs.YtcifgableeeooabDoor
