/- Contracts of the model's Pack. -/
import Derived.Test.YtcifgableeeooabDoorMathPk
import Derived.Test.YtcifgableeeooabDoorPkStored
import Derived.Test.YtcifgableeeooabDoorPkPcsOwn
namespace Go.Proofs.YtcifgableeeooabDoor
namespace Pk
open Go.ChangeShapes Go.WideShapes Go.ChangeAt Go.RowKit
open Math (Pc Bits bytesOf lowL highL)
set_option linter.unusedSimpArgs false
set_option linter.unusedVariables false

theorem own_nn {w : World} {base e size : Nat} {v : Value} {n : Nat} {xs : List Value} (h : w.ownsRow base e size v n xs) (hv : v ≠ .slice none 0 0) : ∃ g cap, v = .slice (some ⟨g, 0, none⟩) n cap := by
  obtain ⟨-, h2⟩ := h
  rcases h2 with ⟨h0, -⟩ | ⟨g, cap, cur, h1, -⟩
  · exact absurd h0 hv
  · exact ⟨g, cap, h1⟩

theorem own_pos {w : World} {base e size : Nat} {v : Value} {n : Nat} {xs : List Value} (h : w.ownsRow base e size v n xs) (hn : 0 < n) : ∃ g cap, v = .slice (some ⟨g, 0, none⟩) n cap := by
  obtain ⟨-, h2⟩ := h
  rcases h2 with ⟨-, h0⟩ | ⟨g, cap, cur, h1, -⟩
  · omega
  · exact ⟨g, cap, h1⟩

/-- The cells of a row that is appended. -/
theorem own_news {w : World} {base e g n cap : Nat} {xs : List Value} (h : w.ownsRow base e 1 (.slice (some ⟨g, 0, none⟩) n cap) n xs) : ∀ j u, xs[j]? = some u → w.cell? (Addr.add ⟨g, 0, none⟩ j) = some u := by
  intro j u hu
  have hj : j < n := by
    have h1 := h.1
    have := (List.getElem?_eq_some_iff.1 hu).1
    omega
  obtain ⟨g', cap', e1, -, -, u', hu', hc⟩ := own_at h j hj
  simp only [Value.slice.injEq, Option.some.injEq, Addr.mk.injEq] at e1
  rw [show Addr.add ⟨g, 0, none⟩ j = ⟨g, j, none⟩ from by simp [Addr.add]; exact Eq.symm, e1.1.1, hc, ← hu', hu]

theorem icells_one (l : List Nat) : ∀ u ∈ icells l, u.oneCell' = true := by
  intro u hu
  obtain ⟨b, -, rfl⟩ := List.mem_map.1 hu
  rfl

theorem icells_news (l : List Nat) (n : Nat) (h : l.length = n) : (icells l).length = n * 1 := by rw [icells_length]; omega

set_option maxHeartbeats 1000000 in
theorem low_made (x n : Nat) (w : World) (hx : x < 1099511627776) (hn : n ≤ 40) :
    Calls Tryd.prog 70 #[.int .i64 x, .int .i64 n] w fun e w' => ∃ g cap, e = .returned (.slice (some ⟨g, 0, none⟩) n cap) ∧ w'.ownsRow w.heap.size 3 1 (.slice (some ⟨g, 0, none⟩) n cap) n (icells (lowL x n)) ∧ Below w.heap.size w w' := by
  obtain ⟨i0, hi, hz0, hz1, hz2⟩ := info_of info_int
  go_enter Tryd.func70, Tryd.ntmps70
  go_wp2
  go_loopw [5, 6] (fun v i wr => ∃ (j : Nat), j ≤ n ∧ i = .int .i64 j ∧ wr.ownsRow w.heap.size 3 1 v j (icells (lowL x j)) ∧ Below w.heap.size w wr ∧ Hid (v ≠ .slice none 0 0)) (fun _ i _ => n - (intOf i).toNat)
  case atStart => exact ⟨0, by omega, rfl, own_new w _, new_below _ _, by show _ ≠ _; intro h; cases h⟩
  case round =>
    obtain ⟨j, hj, rfl, hown, L, HV⟩ := hrel
    by_cases hjn : j < n
    · have HS : Hid (_) := Math.lowL_succ x j
      have hdiv := div_p2 x j
      have hb1 : x / 2 ^ j % 2 ≤ 1 := by omega
      have hzb : x / 2 ^ j ≤ x := Nat.div_le_self _ _
      have hP := p2_pos j
      have hP2 := p2_bd j (by omega)
      generalize x / 2 ^ j = z at *
      have hzm : (z : Int) % 2 = ((z % 2 : Nat) : Int) := by omega
      generalize z % 2 = b at *
      have HP : Hid (∀ w, _) := fun w => pow2_val j w (by omega)
      generalize p2 j = Q at *
      have hBr : w.heap.size ≤ wr.heap.size := L.size
      go_wp2_with fail
      refine (HP.out _).mono ?_
      rintro e w2 ⟨rfl, rfl⟩
      go_wp2_with (at_builtin; refine wpList_append_own _ rfl _ _ 42 rfl w.heap.size 3 i0 (.int .i64 0) 1 8 Tryd.underlying42 hi hz0 hz1 hz2 rfl (by decide) _ _ _ rfl (hown.alloc _) ⟨w2.heap.size, 0, none⟩ 1 1 [.int .i64 b] rfl rfl ?c1 ?c2 ?c3 ?c4 ?c5 ?_)
      case c1 => exact cell_one_new _ _ _
      case c2 => intro u hu; simp at hu; subst hu; rfl
      case c3 => unfold maxLen; omega
      case c4 => omega
      case c5 => simp; omega
      · intro v' w3 hown3 hgrow hnil
        have HV3 : Hid (v' ≠ .slice none 0 0) := by show _ ≠ _; intro h; first | exact hnil h | (have := (hnil.1 h).2; omega)
        have L3 : Below w.heap.size w w3 := (L.alloc hBr _).grown hgrow (by simp; omega) (fun m h => own_ge hown m h)
        rw [icells_snoc, ← HS.out] at hown3
        clear hown hgrow hnil HV
        go_wp2
        go_roundw
        case rel => exact ⟨j + 1, by omega, by go_num, hown3, L3, HV3⟩
        case measure => simp [intOf]; omega
    · obtain rfl : j = n := by omega
      obtain ⟨g, cap, rfl⟩ := own_nn hown HV.out
      go_wp2
      go_ret
      exact ⟨g, cap, rfl, hown, L⟩

/-- The upper t of the eight bits of a byte, read from the top. -/
def byteTop (l : List Nat) (i : Nat) : Nat → Nat
  | 0 => 0
  | t + 1 => 2 * byteTop l i t + l.getD (8 * i + (7 - t)) 0

theorem byteTop_all (l : List Nat) (i : Nat) : byteTop l i 8 = Math.byteAt l i := by
  unfold Math.byteAt
  simp only [byteTop, Nat.sub_zero, Nat.reduceSub, Nat.add_zero]
  omega

theorem byteTop_bd {l : List Nat} (h : Bits l) (i t : Nat) (ht : t ≤ 8) : byteTop l i t < 2 ^ t := by
  induction t with
  | zero => simp [byteTop]
  | succ t ih =>
    have h1 := ih (by omega)
    have h2 := h.at (8 * i + (7 - t))
    rw [byteTop, Nat.pow_succ]
    omega

theorem byteTop_256 {l : List Nat} (h : Bits l) (i t : Nat) (ht : t ≤ 8) : byteTop l i t < 256 := by
  have h1 := byteTop_bd h i t ht
  have h2 : 2 ^ t ≤ 2 ^ 8 := Nat.pow_le_pow_right (by omega) ht
  omega

theorem bytesOf_take (l : List Nat) (k : Nat) (h : 8 * k < l.length) : (bytesOf l).take (k + 1) = (bytesOf l).take k ++ [UInt8.ofNat (Math.byteAt l k)] := by
  have hk : k < (bytesOf l).length := by rw [Math.bytesOf_length]; omega
  rw [List.take_add_one, List.getElem?_eq_getElem hk]
  simp [bytesOf]

theorem bytesOf_take_all (l : List Nat) (k : Nat) (h : l.length ≤ 8 * k) : (bytesOf l).take k = bytesOf l := by
  apply List.take_of_length_le
  rw [Math.bytesOf_length]
  omega

theorem u8_byte {l : List Nat} (h : Bits l) (k : Nat) : ((UInt8.ofNat (Math.byteAt l k)).toNat : Int) = (Math.byteAt l k : Int) := by
  have := Math.byteAt_lt h k
  rw [UInt8.toNat_ofNat', Nat.mod_eq_of_lt this]

set_option maxHeartbeats 2000000 in
theorem bytesS_val (B : Nat) (v : Value) (l : List Nat) (n : Nat) (w : World) (hl : l.length = n) (hn : n ≤ 1000000) (hb : Bits l) (hown : w.ownsRow B 3 1 v n (icells l)) :
    Calls Tryd.prog 72 #[v] w fun e w' => e = .returned (.string ⟨(bytesOf l).toArray⟩) ∧ Below w.heap.size w w' := by
  obtain ⟨i0, hi, hz0, hz1, hz2⟩ := info_of info_u8
  obtain ⟨va, vc, rfl, -⟩ := own_form hown
  have HLN : Hid (l.length = n) := hl
  have HBB : Hid (Bits l) := hb
  clear hl hb
  generalize hSS : (⟨(bytesOf l).toArray⟩ : ByteArray) = S at *
  have HSS : Hid (_) := hSS
  clear hSS
  go_enter Tryd.func72, Tryd.ntmps72
  go_wp2
  go_loopw [3, 4] (fun o i wr => ∃ (k : Nat), k ≤ 1000000 ∧ Hid (8 * k ≤ n + 7) ∧ i = .int .i64 (8 * (k : Int)) ∧ wr.ownsRow w.heap.size 5 1 o k (bcells ((bytesOf l).take k)) ∧ Below w.heap.size w wr) (fun _ i _ => n + 8 - (intOf i).toNat)
  case atStart => exact ⟨0, by omega, by show _ ≤ _; omega, rfl, own_new w _, new_below _ _⟩
  case round =>
    obtain ⟨k, hk, HK8, rfl, ho, L⟩ := hrel
    by_cases hkn : 8 * k < n
    · have hd8 : decide (8 * (k : Int) < (n : Int)) = true := decide_eq_true (by omega)
      have HKN : Hid (8 * k < n) := hkn
      clear hkn
      have hown2 := own_below hown L (Nat.le_refl _)
      go_wp2
      go_loop [5, 6] (fun x t => ∃ (j y : Nat), j ≤ 8 ∧ y < 256 ∧ x = .int .i64 y ∧ t = .int .i64 (7 - (j : Int)) ∧ Hid (y = byteTop l k j)) (fun _ t => (intOf t + 1).toNat)
      case atStart => exact ⟨0, 0, by omega, by omega, rfl, rfl, rfl⟩
      case round =>
        obtain ⟨j, y, hj, hy, rfl, rfl, HY⟩ := hrel
        by_cases hj8 : j < 8
        · have hz := byteTop_256 HBB.out k (j + 1) (by omega)
          have HZ : Hid (byteTop l k (j + 1) = 2 * y + l.getD (8 * k + (7 - j)) 0) := by show _ = _; rw [HY.out]; rfl
          rw [HZ.out] at hz
          have e1 : (7 : Int) - (j : Int) = ((7 - j : Nat) : Int) := by omega
          have HQ : Hid ((7 - j : Nat) + j = 7) := by show _ = _; omega
          have hq : (7 - j : Nat) ≤ 7 := by omega
          rw [e1]
          clear e1
          generalize 7 - j = q at *
          by_cases hin : 8 * k + q < n
          · obtain ⟨g, cp, he, -, -, u, hu, hc⟩ := own_at hown2 (8 * k + q) hin
            simp only [Value.slice.injEq] at he
            obtain ⟨rfl, -, -⟩ := he
            have hqL : 8 * k + q < l.length := by rw [HLN.out]; exact hin
            rw [icells_at l _ hqL] at hu
            simp only [Option.some.injEq] at hu
            subst hu
            have hgd : l.getD (8 * k + q) 0 = l[8 * k + q] := by rw [List.getD_eq_getElem?_getD, List.getElem?_eq_getElem hqL]; rfl
            rw [hgd] at HZ hz
            clear hgd
            generalize l[8 * k + q]'hqL = b at *
            clear hqL
            generalize hm : 8 * k + q = m at *
            have HM : Hid (8 * k + q = m) := hm
            have em : 8 * (k : Int) + (q : Int) = (m : Int) := by omega
            clear hm
            go_wp2
            go_round
            case rel => exact ⟨j + 1, 2 * y + b, by omega, by omega, by go_num, by have := HQ.out; go_num, HZ.out.symm⟩
            case measure => simp [intOf] <;> omega
          · have hgd : l.getD (8 * k + q) 0 = 0 := Math.getD_far l _ (by rw [HLN.out]; omega)
            rw [hgd] at HZ hz
            clear hgd
            generalize hm : 8 * k + q = m at *
            have HM : Hid (8 * k + q = m) := hm
            have em : 8 * (k : Int) + (q : Int) = (m : Int) := by omega
            clear hm
            go_wp2
            go_round
            case rel => exact ⟨j + 1, 2 * y, by omega, by omega, by go_num, by have := HQ.out; go_num, by show _ = _; rw [HZ.out]; rfl⟩
            case measure => simp [intOf] <;> omega
        · obtain rfl : j = 8 := by omega
          have HT : Hid (_) := bytesOf_take l k (by rw [HLN.out]; exact HKN.out)
          have HU : Hid (_) := u8_byte HBB.out k
          rw [byteTop_all] at HY
          have hBr : w.heap.size ≤ wr.heap.size := L.size
          go_wp2_with (at_builtin; refine wpList_append_own _ rfl _ _ 22 rfl w.heap.size 5 i0 (.int .u8 0) 1 1 Tryd.underlying22 hi hz0 hz1 hz2 rfl (by decide) _ _ _ rfl (ho.alloc _) ⟨wr.heap.size, 0, none⟩ 1 1 [.int .u8 y] rfl rfl ?c1 ?c2 ?c3 ?c4 ?c5 ?_)
          try (case c1 => exact cell_one_new _ _ _)
          case c2 => first | (intro u hu; simp at hu; subst hu; rfl) | rfl | (simp; done)
          case c3 => unfold maxLen; omega
          case c4 => omega
          case c5 => first | omega | (simp; omega)
          · intro v' w3 hown3 hgrow _
            have L3 : Below w.heap.size w w3 := (L.alloc hBr _).grown hgrow (by simp; omega) (fun m h => own_ge ho m h)
            have hs := bcells_snoc ((bytesOf l).take k) (UInt8.ofNat (Math.byteAt l k))
            rw [HU.out, ← HT.out, ← HY.out] at hs
            rw [hs] at hown3
            clear ho hgrow hs hown2
            go_wp2
            go_roundw
            case rel => exact ⟨k + 1, by have := HKN.out; omega, by show _ ≤ _; have := HKN.out; omega, by go_num, hown3, L3⟩
            case measure => have := HKN.out; simp [intOf]; omega
    · have hd8 : decide (8 * (k : Int) < (n : Int)) = false := decide_eq_false (by omega)
      have HKN : Hid (¬ 8 * k < n) := hkn
      clear hkn
      have HT : Hid (_) := bytesOf_take_all l k (by rw [HLN.out]; have := HKN.out; omega)
      rw [HT.out] at ho
      have hconv := conv_own ho
      obtain ⟨oa, oc, rfl, -⟩ := own_form ho
      clear ho
      rw [HSS.out] at hconv
      go_wp2
      go_ret
      exact ⟨rfl, L⟩

/-- What is kept: every block that is not one of numbers. -/
def KeepI (w w1 : World) : Prop := ∀ (k : Nat) (cs : Array Value) (t : TypeId) (f : Nat × Nat), w.heap[k]? = some (.cells cs t f) → t ≠ 3 → w1.heap[k]? = some (.cells cs t f)

theorem KeepI.refl (w : World) : KeepI w w := fun _ _ _ _ h _ => h

theorem KeepI.trans {w w1 w2 : World} (h : KeepI w w1) (g : KeepI w1 w2) : KeepI w w2 := fun k cs t f m h1 => g k cs t f (h k cs t f m h1) h1

theorem KeepI.of {w w1 : World} (L : Below w.heap.size w w1) : KeepI w w1 := fun _ _ _ _ m _ => kept L (lt_of m) m

theorem KeepI.row {w w1 : World} {base e size : Nat} {v : Value} {n : Nat} {xs : List Value} (K : KeepI w w1) (h : w.ownsRow base e size v n xs) (h1 : e ≠ 3) : w1.ownsRow base e size v n xs := by
  obtain ⟨ha, hb⟩ := h
  refine ⟨ha, ?_⟩
  rcases hb with hb | ⟨g, cap, cur, hv, hg, hh, hr⟩
  · exact Or.inl hb
  · exact Or.inr ⟨g, cap, cur, hv, hg, K _ _ _ _ hh h1, hr⟩

theorem KeepI.grown {w w1 w2 : World} {o : Option Nat} (K : KeepI w w1) (G : w1.grownBy w2 o) (ho : ∀ g, o = some g → ∃ cur, w1.heap[g]? = some (.cells cur 3)) : KeepI w w2 := by
  intro k cs t f m h1
  have m1 := K k cs t f m h1
  rw [G.block k (lt_of m1) (by
    intro e
    obtain ⟨cur, hc⟩ := ho k e.symm
    rw [hc] at m1
    simp only [Option.some.injEq, Obj.cells.injEq] at m1
    exact h1 m1.2.1.symm)]
  exact m1

theorem three_new (w : World) : (w.alloc (.cells #[.int .i64 1, .int .i64 1, .int .i64 0] 3)).ownsRow w.heap.size 3 1 (.slice (some ⟨w.heap.size, 0, none⟩) 3 3) 3 (icells [1, 1, 0]) :=
  ⟨rfl, Or.inr ⟨w.heap.size, 3, #[.int .i64 1, .int .i64 1, .int .i64 0], rfl, Nat.le_refl _, heap_new w _, by omega, by unfold maxLen; omega, rfl, rfl⟩⟩

theorem pcBits_byteS (p : Pc) (h : p.n = 0) : pcBits p = fixL p.x := if_pos h

theorem pcBits_copyS (p : Pc) (h : p.n ≠ 0) : pcBits p = fixL (lenC p.n) ++ lowL (lenX p.n).toNat (lenB p.n).toNat ++ highL (backC p.d).toNat 5 ++ lowL (backX p.d).toNat (backB p.d).toNat := if_neg h

set_option maxHeartbeats 4000000 in
theorem specPack_val (s : ByteArray) (w : World) (hs : s.size ≤ maxLen) :
    Calls Tryd.prog 16 #[.string s] w fun e w' => e = .returned (t2' (packS s) (decide (s.size ≤ 3000))) ∧ Below w.heap.size w w' := by
  obtain ⟨i0, hi, hz0, hz1, hz2⟩ := info_of info_int
  have hs' := hs
  unfold maxLen at hs
  by_cases h : s.size ≤ 3000
  · rw [packS_yes s h, decide_eq_true h]
    have hd : decide ((3000 : Int) < (s.size : Int)) = false := decide_eq_false (by omega)
    have O0 := three_new w
    have L0 := new_below w (.cells #[.int .i64 1, .int .i64 1, .int .i64 0] 3)
    have HP : Hid (∀ w, _) := fun w => specPieces_val s w hs'
    have HOK : Hid (_) := pieces_ok s
    have hpl := pieces_length s
    have HK : Hid (packL s = [1, 1, 0] ++ pcsBits (Math.pieces s) ++ fixL 256) := rfl
    generalize Math.pieces s = ps at *
    generalize hn : ps.length = n at *
    have HL : Hid (ps.length = n) := hn
    clear h hn
    go_enter Tryd.func16, Tryd.ntmps16
    go_wp2_with fail
    refine (HP.out _).mono ?_
    rintro e w1 ⟨v, rfl, hown, L1⟩
    have O1 := own_below O0 L1 (Nat.le_refl _)
    have L2 := L0.trans (L1.mono L0.size)
    obtain ⟨va, vc, rfl, -⟩ := own_form hown
    generalize hw0 : (w.alloc (.cells #[.int .i64 1, .int .i64 1, .int .i64 0] 3)).heap.size = B1 at *
    clear L0 L1 O0 HP hw0
    go_wp2
    go_loopw [4, 6] (fun u i wr => ∃ (k m : Nat) (l : List Nat), k ≤ n ∧ m ≤ 3 + 44 * k ∧ i = .int .i64 k ∧ wr.ownsRow w.heap.size 3 1 u m (icells l) ∧ Below w.heap.size w wr ∧ wr.ownsRow B1 84 3 (.slice va n vc) n (pcells ps) ∧ Hid (l.length = m ∧ Bits l ∧ l = [1, 1, 0] ++ pcsBits (ps.take k))) (fun _ i _ => n - (intOf i).toNat)
    case atStart => exact ⟨0, 3, [1, 1, 0], by omega, by omega, rfl, O1, L2, hown, rfl, by intro b hb; simp at hb; omega, rfl⟩
    case round =>
      obtain ⟨k, m, l, hk, hm, rfl, O, L, HR, H⟩ := hrel
      by_cases hkn : k < n
      · have hkp : k < ps.length := by rw [HL.out]; exact hkn
        have hkp0 := hkp
        obtain ⟨gp, cpp, he, hg1, hg2, c0, c1, c2, -⟩ := own_pc HR k hkn ps[k] (List.getElem?_eq_getElem hkp)
        simp only [Value.slice.injEq] at he
        obtain ⟨rfl, -, -⟩ := he
        have hpo := HOK.out ps[k] (List.getElem_mem hkp)
        have HS : Hid (_) := pcsBits_take ps k hkp
        have hpl2 := pcBits_length ps[k] hpo
        have HBP : Hid (_) := pcBits_bits ps[k]
        have HN : Hid (∀ q, (pcBits ps[k]).length = q → (l ++ pcBits ps[k]).length = m + q ∧ Bits (l ++ pcBits ps[k]) ∧ l ++ pcBits ps[k] = [1, 1, 0] ++ pcsBits (ps.take (k + 1))) := by
          intro q hq
          obtain ⟨a1, a2, a3⟩ := H.out
          refine ⟨by rw [List.length_append, a1, hq], a2.append HBP.out, ?_⟩
          rw [HS.out, a3, List.append_assoc]
        clear hkp HS HBP H
        have HPK : Hid (ps[k]? = some (ps[k]'hkp0)) := List.getElem?_eq_getElem hkp0
        generalize ps[k] = p at *
        by_cases h0 : p.n = 0
        · rw [h0] at c1
          rw [pcBits_byteS p h0] at HN hpl2
          have hx : 0 ≤ p.x ∧ p.x ≤ 255 := by
            rcases hpo with h | h
            · exact ⟨h.2.2.1, h.2.2.2⟩
            · omega
          have hfp := fixL_pos p.x hx.1 (by omega)
          have HF : Hid (∀ w, _) := fun w => specFix_val p.x w
          clear hpo h0 hx
          generalize fixL p.x = F at *
          generalize hq : F.length = q at *
          have HQ : Hid (F.length = q) := hq
          have HN2 : Hid (_) := HN.out q rfl
          clear hq HN
          go_wp2_with fail
          refine (HF.out _).mono ?_
          rintro e w3 ⟨vf, rfl, ownf, L3⟩
          obtain ⟨gA, cpA, rfl⟩ := own_pos ownf (by omega)
          have OA := own_below O L3 (Nat.le_refl _)
          have L4 := L.trans (L3.mono L.size)
          have RA := own_below HR L3 (Nat.le_refl _)
          have KA := KeepI.refl w3
          clear L3 L O HR HF c0 c1 c2
          go_wp2_with (at_builtin; refine wpList_append_own _ rfl _ _ 42 rfl w.heap.size 3 i0 (.int .i64 0) 1 8 Tryd.underlying42 hi hz0 hz1 hz2 rfl (by decide) _ _ _ rfl OA ⟨gA, 0, none⟩ q cpA (icells (F)) rfl ?pAa ?pAb (icells_one _) ?pAc ?pAd ?pAe ?_)
          case pAa => exact icells_news _ _ HQ.out
          case pAb => exact own_news ownf
          case pAc => unfold maxLen; omega
          case pAd => omega
          case pAe => exact L4.size
          intro vA xA ownA growA _
          have LLA : Below w.heap.size w xA := L4.grown growA L4.size (fun m h => own_ge OA m h)
          have KKA := KA.grown growA (own_type OA)
          rw [icells_append] at ownA
          clear growA
          have RB := KKA.row RA (by decide)
          clear OA L4 RA KA ownf KKA
          go_wp2
          go_roundw
          case rel => exact ⟨k + 1, m + q, l ++ F, by omega, by omega, by go_num, ownA, LLA, RB, HN2⟩
          case measure => simp [intOf]; omega
        · rw [pcBits_copyS p h0] at HN hpl2
          have hc : 3 ≤ p.n ∧ p.n ≤ 258 ∧ 1 ≤ p.d ∧ p.d ≤ 1024 := by
            rcases hpo with h | h
            · exact absurd h.1 h0
            · exact h.2
          have hn0 : (p.n == 0) = false := beq_eq_false_iff_ne.2 h0
          obtain ⟨⟨a1, a2⟩, ⟨b1, b2⟩, ⟨x1, x2⟩, ⟨d1, d2⟩, ⟨e1, e2⟩, ⟨y1, y2⟩⟩ := copy_nums p.n p.d hc
          have HLen : Hid (∀ w, _) := fun w => specLen_val p.n w
          have HBack : Hid (∀ w, _) := fun w => specBack_val p.d w
          clear hpo h0 hc
          generalize lenC p.n = A at *
          obtain ⟨b, hb⟩ := Int.eq_ofNat_of_zero_le b1
          obtain ⟨X, hx⟩ := Int.eq_ofNat_of_zero_le x1
          obtain ⟨C, hC⟩ := Int.eq_ofNat_of_zero_le d1
          obtain ⟨D, hD⟩ := Int.eq_ofNat_of_zero_le e1
          obtain ⟨Y, hY⟩ := Int.eq_ofNat_of_zero_le y1
          rw [hb] at b2 HLen HN hpl2
          rw [hx] at x2 HLen HN hpl2
          rw [hC] at d2 HBack HN hpl2
          rw [hD] at e2 HBack HN hpl2
          rw [hY] at y2 HBack HN hpl2
          simp only [Int.toNat_natCast] at HN hpl2
          clear b1 x1 d1 e1 y1 hb hx hC hD hY
          have hfp := fixL_pos A (by omega) a2
          have HF : Hid (∀ w, _) := fun w => specFix_val A w
          generalize fixL A = F at *
          generalize hq : F.length = q at *
          have HQ : Hid (F.length = q) := hq
          have hq4 : q + b + 5 + D ≤ 44 := by
            rw [List.length_append, List.length_append, List.length_append, Math.lowL_length, Math.lowL_length, Math.highL_length, hq] at hpl2
            exact hpl2
          have HN2 : Hid (_) := HN.out (q + b + 5 + D) (by rw [List.length_append, List.length_append, List.length_append, Math.lowL_length, Math.lowL_length, Math.highL_length, hq])
          have HLB : Hid (_) := Math.lowL_length X b
          have HLD : Hid (_) := Math.lowL_length Y D
          have HLC : Hid (_) := Math.highL_length C 5
          clear hq HN hpl2
          go_wp2_with fail
          refine (HLen.out _).mono ?_
          rintro e w3 ⟨rfl, rfl⟩
          go_wp2_with fail
          refine (HF.out _).mono ?_
          rintro e w4 ⟨vf, rfl, ownf, L3⟩
          obtain ⟨gA, cpA, rfl⟩ := own_pos ownf (by omega)
          have OA := own_below O L3 (Nat.le_refl _)
          have L4 := L.trans (L3.mono L.size)
          have RA := own_below HR L3 (Nat.le_refl _)
          have KA := KeepI.refl w4
          clear L3 L O HR HF c0 c1 c2 HLen
          go_wp2_with (at_builtin; refine wpList_append_own _ rfl _ _ 42 rfl w.heap.size 3 i0 (.int .i64 0) 1 8 Tryd.underlying42 hi hz0 hz1 hz2 rfl (by decide) _ _ _ rfl OA ⟨gA, 0, none⟩ q cpA (icells (F)) rfl ?pAa ?pAb (icells_one _) ?pAc ?pAd ?pAe ?_)
          case pAa => exact icells_news _ _ HQ.out
          case pAb => exact own_news ownf
          case pAc => unfold maxLen; omega
          case pAd => omega
          case pAe => exact L4.size
          intro vA xA ownA growA _
          have LLA : Below w.heap.size w xA := L4.grown growA L4.size (fun m h => own_ge OA m h)
          have KKA := KA.grown growA (own_type OA)
          rw [icells_append] at ownA
          clear growA
          have RB := KKA.row RA (by decide)
          clear OA L4 RA KA ownf KKA
          go_wp2_with fail
          refine (low_made X b _ (by omega) (by omega)).mono ?_
          rintro e w5 ⟨gB, cpB, rfl, ownb, L5⟩
          have OB := own_below ownA L5 (Nat.le_refl _)
          have L6 := LLA.trans (L5.mono LLA.size)
          have RC := own_below RB L5 (Nat.le_refl _)
          have KB := KeepI.refl w5
          clear L5 LLA ownA RB
          go_wp2_with (at_builtin; refine wpList_append_own _ rfl _ _ 42 rfl w.heap.size 3 i0 (.int .i64 0) 1 8 Tryd.underlying42 hi hz0 hz1 hz2 rfl (by decide) _ _ _ rfl OB ⟨gB, 0, none⟩ b cpB (icells (lowL X b)) rfl ?pBa ?pBb (icells_one _) ?pBc ?pBd ?pBe ?_)
          case pBa => exact icells_news _ _ HLB.out
          case pBb => exact own_news ownb
          case pBc => unfold maxLen; omega
          case pBd => omega
          case pBe => exact L6.size
          intro vB xB ownB growB _
          have LLB : Below w.heap.size w xB := L6.grown growB L6.size (fun m h => own_ge OB m h)
          have KKB := KB.grown growB (own_type OB)
          rw [icells_append] at ownB
          clear growB
          have RD := KKB.row RC (by decide)
          clear OB L6 RC KB ownb KKB
          obtain ⟨gq, cq, heq, hq1, hq2, c0, c1, c2, -⟩ := own_pc RD k hkn p HPK.out
          simp only [Value.slice.injEq, Option.some.injEq, Addr.mk.injEq] at heq
          obtain ⟨⟨rfl, -⟩, -, -⟩ := heq
          go_wp2_with fail
          refine (HBack.out _).mono ?_
          rintro e w7 ⟨rfl, rfl⟩
          clear c0 c1 c2
          go_wp2_with fail
          refine (high_made C 5 _ (by omega) (by omega)).mono ?_
          rintro e w8 ⟨vh, rfl, ownc, L7⟩
          obtain ⟨gC, cpC, rfl⟩ := own_pos ownc (by omega)
          have OC := own_below ownB L7 (Nat.le_refl _)
          have L8 := LLB.trans (L7.mono LLB.size)
          have RE := own_below RD L7 (Nat.le_refl _)
          have KC := KeepI.refl w8
          clear L7 LLB ownB RD
          go_wp2_with (at_builtin; refine wpList_append_own _ rfl _ _ 42 rfl w.heap.size 3 i0 (.int .i64 0) 1 8 Tryd.underlying42 hi hz0 hz1 hz2 rfl (by decide) _ _ _ rfl OC ⟨gC, 0, none⟩ 5 cpC (icells (highL C 5)) rfl ?pCa ?pCb (icells_one _) ?pCc ?pCd ?pCe ?_)
          case pCa => exact icells_news _ _ HLC.out
          case pCb => exact own_news ownc
          case pCc => unfold maxLen; omega
          case pCd => omega
          case pCe => exact L8.size
          intro vC xC ownC growC _
          have LLC : Below w.heap.size w xC := L8.grown growC L8.size (fun m h => own_ge OC m h)
          have KKC := KC.grown growC (own_type OC)
          rw [icells_append] at ownC
          clear growC
          have RF := KKC.row RE (by decide)
          clear OC L8 RE KC ownc KKC
          go_wp2_with fail
          refine (low_made Y D _ (by omega) (by omega)).mono ?_
          rintro e w9 ⟨gD, cpD, rfl, ownd, L9⟩
          have OD := own_below ownC L9 (Nat.le_refl _)
          have L10 := LLC.trans (L9.mono LLC.size)
          have RG := own_below RF L9 (Nat.le_refl _)
          have KD := KeepI.refl w9
          clear L9 LLC ownC RF
          go_wp2_with (at_builtin; refine wpList_append_own _ rfl _ _ 42 rfl w.heap.size 3 i0 (.int .i64 0) 1 8 Tryd.underlying42 hi hz0 hz1 hz2 rfl (by decide) _ _ _ rfl OD ⟨gD, 0, none⟩ D cpD (icells (lowL Y D)) rfl ?pDa ?pDb (icells_one _) ?pDc ?pDd ?pDe ?_)
          case pDa => exact icells_news _ _ HLD.out
          case pDb => exact own_news ownd
          case pDc => unfold maxLen; omega
          case pDd => omega
          case pDe => exact L10.size
          intro vD xD ownD growD _
          have LLD : Below w.heap.size w xD := L10.grown growD L10.size (fun m h => own_ge OD m h)
          have KKD := KD.grown growD (own_type OD)
          rw [icells_append] at ownD
          clear growD
          have RH := KKD.row RG (by decide)
          clear OD L10 RG KD ownd KKD
          rw [List.append_assoc, List.append_assoc, List.append_assoc, ← List.append_assoc F, ← List.append_assoc (F ++ lowL X b)] at ownD
          have em : m + q + b + 5 + D = m + (q + b + 5 + D) := by omega
          rw [em] at ownD
          generalize hQQ : m + (q + b + 5 + D) = QQ at *
          have hQ2 : QQ ≤ 3 + 44 * (k + 1) := by omega
          go_wp2
          go_roundw
          case rel => exact ⟨k + 1, QQ, _, by omega, hQ2, by go_num, ownD, LLD, RH, HN2⟩
          case measure => simp [intOf]; omega
      · obtain rfl : k = n := by omega
        have HT : Hid (ps.take k = ps) := by show _ = _; rw [← HL.out]; exact List.take_length
        obtain ⟨a1, a2, a3⟩ := H.out
        rw [HT.out] at a3
        have hfp : 7 ≤ (fixL 256).length := by decide
        have hfl := fixL_length 256
        have HB2 : Hid (Bits (l ++ fixL 256)) := a2.append (fixL_bits 256)
        rw [← a3] at HK
        have HA1 : Hid (_) := a1
        clear a1 a2 a3 H
        go_wp2_with fail
        refine (specFix_val 256 _).mono ?_
        rintro e w3 ⟨vf, rfl, ownf, L3⟩
        generalize fixL 256 = F at *
        generalize hq : F.length = q at *
        have HQ : Hid (F.length = q) := hq
        clear hq
        obtain ⟨gA, cpA, rfl⟩ := own_pos ownf (by omega)
        have OA := own_below O L3 (Nat.le_refl _)
        have L4 := L.trans (L3.mono L.size)
        have KA := KeepI.refl w3
        clear L3 L O HR
        go_wp2_with (at_builtin; refine wpList_append_own _ rfl _ _ 42 rfl w.heap.size 3 i0 (.int .i64 0) 1 8 Tryd.underlying42 hi hz0 hz1 hz2 rfl (by decide) _ _ _ rfl OA ⟨gA, 0, none⟩ q cpA (icells (F)) rfl ?pAa ?pAb (icells_one _) ?pAc ?pAd ?pAe ?_)
        case pAa => exact icells_news _ _ HQ.out
        case pAb => exact own_news ownf
        case pAc => unfold maxLen; omega
        case pAd => omega
        case pAe => exact L4.size
        intro vA xA ownA growA _
        have LLA : Below w.heap.size w xA := L4.grown growA L4.size (fun m h => own_ge OA m h)
        have KKA := KA.grown growA (own_type OA)
        rw [icells_append] at ownA
        clear growA
        clear OA L4 KA ownf KKA
        have HBV : Hid (_) := bytesS_val _ _ (l ++ F) (m + q) _ (by rw [List.length_append, HA1.out, HQ.out]) (by omega) HB2.out ownA
        go_wp2_with fail
        refine (Calls.mono HBV.out ?_)
        rw [← HK.out]
        rintro e w5 ⟨rfl, L5⟩
        have L6 := join_below LLA L5
        clear HBV ownA LLA L5
        go_wp2
        go_ret2
        exact ⟨rfl, L6⟩
  · rw [packS_no s h, decide_eq_false h]
    have hd : decide ((3000 : Int) < (s.size : Int)) = true := decide_eq_true (by omega)
    clear h
    go_enter Tryd.func16, Tryd.ntmps16
    go_wp2
    go_ret2
    exact ⟨rfl, Below.refl _ _⟩

end Pk
end Go.Proofs.YtcifgableeeooabDoor
