/- Contract of the model's Paint. -/
import Derived.Test.YtkhibgicejcmlamSqPaintM
import Derived.Deep.Cut
namespace Go.Proofs.Ytkhibgicejcmlam
namespace Sq
open Go.ChangeShapes Go.WideShapes Go.ChangeAt Go.RowKit
open Pk (icells)
set_option linter.unusedSimpArgs false
set_option linter.unusedVariables false

theorem own_base {w : World} {B base e size : Nat} {v : Value} {n : Nat} {xs : List Value} (h : w.ownsRow base e size v n xs) (hB : B ≤ base) : w.ownsRow B e size v n xs := by
  obtain ⟨h1, h2⟩ := h
  refine ⟨h1, ?_⟩
  rcases h2 with h2 | ⟨g, cap, cur, hv, hg, hr⟩
  · exact Or.inl h2
  · exact Or.inr ⟨g, cap, cur, hv, by omega, hr⟩

theorem own_blk {w : World} {base e g n cap : Nat} {xs : List Value} (h : w.ownsRow base e 1 (.slice (some ⟨g, 0, none⟩) n cap) n xs) : ∃ cur : Array Value, w.heap[g]? = some (.cells cur e) ∧ cur.toList.take n = xs ∧ base ≤ g := by
  obtain ⟨-, h2⟩ := h
  rcases h2 with ⟨hv, -⟩ | ⟨g2, cap2, cur, hv, hb, hh, -, -, -, ht⟩
  · cases hv
  · simp only [Value.slice.injEq, Option.some.injEq, Addr.mk.injEq] at hv
    rw [hv.1.1]
    exact ⟨cur, hh, by rw [← ht, Nat.mul_one], hb⟩

theorem bits_cell {w : World} {g n : Nat} {cur : Array Value} {t : TypeId} {l : List Nat} (h : w.heap[g]? = some (.cells cur t)) (ht : cur.toList.take n = icells l) (hl : l.length = n) (i : Nat) (hi : i < n) : w.cell? ⟨g, i, none⟩ = some (.int .i64 ((l.getD i 0 : Nat) : Int)) := by
  rw [Pk.cell_at h i]
  have h1 : (cur.toList.take n)[i]? = (icells l)[i]? := by rw [ht]
  rw [List.getElem?_take_of_lt hi, Array.getElem?_toList] at h1
  rw [h1]
  unfold icells
  rw [List.getElem?_map, List.getD_eq_getElem?_getD, List.getElem?_eq_getElem (by omega)]
  rfl

theorem bcells_rep (k : Nat) : Pk.bcells (List.replicate k 48) ++ [.int .u8 48] = Pk.bcells (List.replicate (k + 1) 48) := by
  rw [List.replicate_succ']
  simp [Pk.bcells]

theorem rep_at (k j : Nat) (h : j < k) : (Pk.bcells (List.replicate k 48))[j]? = some (.int .u8 48) := by
  unfold Pk.bcells
  rw [List.getElem?_map, List.getElem?_replicate, if_pos h]
  rfl

theorem Box.grown {w w1 : World} {o : Option Nat} {b : Nat} {n : Int} {s : ByteArray} (h : Box w b n s) (G : w.grownBy w1 o) (hne : some b ≠ o) : Box w1 b n s := by
  unfold Box at *
  rw [G.block b (Pk.lt_of h) hne]
  exact h

set_option maxHeartbeats 8000000 in
set_option maxRecDepth 100000 in
theorem specPaint_ok (s : ByteArray) (w : World) (hs : s.size ≤ 400) :
    Calls Try.prog 16 #[.string s] w fun e w' => e = .returned (.tuple #[sqV (2 * (pH s : Int) + 1) (paintS s), .bool true]) ∧ Below w.heap.size w w' := by
  have hcv := conv2 s.size hs
  have HC : Hid (∀ w, _) := fun w => Num.specCheckSum_any s w (by unfold maxLen; omega)
  have HWd : Hid (∀ w, _) := fun w => Num.specWordText_any (Math.crc s.data.toList) w (Math.crc_lt _)
  have hbz := bodyS_size s
  have HB : Hid (∀ w, Calls Try.prog 35 #[.string (lenS s.size ++ s ++ Num.wordS (Math.crc s.data.toList))] w fun e w' => ∃ v, e = .returned v ∧ w'.ownsRow w.heap.size 3 1 v (8 * (s.size + 6)) (icells (bodyB s)) ∧ Below w.heap.size w w') := by
    intro w
    have := bits_val (bodyS s) w (by omega)
    rw [hbz] at this
    exact this
  have m0 : Box (w.alloc (.cells #[.int .i64 0, .string ⟨#[]⟩] 25)) w.heap.size 0 ⟨#[]⟩ := Pk.heap_new w _
  have N := Pk.new_below w (.cells #[.int .i64 0, .string ⟨#[]⟩] 25)
  have h1 : Int.tdiv (s.size : Int) 256 = ((s.size / 256 : Nat) : Int) := by rw [Int.tdiv_eq_ediv_of_nonneg (by omega)]; omega
  have h2 : Int.tmod (s.size : Int) 256 = ((s.size % 256 : Nat) : Int) := by rw [Int.tmod_eq_emod_of_nonneg (by omega)]; omega
  have h3 : s.size / 256 ≤ 1 := by omega
  have h4 : s.size % 256 ≤ 255 := by omega
  have hl2 : (lenS s.size).size = 2 := rfl
  have hl4 : (Num.wordS (Math.crc s.data.toList)).size = 4 := rfl
  have HSz : Hid (∀ w, _) := fun w => size_val (8 * (s.size + 6)) w (by omega)
  rw [show szH (8 * (s.size + 6)) = pH s from rfl] at HSz
  obtain ⟨hp4, hp30⟩ := pH_bd s
  have HGe : Hid (_) := pH_ge s hs
  have HP : Hid (paintS s = strT ((2 * pH s + 1) * (2 * pH s + 1)) (fun j => pSign s (kOf (cX (pH s) j) (cY (pH s) j)))) := rfl
  have HBl : Hid ((bodyB s).length = 8 * (s.size + 6)) := bodyB_length s
  have HEnd : Hid (∀ i, ¬ i < 8 * (s.size + 6) → bitAt s i = 0) := fun i h => bitAt_end s i h
  have HM1 : (2 * pH s + 1) * (2 * pH s + 1) ≤ 61 * 61 := Nat.mul_le_mul (by omega) (by omega)
  have hnb : 8 * (s.size + 6) ≤ 3400 := by omega
  have hnb0 : 0 < 8 * (s.size + 6) := by omega
  have hA : (2 * (pH s : Int) + 1) * (2 * (pH s : Int) + 1) = (((2 * pH s + 1) * (2 * pH s + 1) : Nat) : Int) := by
    rw [Int.natCast_mul]
    have : ((2 * pH s + 1 : Nat) : Int) = 2 * (pH s : Int) + 1 := by omega
    rw [this]
  generalize 8 * (s.size + 6) = nb at *
  generalize paintS s = PS at *
  generalize pH s = h at *
  have HMd : Hid ((2 * h + 1) * (2 * h + 1) = (2 * h + 1) * (2 * h + 1)) := rfl
  generalize hM : (2 * h + 1) * (2 * h + 1) = M at *
  have hge := HGe.out
  generalize s.size / 256 = hi at *
  generalize s.size % 256 = lo at *
  generalize lenS s.size = S2 at *
  generalize Num.wordS (Math.crc s.data.toList) = S4 at *
  generalize Math.crc s.data.toList = C at *
  have hcA : ∀ X : World, (convert 50 9 (.slice (some ⟨X.heap.size, 0, none⟩) 2 2)).run Try.prog (X.alloc (.cells #[.int .u8 (hi : Int), .int .u8 (lo : Int)] 5)) = .ok (.string S2) (X.alloc (.cells #[.int .u8 (hi : Int), .int .u8 (lo : Int)] 5)) := fun X => hcv _ _ (Pk.cell_at (Pk.heap_new X _) 0) (Pk.cell_at (Pk.heap_new X _) 1)
  have hcB : ∀ X : World, (convert 50 9 (.slice (some ⟨X.heap.size, 0, none⟩) 2 2)).run Try.prog (X.alloc (.cells #[.int .u8 (hi : Int), .int .u8 (lo : Int)] 5)).drew = .ok (.string S2) (X.alloc (.cells #[.int .u8 (hi : Int), .int .u8 (lo : Int)] 5)).drew := fun X => hcv _ _ (Pk.cell_at (Pk.heap_new X _) 0) (Pk.cell_at (Pk.heap_new X _) 1)
  have z1 : IntKind.i64.wrap (hi : Int) = hi := by rw [IntKind.wrap_i64]; omega
  have z2 : IntKind.u8.wrap (hi : Int) = hi := by rw [IntKind.wrap_u8]; omega
  have z3 : IntKind.u8.wrap (lo : Int) = lo := by rw [IntKind.wrap_u8]; omega
  have HCV : Hid (∀ (X : World) (g : Nat), _) := hcv
  clear hcv
  unfold sqV
  go_enter Try.func16, Try.ntmps16
  go_wp2
  generalize w.alloc (.cells #[.int .i64 0, .string ⟨#[]⟩] 25) = W at *
  go_cut [4] from 12 (fun v wc => wc.ownsRow w.heap.size 3 1 v nb (icells (bodyB s)) ∧ Box wc w.heap.size 0 ⟨#[]⟩ ∧ Below w.heap.size w wc)
  case first =>
    go_region_with (first
      | (go_at_call 37; refine (HC.out _).mono ?_; rintro e x0 ⟨rfl, rfl⟩)
      | (go_at_call 36; refine (HWd.out _).mono ?_; rintro e x1 ⟨rfl, -, L1⟩; (first | (have hcC := HCV.out x1 W.heap.size (by rw [L1.cell (by simp)]; exact Pk.cell_at (Pk.heap_new W _) 0) (by rw [L1.cell (by simp)]; exact Pk.cell_at (Pk.heap_new W _) 1)) | skip); have K1 : Below W.heap.size W x1 := (by first | exact ((Below.refl W.heap.size W).trans (L1.mono (by simp))) | exact (((Below.refl W.heap.size W).drew).trans (L1.mono (by simp))) | exact ((((Below.refl W.heap.size W).alloc (Nat.le_refl _) _)).trans (L1.mono (by simp))) | exact ((((Below.refl W.heap.size W).alloc (Nat.le_refl _) _).drew).trans (L1.mono (by simp)))))
      | (go_at_call 35; refine (HB.out _).mono ?_; rintro e x2 ⟨v, rfl, O, L2⟩; have K2 : Below W.heap.size W x2 := (by first | exact K1.trans (L2.mono K1.size) | exact K1.drew.trans (L2.mono K1.size) | exact (K1.alloc K1.size _).trans (L2.mono (by simp; have := K1.size; omega)) | exact ((K1.alloc K1.size _).drew).trans (L2.mono (by simp; have := K1.size; omega))); have O2 := own_base O (show w.heap.size ≤ _ from by have := K1.size; have := N.size; simp; omega)))
    all_goals
      go_wp2
      go_meet
      case rel => exact ⟨O2, m0.on K2, Pk.join_below N K2⟩
  case rest =>
    clear HB HC HWd HCV hcA hcB h1 h2 h3 h4 hl2 hl4 z1 z2 z3 m0 N hbz
    obtain ⟨O, m1, N1⟩ := hcut
    obtain ⟨gB, cB, rfl⟩ := own_pos O (by omega)
    obtain ⟨cur, mB, tB, hB1⟩ := own_blk O
    clear O hi lo S2 S4 C
    obtain ⟨i0, hi, hz0, hz1, hz2⟩ := Pk.info_of info_u8
    have N2 := Pk.new_below wc (.cells #[] 5)
    have O2 := own_base (Pk.own_new wc 5) N1.size
    have m2 := m1.on N2
    have mB2 := Pk.kept N2 (Pk.lt_of mB) mB
    have N3 := Pk.join_below N1 N2
    go_wp2_with fail
    refine (HSz.out _).mono ?_
    rintro e w3 ⟨rfl, rfl⟩
    clear N1 N2 m1 mB
    go_wp2
    generalize w3.alloc (.cells #[] 5) = w4 at *
    generalize w3.heap.size = g0 at *
    go_loopw [6, 7] (fun v i wr => ∃ k : Nat, k ≤ M ∧ i = .int .i64 k ∧ wr.ownsRow w.heap.size 5 1 v k (Pk.bcells (List.replicate k 48)) ∧ wr.heap[gB]? = some (.cells cur 3) ∧ Box wr w.heap.size 0 ⟨#[]⟩ ∧ Hid (Below w.heap.size w wr)) (fun _ i _ => M - (intOf i).toNat)
    case atStart => exact ⟨0, by omega, rfl, O2, mB2, m2, N3⟩
    case round =>
      clear O2 mB2 m2 N3
      obtain ⟨k, hk, rfl, O, mB, m1, L⟩ := hrel
      by_cases hlt : k < M
      · have hneB : some gB ≠ u6.ownBlock := Pk.own_ne O mB (by decide)
        have hneR : some w.heap.size ≠ u6.ownBlock := Pk.own_ne O m1 (by decide)
        have hBr : w.heap.size ≤ wr.heap.size := L.out.size
        go_wp2_with (at_builtin; refine wpList_append_own _ rfl _ _ 50 rfl w.heap.size 5 i0 (.int .u8 0) 1 1 Try.underlying50 hi hz0 hz1 hz2 rfl (by decide) _ _ _ rfl (O.alloc _) ⟨wr.heap.size, 0, none⟩ 1 1 [.int .u8 48] rfl rfl ?c1 ?c2 ?c3 ?c4 ?c5 ?_)
        case c1 => exact cell_one_new _ _ _
        case c2 => intro u hu; simp at hu; subst hu; rfl
        case c3 => unfold maxLen; omega
        case c4 => omega
        case c5 => simp; omega
        intro v' w5 own5 grow5 _
        have L5 : Below w.heap.size w w5 := (L.out.alloc hBr _).grown grow5 (by simp; omega) (fun m h => Pk.own_ge O m h)
        have mB5 : w5.heap[gB]? = some (.cells cur 3) := by
          have := Pk.heap_old mB (.cells #[.int .u8 48] 5)
          rw [grow5.block gB (Pk.lt_of this) hneB]
          exact this
        have m5 : Box w5 w.heap.size 0 ⟨#[]⟩ := Box.grown (Pk.heap_old m1 (.cells #[.int .u8 48] 5)) grow5 hneR
        rw [bcells_rep] at own5
        clear grow5
        go_wp2
        go_roundw
        case rel => exact ⟨k + 1, by omega, by go_num, own5, mB5, m5, L5⟩
        case measure => simp [intOf]; omega
      · obtain rfl : k = M := by omega
        obtain ⟨g, cap, rfl⟩ := own_pos O (by omega)
        obtain ⟨cur2, mg, -, hgw⟩ := own_blk O
        have hBg : gB ≠ g := by
          rintro rfl
          rw [mB] at mg
          simp at mg
        have hRg : w.heap.size ≠ g := by
          rintro rfl
          unfold Box at m1
          rw [m1] at mg
          simp at mg
        have C0 : Cl wr g k (pF h (pSign s) 0) := own_Cl O (fun j hj => by rw [pF_zero]; exact rep_at k j hj)
        have R0 := Run.start L.out (Pk.lt_of mg) hgw C0
        have m6 := m1
        have mB6 := mB
        clear m1 mB O mg C0 L
        go_wp2
        go_loopw [8] (fun i wr' => ∃ q : Nat, q ≤ k ∧ i = .int .i64 q ∧ Run w.heap.size w wr wr' g k (pF h (pSign s) q)) (fun i _ => k - (intOf i).toNat)
        case atStart => exact ⟨0, by omega, rfl, R0⟩
        case round =>
          clear R0
          obtain ⟨q, hq, rfl, R⟩ := hrel
          by_cases hlq : q < k
          · obtain ⟨a1, a2, a3, a4⟩ := dist_in (way_dist q h (by omega))
            have J2 : idx h (wx q) (wy q) < k := by rw [← hM]; exact idx_lt a1 a2 a3 a4
            have X1 : Hid (∀ w, _) := fun w => specSpiral_val q w
            rw [spX_in q (by omega), spY_in q (by omega)] at X1
            have X2 : Hid (∀ w, _) := fun w => place_val h (wx q) (wy q) w hp30 a1 a2 a3 a4
            have XS : Hid (∀ j, j < k → _) := fun j _ => pF_step h (pSign s) q (by omega) j
            have hk1 : (0 : Int) ≤ (idx h (wx q) (wy q) : Int) := by omega
            have hk2 : (idx h (wx q) (wy q) : Int) < (k : Int) := by omega
            by_cases h25 : q < 25
            · obtain ⟨b1, b2, b3, b4⟩ := dist_in (way_dist q 2 (by omega))
              have X3 : Hid (∀ w, _) := fun w => heart_val (wx q) (wy q) w b1 b2 b3 b4
              have hh : heartI (wx q) (wy q) = 0 ∨ heartI (wx q) (wy q) = 1 := by
                unfold heartI
                split
                · exact .inl rfl
                · exact .inr rfl
              rw [pSign_heart s q h25] at XS
              clear b1 b2 b3 b4 a1 a2 a3 a4
              generalize heartI (wx q) (wy q) = b at *
              generalize idx h (wx q) (wy q) = i2 at *
              generalize wx q = x at *
              generalize wy q = y at *
              go_wp2_with fail
              refine (X1.out _).mono ?_
              rintro e w5 ⟨rfl, rfl⟩
              go_wp2_with fail
              refine (X3.out _).mono ?_
              rintro e w6 ⟨rfl, L6⟩
              replace R := R.on L6
              have J2' := J2
              have r0 := (R.row i2 J2).1
              have r1 := (R.row i2 J2).2
              go_wp2_with fail
              refine (X2.out _).mono ?_
              rintro e w7 ⟨rfl, rfl⟩
              go_wp2
              go_roundw
              case rel => exact ⟨q + 1, by omega, by go_num, R.set i2 _ XS.out⟩
              case measure => simp [intOf]; omega
            · obtain ⟨m, rfl⟩ : ∃ m, q = m + 25 := ⟨q - 25, by omega⟩
              have hps := pSign_bit s (m + 25) h25
              rw [Nat.add_sub_cancel] at hps
              have hps2 : ((pSign s (m + 25)).toNat : Int) = 48 + (bitAt s m : Int) := by omega
              rw [hps2] at XS
              have hbo := bitAt_or s m
              have hbb : bitAt s m ≤ 1 := by omega
              clear hps hps2 a1 a2 a3 a4 hbo
              by_cases hmb : m < nb
              · have hcb : wr.cell? ⟨gB, m, none⟩ = some (.int .i64 (bitAt s m : Int)) := bits_cell (R.keep mB6 hBg) tB HBl.out m hmb
                generalize bitAt s m = b at *
                generalize idx h (wx (m + 25)) (wy (m + 25)) = i2 at *
                generalize wx (m + 25) = x at *
                generalize wy (m + 25) = y at *
                go_wp2_with fail
                refine (X1.out _).mono ?_
                rintro e w5 ⟨rfl, rfl⟩
                have J2' := J2
                have r0 := (R.row i2 J2).1
                have r1 := (R.row i2 J2).2
                go_wp2_with fail
                refine (X2.out _).mono ?_
                rintro e w7 ⟨rfl, rfl⟩
                go_wp2
                go_roundw
                case rel => exact ⟨m + 25 + 1, by omega, by go_num, R.set i2 _ XS.out⟩
                case measure => simp [intOf]; omega
              · rw [HEnd.out m hmb] at XS
                generalize idx h (wx (m + 25)) (wy (m + 25)) = i2 at *
                generalize wx (m + 25) = x at *
                generalize wy (m + 25) = y at *
                go_wp2_with fail
                refine (X1.out _).mono ?_
                rintro e w5 ⟨rfl, rfl⟩
                have J2' := J2
                have r0 := (R.row i2 J2).1
                have r1 := (R.row i2 J2).2
                go_wp2_with fail
                refine (X2.out _).mono ?_
                rintro e w7 ⟨rfl, rfl⟩
                go_wp2
                go_roundw
                case rel => exact ⟨m + 25 + 1, by omega, by go_num, R.set i2 _ XS.out⟩
                case measure => simp [intOf]; omega
          · obtain rfl : q = k := by omega
            have HEN : ∀ j, j < q → pF h (pSign s) q j = .int .u8 ((pSign s (kOf (cX h j) (cY h j))).toNat : Int) := fun j hj => by
              rw [← hM]
              exact pF_end h (pSign s) j (by omega)
            have hcv := R.row.text (cap := cap) HEN
            rw [← HP.out] at hcv
            have M' : Box wr w.heap.size 0 ⟨#[]⟩ := R.keep m6 hRg
            have d0 := M'.n
            have d1 := M'.s
            have f0 := M'.f 0
            have f1 := M'.f 1
            have LL := R.below
            clear HEN
            go_wp2
            refine bodyPost_ret (v := .tuple #[.agg #[.int .i64 (2 * (h : Int) + 1), .string PS], .bool true]) (by simp [results, Try.results16, go_sem, d0, d1]) rfl ?_
            exact ⟨rfl, (LL.setCell (Nat.le_refl _) _).setCell (Nat.le_refl _) _⟩

/-- What Paint answers. -/
def pnV (s : ByteArray) : Int := if s.size ≤ 400 then 2 * (pH s : Int) + 1 else 0

def ptV (s : ByteArray) : ByteArray := if s.size ≤ 400 then paintS s else ⟨#[]⟩

theorem specPaint_val (s : ByteArray) (w : World) (hs : s.size ≤ maxLen) :
    Calls Try.prog 16 #[.string s] w fun e w' => e = .returned (.tuple #[sqV (pnV s) (ptV s), .bool (decide (s.size ≤ 400))]) ∧ Below w.heap.size w w' := by
  unfold pnV ptV
  by_cases h : s.size ≤ 400
  · rw [if_pos h, if_pos h, decide_eq_true h]
    exact specPaint_ok s w h
  · rw [if_neg h, if_neg h, decide_eq_false h]
    unfold maxLen at hs
    have N := Pk.new_below w (.cells #[.int .i64 0, .string ⟨#[]⟩] 25)
    have hd : decide ((400 : Int) < (s.size : Int)) = true := decide_eq_true (by omega)
    unfold sqV
    go_enter Try.func16, Try.ntmps16
    go_wp2
    refine bodyPost_ret (v := .tuple #[.agg #[.int .i64 0, .string ⟨#[]⟩], .bool false]) (by simp [results, Try.results16, go_sem]) rfl ?_
    exact ⟨rfl, N⟩

end Sq
end Go.Proofs.Ytkhibgicejcmlam
