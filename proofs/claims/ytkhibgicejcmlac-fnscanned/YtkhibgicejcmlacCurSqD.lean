/- The draw of a square. -/
import Derived.Test.YtkhibgicejcmlacCurKb
import Derived.Test.YtkhibgicejcmlacSqPaintS
import Derived.Test.YtkhibgicejcmlacSqFour
import Derived.Deep.RegionHeld3
import Derived.Deep.Cut
import Derived.Deep.CutBlock
namespace Go.Proofs.Ytkhibgicejcmlac
namespace Sq
open Go.ChangeShapes Go.WideShapes Go.ChangeAt Go.RowKit
open Pk (new_below join_below cell_at heap_new frozen_at lt_of kept heap_old)
open Cur (Is Moved Bytes Kb new_any once_any below_any pickInt_any rowOf_new bytes_kb)
set_option linter.unusedSimpArgs false
set_option linter.unusedVariables false

theorem Box.kb {w w1 : World} {b c : Nat} {n : Int} {s : ByteArray} (h : Box w b n s) (K : Kb c w w1) (hb : b ≠ c) : Box w1 b n s := (K.block b (lt_of h) hb).trans h

theorem Cl.kb {w w1 : World} {g c k : Nat} {f : Nat → Value} (h : Cl w g k f) (K : Kb c w w1) (hg : g < w.heap.size) (hc : g ≠ c) : Cl w1 g k f := fun j hj => ⟨by rw [World.cell?_of_block (a := ⟨g, j, none⟩) (K.block g hg hc)]; exact (h j hj).1, by rw [World.frozen?_of_block (a := ⟨g, j, none⟩) (K.block g hg hc)]; exact (h j hj).2⟩

theorem u8_of (z : Int) : ∃ x : UInt8, IntKind.u8.wrap z = (x.toNat : Int) := by
  refine ⟨UInt8.ofNat (z % 256).toNat, ?_⟩
  have h1 : 0 ≤ z % 256 := Int.emod_nonneg _ (by omega)
  have h2 : z % 256 < 256 := Int.emod_lt_of_pos _ (by omega)
  rw [IntKind.wrap_u8]
  have : (UInt8.ofNat (z % 256).toNat).toNat = (z % 256).toNat := by
    rw [UInt8.toNat_ofNat']
    omega
  rw [this]
  omega

/-- A row of bytes. -/
abbrev By (b : Nat → UInt8) : Nat → Value := fun j => .int .u8 ((b j).toNat : Int)

theorem By.set {w : World} {g c : Nat} {b : Nat → UInt8} (h : Cl w g c (By b)) (i : Nat) (x : UInt8) : Cl (w.setCell ⟨g, i, none⟩ (.int .u8 (x.toNat : Int))) g c (By fun j => if j = i then x else b j) := h.set i _ fun j hj => by
  show Value.int .u8 _ = _
  by_cases e : j = i
  · simp [e]
  · simp [e]

theorem Box.off {w : World} {b g i : Nat} {n : Int} {s : ByteArray} {u : Value} (h : Box w b n s) (hne : b ≠ g) : Box (w.setCell ⟨g, i, none⟩ u) b n s := by
  unfold Box at *
  rw [Below.heap_setCell _ _ _ _ hne]
  exact h

theorem Box.size {W : World} {b : Nat} {n : Int} {s : ByteArray} (h : Box W b n s) (n' : Int) : Box (W.setCell ⟨b, 0, none⟩ (.int .i64 n')) b n' s := by
  unfold Box at *
  unfold World.setCell
  simp [Array.getElem?_modify, h]

theorem Cl.off {w : World} {g c b i : Nat} {f : Nat → Value} {u : Value} (h : Cl w g c f) (hne : b ≠ g) : Cl (w.setCell ⟨b, i, none⟩ u) g c f := fun j hj => ⟨by rw [World.cell?_setCell_other _ _ _ _ (by intro e; apply hne; simpa using congrArg Addr.block e)]; exact (h j hj).1, by rw [World.frozen?_setCell]; exact (h j hj).2⟩

set_option maxRecDepth 100000 in
set_option maxHeartbeats 8000000 in
theorem sq_any {W0 : World} {a : Option Addr} {n cap c : Nat} {w : World} (C : Is W0 a n cap c w) :
    Calls Try.prog 35 #[.pointer (some ⟨c, 0, none⟩)] w fun e w' => (∃ (q : Int) (s : ByteArray), e = .returned (.agg #[.int .i64 q, .string s]) ∧ s.size ≤ 4000 ∧ (Lit.int .i64 q).wf = true) ∧ Is W0 a n cap c w' ∧ Kb c w w' := by
  have hcw := C.lt
  have hRc : w.heap.size ≠ c := by omega
  have hWR : W0.heap.size ≤ w.heap.size := C.below.size
  have C0 := C.alloc (.cells #[.int .i64 0, .string ⟨#[]⟩] 29)
  have R0 : Box (w.alloc (.cells #[.int .i64 0, .string ⟨#[]⟩] 29)) w.heap.size 0 ⟨#[]⟩ := heap_new _ _
  have K0 : Kb c w (w.alloc (.cells #[.int .i64 0, .string ⟨#[]⟩] 29)) := (Kb.refl c w).alloc _
  go_enter Try.func35, Try.ntmps35
  go_wp2_with fail
  refine (below_any C0 30).mono ?_
  generalize w.alloc (.cells #[.int .i64 0, .string ⟨#[]⟩] 29) = WA at *
  rintro e w1 ⟨⟨x, rfl, hx0, hx1⟩, C1, M1⟩
  have hx2 := hx1 (by omega)
  have K1 := Kb.moved M1
  clear hx1 C0
  go_wp2_with fail
  refine (once_any C1 20).mono ?_
  rintro e w2 ⟨⟨bb, rfl⟩, C2, M2⟩
  have K2 := K1.trans (Kb.moved M2)
  clear C1 M1 M2 K1
  obtain ⟨k0, rfl⟩ : ∃ m : Nat, x = m := ⟨x.toNat, by omega⟩
  have hk0 : k0 ≤ 400 := by omega
  clear hx0 hx2
  go_upto_if 11 with fail
  go_cut [3] from 8 (fun sk wz => ∃ k1 : Nat, sk = .int .i64 k1 ∧ k1 ≤ 400 ∧ Is W0 a n cap c wz ∧ Kb c WA wz)
  case first =>
    cases bb
    · go_wp2
      go_meet
      case rel => exact ⟨k0, rfl, hk0, C2, K2⟩
    · have C3 := C2.alloc (.cells #[.int .i64 0, .int .i64 1, .int .i64 400, .int .i64 399] 3)
      have RW : Cur.RowOf (fun z => 0 ≤ z ∧ z ≤ 400) (w2.alloc (.cells #[.int .i64 0, .int .i64 1, .int .i64 400, .int .i64 399] 3)) w2.heap.size 4 := rowOf_new (fun z => 0 ≤ z ∧ z ≤ 400) w2 [0, 1, 400, 399] 3 (by
        intro z hz
        simp at hz
        omega)
      have hbc : w2.heap.size ≠ c := by have := C2.lt; omega
      have HPK : Hid (∀ _ : Unit, _) := fun _ => pickInt_any C3 (fun z => 0 ≤ z ∧ z ≤ 400) w2.heap.size 4 4 hbc (by omega) (by omega) RW
      have K3 := K2.alloc (.cells #[.int .i64 0, .int .i64 1, .int .i64 400, .int .i64 399] 3)
      clear RW C2 K2 hk0
      go_wp2_with fail
      refine (HPK.out ()).mono ?_
      generalize w2.alloc (.cells #[.int .i64 0, .int .i64 1, .int .i64 400, .int .i64 399] 3) = w3 at *
      rintro e w3b ⟨⟨x3, rfl, hx3⟩, C3b, M3⟩
      have K3b := K3.trans (Kb.moved M3)
      obtain ⟨k1, rfl⟩ : ∃ m : Nat, x3 = m := ⟨x3.toNat, by omega⟩
      clear HPK K3 C3 M3
      go_wp2
      go_meet
      case rel => exact ⟨k1, rfl, by omega, C3b, K3b⟩
  case rest =>
    obtain ⟨k1, rfl, hk1, C3b, K3b⟩ := hcut
    clear C2 K2 hk0
    go_wp2_with fail
    refine (bytes_kb C3b k1 (by omega)).mono ?_
    rintro e w4 ⟨⟨s, rfl, hs⟩, C4, K4'⟩
    have K4 := K3b.trans K4'
    have hs4 : s.size ≤ 400 := by omega
    clear hs K4' C3b K3b hk1
    have HP : Hid (∀ _ : Unit, _) := fun _ => specPaint_val s w4 (by unfold maxLen; omega)
    rw [show pnV s = 2 * (pH s : Int) + 1 from if_pos hs4, show ptV s = paintS s from if_pos hs4, decide_eq_true hs4] at HP
    unfold sqV at HP
    go_wp2_with fail
    refine (HP.out ()).mono ?_
    rintro e w5 ⟨rfl, L5⟩
    have C5 := C4.kept L5
    have K5 := K4.trans (Kb.of c L5)
    have X6 : Box (w5.alloc (.cells #[.int .i64 (2 * (pH s : Int) + 1), .string (paintS s)] 29)) w5.heap.size (2 * (pH s : Int) + 1) (paintS s) := heap_new _ _
    have C6 := C5.alloc (.cells #[.int .i64 (2 * (pH s : Int) + 1), .string (paintS s)] 29)
    have K6 := K5.alloc (.cells #[.int .i64 (2 * (pH s : Int) + 1), .string (paintS s)] 29)
    have hps : (paintS s).size = (2 * pH s + 1) * (2 * pH s + 1) := by unfold paintS; rw [strT_size]
    obtain ⟨hh4, hh30⟩ := pH_bd s
    obtain ⟨B4, hB4⟩ : ∃ P, w5.heap.size = P := ⟨_, rfl⟩
    have hBc : B4 ≠ c := by have := C5.lt; omega
    have hBW : WA.heap.size ≤ B4 := by have := K5.size; omega
    rw [hB4] at X6
    clear HP C4 K4 L5 C5 K5 hs4
    go_wp2
    try rw [hB4]
    generalize w5.alloc (.cells #[.int .i64 (2 * (pH s : Int) + 1), .string (paintS s)] 29) = w6 at *
    generalize paintS s = s2 at *
    generalize pH s = h at *
    clear hB4
    have hsz : (2 * h + 1) * (2 * h + 1) ≤ 3721 := Nat.mul_le_mul (by omega : 2 * h + 1 ≤ 61) (by omega : 2 * h + 1 ≤ 61)
    have hsp : 81 ≤ (2 * h + 1) * (2 * h + 1) := Nat.mul_le_mul (by omega : 9 ≤ 2 * h + 1) (by omega : 9 ≤ 2 * h + 1)
    have HBL : Hid (∀ wx, Is W0 a n cap c wx → _) := fun wx hC => below_any hC 4
    have HTB : Hid (∀ (kv : Int) wx, (Lit.int .i64 kv).wf = true → _) := fun (kv : Int) wx hkv => specTurnBy_val (2 * (h : Int) + 1) s2 kv wx hkv (by omega)
    unfold sqV at HTB
    have b0 := X6.n
    have b1 := X6.s
    have f0 := X6.f 0
    have f1 := X6.f 1
    go_cut [4] from 8 (fun s4 wc => ∃ s3 : ByteArray, s4 = .pointer (some ⟨B4, 0, none⟩) ∧ s3.size = (2 * h + 1) * (2 * h + 1) ∧ Hid (Box wc B4 (2 * (h : Int) + 1) s3) ∧ Is W0 a n cap c wc ∧ Kb c WA wc)
    case first =>
      go_region_with (first
        | (go_at_call 29; (with_reducible refine (HBL.out _ ?_).mono ?_); (first | exact C6 | exact C6.drewN 1); rintro e x1 ⟨⟨kv, rfl, hk0, hk1⟩, C7, M7⟩; have K7 : Kb c w6 x1 := (by first | exact Kb.moved M7 | exact ((Kb.refl c w6).drew).trans (Kb.moved M7)); have X7 := X6.kb K7 hBc; have b0 := X7.n; have b1 := X7.s; have f0 := X7.f 0; have f1 := X7.f 1; have hkv : (Lit.int .i64 kv).wf = true := WalkArith.wf_i64 (by have := hk1 (by omega); omega))
        | (go_at_call 13; (with_reducible refine (HTB.out _ _ hkv).mono ?_); rintro e x2 ⟨rfl, L8⟩; have X8 := X7.on L8; have C8 := C7.kept L8; have K8 := K7.trans (Kb.of c L8); have b0 := X8.n; have b1 := X8.s; have f0 := X8.f 0; have f1 := X8.f 1))
      all_goals
        have hs3 : (turnN (2 * (h : Int) + 1) s2 (kv % 4).toNat).size = (2 * h + 1) * (2 * h + 1) := by rw [turnN_size]; exact hps
        have X9 := X8.put (2 * (h : Int) + 1) (turnN (2 * (h : Int) + 1) s2 (kv % 4).toNat)
        have C9 := (C8.set B4 0 (.int .i64 (2 * (h : Int) + 1)) hBc (by have := C.below.size; have := K0.size; omega)).set B4 1 (.string (turnN (2 * (h : Int) + 1) s2 (kv % 4).toNat)) hBc (by have := C.below.size; have := K0.size; omega)
        have K9 := ((K6.trans K8).set B4 0 (.int .i64 (2 * (h : Int) + 1)) hBW).set B4 1 (.string (turnN (2 * (h : Int) + 1) s2 (kv % 4).toNat)) hBW
        clear X6 X7 X8 C6 C7 C8 K7 K8 b0 b1 f0 f1 HBL HTB M7 L8
        generalize turnN (2 * (h : Int) + 1) s2 (kv % 4).toNat = s3 at *
        go_wp2
        go_meet
        case rel => exact ⟨s3, rfl, hs3, X9, C9, K9⟩
    case rest =>
      obtain ⟨s3, rfl, hs3, X9, C9, K9⟩ := hcut
      have hBw : B4 < wc.heap.size := lt_of X9.out
      have hsz3 : 81 ≤ s3.size ∧ s3.size ≤ 3721 := by rw [hs3]; exact ⟨hsp, hsz⟩
      have HS3 : Hid (s3.size = (2 * h + 1) * (2 * h + 1)) := hs3
      clear hsp hsz hs3 hps
      obtain ⟨g, bcap, w10, hcv, hg1, hg2, L10, CL10⟩ := to_bytes wc s3
      have C10 := C9.kept L10
      have K10 := K9.trans (Kb.of c L10)
      have X10 := X9.out.on L10
      have hgc : g ≠ c := by have := C9.lt; omega
      have hgB : B4 ≠ g := by omega
      have hRg : w.heap.size ≠ g := by have := lt_of R0; have := K9.size; omega
      have hgW : WA.heap.size ≤ g := by have := K9.size; omega
      have hgW0 : W0.heap.size ≤ g := by have := C9.below.size; omega
      have b1 := X9.out.s
      clear L10 C9 K9 X9
      go_wp2_with fail
      refine (below_any C10 _).mono ?_
      rintro e w11 ⟨⟨i, rfl, hi0, hi1⟩, C11, M11⟩
      have hi2 := hi1 (by omega)
      obtain ⟨iN, rfl⟩ : ∃ m : Nat, i = m := ⟨i.toNat, by omega⟩
      have hiN : iN < s3.size := by omega
      have K11 := K10.trans (Kb.moved M11)
      have X11 := X10.kb (Kb.moved M11) hBc
      have CL11 := CL10.kb (Kb.moved M11) hg2 hgc
      have hg11 : g < w11.heap.size := by rw [M11.size]; exact hg2
      clear C10 M11 K10 X10 CL10 b1 hcv hi0 hi1 hi2
      go_wp2_with fail
      refine (below_any C11 8).mono ?_
      rintro e w12 ⟨⟨y, rfl, hy0, hy1⟩, C12, M12⟩
      have K12 := K11.trans (Kb.moved M12)
      have X12 := X11.kb (Kb.moved M12) hBc
      have CL12 : Cl w12 g s3.size (By (tb s3)) := CL11.kb (Kb.moved M12) hg11 hgc
      have hg12 : g < w12.heap.size := by rw [M12.size]; exact hg11
      clear C11 M12 K11 X11 CL11 hg11 hy0 hy1
      go_upto_block 0 with fail
      go_cut [] from 8 (fun wz => ∃ (q : Int) (b : Nat → UInt8), Hid ((Lit.int .i64 q).wf = true) ∧ Hid (Box wz B4 q s3) ∧ Hid (Cl wz g s3.size (By b)) ∧ Is W0 a n cap c wz ∧ Kb c WA wz)
      case first =>
        by_cases e0 : y = 0
        · subst e0
          obtain ⟨hc1, hc2⟩ := CL12 iN hiN
          obtain ⟨z, hz⟩ := u8_of (97 - ((tb s3 iN).toNat : Int))
          have CLE := By.set CL12 iN z
          have XE := X12.off (i := iN) (u := .int .u8 (z.toNat : Int)) hgB
          have CE := C12.set g iN (.int .u8 (z.toNat : Int)) hgc hgW0
          have KE := K12.set g iN (.int .u8 (z.toNat : Int)) hgW
          go_wp2
          go_meet
          case rel => exact ⟨_, _, WalkArith.wf_i64 (by omega), XE, CLE, CE, KE⟩
        have n0 := e0
        have m0 : (y == 0) = false := by simp [n0]
        have p0 : decide (y = 0) = false := by simp [n0]
        clear e0
        by_cases e0 : y = 1
        · have b0 := X12.n
          have f0 := X12.f 0
          have HB5 : Hid (∀ wx, Is W0 a n cap c wx → _) := fun wx hC => below_any hC 5
          have HPL : Hid (∀ (x y : Int) wx, -2 ≤ x → x ≤ 2 → -2 ≤ y → y ≤ 2 → _) := fun x y wx h1 h2 h3 h4 => place_val h x y wx hh30 (by omega) (by omega) (by omega) (by omega)
          subst e0
          go_wp2_with fail
          go_region_with (first
            | (go_at_call 29; (with_reducible refine (HB5.out _ ?_).mono ?_); exact C13; rintro e x2 ⟨⟨kb, rfl, hkb0, hkb1⟩, C14, M14⟩; have hkb2 := hkb1 (by omega); obtain ⟨db, hdb⟩ : ∃ d : Int, kb - 2 = d := ⟨_, rfl⟩; have qdb : IntKind.i64.wrap db = db := (by rw [IntKind.wrap_i64]; omega); have K14 := K13.trans (Kb.moved M14); have X14 := X13.kb (Kb.moved M14) hBc; have CL14 : Cl x2 g s3.size (By (tb s3)) := CL13.kb (Kb.moved M14) hg13 hgc; have b0 := X14.n; have f0 := X14.f 0)
            | (go_at_call 29; (with_reducible refine (HB5.out _ ?_).mono ?_); (first | exact C12 | exact C12.drewN 1); rintro e x1 ⟨⟨ka, rfl, hka0, hka1⟩, C13, M13⟩; have hka2 := hka1 (by omega); obtain ⟨da, hda⟩ : ∃ d : Int, ka - 2 = d := ⟨_, rfl⟩; have qda : IntKind.i64.wrap da = da := (by rw [IntKind.wrap_i64]; omega); have KD : Kb c w12 x1 := (by first | exact Kb.moved M13 | exact ((Kb.refl c w12).drew).trans (Kb.moved M13)); have K13 := K12.trans KD; have X13 := X12.kb KD hBc; have CL13 : Cl x1 g s3.size (By (tb s3)) := CL12.kb KD hg12 hgc; have hg13 : g < x1.heap.size := (by have := KD.size; omega); have b0 := X13.n; have f0 := X13.f 0)
            | (go_at_call 53; (with_reducible refine (HPL.out _ _ _ (by omega) (by omega) (by omega) (by omega)).mono ?_); rintro e x3 ⟨rfl, hx3⟩; subst hx3; have hix : idx h da db < s3.size := (by rw [HS3.out]; exact idxLt (by omega) (by omega) (by omega) (by omega)); generalize idx h da db = ip at *; obtain ⟨hc1, hc2⟩ := CL14 ip hix))
          all_goals
            have CLE := By.set CL14 ip 48
            have XE := X14.off (i := ip) (u := .int .u8 48) hgB
            have CE := C14.set g ip (.int .u8 48) hgc hgW0
            have KE := K14.set g ip (.int .u8 48) hgW
            clear b0 f0 HB5 HPL
            go_wp2
            go_meet
            case rel => exact ⟨_, _, WalkArith.wf_i64 (by omega), XE, CLE, CE, KE⟩
        have n1 := e0
        have m1 : (y == 1) = false := by simp [n1]
        have p1 : decide (y = 1) = false := by simp [n1]
        clear e0
        by_cases e0 : y = 2
        · subst e0
          have hl1 : s3.size - 1 < s3.size := by omega
          obtain ⟨iL, hiL⟩ : ∃ m : Nat, s3.size = m + 1 := ⟨s3.size - 1, by omega⟩
          have hlt : iL < s3.size := by omega
          obtain ⟨hc1, hc2⟩ := CL12 iL hlt
          obtain ⟨z, hz⟩ := u8_of (97 - ((tb s3 iL).toNat : Int))
          have CLE := By.set CL12 iL z
          have XE := X12.off (i := iL) (u := .int .u8 (z.toNat : Int)) hgB
          have CE := C12.set g iL (.int .u8 (z.toNat : Int)) hgc hgW0
          have KE := K12.set g iL (.int .u8 (z.toNat : Int)) hgW
          go_wp2
          go_meet
          case rel => exact ⟨_, _, WalkArith.wf_i64 (by omega), XE, CLE, CE, KE⟩
        have n2 := e0
        have m2 : (y == 2) = false := by simp [n2]
        have p2 : decide (y = 2) = false := by simp [n2]
        clear e0
        by_cases e0 : y = 3
        · subst e0
          go_wp2_with fail
          refine (once_any C12 3).mono ?_
          rintro e w13 ⟨⟨bb, rfl⟩, C13, M13⟩
          have K13 := K12.trans (Kb.moved M13)
          have X13 := X12.kb (Kb.moved M13) hBc
          have CL13 : Cl w13 g s3.size (By (tb s3)) := CL12.kb (Kb.moved M13) hg12 hgc
          clear C12 K12 X12 CL12
          cases bb
          · go_wp2
            go_meet
            case rel => exact ⟨_, _, WalkArith.wf_i64 (by omega), X13, CL13, C13, K13⟩
          · obtain ⟨hc1, hc2⟩ := CL13 iN hiN
            have CLE := By.set CL13 iN 50
            have XE := X13.off (i := iN) (u := .int .u8 50) hgB
            have CE := C13.set g iN (.int .u8 50) hgc hgW0
            have KE := K13.set g iN (.int .u8 50) hgW
            go_wp2
            go_meet
            case rel => exact ⟨_, _, WalkArith.wf_i64 (by omega), XE, CLE, CE, KE⟩
        have n3 := e0
        have m3 : (y == 3) = false := by simp [n3]
        have p3 : decide (y = 3) = false := by simp [n3]
        clear e0
        by_cases e0 : y = 4
        · subst e0
          go_wp2_with fail
          refine (once_any C12 3).mono ?_
          rintro e w13 ⟨⟨bb, rfl⟩, C13, M13⟩
          have K13 := K12.trans (Kb.moved M13)
          have X13 := X12.kb (Kb.moved M13) hBc
          have CL13 : Cl w13 g s3.size (By (tb s3)) := CL12.kb (Kb.moved M13) hg12 hgc
          clear C12 K12 X12 CL12
          cases bb
          · go_wp2
            go_meet
            case rel => exact ⟨_, _, WalkArith.wf_i64 (by omega), X13, CL13, C13, K13⟩
          · have C14 := C13.alloc (.cells #[.int .i64 7, .int .i64 10, .int .i64 63, .int .i64 (2 * (h : Int) + 3)] 3)
            have RW : Cur.RowOf (fun z => 0 ≤ z ∧ z ≤ 100) (w13.alloc (.cells #[.int .i64 7, .int .i64 10, .int .i64 63, .int .i64 (2 * (h : Int) + 3)] 3)) w13.heap.size 4 := rowOf_new (fun z => 0 ≤ z ∧ z ≤ 100) w13 [7, 10, 63, 2 * (h : Int) + 3] 3 (by
              intro z hz
              simp at hz
              omega)
            have hbc : w13.heap.size ≠ c := by have := C13.lt; omega
            have HPK : Hid (∀ _ : Unit, _) := fun _ => pickInt_any C14 (fun z => 0 ≤ z ∧ z ≤ 100) w13.heap.size 4 4 hbc (by omega) (by omega) RW
            have K14 := K13.alloc (.cells #[.int .i64 7, .int .i64 10, .int .i64 63, .int .i64 (2 * (h : Int) + 3)] 3)
            have X14 : Box (w13.alloc (.cells #[.int .i64 7, .int .i64 10, .int .i64 63, .int .i64 (2 * (h : Int) + 3)] 3)) B4 (2 * (h : Int) + 1) s3 := X13.kb ((Kb.refl c w13).alloc _) hBc
            have CL14 : Cl (w13.alloc (.cells #[.int .i64 7, .int .i64 10, .int .i64 63, .int .i64 (2 * (h : Int) + 3)] 3)) g s3.size (By (tb s3)) := CL13.kb ((Kb.refl c w13).alloc _) (by rw [M13.size]; exact hg12) hgc
            have hg14 : g < (w13.alloc (.cells #[.int .i64 7, .int .i64 10, .int .i64 63, .int .i64 (2 * (h : Int) + 3)] 3)).heap.size := by have h1 := ((Kb.refl c w13).alloc (.cells #[.int .i64 7, .int .i64 10, .int .i64 63, .int .i64 (2 * (h : Int) + 3)] 3)).size; have h2 := M13.size; omega
            have b0 := X13.n
            have f0 := X13.f 0
            clear RW X13 CL13 K13 C13 M13
            go_wp2_with fail
            refine (HPK.out ()).mono ?_
            generalize w13.alloc (.cells #[.int .i64 7, .int .i64 10, .int .i64 63, .int .i64 (2 * (h : Int) + 3)] 3) = w14 at *
            rintro e w15 ⟨⟨q, rfl, hq⟩, C15, M15⟩
            have K15 := K14.trans (Kb.moved M15)
            have X15 := X14.kb (Kb.moved M15) hBc
            have CL15 : Cl w15 g s3.size (By (tb s3)) := CL14.kb (Kb.moved M15) hg14 hgc
            clear b0 f0 X14 CL14 K14 C14
            have b0 := X15.n
            have f0 := X15.f 0
            have XE := X15.size q
            have CE := C15.set B4 0 (.int .i64 q) hBc (by have := K0.size; omega)
            have KE := K15.set B4 0 (.int .i64 q) hBW
            have CLE : Cl (w15.setCell ⟨B4, 0, none⟩ (.int .i64 q)) g s3.size (By (tb s3)) := CL15.off hgB
            go_wp2
            go_meet
            case rel => exact ⟨q, _, WalkArith.wf_i64 (by omega), XE, CLE, CE, KE⟩
        have n4 := e0
        have m4 : (y == 4) = false := by simp [n4]
        have p4 : decide (y = 4) = false := by simp [n4]
        clear e0
        go_wp2
        go_meet
        case rel => exact ⟨_, _, WalkArith.wf_i64 (by omega), X12, CL12, C12, K12⟩
      case rest =>
        obtain ⟨q, bf, HWF, XZ, CZ, C13, K13⟩ := hcut
        have RE := R0.kb K13 hRc
        have hcb := Cl.text (cap := bcap) (b := bf) CZ.out (fun _ _ => rfl)
        have x0 := XZ.out.n
        have x1 := XZ.out.s
        have xf0 := XZ.out.f 0
        have xf1 := XZ.out.f 1
        have r0 := RE.n
        have r1 := RE.s
        have rf0 := RE.f 0
        have rf1 := RE.f 1
        have hRB : w.heap.size ≠ B4 := by have := lt_of R0; omega
        have KF := (((K0.trans K13).set B4 1 (.string (strT s3.size bf)) (by have := K0.size; omega)).set w.heap.size 0 (.int .i64 q) (Nat.le_refl _)).set w.heap.size 1 (.string (strT s3.size bf)) (Nat.le_refl _)
        have CF := ((C13.set B4 1 (.string (strT s3.size bf)) hBc (by have := K0.size; omega)).set w.heap.size 0 (.int .i64 q) hRc hWR).set w.heap.size 1 (.string (strT s3.size bf)) hRc hWR
        have HSZ : Hid ((strT s3.size bf).size ≤ 4000) := by show _ ≤ _; rw [strT_size]; omega
        clear K13 K0 C13 RE CZ XZ
        generalize strT s3.size bf = sF at *
        go_wp2
        refine bodyPost_ret (v := .agg #[.int .i64 q, .string sF]) (by simp [results, Try.results35, go_sem, r0, r1]) rfl ?_
        exact ⟨⟨_, _, rfl, HSZ.out, HWF.out⟩, CF, KF⟩

end Sq
end Go.Proofs.Ytkhibgicejcmlac
