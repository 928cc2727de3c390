/- Lines of wants: the program's WantLine. -/
import Derived.Test.YtdfejmaekdgcdasDoorLgWant
namespace Go.Proofs.YtdfejmaekdgcdasDoor
namespace Wn
open Go.ChangeShapes Go.WideShapes Go.ChangeAt Go.RowKit
open Pk (new_below join_below cell_at heap_new heap_old frozen_at lt_of kept info_of own_ge own_below own_form own_at)
open Num (decS Tens)
open Tk (inB nameB ws Nums RowZ decS_size ba_assoc ba_size ws_take)
open Rd (Ri Rides)
set_option linter.unusedSimpArgs false
set_option linter.unusedVariables false

/-- A row of numbers of one's own, as cells. -/
theorem own_rowz {w : World} {B : Nat} {v : Value} {zs : List Int} (h : w.ownsRow B 3 1 v zs.length (zcells zs)) (h0 : 0 < zs.length) : ∃ g cap, v = .slice (some ⟨g, 0, none⟩) zs.length cap ∧ B ≤ g ∧ RowZ w g zs := by
  obtain ⟨g, cap, hv, hB, hg, -⟩ := own_at h 0 h0
  subst hv
  refine ⟨g, cap, rfl, hB, hg, fun i hi => ?_⟩
  obtain ⟨g', cap', e, -, -, u, hu, hc⟩ := own_at h i hi
  simp only [Value.slice.injEq, Option.some.injEq, Addr.mk.injEq] at e
  rw [zcells_at zs i hi] at hu
  rw [e.1.1, hc, ← hu]

theorem dl_size (zs : List Int) : ∀ k, k ≤ zs.length → Nums (zs.take k) → (dl (zs.take k)).size ≤ 21 * k
  | 0, _, _ => by show 0 ≤ _; omega
  | k + 1, h, hn => by
    have h1 : Nums (zs.take k) := fun z hz => hn z (by rw [List.take_succ_eq_append_getElem (by omega)]; exact List.mem_append_left _ hz)
    have h2 := hn zs[k] (by rw [List.take_succ_eq_append_getElem (by omega)]; exact List.mem_append_right _ (List.mem_singleton.2 rfl))
    have h3 := decS_size zs[k] h2.1 h2.2
    have h4 : (⟨#[32]⟩ : ByteArray).size = 1 := rfl
    have h5 := dl_size zs k (by omega) h1
    rw [dl_take zs k (by omega), ba_size, ba_size, h4]
    omega

set_option maxRecDepth 100000 in
set_option maxHeartbeats 4000000 in
theorem implWantLine_val (h : Wh) (s : ByteArray) (a : Option Addr) (rs : List Ri) (cap : Nat) (w : World) (hs : s.size ≤ maxLen) (hz : rs.length ≤ 1048576) (I : Rides w a rs) (T : Tens w) :
    Calls Tryd.prog 8 #[wnV h s a rs.length cap] w fun e w' => e = .returned (.tuple #[.string (wlS h s rs), .bool (wlB h s rs)]) ∧ Below w.heap.size w w' := by
  have HB : Hid (wlB h s rs = (okZ (wz h rs) && decide (rs.length ≤ 6) && nameB s)) := rfl
  have HS : Hid (wlS h s rs = if wlB h s rs = true then dl (wz h rs) ++ s else ⟨#[]⟩) := rfl
  have m0 := heap_new w (wnB h s a rs.length cap 30)
  have N0 := new_below w (wnB h s a rs.length cap 30)
  have c3 : (w.alloc (wnB h s a rs.length cap 30)).cell? ⟨w.heap.size, 3, none⟩ = some (.string s) := cell_at m0 3
  have c6 : (w.alloc (wnB h s a rs.length cap 30)).cell? ⟨w.heap.size, 6, none⟩ = some (.slice a rs.length cap) := cell_at m0 6
  have HNV : Hid (∀ W, _) := fun W => Tk.nameOk_val s W hs
  by_cases h6 : rs.length ≤ 6
  · by_cases hn : nameB s = true
    · have HY : Hid (okZ (wz h rs) = true → wlB h s rs = true ∧ wlS h s rs = dl (wz h rs) ++ s) := fun ho => by
        have e : wlB h s rs = true := by rw [HB.out, ho, hn, decide_eq_true h6]; rfl
        exact ⟨e, by rw [HS.out, if_pos e]⟩
      have HN : Hid (okZ (wz h rs) = false → wlB h s rs = false ∧ wlS h s rs = ⟨#[]⟩) := fun ho => by
        have e : wlB h s rs = false := by rw [HB.out, ho]; rfl
        exact ⟨e, by rw [HS.out, if_neg (by rw [e]; simp)]⟩
      have HV : Hid (∀ W, Rides W a rs → _) := fun W i => numbersOfWant_val h s a rs cap W hz i
      have HZL : Hid ((wz h rs).length = 6 + 4 * rs.length) := wz_length h rs
      clear HB HS
      rw [hn] at HNV
      generalize wlS h s rs = R at *
      generalize wlB h s rs = B at *
      generalize wz h rs = Z at *
      have h6I : ¬ (6 : Int) < (rs.length : Int) := by omega
      go_enter Tryd.func8, Tryd.ntmps8
      go_wp2_with fail
      refine (HNV.out _).mono ?_
      rintro e w1 ⟨rfl, hw1⟩
      have hw2 := hw1.symm
      subst hw2
      go_wp2_with fail
      refine (HV.out _ (I.on N0)).mono ?_
      rintro e w2 ⟨⟨v, rfl, O2⟩, L2⟩
      have K2 := join_below N0 L2
      have m2 := kept L2 (lt_of m0) m0
      obtain ⟨g, gc, rfl, hgB, RZ⟩ := own_rowz O2 (by rw [HZL.out]; omega)
      have T2 := T.on K2
      clear hw1 m0 N0 c3 c6 HNV HV O2 L2 T I
      have hZ30 : Z.length ≤ 30 := by rw [HZL.out]; omega
      have hZI : (Z.length : Int) ≤ 30 := by omega
      clear HZL
      go_wp2
      go_loopw [4, 20] (fun t i wr => ∃ (k : Nat) (D : ByteArray), k ≤ Z.length ∧ i = .int .i64 k ∧ t = .string D ∧ D.size ≤ 21 * k ∧ Hid (D = dl (Z.take k)) ∧ Hid (okZ Z = okF Z k) ∧ Hid (Below w2.heap.size w2 wr)) (fun _ i _ => Z.length - (intOf i).toNat)
      case atStart => exact ⟨0, ⟨#[]⟩, by omega, rfl, rfl, by show 0 ≤ _; omega, rfl, rfl, Below.refl _ _⟩
      case round =>
        obtain ⟨k, D, hk, rfl, rfl, hD, HD, HO, L⟩ := hrel
        have K3 := join_below K2 L.out
        by_cases hlt : k < Z.length
        · have hc := (RZ.on L.out).2 k hlt
          have hkI : (k : Int) < (Z.length : Int) := by omega
          have hk0 : (0 : Int) ≤ (k : Int) := by omega
          have HST : Hid (_) := okF_step Z k hlt
          have HDT : Hid (_) := dl_take Z k hlt
          have HBT : Hid (∀ W, _) := fun W => Tk.between_val Z[k] 0 999999999 W
          obtain ⟨bt, hbt⟩ : ∃ bt, inB Z[k] 0 999999999 = bt := ⟨_, rfl⟩
          rw [hbt] at HBT
          cases bt
          · have hno : okZ Z = false := by rw [HO.out, HST.out, hbt]; rfl
            obtain ⟨rfl, rfl⟩ := HN.out hno
            clear HST HDT hbt
            generalize Z[k] = z at *
            go_wp2_with fail
            refine (HBT.out _).mono ?_
            rintro e w3 ⟨rfl, hw3⟩
            have hw4 := hw3.symm
            subst hw4
            go_wp2
            go_ret2
            exact ⟨rfl, K3⟩
          · have hzz := Tk.inB_yes hbt
            have hds := decS_size Z[k] hzz.1 hzz.2
            have HDV : Hid (∀ W, Tens W → _) := fun W t => Num.implDecText_any Z[k] W (by omega) (by omega) t
            have HO2 : Hid (okZ Z = okF Z (k + 1)) := by show _ = _; rw [HO.out, HST.out, hbt]; rfl
            rw [← HD.out] at HDT
            have T3 := T2.on L.out
            clear HST hbt HD
            generalize decS Z[k] = d at *
            generalize Z[k] = z at *
            have hd1 : (d ++ ⟨#[32]⟩ : ByteArray).size = d.size + 1 := by rw [ba_size]; rfl
            have HSZ : Hid ((D ++ (d ++ ⟨#[32]⟩) : ByteArray).size ≤ 21 * (k + 1)) := by show _ ≤ _; rw [ba_size, hd1]; omega
            have b1 : ¬ (d.size + (⟨#[32]⟩ : ByteArray).size > 9223372036854775807) := by have h4 : (⟨#[32]⟩ : ByteArray).size = 1 := rfl; omega
            have b2 : ¬ (D.size + (d ++ ⟨#[32]⟩ : ByteArray).size > 9223372036854775807) := by rw [hd1]; omega
            clear hd1
            go_wp2_with fail
            refine (HBT.out _).mono ?_
            rintro e w3 ⟨rfl, hw3⟩
            have hw4 := hw3.symm
            subst hw4
            go_wp2_with fail
            refine (HDV.out _ T3).mono ?_
            rintro e w4 ⟨rfl, L4⟩
            have L5 := join_below L.out L4
            go_wp2
            go_roundw
            case rel => exact ⟨k + 1, D ++ (d ++ ⟨#[32]⟩), by omega, by go_num, rfl, HSZ.out, by show _ = _; rw [HDT.out], HO2, L5⟩
            case measure => simp [intOf]; omega
        · obtain rfl : k = Z.length := by omega
          have hyes : okZ Z = true := by rw [HO.out]; exact okF_end Z _ hlt
          obtain ⟨rfl, rfl⟩ := HY.out hyes
          have hDZ : D = dl Z := by rw [HD.out, List.take_length]
          subst hDZ
          have m3 := kept L.out (lt_of m2) m2
          have c3 : wr.cell? ⟨w.heap.size, 3, none⟩ = some (.string s) := cell_at m3 3
          have hkI : ¬ (Z.length : Int) < (Z.length : Int) := by omega
          have hn40 : s.size ≤ 40 := by
            unfold Tk.nameB at hn
            simp only [Bool.and_eq_true, decide_eq_true_eq] at hn
            exact hn.2
          have b3 : ¬ ((dl Z).size + s.size > 9223372036854775807) := by omega
          go_wp2
          go_ret2
          exact ⟨rfl, K3⟩
    · have e : wlB h s rs = false := by rw [HB.out]; simp [hn]
      have e2 : wlS h s rs = ⟨#[]⟩ := by rw [HS.out, if_neg (by rw [e]; simp)]
      rw [e, e2]
      rw [show nameB s = false from by simpa using hn] at HNV
      have h6I : ¬ (6 : Int) < (rs.length : Int) := by omega
      go_enter Tryd.func8, Tryd.ntmps8
      go_wp2_with fail
      refine (HNV.out _).mono ?_
      rintro e w1 ⟨rfl, hw1⟩
      have hw2 := hw1.symm
      subst hw2
      go_wp2
      go_ret2
      exact ⟨rfl, N0⟩
  · have e : wlB h s rs = false := by rw [HB.out]; simp [h6]
    have e2 : wlS h s rs = ⟨#[]⟩ := by rw [HS.out, if_neg (by rw [e]; simp)]
    rw [e, e2]
    have h6I : (6 : Int) < (rs.length : Int) := by omega
    go_enter Tryd.func8, Tryd.ntmps8
    go_wp2
    go_ret2
    exact ⟨rfl, N0⟩

end Wn
end Go.Proofs.YtdfejmaekdgcdasDoor
