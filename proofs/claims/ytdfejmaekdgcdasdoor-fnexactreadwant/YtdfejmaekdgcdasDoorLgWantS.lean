/- Lines of wants: the model's WantLine. -/
import Derived.Test.YtdfejmaekdgcdasDoorLgWantI
import Derived.Deep.RegionHeld3
import Derived.Deep.Cut
namespace Go.Proofs.YtdfejmaekdgcdasDoor
namespace Wn
open Go.ChangeShapes Go.WideShapes Go.ChangeAt Go.RowKit
open Pk (new_below join_below cell_at heap_new heap_old frozen_at lt_of kept info_of own_ge own_below own_form own_at)
open Num (decS Tens)
open Tk (inB nameB ws Nums RowZ decS_size ba_assoc ba_size ws_take)
open Rd (Ri Rides)
set_option linter.unusedSimpArgs false
set_option linter.unusedVariables false

theorem l10Num_val (x : Int) (w : World) :
    Calls Tryd.prog 15 #[.int .i64 x] w fun e w' => e = .returned (.bool (inB x 0 999999999)) ∧ w' = w := by
  have HI : Hid (∀ W, _) := fun W => Tk.in_val x 0 999999999 W
  generalize inB x 0 999999999 = b at *
  go_enter Tryd.func15, Tryd.ntmps15
  go_wp2_with fail
  refine (HI.out _).mono ?_
  rintro e w1 ⟨rfl, rfl⟩
  go_wp2
  go_ret
  exact ⟨rfl, rfl⟩

/-- The words of numbers without the first blank, and a blank behind. -/
theorem ws_tail (zs : List Int) (h : 0 < zs.length) : 1 ≤ (ws zs).size ∧ (ws zs).extract 1 (ws zs).size ++ ⟨#[32]⟩ = dl zs := by
  have e := ws_dl' zs
  have e1 : (⟨#[32]⟩ : ByteArray).size = 1 := rfl
  have hsz : (ws zs).size + 1 = 1 + (dl zs).size := by
    have := congrArg ByteArray.size e
    rwa [ba_size, ba_size, e1] at this
  have h1 : 1 ≤ (ws zs).size := by
    obtain ⟨z, zs', rfl⟩ : ∃ z zs', zs = z :: zs' := by cases zs with | nil => simp at h | cons z zs' => exact ⟨z, zs', rfl⟩
    have h2 := ws_take (z :: zs') 0 (by simp)
    have h3 : dl (z :: zs') = dl ((z :: zs').take (z :: zs').length) := by rw [List.take_length]
    have h4 : ∀ k, k ≤ (z :: zs').length → 0 < k → 1 ≤ (dl ((z :: zs').take k)).size := by
      intro k hk h0
      obtain ⟨k', rfl⟩ : ∃ k', k = k' + 1 := ⟨k - 1, by omega⟩
      rw [dl_take _ k' (by omega), ba_size, ba_size, e1]
      omega
    have h5 := h4 _ (Nat.le_refl _) (by simp)
    rw [← h3] at h5
    omega
  refine ⟨h1, ?_⟩
  have h2 : (ws zs ++ ⟨#[32]⟩).extract 1 ((ws zs).size + 1) = dl zs := by
    rw [e]
    exact ByteArray.extract_append_eq_right rfl (by rw [e1]; omega)
  rw [← h2]
  apply Go.WideShapes.bytes_inj
  rw [ByteArray.data_append, ByteArray.data_extract, ByteArray.data_extract, ByteArray.data_append]
  have hd : (ws zs).data.size = (ws zs).size := rfl
  rw [Array.toList_append, Array.toList_extract, Array.toList_extract, Array.toList_append, List.extract_eq_take_drop, List.extract_eq_take_drop]
  rw [List.drop_append_of_le_length (by rw [Array.length_toList, hd]; exact h1)]
  rw [List.take_of_length_le (by rw [List.length_drop, Array.length_toList, hd]; omega), List.take_of_length_le (by rw [List.length_append, List.length_drop, Array.length_toList, hd]; simp; omega)]

set_option maxRecDepth 100000 in
set_option maxHeartbeats 4000000 in
theorem specWantLine_val (h : Wh) (s : ByteArray) (a : Option Addr) (rs : List Ri) (cap : Nat) (w : World) (hs : s.size ≤ maxLen) (hz : rs.length ≤ 1048576) (I : Rides w a rs) :
    Calls Tryd.prog 6 #[wnV h s a rs.length cap] w fun e w' => e = .returned (.tuple #[.string (wlS h s rs), .bool (wlB h s rs)]) ∧ Below w.heap.size w w' := by
  obtain ⟨i0, hi, hz0, hz1, hz2⟩ := info_of Pk.info_int
  have HB : Hid (wlB h s rs = (okZ (wz h rs) && decide (rs.length ≤ 6) && nameB s)) := rfl
  have HS : Hid (wlS h s rs = if wlB h s rs = true then dl (wz h rs) ++ s else ⟨#[]⟩) := rfl
  have HY : Hid (okZ (wz h rs) = true → rs.length ≤ 6 → nameB s = true → wlB h s rs = true ∧ wlS h s rs = dl (wz h rs) ++ s) := fun ho h6 hn => by
    have e : wlB h s rs = true := by rw [HB.out, ho, hn, decide_eq_true h6]; rfl
    exact ⟨e, by rw [HS.out, if_pos e]⟩
  have HN : Hid (okZ (wz h rs) = false ∨ ¬ rs.length ≤ 6 ∨ nameB s = false → wlB h s rs = false ∧ wlS h s rs = ⟨#[]⟩) := fun ho => by
    have e : wlB h s rs = false := by
      rw [HB.out]
      rcases ho with ho | ho | ho
      · rw [ho]; rfl
      · rw [decide_eq_false ho]; simp
      · rw [ho]; simp
    exact ⟨e, by rw [HS.out, if_neg (by rw [e]; simp)]⟩
  have m0 := heap_new w (wnB h s a rs.length cap 30)
  have N0 := new_below w (wnB h s a rs.length cap 30)
  have O0 := own_list (w.alloc (wnB h s a rs.length cap 30)) (w.heap.size + 1) (zcells (wzk h rs 0)) 3 (by simp) (by rw [zcells_length, wzk_length h rs 0 (by omega)]; unfold maxLen; omega)
  have L0 : Below (w.heap.size + 1) (w.alloc (wnB h s a rs.length cap 30)) ((w.alloc (wnB h s a rs.length cap 30)).alloc (.cells #[.int .i64 h.kd, .int .i64 h.rq, .int .i64 h.od, .int .i64 h.cl, .int .i64 h.cd, .int .i64 (rs.length : Int)] 3)) := (Below.refl _ _).alloc (by simp) _
  rw [zcells_length, wzk_length h rs 0 (by omega)] at O0
  have HWA : Hid (wzk h rs rs.length = wz h rs) := wzk_all h rs
  have HWL : Hid (∀ k, k ≤ rs.length → (wzk h rs k).length = 6 + 4 * k) := wzk_length h rs
  have HWZ : Hid ((wz h rs).length = 6 + 4 * rs.length) := wz_length h rs
  have HWS : Hid (∀ k (hk : k < rs.length), wzk h rs (k + 1) = wzk h rs k ++ rz rs[k]) := wzk_step h rs
  have hs0 : (w.alloc (wnB h s a rs.length cap 30)).heap.size = w.heap.size + 1 := Array.size_push ..
  rw [hs0] at O0
  have I0 := I.on N0
  have HNV : Hid (∀ W, _) := fun W => Tk.name_val s W hs
  clear HB HS
  generalize wlS h s rs = R at *
  generalize wlB h s rs = B at *
  generalize hZ : wz h rs = Z at *
  have c6 : (w.alloc (wnB h s a rs.length cap 30)).cell? ⟨w.heap.size, 6, none⟩ = some (.slice a rs.length cap) := cell_at m0 6
  go_enter Tryd.func6, Tryd.ntmps6
  go_wp2
  generalize hW0 : w.alloc (wnB h s a rs.length cap 30) = W0 at *
  go_loopw [4, 5] (fun v i wr => ∃ k : Nat, k ≤ rs.length ∧ i = .int .i64 k ∧ wr.ownsRow (w.heap.size + 1) 3 1 v (6 + 4 * k) (zcells (wzk h rs k)) ∧ Hid (Below (w.heap.size + 1) W0 wr)) (fun _ i _ => rs.length - (intOf i).toNat)
  case atStart => exact ⟨0, by omega, rfl, O0, L0⟩
  case round =>
    clear O0 L0 c6
    obtain ⟨k, hk, rfl, O, L⟩ := hrel
    have m1 := kept L.out (by omega) m0
    have c6 : wr.cell? ⟨w.heap.size, 6, none⟩ = some (.slice a rs.length cap) := cell_at m1 6
    have hBr : w.heap.size + 1 ≤ wr.heap.size := by rw [← hs0]; exact L.out.size
    by_cases hlt : k < rs.length
    · have LL : Below W0.heap.size W0 wr := by rw [hs0]; exact L.out
      obtain ⟨b, o, rfl, hb, c0, c1, c2, c3⟩ := (I0.on LL).at k hlt
      have HST : Hid (_) := HWS.out k hlt
      have hkI : (k : Int) < (rs.length : Int) := by omega
      have hk0 : (0 : Int) ≤ (k : Int) := by omega
      generalize rs[k] = r at *
      have hs1 : (wr.alloc (.cells #[.int .i64 r.tr, .int .i64 r.dy, .int .i64 r.fr, .int .i64 r.to] 41)).heap.size = wr.heap.size + 1 := Array.size_push ..
      have LA : Below (w.heap.size + 1) W0 ((wr.alloc (.cells #[.int .i64 r.tr, .int .i64 r.dy, .int .i64 r.fr, .int .i64 r.to] 41)).alloc (.cells #[.int .i64 r.tr, .int .i64 r.dy, .int .i64 r.fr, .int .i64 r.to] 3)) := (L.out.alloc hBr _).alloc (by rw [hs1]; omega) _
      clear LL hs0 hW0 m1
      go_wp2_with (at_builtin; refine wpList_append_own _ rfl _ _ 39 rfl (w.heap.size + 1) 3 i0 (.int .i64 0) 1 8 Tryd.underlying39 hi hz0 hz1 hz2 rfl (by decide) _ _ _ rfl ((O.alloc _).alloc _) _ 4 4 [.int .i64 r.tr, .int .i64 r.dy, .int .i64 r.fr, .int .i64 r.to] rfl rfl ?c1 ?c2 ?c3 ?c4 ?c5 ?_)
      case c1 => exact cell_four _ _ hs1.symm _ _ _ _ _
      case c2 => intro u hu; simp at hu; rcases hu with rfl | rfl | rfl | rfl <;> rfl
      case c3 => unfold maxLen; omega
      case c4 => omega
      case c5 => exact Nat.le_trans hBr (by simp; omega)
      intro v' w5 own5 grow5 _
      have L5 : Below (w.heap.size + 1) W0 w5 := LA.grown grow5 (by simp; omega) (fun m h => own_ge O m h)
      rw [show [Value.int .i64 r.tr, .int .i64 r.dy, .int .i64 r.fr, .int .i64 r.to] = zcells (rz r) from rfl, zcells_append, ← HST.out, show 6 + 4 * k + 4 = 6 + 4 * (k + 1) from by omega] at own5
      clear grow5
      go_wp2
      go_roundw
      case rel => exact ⟨k + 1, by omega, by go_num, own5, L5⟩
      case measure => simp [intOf]; omega
    · obtain rfl : k = rs.length := by omega
      have hkI : ¬ (rs.length : Int) < (rs.length : Int) := by omega
      rw [HWA.out, ← HWZ.out] at O
      obtain ⟨g, gc, rfl, hgB, RZ⟩ := own_rowz O (by rw [HWZ.out]; omega)
      have KW : Below w.heap.size w wr := N0.trans (L.out.mono (by omega))
      have c3 : wr.cell? ⟨w.heap.size, 3, none⟩ = some (.string s) := cell_at m1 3
      have hZL : Z.length ≤ 6 + 4 * 1048576 := by rw [HWZ.out]; omega
      have hZI : (Z.length : Int) ≤ 4194310 := by omega
      clear hs0 hW0 O L I0 I HWA HWL HWS N0 m0
      go_wp2
      go_loop [7] (fun i => ∃ k : Nat, k ≤ Z.length ∧ i = .int .i64 k ∧ Hid (okZ Z = okF Z k)) (fun i => Z.length - (intOf i).toNat)
      case atStart => exact ⟨0, by omega, rfl, rfl⟩
      case round =>
        obtain ⟨k, hk, rfl, HO⟩ := hrel
        by_cases hlt : k < Z.length
        · have hc := RZ.2 k hlt
          have hkI : (k : Int) < (Z.length : Int) := by omega
          have hk0 : (0 : Int) ≤ (k : Int) := by omega
          have HST : Hid (_) := okF_step Z k hlt
          have HBT : Hid (∀ W, _) := fun W => l10Num_val Z[k] W
          obtain ⟨bt, hbt⟩ : ∃ bt, inB Z[k] 0 999999999 = bt := ⟨_, rfl⟩
          rw [hbt] at HBT
          rw [hbt] at HST
          clear hbt
          generalize Z[k] = z at *
          cases bt
          · have hno : okZ Z = false := by rw [HO.out, HST.out]; rfl
            obtain ⟨rfl, rfl⟩ := HN.out (Or.inl hno)
            go_wp2_with fail
            refine (HBT.out _).mono ?_
            rintro e w3 ⟨rfl, hw3⟩
            have hw4 := hw3.symm
            subst hw4
            go_wp2
            go_ret2
            exact ⟨rfl, KW⟩
          · have HO2 : Hid (okZ Z = okF Z (k + 1)) := by show _ = _; rw [HO.out, HST.out]; rfl
            go_wp2_with fail
            refine (HBT.out _).mono ?_
            rintro e w3 ⟨rfl, hw3⟩
            have hw4 := hw3.symm
            subst hw4
            go_wp2
            go_round
            case rel => exact ⟨k + 1, by omega, by go_num, HO2⟩
            case measure => simp [intOf]; omega
        · obtain rfl : k = Z.length := by omega
          have hyes : okZ Z = true := by rw [HO.out]; exact okF_end Z _ hlt
          have hkI2 : ¬ (Z.length : Int) < (Z.length : Int) := by omega
          by_cases h6 : rs.length ≤ 6
          · have h6I : ¬ (6 : Int) < (rs.length : Int) := by omega
            obtain ⟨nb, hnb⟩ : ∃ nb, nameB s = nb := ⟨_, rfl⟩
            rw [hnb] at HNV
            cases nb
            · obtain ⟨rfl, rfl⟩ := HN.out (Or.inr (Or.inr hnb))
              go_wp2_with fail
              refine (HNV.out _).mono ?_
              rintro e w3 ⟨rfl, hw3⟩
              have hw4 := hw3.symm
              subst hw4
              go_wp2
              go_ret2
              exact ⟨rfl, KW⟩
            · obtain ⟨rfl, rfl⟩ := HY.out hyes h6 hnb
              have HWV : Hid (∀ W, RowZ W g Z → _) := fun W r => Tk.words_val Z g gc W (by rw [HWZ.out]; omega) (okZ_nums hyes) r
              have hwt := ws_tail Z (by rw [HWZ.out]; omega)
              have hwz := Tk.ws_size Z (okZ_nums hyes) Z.length (Nat.le_refl _)
              rw [List.take_length] at hwz
              have hZ30 : Z.length ≤ 30 := by rw [HWZ.out]; omega
              have hn40 : s.size ≤ 40 := by
                unfold Tk.nameB at hnb
                simp only [Bool.and_eq_true, decide_eq_true_eq] at hnb
                exact hnb.2
              generalize ws Z = X at *
              obtain ⟨hx1, hx2⟩ := hwt
              have hx1I : (1 : Int) ≤ (X.size : Int) := by omega
              have hxe : (X.extract 1 X.size).size ≤ 700 := by rw [ByteArray.size_extract]; omega
              have hdz : (dl Z).size ≤ 701 := by rw [← hx2, ba_size]; show _ + 1 ≤ _; omega
              have hsl : ∀ W, (Instr.slice 9 (.string X) (some (.int .i64 1)) none none).run Tryd.prog W = .ok (.string (X.extract 1 X.size)) W := fun W => by
                simp [go_sem, Tryd.underlying9, hx1I]
                try omega
              generalize X.extract 1 X.size = Y at *
              have b1 : ¬ (Y.size + (⟨#[32]⟩ : ByteArray).size > 9223372036854775807) := by have h4 : (⟨#[32]⟩ : ByteArray).size = 1 := rfl; omega
              have b2 : ¬ ((dl Z).size + s.size > 9223372036854775807) := by omega
              go_wp2_with fail
              refine (HNV.out _).mono ?_
              rintro e w3 ⟨rfl, hw3⟩
              have hw4 := hw3.symm
              subst hw4
              go_wp2
              go_region_with (first
                | (go_at_call 17; (with_reducible refine (HWV.out _ ?_).mono ?_); exact RZ; rintro e x1 ⟨rfl, hx1⟩; subst hx1))
              all_goals
                go_wp2
                go_ret2
                exact ⟨rfl, by first | exact KW | exact KW.drew⟩
          · have h6I : (6 : Int) < (rs.length : Int) := by omega
            obtain ⟨rfl, rfl⟩ := HN.out (Or.inr (Or.inl h6))
            go_wp2
            go_ret2
            exact ⟨rfl, KW⟩

end Wn
end Go.Proofs.YtdfejmaekdgcdasDoor
