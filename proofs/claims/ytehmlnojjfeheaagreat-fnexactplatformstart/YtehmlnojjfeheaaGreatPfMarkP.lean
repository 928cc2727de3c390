/- Contracts of the laws' own helpers over orders: the walks of marking and of holding against the marks. -/
import Derived.Test.YtehmlnojjfeheaaGreatPfMarkO
import Derived.Deep.RegionHeld3
namespace Go.Proofs.YtehmlnojjfeheaaGreat
namespace Of
open Go.ChangeShapes Go.WideShapes Go.ChangeAt Go.RowKit Go.Joins
open Pk (new_below join_below cell_at heap_new frozen_at lt_of kept heap_old info_of Room)
open Tn (Band)
open Od (Oo)
set_option linter.unusedSimpArgs false
set_option linter.unusedVariables false

/-- The row that the rides of order k stand in. -/
theorem ride_row {wr W : World} {lo hi g k : Nat} {gf : Nat → Nat} {ts : List Oo} (M : McO W lo hi g gf ts) (hk : k < ts.length) (hsz : wr.heap.size ≤ W.heap.size) (hgw : g < W.heap.size) : ∃ a c gi, W.cell? ⟨g, k * 9 + 5, none⟩ = some (.slice a ts[k].l.length c) ∧ (ts[k].l.length = 0 ∨ (a = some ⟨gi, 0, none⟩ ∧ Room W gi (ts[k].l.length * 4))) ∧ gi ≠ g ∧ ((lo ≤ gi ∧ gi < hi) ∨ wr.heap.size ≤ gi) ∧ (ts[k].l.length ≠ 0 → gi = gf k) ∧ (ts[k].l.length = 0 → wr.heap.size ≤ gi) := by
  obtain ⟨a, c, h1, h2⟩ := M.each k hk
  by_cases h0 : ts[k].l.length = 0
  · exact ⟨a, c, W.heap.size, h1, Or.inl h0, by omega, Or.inr hsz, fun h => absurd h0 h, fun _ => hsz⟩
  · obtain ⟨q1, q2, q3, q4, q5⟩ := h2.resolve_left h0
    exact ⟨a, c, gf k, h1, Or.inr ⟨q1, q5⟩, q4, Or.inl ⟨q2, q3⟩, fun _ => rfl, fun h => absurd h h0⟩

set_option maxRecDepth 100000 in
set_option maxHeartbeats 4000000 in
theorem markOrderS_val (z0 : Int) (hz1 : 1 ≤ z0) (hz2 : z0 ≤ 1000000000000000) (lo hi g : Nat) (gf : Nat → Nat) (ts : List Oo) (cap : Nat) (w : World) (hn : ts.length ≤ 1048576) (hs : ∀ i (h : i < ts.length), ts[i].l.length ≤ 1048576) (h1 : lo ≤ g) (h2 : g < hi) (hh : hi ≤ w.heap.size) (M : McO w lo hi g gf ts) :
    Calls Tryz.prog 35 #[.slice (some ⟨g, 0, none⟩) ts.length cap, .int .i64 z0] w fun e w' => e = .returned (.int .i64 (offO z0 ts ts.length)) ∧ Fb lo hi w w' ∧ McO w' lo hi g gf ts ∧ (ApO gf ts → MTO z0 w' g gf ts ts.length) := by
  have HS : Hid (∀ i (h : i < ts.length), ts[i].l.length ≤ 1048576) := hs
  have HM : Hid (McO w lo hi g gf ts) := M
  clear M hs
  go_enter Tryz.func35, Tryz.ntmps35
  go_wp2
  go_loopw [1, 5] (fun t i wr => ∃ (k : Nat), k ≤ ts.length ∧ i = .int .i64 k ∧ t = .int .i64 (offO z0 ts k) ∧ Hid (Fb lo hi w wr) ∧ Hid (McO wr lo hi g gf ts) ∧ Hid (ApO gf ts → MTO z0 wr g gf ts k)) (fun _ i _ => ts.length - (intOf i).toNat)
  case atStart => exact ⟨0, by omega, rfl, rfl, Fb.refl _ _ _, HM, fun _ i hi h => by omega⟩
  case round =>
    obtain ⟨k, hk, rfl, rfl, L, M, T⟩ := hrel
    have hob := offO_bd z0 ts HS.out k hk
    by_cases hkn : k < ts.length
    · have hq := HS.out k hkn
      have HZ : Hid (offO z0 ts (k + 1) = offO z0 ts k + 8 + 4 * (ts[k].l.length : Int)) := offO_step z0 ts k hkn
      have hsz : hi ≤ wr.heap.size := Nat.le_trans hh L.out.size
      have HRD : Hid (∀ w2 w4 gi, _ → _ → _ → _ → _ → _ → _ → _) := fun w2 w4 gi L2 B hgi hR hb hm hn0 => round_O (z0 := z0) (w2 := w2) (w4 := w4) (gi := gi) M.out hkn h1 h2 hsz L2 B hgi hR hb hm hn0
      have HMA := (M.out).sA k (offO z0 ts k)
      have HMO : Hid (∀ w2, Below (sA wr g k (offO z0 ts k)).heap.size (sA wr g k (offO z0 ts k)) w2 → McO (sB w2 g k (offO z0 ts k)) lo hi g gf ts) := fun w2 L2 => (HMA.on ⟨h1, h2⟩ L2 (by rw [sA_size]; exact hsz)).sB k (offO z0 ts k)
      have HRR : Hid (∀ w2, Below (sA wr g k (offO z0 ts k)).heap.size (sA wr g k (offO z0 ts k)) w2 → _) := fun w2 (L2 : Below (sA wr g k (offO z0 ts k)).heap.size (sA wr g k (offO z0 ts k)) w2) => ride_row (wr := wr) (HMO.out w2 L2) hkn (by rw [sB_size]; have := L2.size; rw [sA_size] at this; exact this) (by rw [sB_size]; have := L2.size; rw [sA_size] at this; omega)
      have HR2 : Hid (∀ w2, Below (sA wr g k (offO z0 ts k)).heap.size (sA wr g k (offO z0 ts k)) w2 → Room w2 g (ts.length * 9)) := fun w2 L2 => (HMA.on ⟨h1, h2⟩ L2 (by rw [sA_size]; exact hsz)).room
      have HR4 : Hid (∀ w4, McO w4 lo hi g gf ts → Room w4 g (ts.length * 9)) := fun w4 h => h.room
      obtain ⟨⟨v0, f0⟩, y0⟩ := M.out.room (k * 9) (by omega)
      obtain ⟨⟨v1, f1⟩, y1⟩ := M.out.room (k * 9 + 1) (by omega)
      have HMT : Hid (∀ W, _) := fun W => markText_z (offO z0 ts k + 2) W (by omega) (by omega)
      clear HMA HM M
      generalize hm : ts[k].l.length = m at *
      generalize hz : offO z0 ts k = z at *
      have e2 : z + 1 + 1 = z + 2 := by omega
      have e3 : z + 2 + 1 = z + 3 := by omega
      have e4 : z + 3 + 1 = z + 4 := by omega
      have e5 : z + 4 + 1 = z + 5 := by omega
      go_wp2_with fail
      refine (HMT.out _).mono ?_
      rintro e w2 ⟨rfl, L2⟩
      have r2 := HR2.out w2 L2
      have M3 := HMO.out w2 L2
      obtain ⟨a, c, gi, f5, hrow, hgi, hb, hm1, hm0⟩ := HRR.out w2 L2
      obtain ⟨⟨v2, f2⟩, y2⟩ := r2 (k * 9 + 2) (by omega)
      obtain ⟨⟨v3, f3⟩, y3⟩ := r2 (k * 9 + 3) (by omega)
      obtain ⟨⟨v4, f4⟩, y4⟩ := r2 (k * 9 + 4) (by omega)
      have HL2 : Hid (_) := L2
      have HM3 : Hid (_) := M3
      have Hrow : Hid (_) := hrow
      have Hb : Hid (_) := hb
      have Hm1 : Hid (_) := hm1
      have Hm0 : Hid (_) := hm0
      clear r2 M3 L2 f0 f1 y0 y1 HMT HRR HMO HR2 hrow hb hm1 hm0
      have hsB : sB w2 g k z = ((w2.setCell ⟨g, k * 9 + 2, none⟩ (.string (Gt.mkT (z + 2).toNat))).setCell ⟨g, k * 9 + 3, none⟩ (.int .i64 (z + 3))).setCell ⟨g, k * 9 + 4, none⟩ (.int .i64 (z + 4)) := rfl
      rw [hsB] at f5
      have HSB : Hid (_) := hsB
      clear hsB
      generalize hTT : Gt.mkT (z + 2).toNat = TT at *
      have HTT : Hid (_) := hTT
      clear hTT
      go_wp2_with fail
      refine (markRideS_z a gi m c (z + 5) _ (by omega) (by omega) (by omega) (by rw [← HSB.out]; exact Hrow.out)).mono ?_
      rintro e w4 ⟨rfl, B4, MK4, hRm⟩
      rw [← HSB.out] at B4 hRm
      have M4 := McO.band HM3.out B4 hgi hRm
      obtain ⟨M5, F5, T5⟩ := HRD.out w2 w4 gi HL2.out B4 hgi hRm Hb.out (fun h => ⟨Hm1.out h, MK4⟩) Hm0.out
      have r4 := HR4.out w4 M4
      obtain ⟨⟨v6, f6⟩, y6⟩ := r4 (k * 9 + 6) (by omega)
      obtain ⟨⟨v7, f7⟩, y7⟩ := r4 (k * 9 + 7) (by omega)
      obtain ⟨⟨v8, f8⟩, y8⟩ := r4 (k * 9 + 8) (by omega)
      have HM5 : Hid (_) := M5
      have HF5 : Hid (Fb lo hi w (sC w4 g k (z + 5 + 4 * (m : Int)))) := L.out.trans F5
      have HT5 : Hid (ApO gf ts → MTO z0 (sC w4 g k (z + 5 + 4 * (m : Int))) g gf ts (k + 1)) := fun A => T5 A (T.out A)
      clear M5 F5 T5 r4 M4 B4 MK4 hRm HM3 HL2 Hrow Hb Hm1 Hm0 f2 f3 f4 f5 y2 y3 y4 HSB HTT L T HRD HR4
      generalize hz5 : z + 5 + 4 * (m : Int) = z5 at *
      have e6 : z5 + 1 + 1 = z5 + 2 := by omega
      have e7 : z5 + 2 + 1 = z5 + 3 := by omega
      have HZ5 : Hid (_) := hz5
      have hz51 : 0 ≤ z5 := by omega
      have hz52 : z5 ≤ 1152921504606846976 := by omega
      clear hz5
      go_wp2
      go_roundw
      case rel => exact ⟨k + 1, by omega, by go_num, by rw [HZ.out, show z5 + 3 = z + 8 + 4 * (m : Int) from by have := HZ5.out; omega], HF5, HM5, HT5⟩
      case measure => simp [intOf]; omega
    · obtain rfl : k = ts.length := by omega
      go_wp2
      go_ret
      exact ⟨rfl, L.out, M.out, T.out⟩

set_option maxRecDepth 100000 in
set_option maxHeartbeats 4000000 in
theorem heldOrderS_val (z0 : Int) (hz1 : 1 ≤ z0) (hz2 : z0 ≤ 1000000000000000) (lo hi g : Nat) (gf : Nat → Nat) (ts : List Oo) (cap : Nat) (w : World) (hn : ts.length ≤ 1048576) (hs : ∀ i (h : i < ts.length), ts[i].l.length ≤ 1048576) (h1 : lo ≤ g) (h2 : g < hi) (hh : hi ≤ w.heap.size) (M : McO w lo hi g gf ts) (T : MTO z0 w g gf ts ts.length) :
    Calls Tryz.prog 69 #[.slice (some ⟨g, 0, none⟩) ts.length cap, .int .i64 z0] w fun e w' => e = .returned (.int .i64 (offO z0 ts ts.length)) ∧ Below w.heap.size w w' := by
  have HS : Hid (∀ i (h : i < ts.length), ts[i].l.length ≤ 1048576) := hs
  have HM : Hid (McO w lo hi g gf ts) := M
  have HT : Hid (MTO z0 w g gf ts ts.length) := T
  have hg : g < w.heap.size := by omega
  clear M T hs
  go_enter Tryz.func69, Tryz.ntmps69
  go_wp2
  go_loopw [1, 5] (fun t i wr => ∃ (k : Nat), k ≤ ts.length ∧ i = .int .i64 k ∧ t = .int .i64 (offO z0 ts k) ∧ Hid (Below w.heap.size w wr)) (fun _ i _ => ts.length - (intOf i).toNat)
  case atStart => exact ⟨0, by omega, rfl, rfl, Below.refl _ _⟩
  case round =>
    obtain ⟨k, hk, rfl, rfl, L⟩ := hrel
    have hob := offO_bd z0 ts HS.out k hk
    by_cases hkn : k < ts.length
    · have hq := HS.out k hkn
      have HZ : Hid (offO z0 ts (k + 1) = offO z0 ts k + 8 + 4 * (ts[k].l.length : Int)) := offO_step z0 ts k hkn
      have RW := HT.out k hkn hkn
      obtain ⟨a, c, f5, h2'⟩ := HM.out.each k hkn
      have HC : Hid (∀ W, Below w.heap.size w W → ∀ i, W.cell? ⟨g, i, none⟩ = w.cell? ⟨g, i, none⟩) := fun W K i => K.cell (p := ⟨g, i, none⟩) hg
      have HMT : Hid (∀ W, _) := fun W => markText_z (offO z0 ts k + 2) W (by omega) (by omega)
      have HHD : Hid (∀ W, Below w.heap.size w W → _) := fun W (K : Below w.heap.size w W) => heldRideS_z a (gf k) ts[k].l.length c (offO z0 ts k + 5) W (by omega) (by omega) (by omega) (h2'.imp_right fun q => q.1) (by
        rcases RW.md with h0 | hm
        · intro i hi; omega
        · rcases h2' with h0 | ⟨-, q2, q3, -, -⟩
          · intro i hi; omega
          · exact hm.on K (by omega))
      have RC : ∀ W, Below w.heap.size w W → _ ∧ _ ∧ _ ∧ _ ∧ _ ∧ _ ∧ _ ∧ _ ∧ _ := fun W (K : Below w.heap.size w W) => ⟨(HC.out W K _).trans RW.c0, (HC.out W K _).trans RW.c1, (HC.out W K _).trans RW.c2, (HC.out W K _).trans RW.c3, (HC.out W K _).trans RW.c4, (HC.out W K _).trans RW.c6, (HC.out W K _).trans RW.c7, (HC.out W K _).trans RW.c8, (HC.out W K _).trans f5⟩
      have HRC : Hid (∀ W, Below w.heap.size w W → _) := RC
      clear RC RW f5 h2' HC
      generalize ts[k].l.length = m at *
      generalize hz : offO z0 ts k = z at *
      clear hz
      obtain ⟨r0, r1, r2, r3, r4, r6, r7, r8, r5⟩ := HRC.out wr L.out
      have e2 : z + 1 + 1 = z + 2 := by omega
      have e3 : z + 2 + 1 = z + 3 := by omega
      have e4 : z + 3 + 1 = z + 4 := by omega
      have e5 : z + 4 + 1 = z + 5 := by omega
      generalize Gt.mkT (z + 2).toNat = TT at *
      have hgr : g < wr.heap.size := Nat.lt_of_lt_of_le hg L.out.size
      clear r3 r4 r5 r6 r7 r8
      go_wp2
      go_region_held3 (fun w' => w'.cell? ⟨g, k * 9 + 2, none⟩ = some (.string TT)) (go_keep) (first
        | (go_at_call 64; (with_reducible refine (HMT.out _).mono ?_); rintro e w2 ⟨rfl, L2⟩; have K2 : Below w.heap.size w w2 := (by first | exact L.out.trans (L2.mono L.out.size) | exact (L.out.drew).trans (L2.mono L.out.size)); have c2 : w2.cell? ⟨g, k * 9 + 2, none⟩ = some (.string TT) := ((HRC.out w2 K2).2.2.1)))
      all_goals
        obtain ⟨s0, s1, s2, s3, s4, s6, s7, s8, s5⟩ := HRC.out w2 K2
        clear r0 r1 r2
        go_wp2_with fail
        refine (HHD.out _ K2).mono ?_
        rintro e w3 ⟨rfl, rfl⟩
        clear s5
        generalize hz5 : z + 5 + 4 * (m : Int) = z5 at *
        have e6 : z5 + 1 + 1 = z5 + 2 := by omega
        have e7 : z5 + 2 + 1 = z5 + 3 := by omega
        have HZ5 : Hid (_) := hz5
        have hz51 : 0 ≤ z5 := by omega
        have hz52 : z5 ≤ 1152921504606846976 := by omega
        clear hz5
        go_wp2
        go_roundw
        case rel => exact ⟨k + 1, by omega, by go_num, by rw [HZ.out, show z5 + 3 = z + 8 + 4 * (m : Int) from by have := HZ5.out; omega], K2⟩
        case measure => simp [intOf]; omega
    · obtain rfl : k = ts.length := by omega
      go_wp2
      go_ret
      exact ⟨rfl, L.out⟩

end Of
end Go.Proofs.YtehmlnojjfeheaaGreat
