/- A centre marked from any number on. -/
import Derived.Test.YtjjfleepnjhamaaCeCtr
namespace Go.Proofs.Ytjjfleepnjhamaa
namespace Hn
open Go.ChangeShapes Go.WideShapes Go.ChangeAt Go.RowKit Go.Joins
open Pk (new_below join_below cell_at heap_new frozen_at lt_of kept heap_old Drawn info_of Room own_form own_below)
set_option linter.unusedSimpArgs false
set_option linter.unusedVariables false

set_option maxHeartbeats 2000000 in
theorem markCentre_z (x : Pl) (o : Ctr) (g1 g2 lo hi : Nat) (z : Int) (w : World) (hz0 : 0 ≤ z) (hz1 : z ≤ 1000000000) (hz : o.ol.length ≤ 1048576) (hz2 : o.sl.length ≤ 1048577) (M : Mine lo w x o g1 g2) (h1 : o.ol.length = 0 ∨ g1 < hi) (h2 : o.sl.length = 0 ∨ g2 < hi) :
    Calls Try.prog 16 #[ceV x o, .int .i64 z] w fun e w' => e = .returned (.int .i64 (z + (o.ol.length : Int) + 6 * (o.sl.length : Int))) ∧ Brd lo hi w w' := by
  have N := new_below w (ceB x o 30)
  have m := heap_new w (ceB x o 30)
  have MN := M.on N
  have hNs := N.size
  obtain ⟨k1, hk1, hk1b⟩ : ∃ k1, (o.ol.length = 0 ∨ (x.a = some ⟨k1, 0, none⟩ ∧ Room (w.alloc (ceB x o 30)) k1 o.ol.length)) ∧ ((o.ol.length = 0 ∧ k1 = (w.alloc (ceB x o 30)).heap.size + 1) ∨ (k1 = g1 ∧ lo ≤ k1 ∧ k1 < hi ∧ k1 < w.heap.size)) := by
    rcases Nat.eq_zero_or_pos o.ol.length with h0 | h0
    · exact ⟨_, Or.inl h0, Or.inl ⟨h0, rfl⟩⟩
    · obtain ⟨h3, h4, h5⟩ := MN.off.resolve_left (by omega)
      exact ⟨g1, Or.inr ⟨h3, h5⟩, Or.inr ⟨rfl, M.lo1, h1.resolve_left (by omega), (M.off.resolve_left (by omega)).2.1⟩⟩
  obtain ⟨k2, hk2, hk2b⟩ : ∃ k2, (o.sl.length = 0 ∨ (x.b = some ⟨k2, 0, none⟩ ∧ Room (w.alloc (ceB x o 30)) k2 (o.sl.length * 6))) ∧ ((o.sl.length = 0 ∧ k2 = (w.alloc (ceB x o 30)).heap.size + 2) ∨ (k2 = g2 ∧ lo ≤ k2 ∧ k2 < hi ∧ k2 < w.heap.size)) := by
    rcases Nat.eq_zero_or_pos o.sl.length with h0 | h0
    · exact ⟨_, Or.inl h0, Or.inl ⟨h0, rfl⟩⟩
    · obtain ⟨h3, h4, h5⟩ := MN.seen.resolve_left (by omega)
      exact ⟨g2, Or.inr ⟨h3, h5⟩, Or.inr ⟨rfl, M.lo2, h2.resolve_left (by omega), (M.seen.resolve_left (by omega)).2.1⟩⟩
  have hne : k1 ≠ k2 := by
    have := M.ne
    omega
  have HK1 : Hid ((o.ol.length = 0 ∧ k1 = (w.alloc (ceB x o 30)).heap.size + 1) ∨ (k1 = g1 ∧ lo ≤ k1 ∧ k1 < hi ∧ k1 < w.heap.size)) := hk1b
  have HK2 : Hid ((o.sl.length = 0 ∧ k2 = (w.alloc (ceB x o 30)).heap.size + 2) ∨ (k2 = g2 ∧ lo ≤ k2 ∧ k2 < hi ∧ k2 < w.heap.size)) := hk2b
  have HK : Hid (k1 ≠ k2 ∧ (w.alloc (ceB x o 30)).heap.size = w.heap.size + 1) := ⟨hne, Array.size_push ..⟩
  have HR2 : Hid (o.sl.length = 0 ∨ (x.b = some ⟨k2, 0, none⟩ ∧ Room (w.alloc (ceB x o 30)) k2 (o.sl.length * 6))) := hk2
  clear h1 h2 M MN hNs hk1b hk2b hne hk2
  go_enter Try.func16, Try.ntmps16
  go_wp2_with fail
  refine named fun W hW => ?_
  rw [← hW] at N m hk1 HK1 HK2 HK HR2
  clear hW
  refine (markIntS_val x.a k1 o.ol.length x.c z _ hz (by omega) (by omega) hk1).mono ?_
  rintro e w1 ⟨rfl, B1, K1, -⟩
  have m1 : w1.cell? ⟨w.heap.size, 2, none⟩ = some (.slice x.b o.sl.length x.d) := by
    rw [World.cell?_of_block (a := ⟨w.heap.size, 2, none⟩) (B1.block w.heap.size (by have := HK1.out; have := HK.out; omega))]
    exact cell_at m 2
  have R2 : o.sl.length = 0 ∨ (x.b = some ⟨k2, 0, none⟩ ∧ Room w1 k2 (o.sl.length * 6)) := HR2.out.imp_right fun h => ⟨h.1, Room.band h.2 B1 (by have := HK.out.1; omega)⟩
  have KM : Hid (Mkd z w1 k1 o.ol.length) := K1
  clear HR2 hk1 m K1
  go_wp2_with fail
  refine (markControlS_val x.b k2 o.sl.length x.d _ _ hz2 (by omega) (by omega) R2).mono ?_
  rintro e w2 ⟨rfl, B2, K2, -⟩
  have D : Brd lo hi w w2 := ((Brd.of N).trans (Brd.one B1 (by have := HK1.out; omega))).trans (Brd.one B2 (by have := HK2.out; have := B1.size; omega))
  clear KM B1 B2 K2 R2
  go_wp2
  go_ret
  exact ⟨rfl, D⟩

end Hn
end Go.Proofs.Ytjjfleepnjhamaa
