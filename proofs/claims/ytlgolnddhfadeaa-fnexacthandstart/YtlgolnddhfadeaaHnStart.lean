/- HandStart of program and model. -/
import Derived.Test.YtlgolnddhfadeaaHnOkS
import Derived.Test.YtlgolnddhfadeaaSignSpec
import Derived.Test.YtlgolnddhfadeaaSignImpl
import Derived.Test.YtlgolnddhfadeaaHnCopy
namespace Go.Proofs.Ytlgolnddhfadeaa
namespace Hn
open Go.ChangeShapes Go.WideShapes Go.ChangeAt Go.RowKit Go.Joins
open Pk (new_below join_below cell_at heap_new frozen_at lt_of kept heap_old Drawn info_of Room)
set_option linter.unusedSimpArgs false
set_option linter.unusedVariables false

/-- A device that begins. -/
abbrev firstO (d p q g k s : Int) : Hnd := ⟨d, p, q, g, k, s, 0, [], []⟩
abbrev noX : Pl := ⟨none, 0, none, 0⟩
abbrev zeroO : Hnd := firstO 0 0 0 0 0 0
/-- Whether it can. -/
def startB (d p q g k s : Int) : Bool := handB (firstO d p q g k s) && Num.okP p q g
/-- What is told of it. -/
def startO (b : Bool) (d p q g k s : Int) : Hnd := if b = true then firstO d p q g k s else zeroO

theorem start_no (d p q g k s : Int) : startO false d p q g k s = zeroO := rfl
theorem start_yes (d p q g k s : Int) : startO true d p q g k s = firstO d p q g k s := rfl

theorem noX_in (w : World) (o : Hnd) (h1 : o.ol = []) (h2 : o.sl = []) : In w noX o := ⟨Or.inl h1, Or.inl h2⟩
theorem start_ol (b : Bool) (d p q g k s : Int) : (startO b d p q g k s).ol = [] ∧ (startO b d p q g k s).sl = [] := by cases b <;> exact ⟨rfl, rfl⟩

set_option maxRecDepth 100000 in
set_option maxHeartbeats 4000000 in
theorem implStart_val (d p q g k s : Int) (w : World) :
    Calls Try.prog 17 #[.int .i64 d, .agg #[.int .i64 p, .int .i64 q, .int .i64 g], .int .i64 k, .int .i64 s] w fun e w' => e = .returned (.tuple #[hnV noX (startO (startB d p q g k s) d p q g k s), .bool (startB d p q g k s)]) ∧ Below w.heap.size w w' := by
  obtain ⟨k0, k1, k2⟩ := three_blocks w (.cells #[.int .i64 p, .int .i64 q, .int .i64 g] 33) (.cells #[.int .i64 0, .int .i64 0, .int .i64 0, .int .i64 0, .int .i64 0, .int .i64 0, .int .i64 0, .slice none 0 0, .slice none 0 0] 36) (.cells #[.int .i64 d, .int .i64 p, .int .i64 q, .int .i64 g, .int .i64 k, .int .i64 s, .int .i64 0, .slice none 0 0, .slice none 0 0] 36)
  have L : Below w.heap.size w (((w.alloc (.cells #[.int .i64 p, .int .i64 q, .int .i64 g] 33)).alloc (.cells #[.int .i64 0, .int .i64 0, .int .i64 0, .int .i64 0, .int .i64 0, .int .i64 0, .int .i64 0, .slice none 0 0, .slice none 0 0] 36)).alloc (.cells #[.int .i64 d, .int .i64 p, .int .i64 q, .int .i64 g, .int .i64 k, .int .i64 s, .int .i64 0, .slice none 0 0, .slice none 0 0] 36)) := join_below (join_below (new_below _ _) (new_below _ _)) (new_below _ _)
  have HH : Hid (∀ W : World, _) := fun W => implHand_val noX (firstO d p q g k s) W (by simp) (by simp) (noX_in W _ rfl rfl)
  have HP : Hid (∀ W : World, _) := fun W => Num.implParamsOk_val p q g W
  cases hb : handB (firstO d p q g k s)
  · have HV : Hid (startB d p q g k s = false) := by show _ = _; unfold startB; rw [hb]; rfl
    rw [hb] at HH
    clear hb HP
    go_enter Try.func17, Try.ntmps17
    go_wp2_with fail
    refine named fun W0 hW => ?_
    rw [← hW] at k0 k1 k2 L
    clear hW
    refine (HH.out _).mono ?_
    rintro e w1 ⟨rfl, L1⟩
    have m0 := kept L1 (lt_of k0) k0
    have m1 := kept L1 (lt_of k1) k1
    have m2 := kept L1 (lt_of k2) k2
    have K1 := join_below L L1
    have p0 : w1.cell? ⟨w.heap.size, 0, none⟩ = some (.int .i64 p) := cell_at m0 0
    have p1 : w1.cell? ⟨w.heap.size, 1, none⟩ = some (.int .i64 q) := cell_at m0 1
    have p2 : w1.cell? ⟨w.heap.size, 2, none⟩ = some (.int .i64 g) := cell_at m0 2
    have r0 : w1.cell? ⟨w.heap.size + 1, 0, none⟩ = some (.int .i64 0) := cell_at m1 0
    have r1 : w1.cell? ⟨w.heap.size + 1, 1, none⟩ = some (.int .i64 0) := cell_at m1 1
    have r2 : w1.cell? ⟨w.heap.size + 1, 2, none⟩ = some (.int .i64 0) := cell_at m1 2
    have r3 : w1.cell? ⟨w.heap.size + 1, 3, none⟩ = some (.int .i64 0) := cell_at m1 3
    have r4 : w1.cell? ⟨w.heap.size + 1, 4, none⟩ = some (.int .i64 0) := cell_at m1 4
    have r5 : w1.cell? ⟨w.heap.size + 1, 5, none⟩ = some (.int .i64 0) := cell_at m1 5
    have r6 : w1.cell? ⟨w.heap.size + 1, 6, none⟩ = some (.int .i64 0) := cell_at m1 6
    have r7 : w1.cell? ⟨w.heap.size + 1, 7, none⟩ = some (.slice none 0 0) := cell_at m1 7
    have r8 : w1.cell? ⟨w.heap.size + 1, 8, none⟩ = some (.slice none 0 0) := cell_at m1 8
    have f0 : w1.frozen? ⟨w.heap.size + 1, 0, none⟩ = false := frozen_at m1 0
    have f1 : w1.frozen? ⟨w.heap.size + 1, 1, none⟩ = false := frozen_at m1 1
    have f2 : w1.frozen? ⟨w.heap.size + 1, 2, none⟩ = false := frozen_at m1 2
    have f3 : w1.frozen? ⟨w.heap.size + 1, 3, none⟩ = false := frozen_at m1 3
    have f4 : w1.frozen? ⟨w.heap.size + 1, 4, none⟩ = false := frozen_at m1 4
    have f5 : w1.frozen? ⟨w.heap.size + 1, 5, none⟩ = false := frozen_at m1 5
    have f6 : w1.frozen? ⟨w.heap.size + 1, 6, none⟩ = false := frozen_at m1 6
    have f7 : w1.frozen? ⟨w.heap.size + 1, 7, none⟩ = false := frozen_at m1 7
    have f8 : w1.frozen? ⟨w.heap.size + 1, 8, none⟩ = false := frozen_at m1 8
    have h0 : w1.cell? ⟨w.heap.size + 1 + 1, 0, none⟩ = some (.int .i64 d) := cell_at m2 0
    have h1 : w1.cell? ⟨w.heap.size + 1 + 1, 1, none⟩ = some (.int .i64 p) := cell_at m2 1
    have h2 : w1.cell? ⟨w.heap.size + 1 + 1, 2, none⟩ = some (.int .i64 q) := cell_at m2 2
    have h3 : w1.cell? ⟨w.heap.size + 1 + 1, 3, none⟩ = some (.int .i64 g) := cell_at m2 3
    have h4 : w1.cell? ⟨w.heap.size + 1 + 1, 4, none⟩ = some (.int .i64 k) := cell_at m2 4
    have h5 : w1.cell? ⟨w.heap.size + 1 + 1, 5, none⟩ = some (.int .i64 s) := cell_at m2 5
    have h6 : w1.cell? ⟨w.heap.size + 1 + 1, 6, none⟩ = some (.int .i64 0) := cell_at m2 6
    have h7 : w1.cell? ⟨w.heap.size + 1 + 1, 7, none⟩ = some (.slice none 0 0) := cell_at m2 7
    have h8 : w1.cell? ⟨w.heap.size + 1 + 1, 8, none⟩ = some (.slice none 0 0) := cell_at m2 8
    clear k0 k1 k2 L L1 m0 m1 m2 HH
    go_wp2
    refine bodyPost_ret (v := .tuple #[hnV noX (zeroO), .bool false]) (by simp [results, Try.results17, go_sem, r0, r1, r2, r3, r4, r5, r6, r7, r8]) rfl ?_
    refine ⟨by rw [HV.out] <;> rfl, ?_⟩
    (repeat' (first | apply Below.setCell | exact K1)) <;> first | (simp; done) | (simp; omega)
  · rw [hb] at HH
    cases hp : Num.okP p q g
    · have HV : Hid (startB d p q g k s = false) := by show _ = _; unfold startB; rw [hp, Bool.and_false]
      rw [hp] at HP
      clear hb hp
      go_enter Try.func17, Try.ntmps17
      go_wp2_with fail
      refine named fun W0 hW => ?_
      rw [← hW] at k0 k1 k2 L
      clear hW
      refine (HH.out _).mono ?_
      rintro e w1 ⟨rfl, L1⟩
      have m0 := kept L1 (lt_of k0) k0
      have m1 := kept L1 (lt_of k1) k1
      have m2 := kept L1 (lt_of k2) k2
      have K1 := join_below L L1
      have p0 : w1.cell? ⟨w.heap.size, 0, none⟩ = some (.int .i64 p) := cell_at m0 0
      have p1 : w1.cell? ⟨w.heap.size, 1, none⟩ = some (.int .i64 q) := cell_at m0 1
      have p2 : w1.cell? ⟨w.heap.size, 2, none⟩ = some (.int .i64 g) := cell_at m0 2
      have r0 : w1.cell? ⟨w.heap.size + 1, 0, none⟩ = some (.int .i64 0) := cell_at m1 0
      have r1 : w1.cell? ⟨w.heap.size + 1, 1, none⟩ = some (.int .i64 0) := cell_at m1 1
      have r2 : w1.cell? ⟨w.heap.size + 1, 2, none⟩ = some (.int .i64 0) := cell_at m1 2
      have r3 : w1.cell? ⟨w.heap.size + 1, 3, none⟩ = some (.int .i64 0) := cell_at m1 3
      have r4 : w1.cell? ⟨w.heap.size + 1, 4, none⟩ = some (.int .i64 0) := cell_at m1 4
      have r5 : w1.cell? ⟨w.heap.size + 1, 5, none⟩ = some (.int .i64 0) := cell_at m1 5
      have r6 : w1.cell? ⟨w.heap.size + 1, 6, none⟩ = some (.int .i64 0) := cell_at m1 6
      have r7 : w1.cell? ⟨w.heap.size + 1, 7, none⟩ = some (.slice none 0 0) := cell_at m1 7
      have r8 : w1.cell? ⟨w.heap.size + 1, 8, none⟩ = some (.slice none 0 0) := cell_at m1 8
      have f0 : w1.frozen? ⟨w.heap.size + 1, 0, none⟩ = false := frozen_at m1 0
      have f1 : w1.frozen? ⟨w.heap.size + 1, 1, none⟩ = false := frozen_at m1 1
      have f2 : w1.frozen? ⟨w.heap.size + 1, 2, none⟩ = false := frozen_at m1 2
      have f3 : w1.frozen? ⟨w.heap.size + 1, 3, none⟩ = false := frozen_at m1 3
      have f4 : w1.frozen? ⟨w.heap.size + 1, 4, none⟩ = false := frozen_at m1 4
      have f5 : w1.frozen? ⟨w.heap.size + 1, 5, none⟩ = false := frozen_at m1 5
      have f6 : w1.frozen? ⟨w.heap.size + 1, 6, none⟩ = false := frozen_at m1 6
      have f7 : w1.frozen? ⟨w.heap.size + 1, 7, none⟩ = false := frozen_at m1 7
      have f8 : w1.frozen? ⟨w.heap.size + 1, 8, none⟩ = false := frozen_at m1 8
      have h0 : w1.cell? ⟨w.heap.size + 1 + 1, 0, none⟩ = some (.int .i64 d) := cell_at m2 0
      have h1 : w1.cell? ⟨w.heap.size + 1 + 1, 1, none⟩ = some (.int .i64 p) := cell_at m2 1
      have h2 : w1.cell? ⟨w.heap.size + 1 + 1, 2, none⟩ = some (.int .i64 q) := cell_at m2 2
      have h3 : w1.cell? ⟨w.heap.size + 1 + 1, 3, none⟩ = some (.int .i64 g) := cell_at m2 3
      have h4 : w1.cell? ⟨w.heap.size + 1 + 1, 4, none⟩ = some (.int .i64 k) := cell_at m2 4
      have h5 : w1.cell? ⟨w.heap.size + 1 + 1, 5, none⟩ = some (.int .i64 s) := cell_at m2 5
      have h6 : w1.cell? ⟨w.heap.size + 1 + 1, 6, none⟩ = some (.int .i64 0) := cell_at m2 6
      have h7 : w1.cell? ⟨w.heap.size + 1 + 1, 7, none⟩ = some (.slice none 0 0) := cell_at m2 7
      have h8 : w1.cell? ⟨w.heap.size + 1 + 1, 8, none⟩ = some (.slice none 0 0) := cell_at m2 8
      clear k0 k1 k2 L L1 HH
      go_wp2_with fail
      refine (HP.out _).mono ?_
      rintro e w2 ⟨rfl, L2⟩
      have n0 := kept L2 (lt_of m0) m0
      have n1 := kept L2 (lt_of m1) m1
      have n2 := kept L2 (lt_of m2) m2
      have K2 := join_below K1 L2
      clear p0 p1 p2 r0 f0 h0 r1 f1 h1 r2 f2 h2 r3 f3 h3 r4 f4 h4 r5 f5 h5 r6 f6 h6 r7 f7 h7 r8 f8 h8
      have p0 : w2.cell? ⟨w.heap.size, 0, none⟩ = some (.int .i64 p) := cell_at n0 0
      have p1 : w2.cell? ⟨w.heap.size, 1, none⟩ = some (.int .i64 q) := cell_at n0 1
      have p2 : w2.cell? ⟨w.heap.size, 2, none⟩ = some (.int .i64 g) := cell_at n0 2
      have r0 : w2.cell? ⟨w.heap.size + 1, 0, none⟩ = some (.int .i64 0) := cell_at n1 0
      have r1 : w2.cell? ⟨w.heap.size + 1, 1, none⟩ = some (.int .i64 0) := cell_at n1 1
      have r2 : w2.cell? ⟨w.heap.size + 1, 2, none⟩ = some (.int .i64 0) := cell_at n1 2
      have r3 : w2.cell? ⟨w.heap.size + 1, 3, none⟩ = some (.int .i64 0) := cell_at n1 3
      have r4 : w2.cell? ⟨w.heap.size + 1, 4, none⟩ = some (.int .i64 0) := cell_at n1 4
      have r5 : w2.cell? ⟨w.heap.size + 1, 5, none⟩ = some (.int .i64 0) := cell_at n1 5
      have r6 : w2.cell? ⟨w.heap.size + 1, 6, none⟩ = some (.int .i64 0) := cell_at n1 6
      have r7 : w2.cell? ⟨w.heap.size + 1, 7, none⟩ = some (.slice none 0 0) := cell_at n1 7
      have r8 : w2.cell? ⟨w.heap.size + 1, 8, none⟩ = some (.slice none 0 0) := cell_at n1 8
      have f0 : w2.frozen? ⟨w.heap.size + 1, 0, none⟩ = false := frozen_at n1 0
      have f1 : w2.frozen? ⟨w.heap.size + 1, 1, none⟩ = false := frozen_at n1 1
      have f2 : w2.frozen? ⟨w.heap.size + 1, 2, none⟩ = false := frozen_at n1 2
      have f3 : w2.frozen? ⟨w.heap.size + 1, 3, none⟩ = false := frozen_at n1 3
      have f4 : w2.frozen? ⟨w.heap.size + 1, 4, none⟩ = false := frozen_at n1 4
      have f5 : w2.frozen? ⟨w.heap.size + 1, 5, none⟩ = false := frozen_at n1 5
      have f6 : w2.frozen? ⟨w.heap.size + 1, 6, none⟩ = false := frozen_at n1 6
      have f7 : w2.frozen? ⟨w.heap.size + 1, 7, none⟩ = false := frozen_at n1 7
      have f8 : w2.frozen? ⟨w.heap.size + 1, 8, none⟩ = false := frozen_at n1 8
      have h0 : w2.cell? ⟨w.heap.size + 1 + 1, 0, none⟩ = some (.int .i64 d) := cell_at n2 0
      have h1 : w2.cell? ⟨w.heap.size + 1 + 1, 1, none⟩ = some (.int .i64 p) := cell_at n2 1
      have h2 : w2.cell? ⟨w.heap.size + 1 + 1, 2, none⟩ = some (.int .i64 q) := cell_at n2 2
      have h3 : w2.cell? ⟨w.heap.size + 1 + 1, 3, none⟩ = some (.int .i64 g) := cell_at n2 3
      have h4 : w2.cell? ⟨w.heap.size + 1 + 1, 4, none⟩ = some (.int .i64 k) := cell_at n2 4
      have h5 : w2.cell? ⟨w.heap.size + 1 + 1, 5, none⟩ = some (.int .i64 s) := cell_at n2 5
      have h6 : w2.cell? ⟨w.heap.size + 1 + 1, 6, none⟩ = some (.int .i64 0) := cell_at n2 6
      have h7 : w2.cell? ⟨w.heap.size + 1 + 1, 7, none⟩ = some (.slice none 0 0) := cell_at n2 7
      have h8 : w2.cell? ⟨w.heap.size + 1 + 1, 8, none⟩ = some (.slice none 0 0) := cell_at n2 8
      clear m0 m1 m2 n0 n1 n2 L2 K1 HP
      go_wp2
      refine bodyPost_ret (v := .tuple #[hnV noX (zeroO), .bool false]) (by simp [results, Try.results17, go_sem, r0, r1, r2, r3, r4, r5, r6, r7, r8]) rfl ?_
      refine ⟨by rw [HV.out] <;> rfl, ?_⟩
      (repeat' (first | apply Below.setCell | exact K2)) <;> first | (simp; done) | (simp; omega)
    · have HV : Hid (startB d p q g k s = true) := by show _ = _; unfold startB; rw [hb, hp]; rfl
      rw [hp] at HP
      clear hb hp
      go_enter Try.func17, Try.ntmps17
      go_wp2_with fail
      refine named fun W0 hW => ?_
      rw [← hW] at k0 k1 k2 L
      clear hW
      refine (HH.out _).mono ?_
      rintro e w1 ⟨rfl, L1⟩
      have m0 := kept L1 (lt_of k0) k0
      have m1 := kept L1 (lt_of k1) k1
      have m2 := kept L1 (lt_of k2) k2
      have K1 := join_below L L1
      have p0 : w1.cell? ⟨w.heap.size, 0, none⟩ = some (.int .i64 p) := cell_at m0 0
      have p1 : w1.cell? ⟨w.heap.size, 1, none⟩ = some (.int .i64 q) := cell_at m0 1
      have p2 : w1.cell? ⟨w.heap.size, 2, none⟩ = some (.int .i64 g) := cell_at m0 2
      have r0 : w1.cell? ⟨w.heap.size + 1, 0, none⟩ = some (.int .i64 0) := cell_at m1 0
      have r1 : w1.cell? ⟨w.heap.size + 1, 1, none⟩ = some (.int .i64 0) := cell_at m1 1
      have r2 : w1.cell? ⟨w.heap.size + 1, 2, none⟩ = some (.int .i64 0) := cell_at m1 2
      have r3 : w1.cell? ⟨w.heap.size + 1, 3, none⟩ = some (.int .i64 0) := cell_at m1 3
      have r4 : w1.cell? ⟨w.heap.size + 1, 4, none⟩ = some (.int .i64 0) := cell_at m1 4
      have r5 : w1.cell? ⟨w.heap.size + 1, 5, none⟩ = some (.int .i64 0) := cell_at m1 5
      have r6 : w1.cell? ⟨w.heap.size + 1, 6, none⟩ = some (.int .i64 0) := cell_at m1 6
      have r7 : w1.cell? ⟨w.heap.size + 1, 7, none⟩ = some (.slice none 0 0) := cell_at m1 7
      have r8 : w1.cell? ⟨w.heap.size + 1, 8, none⟩ = some (.slice none 0 0) := cell_at m1 8
      have f0 : w1.frozen? ⟨w.heap.size + 1, 0, none⟩ = false := frozen_at m1 0
      have f1 : w1.frozen? ⟨w.heap.size + 1, 1, none⟩ = false := frozen_at m1 1
      have f2 : w1.frozen? ⟨w.heap.size + 1, 2, none⟩ = false := frozen_at m1 2
      have f3 : w1.frozen? ⟨w.heap.size + 1, 3, none⟩ = false := frozen_at m1 3
      have f4 : w1.frozen? ⟨w.heap.size + 1, 4, none⟩ = false := frozen_at m1 4
      have f5 : w1.frozen? ⟨w.heap.size + 1, 5, none⟩ = false := frozen_at m1 5
      have f6 : w1.frozen? ⟨w.heap.size + 1, 6, none⟩ = false := frozen_at m1 6
      have f7 : w1.frozen? ⟨w.heap.size + 1, 7, none⟩ = false := frozen_at m1 7
      have f8 : w1.frozen? ⟨w.heap.size + 1, 8, none⟩ = false := frozen_at m1 8
      have h0 : w1.cell? ⟨w.heap.size + 1 + 1, 0, none⟩ = some (.int .i64 d) := cell_at m2 0
      have h1 : w1.cell? ⟨w.heap.size + 1 + 1, 1, none⟩ = some (.int .i64 p) := cell_at m2 1
      have h2 : w1.cell? ⟨w.heap.size + 1 + 1, 2, none⟩ = some (.int .i64 q) := cell_at m2 2
      have h3 : w1.cell? ⟨w.heap.size + 1 + 1, 3, none⟩ = some (.int .i64 g) := cell_at m2 3
      have h4 : w1.cell? ⟨w.heap.size + 1 + 1, 4, none⟩ = some (.int .i64 k) := cell_at m2 4
      have h5 : w1.cell? ⟨w.heap.size + 1 + 1, 5, none⟩ = some (.int .i64 s) := cell_at m2 5
      have h6 : w1.cell? ⟨w.heap.size + 1 + 1, 6, none⟩ = some (.int .i64 0) := cell_at m2 6
      have h7 : w1.cell? ⟨w.heap.size + 1 + 1, 7, none⟩ = some (.slice none 0 0) := cell_at m2 7
      have h8 : w1.cell? ⟨w.heap.size + 1 + 1, 8, none⟩ = some (.slice none 0 0) := cell_at m2 8
      clear k0 k1 k2 L L1 HH
      go_wp2_with fail
      refine (HP.out _).mono ?_
      rintro e w2 ⟨rfl, L2⟩
      have n0 := kept L2 (lt_of m0) m0
      have n1 := kept L2 (lt_of m1) m1
      have n2 := kept L2 (lt_of m2) m2
      have K2 := join_below K1 L2
      clear p0 p1 p2 r0 f0 h0 r1 f1 h1 r2 f2 h2 r3 f3 h3 r4 f4 h4 r5 f5 h5 r6 f6 h6 r7 f7 h7 r8 f8 h8
      have p0 : w2.cell? ⟨w.heap.size, 0, none⟩ = some (.int .i64 p) := cell_at n0 0
      have p1 : w2.cell? ⟨w.heap.size, 1, none⟩ = some (.int .i64 q) := cell_at n0 1
      have p2 : w2.cell? ⟨w.heap.size, 2, none⟩ = some (.int .i64 g) := cell_at n0 2
      have r0 : w2.cell? ⟨w.heap.size + 1, 0, none⟩ = some (.int .i64 0) := cell_at n1 0
      have r1 : w2.cell? ⟨w.heap.size + 1, 1, none⟩ = some (.int .i64 0) := cell_at n1 1
      have r2 : w2.cell? ⟨w.heap.size + 1, 2, none⟩ = some (.int .i64 0) := cell_at n1 2
      have r3 : w2.cell? ⟨w.heap.size + 1, 3, none⟩ = some (.int .i64 0) := cell_at n1 3
      have r4 : w2.cell? ⟨w.heap.size + 1, 4, none⟩ = some (.int .i64 0) := cell_at n1 4
      have r5 : w2.cell? ⟨w.heap.size + 1, 5, none⟩ = some (.int .i64 0) := cell_at n1 5
      have r6 : w2.cell? ⟨w.heap.size + 1, 6, none⟩ = some (.int .i64 0) := cell_at n1 6
      have r7 : w2.cell? ⟨w.heap.size + 1, 7, none⟩ = some (.slice none 0 0) := cell_at n1 7
      have r8 : w2.cell? ⟨w.heap.size + 1, 8, none⟩ = some (.slice none 0 0) := cell_at n1 8
      have f0 : w2.frozen? ⟨w.heap.size + 1, 0, none⟩ = false := frozen_at n1 0
      have f1 : w2.frozen? ⟨w.heap.size + 1, 1, none⟩ = false := frozen_at n1 1
      have f2 : w2.frozen? ⟨w.heap.size + 1, 2, none⟩ = false := frozen_at n1 2
      have f3 : w2.frozen? ⟨w.heap.size + 1, 3, none⟩ = false := frozen_at n1 3
      have f4 : w2.frozen? ⟨w.heap.size + 1, 4, none⟩ = false := frozen_at n1 4
      have f5 : w2.frozen? ⟨w.heap.size + 1, 5, none⟩ = false := frozen_at n1 5
      have f6 : w2.frozen? ⟨w.heap.size + 1, 6, none⟩ = false := frozen_at n1 6
      have f7 : w2.frozen? ⟨w.heap.size + 1, 7, none⟩ = false := frozen_at n1 7
      have f8 : w2.frozen? ⟨w.heap.size + 1, 8, none⟩ = false := frozen_at n1 8
      have h0 : w2.cell? ⟨w.heap.size + 1 + 1, 0, none⟩ = some (.int .i64 d) := cell_at n2 0
      have h1 : w2.cell? ⟨w.heap.size + 1 + 1, 1, none⟩ = some (.int .i64 p) := cell_at n2 1
      have h2 : w2.cell? ⟨w.heap.size + 1 + 1, 2, none⟩ = some (.int .i64 q) := cell_at n2 2
      have h3 : w2.cell? ⟨w.heap.size + 1 + 1, 3, none⟩ = some (.int .i64 g) := cell_at n2 3
      have h4 : w2.cell? ⟨w.heap.size + 1 + 1, 4, none⟩ = some (.int .i64 k) := cell_at n2 4
      have h5 : w2.cell? ⟨w.heap.size + 1 + 1, 5, none⟩ = some (.int .i64 s) := cell_at n2 5
      have h6 : w2.cell? ⟨w.heap.size + 1 + 1, 6, none⟩ = some (.int .i64 0) := cell_at n2 6
      have h7 : w2.cell? ⟨w.heap.size + 1 + 1, 7, none⟩ = some (.slice none 0 0) := cell_at n2 7
      have h8 : w2.cell? ⟨w.heap.size + 1 + 1, 8, none⟩ = some (.slice none 0 0) := cell_at n2 8
      clear m0 m1 m2 n0 n1 n2 L2 K1 HP
      go_wp2
      refine bodyPost_ret (v := .tuple #[hnV noX (firstO d p q g k s), .bool true]) (by simp [results, Try.results17, go_sem, r0, r1, r2, r3, r4, r5, r6, r7, r8]) rfl ?_
      refine ⟨by rw [HV.out] <;> rfl, ?_⟩
      (repeat' (first | apply Below.setCell | exact K2)) <;> first | (simp; done) | (simp; omega)

set_option maxRecDepth 100000 in
set_option maxHeartbeats 4000000 in
theorem specStart_val (d p q g k s : Int) (w : World) :
    Calls Try.prog 15 #[.int .i64 d, .agg #[.int .i64 p, .int .i64 q, .int .i64 g], .int .i64 k, .int .i64 s] w fun e w' => e = .returned (.tuple #[hnV noX (startO (startB d p q g k s) d p q g k s), .bool (startB d p q g k s)]) ∧ Below w.heap.size w w' := by
  obtain ⟨k0, k1, k2⟩ := three_blocks w (.cells #[.int .i64 p, .int .i64 q, .int .i64 g] 33) (.cells #[.int .i64 0, .int .i64 0, .int .i64 0, .int .i64 0, .int .i64 0, .int .i64 0, .int .i64 0, .slice none 0 0, .slice none 0 0] 36) (.cells #[.int .i64 d, .int .i64 p, .int .i64 q, .int .i64 g, .int .i64 k, .int .i64 s, .int .i64 0, .slice none 0 0, .slice none 0 0] 36)
  have L : Below w.heap.size w (((w.alloc (.cells #[.int .i64 p, .int .i64 q, .int .i64 g] 33)).alloc (.cells #[.int .i64 0, .int .i64 0, .int .i64 0, .int .i64 0, .int .i64 0, .int .i64 0, .int .i64 0, .slice none 0 0, .slice none 0 0] 36)).alloc (.cells #[.int .i64 d, .int .i64 p, .int .i64 q, .int .i64 g, .int .i64 k, .int .i64 s, .int .i64 0, .slice none 0 0, .slice none 0 0] 36)) := join_below (join_below (new_below _ _) (new_below _ _)) (new_below _ _)
  have HH : Hid (∀ W : World, _) := fun W => specHand_val noX (firstO d p q g k s) W (by simp) (by simp) (noX_in W _ rfl rfl)
  have HP : Hid (∀ W : World, _) := fun W => Num.specParamsOk_val p q g W
  cases hb : handB (firstO d p q g k s)
  · have HV : Hid (startB d p q g k s = false) := by show _ = _; unfold startB; rw [hb]; rfl
    rw [hb] at HH
    clear hb HP
    go_enter Try.func15, Try.ntmps15
    go_wp2_with fail
    refine named fun W0 hW => ?_
    rw [← hW] at k0 k1 k2 L
    clear hW
    refine (HH.out _).mono ?_
    rintro e w1 ⟨rfl, L1⟩
    have m0 := kept L1 (lt_of k0) k0
    have m1 := kept L1 (lt_of k1) k1
    have m2 := kept L1 (lt_of k2) k2
    have K1 := join_below L L1
    have p0 : w1.cell? ⟨w.heap.size, 0, none⟩ = some (.int .i64 p) := cell_at m0 0
    have p1 : w1.cell? ⟨w.heap.size, 1, none⟩ = some (.int .i64 q) := cell_at m0 1
    have p2 : w1.cell? ⟨w.heap.size, 2, none⟩ = some (.int .i64 g) := cell_at m0 2
    have r0 : w1.cell? ⟨w.heap.size + 1, 0, none⟩ = some (.int .i64 0) := cell_at m1 0
    have r1 : w1.cell? ⟨w.heap.size + 1, 1, none⟩ = some (.int .i64 0) := cell_at m1 1
    have r2 : w1.cell? ⟨w.heap.size + 1, 2, none⟩ = some (.int .i64 0) := cell_at m1 2
    have r3 : w1.cell? ⟨w.heap.size + 1, 3, none⟩ = some (.int .i64 0) := cell_at m1 3
    have r4 : w1.cell? ⟨w.heap.size + 1, 4, none⟩ = some (.int .i64 0) := cell_at m1 4
    have r5 : w1.cell? ⟨w.heap.size + 1, 5, none⟩ = some (.int .i64 0) := cell_at m1 5
    have r6 : w1.cell? ⟨w.heap.size + 1, 6, none⟩ = some (.int .i64 0) := cell_at m1 6
    have r7 : w1.cell? ⟨w.heap.size + 1, 7, none⟩ = some (.slice none 0 0) := cell_at m1 7
    have r8 : w1.cell? ⟨w.heap.size + 1, 8, none⟩ = some (.slice none 0 0) := cell_at m1 8
    have f0 : w1.frozen? ⟨w.heap.size + 1, 0, none⟩ = false := frozen_at m1 0
    have f1 : w1.frozen? ⟨w.heap.size + 1, 1, none⟩ = false := frozen_at m1 1
    have f2 : w1.frozen? ⟨w.heap.size + 1, 2, none⟩ = false := frozen_at m1 2
    have f3 : w1.frozen? ⟨w.heap.size + 1, 3, none⟩ = false := frozen_at m1 3
    have f4 : w1.frozen? ⟨w.heap.size + 1, 4, none⟩ = false := frozen_at m1 4
    have f5 : w1.frozen? ⟨w.heap.size + 1, 5, none⟩ = false := frozen_at m1 5
    have f6 : w1.frozen? ⟨w.heap.size + 1, 6, none⟩ = false := frozen_at m1 6
    have f7 : w1.frozen? ⟨w.heap.size + 1, 7, none⟩ = false := frozen_at m1 7
    have f8 : w1.frozen? ⟨w.heap.size + 1, 8, none⟩ = false := frozen_at m1 8
    have h0 : w1.cell? ⟨w.heap.size + 1 + 1, 0, none⟩ = some (.int .i64 d) := cell_at m2 0
    have h1 : w1.cell? ⟨w.heap.size + 1 + 1, 1, none⟩ = some (.int .i64 p) := cell_at m2 1
    have h2 : w1.cell? ⟨w.heap.size + 1 + 1, 2, none⟩ = some (.int .i64 q) := cell_at m2 2
    have h3 : w1.cell? ⟨w.heap.size + 1 + 1, 3, none⟩ = some (.int .i64 g) := cell_at m2 3
    have h4 : w1.cell? ⟨w.heap.size + 1 + 1, 4, none⟩ = some (.int .i64 k) := cell_at m2 4
    have h5 : w1.cell? ⟨w.heap.size + 1 + 1, 5, none⟩ = some (.int .i64 s) := cell_at m2 5
    have h6 : w1.cell? ⟨w.heap.size + 1 + 1, 6, none⟩ = some (.int .i64 0) := cell_at m2 6
    have h7 : w1.cell? ⟨w.heap.size + 1 + 1, 7, none⟩ = some (.slice none 0 0) := cell_at m2 7
    have h8 : w1.cell? ⟨w.heap.size + 1 + 1, 8, none⟩ = some (.slice none 0 0) := cell_at m2 8
    clear k0 k1 k2 L L1 m0 m1 m2 HH
    go_wp2
    refine bodyPost_ret (v := .tuple #[hnV noX (zeroO), .bool false]) (by simp [results, Try.results15, go_sem, r0, r1, r2, r3, r4, r5, r6, r7, r8]) rfl ?_
    refine ⟨by rw [HV.out] <;> rfl, ?_⟩
    (repeat' (first | apply Below.setCell | exact K1)) <;> first | (simp; done) | (simp; omega)
  · rw [hb] at HH
    cases hp : Num.okP p q g
    · have HV : Hid (startB d p q g k s = false) := by show _ = _; unfold startB; rw [hp, Bool.and_false]
      rw [hp] at HP
      clear hb hp
      go_enter Try.func15, Try.ntmps15
      go_wp2_with fail
      refine named fun W0 hW => ?_
      rw [← hW] at k0 k1 k2 L
      clear hW
      refine (HH.out _).mono ?_
      rintro e w1 ⟨rfl, L1⟩
      have m0 := kept L1 (lt_of k0) k0
      have m1 := kept L1 (lt_of k1) k1
      have m2 := kept L1 (lt_of k2) k2
      have K1 := join_below L L1
      have p0 : w1.cell? ⟨w.heap.size, 0, none⟩ = some (.int .i64 p) := cell_at m0 0
      have p1 : w1.cell? ⟨w.heap.size, 1, none⟩ = some (.int .i64 q) := cell_at m0 1
      have p2 : w1.cell? ⟨w.heap.size, 2, none⟩ = some (.int .i64 g) := cell_at m0 2
      have r0 : w1.cell? ⟨w.heap.size + 1, 0, none⟩ = some (.int .i64 0) := cell_at m1 0
      have r1 : w1.cell? ⟨w.heap.size + 1, 1, none⟩ = some (.int .i64 0) := cell_at m1 1
      have r2 : w1.cell? ⟨w.heap.size + 1, 2, none⟩ = some (.int .i64 0) := cell_at m1 2
      have r3 : w1.cell? ⟨w.heap.size + 1, 3, none⟩ = some (.int .i64 0) := cell_at m1 3
      have r4 : w1.cell? ⟨w.heap.size + 1, 4, none⟩ = some (.int .i64 0) := cell_at m1 4
      have r5 : w1.cell? ⟨w.heap.size + 1, 5, none⟩ = some (.int .i64 0) := cell_at m1 5
      have r6 : w1.cell? ⟨w.heap.size + 1, 6, none⟩ = some (.int .i64 0) := cell_at m1 6
      have r7 : w1.cell? ⟨w.heap.size + 1, 7, none⟩ = some (.slice none 0 0) := cell_at m1 7
      have r8 : w1.cell? ⟨w.heap.size + 1, 8, none⟩ = some (.slice none 0 0) := cell_at m1 8
      have f0 : w1.frozen? ⟨w.heap.size + 1, 0, none⟩ = false := frozen_at m1 0
      have f1 : w1.frozen? ⟨w.heap.size + 1, 1, none⟩ = false := frozen_at m1 1
      have f2 : w1.frozen? ⟨w.heap.size + 1, 2, none⟩ = false := frozen_at m1 2
      have f3 : w1.frozen? ⟨w.heap.size + 1, 3, none⟩ = false := frozen_at m1 3
      have f4 : w1.frozen? ⟨w.heap.size + 1, 4, none⟩ = false := frozen_at m1 4
      have f5 : w1.frozen? ⟨w.heap.size + 1, 5, none⟩ = false := frozen_at m1 5
      have f6 : w1.frozen? ⟨w.heap.size + 1, 6, none⟩ = false := frozen_at m1 6
      have f7 : w1.frozen? ⟨w.heap.size + 1, 7, none⟩ = false := frozen_at m1 7
      have f8 : w1.frozen? ⟨w.heap.size + 1, 8, none⟩ = false := frozen_at m1 8
      have h0 : w1.cell? ⟨w.heap.size + 1 + 1, 0, none⟩ = some (.int .i64 d) := cell_at m2 0
      have h1 : w1.cell? ⟨w.heap.size + 1 + 1, 1, none⟩ = some (.int .i64 p) := cell_at m2 1
      have h2 : w1.cell? ⟨w.heap.size + 1 + 1, 2, none⟩ = some (.int .i64 q) := cell_at m2 2
      have h3 : w1.cell? ⟨w.heap.size + 1 + 1, 3, none⟩ = some (.int .i64 g) := cell_at m2 3
      have h4 : w1.cell? ⟨w.heap.size + 1 + 1, 4, none⟩ = some (.int .i64 k) := cell_at m2 4
      have h5 : w1.cell? ⟨w.heap.size + 1 + 1, 5, none⟩ = some (.int .i64 s) := cell_at m2 5
      have h6 : w1.cell? ⟨w.heap.size + 1 + 1, 6, none⟩ = some (.int .i64 0) := cell_at m2 6
      have h7 : w1.cell? ⟨w.heap.size + 1 + 1, 7, none⟩ = some (.slice none 0 0) := cell_at m2 7
      have h8 : w1.cell? ⟨w.heap.size + 1 + 1, 8, none⟩ = some (.slice none 0 0) := cell_at m2 8
      clear k0 k1 k2 L L1 HH
      go_wp2_with fail
      refine (HP.out _).mono ?_
      rintro e w2 ⟨rfl, L2⟩
      have n0 := kept L2 (lt_of m0) m0
      have n1 := kept L2 (lt_of m1) m1
      have n2 := kept L2 (lt_of m2) m2
      have K2 := join_below K1 L2
      clear p0 p1 p2 r0 f0 h0 r1 f1 h1 r2 f2 h2 r3 f3 h3 r4 f4 h4 r5 f5 h5 r6 f6 h6 r7 f7 h7 r8 f8 h8
      have p0 : w2.cell? ⟨w.heap.size, 0, none⟩ = some (.int .i64 p) := cell_at n0 0
      have p1 : w2.cell? ⟨w.heap.size, 1, none⟩ = some (.int .i64 q) := cell_at n0 1
      have p2 : w2.cell? ⟨w.heap.size, 2, none⟩ = some (.int .i64 g) := cell_at n0 2
      have r0 : w2.cell? ⟨w.heap.size + 1, 0, none⟩ = some (.int .i64 0) := cell_at n1 0
      have r1 : w2.cell? ⟨w.heap.size + 1, 1, none⟩ = some (.int .i64 0) := cell_at n1 1
      have r2 : w2.cell? ⟨w.heap.size + 1, 2, none⟩ = some (.int .i64 0) := cell_at n1 2
      have r3 : w2.cell? ⟨w.heap.size + 1, 3, none⟩ = some (.int .i64 0) := cell_at n1 3
      have r4 : w2.cell? ⟨w.heap.size + 1, 4, none⟩ = some (.int .i64 0) := cell_at n1 4
      have r5 : w2.cell? ⟨w.heap.size + 1, 5, none⟩ = some (.int .i64 0) := cell_at n1 5
      have r6 : w2.cell? ⟨w.heap.size + 1, 6, none⟩ = some (.int .i64 0) := cell_at n1 6
      have r7 : w2.cell? ⟨w.heap.size + 1, 7, none⟩ = some (.slice none 0 0) := cell_at n1 7
      have r8 : w2.cell? ⟨w.heap.size + 1, 8, none⟩ = some (.slice none 0 0) := cell_at n1 8
      have f0 : w2.frozen? ⟨w.heap.size + 1, 0, none⟩ = false := frozen_at n1 0
      have f1 : w2.frozen? ⟨w.heap.size + 1, 1, none⟩ = false := frozen_at n1 1
      have f2 : w2.frozen? ⟨w.heap.size + 1, 2, none⟩ = false := frozen_at n1 2
      have f3 : w2.frozen? ⟨w.heap.size + 1, 3, none⟩ = false := frozen_at n1 3
      have f4 : w2.frozen? ⟨w.heap.size + 1, 4, none⟩ = false := frozen_at n1 4
      have f5 : w2.frozen? ⟨w.heap.size + 1, 5, none⟩ = false := frozen_at n1 5
      have f6 : w2.frozen? ⟨w.heap.size + 1, 6, none⟩ = false := frozen_at n1 6
      have f7 : w2.frozen? ⟨w.heap.size + 1, 7, none⟩ = false := frozen_at n1 7
      have f8 : w2.frozen? ⟨w.heap.size + 1, 8, none⟩ = false := frozen_at n1 8
      have h0 : w2.cell? ⟨w.heap.size + 1 + 1, 0, none⟩ = some (.int .i64 d) := cell_at n2 0
      have h1 : w2.cell? ⟨w.heap.size + 1 + 1, 1, none⟩ = some (.int .i64 p) := cell_at n2 1
      have h2 : w2.cell? ⟨w.heap.size + 1 + 1, 2, none⟩ = some (.int .i64 q) := cell_at n2 2
      have h3 : w2.cell? ⟨w.heap.size + 1 + 1, 3, none⟩ = some (.int .i64 g) := cell_at n2 3
      have h4 : w2.cell? ⟨w.heap.size + 1 + 1, 4, none⟩ = some (.int .i64 k) := cell_at n2 4
      have h5 : w2.cell? ⟨w.heap.size + 1 + 1, 5, none⟩ = some (.int .i64 s) := cell_at n2 5
      have h6 : w2.cell? ⟨w.heap.size + 1 + 1, 6, none⟩ = some (.int .i64 0) := cell_at n2 6
      have h7 : w2.cell? ⟨w.heap.size + 1 + 1, 7, none⟩ = some (.slice none 0 0) := cell_at n2 7
      have h8 : w2.cell? ⟨w.heap.size + 1 + 1, 8, none⟩ = some (.slice none 0 0) := cell_at n2 8
      clear m0 m1 m2 n0 n1 n2 L2 K1 HP
      go_wp2
      refine bodyPost_ret (v := .tuple #[hnV noX (zeroO), .bool false]) (by simp [results, Try.results15, go_sem, r0, r1, r2, r3, r4, r5, r6, r7, r8]) rfl ?_
      refine ⟨by rw [HV.out] <;> rfl, ?_⟩
      (repeat' (first | apply Below.setCell | exact K2)) <;> first | (simp; done) | (simp; omega)
    · have HV : Hid (startB d p q g k s = true) := by show _ = _; unfold startB; rw [hb, hp]; rfl
      rw [hp] at HP
      clear hb hp
      go_enter Try.func15, Try.ntmps15
      go_wp2_with fail
      refine named fun W0 hW => ?_
      rw [← hW] at k0 k1 k2 L
      clear hW
      refine (HH.out _).mono ?_
      rintro e w1 ⟨rfl, L1⟩
      have m0 := kept L1 (lt_of k0) k0
      have m1 := kept L1 (lt_of k1) k1
      have m2 := kept L1 (lt_of k2) k2
      have K1 := join_below L L1
      have p0 : w1.cell? ⟨w.heap.size, 0, none⟩ = some (.int .i64 p) := cell_at m0 0
      have p1 : w1.cell? ⟨w.heap.size, 1, none⟩ = some (.int .i64 q) := cell_at m0 1
      have p2 : w1.cell? ⟨w.heap.size, 2, none⟩ = some (.int .i64 g) := cell_at m0 2
      have r0 : w1.cell? ⟨w.heap.size + 1, 0, none⟩ = some (.int .i64 0) := cell_at m1 0
      have r1 : w1.cell? ⟨w.heap.size + 1, 1, none⟩ = some (.int .i64 0) := cell_at m1 1
      have r2 : w1.cell? ⟨w.heap.size + 1, 2, none⟩ = some (.int .i64 0) := cell_at m1 2
      have r3 : w1.cell? ⟨w.heap.size + 1, 3, none⟩ = some (.int .i64 0) := cell_at m1 3
      have r4 : w1.cell? ⟨w.heap.size + 1, 4, none⟩ = some (.int .i64 0) := cell_at m1 4
      have r5 : w1.cell? ⟨w.heap.size + 1, 5, none⟩ = some (.int .i64 0) := cell_at m1 5
      have r6 : w1.cell? ⟨w.heap.size + 1, 6, none⟩ = some (.int .i64 0) := cell_at m1 6
      have r7 : w1.cell? ⟨w.heap.size + 1, 7, none⟩ = some (.slice none 0 0) := cell_at m1 7
      have r8 : w1.cell? ⟨w.heap.size + 1, 8, none⟩ = some (.slice none 0 0) := cell_at m1 8
      have f0 : w1.frozen? ⟨w.heap.size + 1, 0, none⟩ = false := frozen_at m1 0
      have f1 : w1.frozen? ⟨w.heap.size + 1, 1, none⟩ = false := frozen_at m1 1
      have f2 : w1.frozen? ⟨w.heap.size + 1, 2, none⟩ = false := frozen_at m1 2
      have f3 : w1.frozen? ⟨w.heap.size + 1, 3, none⟩ = false := frozen_at m1 3
      have f4 : w1.frozen? ⟨w.heap.size + 1, 4, none⟩ = false := frozen_at m1 4
      have f5 : w1.frozen? ⟨w.heap.size + 1, 5, none⟩ = false := frozen_at m1 5
      have f6 : w1.frozen? ⟨w.heap.size + 1, 6, none⟩ = false := frozen_at m1 6
      have f7 : w1.frozen? ⟨w.heap.size + 1, 7, none⟩ = false := frozen_at m1 7
      have f8 : w1.frozen? ⟨w.heap.size + 1, 8, none⟩ = false := frozen_at m1 8
      have h0 : w1.cell? ⟨w.heap.size + 1 + 1, 0, none⟩ = some (.int .i64 d) := cell_at m2 0
      have h1 : w1.cell? ⟨w.heap.size + 1 + 1, 1, none⟩ = some (.int .i64 p) := cell_at m2 1
      have h2 : w1.cell? ⟨w.heap.size + 1 + 1, 2, none⟩ = some (.int .i64 q) := cell_at m2 2
      have h3 : w1.cell? ⟨w.heap.size + 1 + 1, 3, none⟩ = some (.int .i64 g) := cell_at m2 3
      have h4 : w1.cell? ⟨w.heap.size + 1 + 1, 4, none⟩ = some (.int .i64 k) := cell_at m2 4
      have h5 : w1.cell? ⟨w.heap.size + 1 + 1, 5, none⟩ = some (.int .i64 s) := cell_at m2 5
      have h6 : w1.cell? ⟨w.heap.size + 1 + 1, 6, none⟩ = some (.int .i64 0) := cell_at m2 6
      have h7 : w1.cell? ⟨w.heap.size + 1 + 1, 7, none⟩ = some (.slice none 0 0) := cell_at m2 7
      have h8 : w1.cell? ⟨w.heap.size + 1 + 1, 8, none⟩ = some (.slice none 0 0) := cell_at m2 8
      clear k0 k1 k2 L L1 HH
      go_wp2_with fail
      refine (HP.out _).mono ?_
      rintro e w2 ⟨rfl, L2⟩
      have n0 := kept L2 (lt_of m0) m0
      have n1 := kept L2 (lt_of m1) m1
      have n2 := kept L2 (lt_of m2) m2
      have K2 := join_below K1 L2
      clear p0 p1 p2 r0 f0 h0 r1 f1 h1 r2 f2 h2 r3 f3 h3 r4 f4 h4 r5 f5 h5 r6 f6 h6 r7 f7 h7 r8 f8 h8
      have p0 : w2.cell? ⟨w.heap.size, 0, none⟩ = some (.int .i64 p) := cell_at n0 0
      have p1 : w2.cell? ⟨w.heap.size, 1, none⟩ = some (.int .i64 q) := cell_at n0 1
      have p2 : w2.cell? ⟨w.heap.size, 2, none⟩ = some (.int .i64 g) := cell_at n0 2
      have r0 : w2.cell? ⟨w.heap.size + 1, 0, none⟩ = some (.int .i64 0) := cell_at n1 0
      have r1 : w2.cell? ⟨w.heap.size + 1, 1, none⟩ = some (.int .i64 0) := cell_at n1 1
      have r2 : w2.cell? ⟨w.heap.size + 1, 2, none⟩ = some (.int .i64 0) := cell_at n1 2
      have r3 : w2.cell? ⟨w.heap.size + 1, 3, none⟩ = some (.int .i64 0) := cell_at n1 3
      have r4 : w2.cell? ⟨w.heap.size + 1, 4, none⟩ = some (.int .i64 0) := cell_at n1 4
      have r5 : w2.cell? ⟨w.heap.size + 1, 5, none⟩ = some (.int .i64 0) := cell_at n1 5
      have r6 : w2.cell? ⟨w.heap.size + 1, 6, none⟩ = some (.int .i64 0) := cell_at n1 6
      have r7 : w2.cell? ⟨w.heap.size + 1, 7, none⟩ = some (.slice none 0 0) := cell_at n1 7
      have r8 : w2.cell? ⟨w.heap.size + 1, 8, none⟩ = some (.slice none 0 0) := cell_at n1 8
      have f0 : w2.frozen? ⟨w.heap.size + 1, 0, none⟩ = false := frozen_at n1 0
      have f1 : w2.frozen? ⟨w.heap.size + 1, 1, none⟩ = false := frozen_at n1 1
      have f2 : w2.frozen? ⟨w.heap.size + 1, 2, none⟩ = false := frozen_at n1 2
      have f3 : w2.frozen? ⟨w.heap.size + 1, 3, none⟩ = false := frozen_at n1 3
      have f4 : w2.frozen? ⟨w.heap.size + 1, 4, none⟩ = false := frozen_at n1 4
      have f5 : w2.frozen? ⟨w.heap.size + 1, 5, none⟩ = false := frozen_at n1 5
      have f6 : w2.frozen? ⟨w.heap.size + 1, 6, none⟩ = false := frozen_at n1 6
      have f7 : w2.frozen? ⟨w.heap.size + 1, 7, none⟩ = false := frozen_at n1 7
      have f8 : w2.frozen? ⟨w.heap.size + 1, 8, none⟩ = false := frozen_at n1 8
      have h0 : w2.cell? ⟨w.heap.size + 1 + 1, 0, none⟩ = some (.int .i64 d) := cell_at n2 0
      have h1 : w2.cell? ⟨w.heap.size + 1 + 1, 1, none⟩ = some (.int .i64 p) := cell_at n2 1
      have h2 : w2.cell? ⟨w.heap.size + 1 + 1, 2, none⟩ = some (.int .i64 q) := cell_at n2 2
      have h3 : w2.cell? ⟨w.heap.size + 1 + 1, 3, none⟩ = some (.int .i64 g) := cell_at n2 3
      have h4 : w2.cell? ⟨w.heap.size + 1 + 1, 4, none⟩ = some (.int .i64 k) := cell_at n2 4
      have h5 : w2.cell? ⟨w.heap.size + 1 + 1, 5, none⟩ = some (.int .i64 s) := cell_at n2 5
      have h6 : w2.cell? ⟨w.heap.size + 1 + 1, 6, none⟩ = some (.int .i64 0) := cell_at n2 6
      have h7 : w2.cell? ⟨w.heap.size + 1 + 1, 7, none⟩ = some (.slice none 0 0) := cell_at n2 7
      have h8 : w2.cell? ⟨w.heap.size + 1 + 1, 8, none⟩ = some (.slice none 0 0) := cell_at n2 8
      clear m0 m1 m2 n0 n1 n2 L2 K1 HP
      go_wp2
      refine bodyPost_ret (v := .tuple #[hnV noX (firstO d p q g k s), .bool true]) (by simp [results, Try.results15, go_sem, r0, r1, r2, r3, r4, r5, r6, r7, r8]) rfl ?_
      refine ⟨by rw [HV.out] <;> rfl, ?_⟩
      (repeat' (first | apply Below.setCell | exact K2)) <;> first | (simp; done) | (simp; omega)

theorem noX_mine (lo : Nat) (w : World) (o : Hnd) (h1 : o.ol = []) (h2 : o.sl = []) : Mine lo w noX o lo (lo + 1) := ⟨by omega, by omega, by omega, Or.inl (by rw [h1]; rfl), Or.inl (by rw [h2]; rfl)⟩

theorem specStart_is (d p q g k s : Int) (w : World) :
    Calls Try.prog 15 #[.int .i64 d, .agg #[.int .i64 p, .int .i64 q, .int .i64 g], .int .i64 k, .int .i64 s] w fun e w' => ∃ y, e = .returned (.tuple #[hnV y (startO (startB d p q g k s) d p q g k s), .bool (startB d p q g k s)]) ∧ In w' y (startO (startB d p q g k s) d p q g k s) ∧ Below w.heap.size w w' :=
  (specStart_val d p q g k s w).mono fun e w' h => ⟨noX, h.1, noX_in w' _ (start_ol _ _ _ _ _ _ _).1 (start_ol _ _ _ _ _ _ _).2, h.2⟩

theorem implStart_is (d p q g k s : Int) (w : World) :
    Calls Try.prog 17 #[.int .i64 d, .agg #[.int .i64 p, .int .i64 q, .int .i64 g], .int .i64 k, .int .i64 s] w fun e w' => ∃ y g1 g2, e = .returned (.tuple #[hnV y (startO (startB d p q g k s) d p q g k s), .bool (startB d p q g k s)]) ∧ In w' y (startO (startB d p q g k s) d p q g k s) ∧ Mine w.heap.size w' y (startO (startB d p q g k s) d p q g k s) g1 g2 ∧ Below w.heap.size w w' :=
  (implStart_val d p q g k s w).mono fun e w' h => ⟨noX, w.heap.size, w.heap.size + 1, h.1, noX_in w' _ (start_ol _ _ _ _ _ _ _).1 (start_ol _ _ _ _ _ _ _).2, noX_mine _ _ _ (start_ol _ _ _ _ _ _ _).1 (start_ol _ _ _ _ _ _ _).2, h.2⟩

end Hn
end Go.Proofs.Ytlgolnddhfadeaa
