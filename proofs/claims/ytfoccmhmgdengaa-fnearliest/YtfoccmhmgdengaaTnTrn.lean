/- Contracts of the laws' own helpers over trains: their size, a copy, two of them held against each other; a train that came in. -/
import Derived.Test.YtfoccmhmgdengaaTnOk2
import Derived.Deep.Slices
import Derived.Deep.Strs
import Derived.Lib.SmallJoins
namespace Go.Proofs.Ytfoccmhmgdengaa
namespace Tn
open Go.ChangeShapes Go.WideShapes Go.ChangeAt Go.RowKit Go.Joins
open Pk (new_below join_below cell_at heap_new frozen_at lt_of kept heap_old)
set_option linter.unusedSimpArgs false
set_option linter.unusedVariables false

theorem named {P : Program} {f : FuncId} {args : Array Value} {w : World} {post : Ending → World → Prop} (h : ∀ W, W = w → Calls P f args W post) : Calls P f args w post := h w rfl

theorem h_set {w : World} {c i : Nat} {cs : Array Value} {t : TypeId} {f : Nat × Nat} (h : w.heap[c]? = some (.cells cs t f)) (u : Value) : (w.setCell ⟨c, i, none⟩ u).heap[c]? = some (.cells (cs.setIfInBounds i u) t f) := by
  unfold World.setCell
  simp [Array.getElem?_modify, h]

theorem h_other {w : World} {c g i : Nat} {x : Obj} (h : w.heap[c]? = some x) (hne : c ≠ g) (u : Value) : (w.setCell ⟨g, i, none⟩ u).heap[c]? = some x := by
  rw [Below.heap_setCell w ⟨g, i, none⟩ u c hne]
  exact h

theorem three_blocks (w : World) (a b c : Obj) : (((w.alloc a).alloc b).alloc c).heap[w.heap.size]? = some a ∧ (((w.alloc a).alloc b).alloc c).heap[w.heap.size + 1]? = some b ∧ (((w.alloc a).alloc b).alloc c).heap[w.heap.size + 1 + 1]? = some c := by
  have e1 : (w.alloc a).heap.size = w.heap.size + 1 := Array.size_push ..
  have e2 : ((w.alloc a).alloc b).heap.size = w.heap.size + 1 + 1 := by rw [← e1]; exact Array.size_push ..
  refine ⟨heap_old (heap_old (heap_new w a) b) c, ?_, ?_⟩
  · rw [← e1]; exact heap_old (heap_new (w.alloc a) b) c
  · rw [← e2]; exact heap_new ((w.alloc a).alloc b) c

theorem cell_other {w : World} {b o : Nat} {p : Addr} {u : Value} (h : p.block ≠ b) : (w.setCell ⟨b, o, none⟩ u).cell? p = w.cell? p := World.cell?_of_block (Below.heap_setCell _ _ _ _ h)

theorem szStopS_yes (a : Option Addr) (n cap : Nat) (z : Int) (w : World) (hz : z ≤ 1048576) (h : (n : Int) ≤ z) :
    Calls Try.prog 65 #[.slice a n cap, .int .i64 z] w fun e w' => e = .returned (.int .i64 (z - (n : Int))) ∧ w' = w := by
  have hd : decide (z - (n : Int) < 0) = false := decide_eq_false (by omega)
  go_enter Try.func65, Try.ntmps65
  go_wp2
  go_ret
  exact ⟨rfl, rfl⟩

theorem szStopS_no (a : Option Addr) (n cap : Nat) (z : Int) (w : World) (hz : z ≤ 1048576) (h0 : 0 ≤ z) (hn : n ≤ maxLen) (h : z < (n : Int)) :
    Calls Try.prog 65 #[.slice a n cap, .int .i64 z] w fun e w' => e = .returned (.int .i64 (-1)) ∧ w' = w := by
  unfold maxLen at hn
  have hd : decide (z - (n : Int) < 0) = true := decide_eq_true (by omega)
  go_enter Try.func65, Try.ntmps65
  go_wp2
  go_ret
  exact ⟨rfl, rfl⟩

theorem szTrain_yes (t : Hd) (a : Option Addr) (n cap : Nat) (z : Int) (w : World) (hz : z ≤ 1048576) (h : (n : Int) ≤ z) :
    Calls Try.prog 43 #[trV t a n cap, .int .i64 z] w fun e w' => e = .returned (.int .i64 (z - (n : Int))) ∧ Below w.heap.size w w' := by
  have hd : decide (z - (n : Int) < 0) = false := decide_eq_false (by omega)
  have N := new_below w (trB t a n cap 85)
  go_enter Try.func43, Try.ntmps43
  go_wp2_with fail
  refine (szStopS_yes a n cap z _ hz h).mono ?_
  rintro e w1 ⟨rfl, rfl⟩
  go_wp2
  go_ret
  exact ⟨rfl, N⟩

theorem szTrain_no (t : Hd) (a : Option Addr) (n cap : Nat) (z : Int) (w : World) (hz : z ≤ 1048576) (h0 : 0 ≤ z) (hn : n ≤ maxLen) (h : z < (n : Int)) :
    Calls Try.prog 43 #[trV t a n cap, .int .i64 z] w fun e w' => e = .returned (.int .i64 (-1)) ∧ Below w.heap.size w w' := by
  have N := new_below w (trB t a n cap 85)
  go_enter Try.func43, Try.ntmps43
  go_wp2_with fail
  refine (szStopS_no a n cap z _ hz h0 hn h).mono ?_
  rintro e w1 ⟨rfl, rfl⟩
  go_wp2
  go_ret
  exact ⟨rfl, N⟩

theorem Stops.keep {w w1 : World} {a : Option Addr} {ps : List St} {lo hi : Nat} (h : Stops w a ps) (hsz : w.heap.size ≤ w1.heap.size) (hc : ∀ p : Addr, p.block < lo ∨ hi ≤ p.block → w1.cell? p = w.cell? p) (ha : ∀ b o, a = some ⟨b, o, none⟩ → b < lo ∨ hi ≤ b) : Stops w1 a ps := by
  rcases h with h | ⟨b, o, e, hb, hcc⟩
  · exact Or.inl h
  · refine Or.inr ⟨b, o, e, by omega, fun i hi => ?_⟩
    have hbb := ha b o e
    rw [hc ⟨b, o + i * 3, none⟩ hbb, hc ⟨b, o + i * 3 + 1, none⟩ hbb, hc ⟨b, o + i * 3 + 2, none⟩ hbb]
    exact hcc i hi

set_option maxHeartbeats 4000000 in
theorem toTrain_val (t : Hd) (a : Option Addr) (ls : List St) (cap : Nat) (w : World) (hz : ls.length ≤ 1048576) (I : Stops w a ls) :
    Calls Try.prog 44 #[trV t a ls.length cap] w fun e w' => ∃ g, e = .returned (trV t (some ⟨g, 0, none⟩) ls.length ls.length) ∧ w.heap.size ≤ g ∧ Below w.heap.size w w' ∧ g < w'.heap.size ∧ Stops w' (some ⟨g, 0, none⟩) ls ∧ Pk.Room w' g (ls.length * 3) := by
  obtain ⟨k0, k1, k2⟩ := three_blocks w (trB t a ls.length cap 85) (.cells #[.int .i64 0, .int .i64 0, .int .i64 0, .int .i64 0, .slice none 0 0] 33) (.cells #[.int .i64 t.id, .int .i64 t.dy, .int .i64 t.co, .int .i64 t.se, .slice none 0 0] 33)
  have HM1 : Hid (_) := k1
  have HM2 : Hid (_) := k2
  clear k0 k1 k2
  go_enter Try.func44, Try.ntmps44
  go_wp2_with fail
  refine named fun W3 hW => ?_
  have L3 : Below w.heap.size w W3 := by
    rw [hW]
    (repeat' (first | apply Below.setCell | apply Below.alloc | exact Below.refl _ _)) <;> first | (simp; done) | (simp; omega)
  have M1 : W3.heap[w.heap.size + 1]? = some (.cells #[.int .i64 0, .int .i64 0, .int .i64 0, .int .i64 0, .slice none 0 0] 33) := by rw [hW]; exact HM1.out
  have M2 : W3.heap[w.heap.size + 1 + 1]? = some (.cells #[.int .i64 t.id, .int .i64 t.dy, .int .i64 t.co, .int .i64 t.se, .slice none 0 0] 33) := by rw [hW]; exact HM2.out
  clear hW HM1 HM2
  refine (toStopS_val a ls cap W3 hz (I.on L3)).mono ?_
  rintro e w5 ⟨rfl, L5, I5, hl5, R5⟩
  have n1 := kept L5 (lt_of M1) M1
  have n2 := kept L5 (lt_of M2) M2
  have hne : W3.heap.size ≠ w.heap.size + 1 ∧ W3.heap.size ≠ w.heap.size + 1 + 1 := by
    have := lt_of M1
    have := lt_of M2
    omega
  have HG : Hid (w.heap.size ≤ W3.heap.size) := L3.size
  have HGS : Hid (W3.heap.size < w5.heap.size) := hl5
  have HRM : Hid (Pk.Room w5 W3.heap.size (ls.length * 3)) := R5
  clear R5
  have L6 := join_below L3 L5
  generalize W3.heap.size = g at *
  clear L3 M1 M2 L5 I
  have f1 : ∀ i, w5.frozen? ⟨w.heap.size + 1, i, none⟩ = false := fun i => frozen_at n1 i
  have f2 : w5.frozen? ⟨w.heap.size + 1 + 1, 4, none⟩ = false := frozen_at n2 4
  have r0 := f1 0
  have r1 := f1 1
  have r2 := f1 2
  have r3 := f1 3
  have r4 := f1 4
  have a0 : w5.cell? ⟨w.heap.size + 1, 0, none⟩ = some (.int .i64 0) := cell_at n1 0
  have a1 : w5.cell? ⟨w.heap.size + 1, 1, none⟩ = some (.int .i64 0) := cell_at n1 1
  have a2 : w5.cell? ⟨w.heap.size + 1, 2, none⟩ = some (.int .i64 0) := cell_at n1 2
  have a3 : w5.cell? ⟨w.heap.size + 1, 3, none⟩ = some (.int .i64 0) := cell_at n1 3
  have a4 : w5.cell? ⟨w.heap.size + 1, 4, none⟩ = some (.slice none 0 0) := cell_at n1 4
  have b0 : w5.cell? ⟨w.heap.size + 1 + 1, 0, none⟩ = some (.int .i64 t.id) := cell_at n2 0
  have b1 : w5.cell? ⟨w.heap.size + 1 + 1, 1, none⟩ = some (.int .i64 t.dy) := cell_at n2 1
  have b2 : w5.cell? ⟨w.heap.size + 1 + 1, 2, none⟩ = some (.int .i64 t.co) := cell_at n2 2
  have b3 : w5.cell? ⟨w.heap.size + 1 + 1, 3, none⟩ = some (.int .i64 t.se) := cell_at n2 3
  have b4 : w5.cell? ⟨w.heap.size + 1 + 1, 4, none⟩ = some (.slice none 0 0) := cell_at n2 4
  have HI : Hid (∀ W, (∀ p : Addr, p.block ≠ w.heap.size + 1 → p.block ≠ w.heap.size + 1 + 1 → W.cell? p = w5.cell? p ∧ W.frozen? p = w5.frozen? p) → W.heap.size = w5.heap.size → g < W.heap.size ∧ Stops W (some ⟨g, 0, none⟩) ls ∧ Pk.Room W g (ls.length * 3)) := by
    intro W hc hsz
    refine ⟨?_, ?_, ?_⟩
    · rw [hsz]
      exact HGS.out
    · rcases I5 with h | ⟨b, o, ha, hb, hcc⟩
      · exact Or.inl h
      · simp only [Option.some.injEq, Addr.mk.injEq] at ha
        obtain ⟨rfl, rfl, -⟩ := ha
        refine Or.inr ⟨g, 0, rfl, by omega, fun i hi => ?_⟩
        rw [(hc ⟨g, 0 + i * 3, none⟩ hne.1 hne.2).1, (hc ⟨g, 0 + i * 3 + 1, none⟩ hne.1 hne.2).1, (hc ⟨g, 0 + i * 3 + 2, none⟩ hne.1 hne.2).1]
        exact hcc i hi
    · intro j hj
      rw [(hc ⟨g, j, none⟩ hne.1 hne.2).1, (hc ⟨g, j, none⟩ hne.1 hne.2).2]
      exact HRM.out j hj
  clear n1 n2 f1 I5 hne
  go_wp2
  refine bodyPost_ret (v := trV t (some ⟨g, 0, none⟩) ls.length ls.length) (by simp [results, Try.results44, go_sem, a0, a1, a2, a3, a4]) rfl ?_
  refine ⟨g, rfl, HG.out, ?_, ?_⟩
  · (repeat' (first | apply Below.setCell | exact L6)) <;> first | (simp; done) | (simp; omega)
  · refine HI.out _ ?_ ?_
    · intro p h1 h2
      refine ⟨?_, ?_⟩
      · repeat (first | rw [cell_other h1] | rw [cell_other h2])
      · repeat rw [World.frozen?_setCell]
    · simp

theorem eqTrain_same (t : Hd) (a b : Option Addr) (ls : List St) (c1 c2 : Nat) (w : World) (hz : ls.length ≤ 1048576) (I : Stops w a ls) (J : Stops w b ls) :
    Calls Try.prog 46 #[trV t a ls.length c1, trV t b ls.length c2] w fun e w' => e = .returned (.bool true) ∧ Below w.heap.size w w' := by
  have N := join_below (new_below w (trB t a ls.length c1 33)) (new_below _ (trB t b ls.length c2 33))
  go_enter Try.func46, Try.ntmps46
  go_wp2_with fail
  refine (eqStopS_same a b ls c1 c2 _ hz (I.on N) (J.on N)).mono ?_
  rintro e w1 ⟨rfl, L1⟩
  go_wp2
  go_ret
  exact ⟨rfl, join_below N L1⟩

end Tn
end Go.Proofs.Ytfoccmhmgdengaa
