/- Contracts of the laws' own helpers over texts that a function has made: held against others, marked, held against the marks. -/
import Derived.Test.YtehmlnojjfeheaaGreatLgSame
import Derived.Deep.RegionHeld3
namespace Go.Proofs.YtehmlnojjfeheaaGreat
namespace Gt
open Go.ChangeShapes Go.WideShapes Go.ChangeAt Go.RowKit
open Pk (own_at own_ge own_below own_form new_below join_below lt_of cell_at)
set_option linter.unusedSimpArgs false
set_option linter.unusedVariables false

/-- The digits of a number ahead of a text. -/
def mkF : Nat → Nat → ByteArray → ByteArray
  | 0, _, out => out
  | n + 1, k, out => if k = 0 then out else mkF n (k / 10) (⟨#[UInt8.ofNat (48 + k % 10)]⟩ ++ out)

theorem mkF_nil (n : Nat) (out : ByteArray) : mkF n 0 out = out := by cases n <;> simp [mkF]

/-- The text of a mark. -/
def mkT (k : Nat) : ByteArray := ⟨#[109]⟩ ++ mkF k k ⟨#[]⟩

theorem conv1 (w : World) (d : Nat) (hd : d < 10) :
    (convert 140 9 (.slice (some ⟨w.heap.size, 0, none⟩) 1 1)).run Tryz.prog (w.alloc (.cells #[.int .u8 (48 + (d : Int))] 5)) = .ok (.string ⟨#[UInt8.ofNat (48 + d)]⟩) (w.alloc (.cells #[.int .u8 (48 + (d : Int))] 5)) := by
  refine run_convert_bytes_back (w.alloc (.cells _ 5)) 140 9 5 ⟨w.heap.size, 0, none⟩ 1 [UInt8.ofNat (48 + d)] Tryz.underlying140 Tryz.underlying5 Tryz.underlying9 ?_
  intro j hj
  rw [show Addr.add ⟨w.heap.size, 0, none⟩ j = ⟨w.heap.size, j, none⟩ from by simp [Addr.add]; exact Eq.symm, World.cell?_alloc_mark]
  match j, hj with
  | 0, _ =>
    show some (Value.int IntKind.u8 (48 + (d : Int))) = some (.int .u8 ((UInt8.ofNat (48 + d)).toNat : Int))
    rw [UInt8.toNat_ofNat']
    congr 2
    omega

set_option maxRecDepth 100000 in
set_option maxHeartbeats 2000000 in
theorem markText_val (k0 : Nat) (w : World) (h1 : 1 ≤ k0) (hk0 : k0 ≤ 1152921504606846976) :
    Calls Tryz.prog 64 #[.int .i64 k0] w fun e w' => e = .returned (.string (mkT k0)) ∧ Below w.heap.size w w' := by
  have HM : Hid (mkT k0 = ⟨#[109]⟩ ++ mkF k0 k0 ⟨#[]⟩) := rfl
  generalize mkT k0 = R at *
  generalize hF : mkF k0 k0 ⟨#[]⟩ = F at *
  have hF : Hid (_) := hF
  have hk0I : ¬ (k0 : Int) ≤ 0 := by omega
  have hkI : (0 : Int) < (k0 : Int) := by omega
  go_enter Tryz.func64, Tryz.ntmps64
  go_wp2
  go_loopw [0, 3] (fun a t wr => ∃ (k n : Nat) (out : ByteArray), k ≤ n ∧ out.size + k ≤ k0 ∧ a = .int .i64 k ∧ t = .string out ∧ Hid (mkF n k out = F) ∧ Hid (Below w.heap.size w wr)) (fun a _ _ => (intOf a).toNat)
  case atStart => exact ⟨k0, k0, ⟨#[]⟩, Nat.le_refl _, by show 0 + k0 ≤ _; omega, rfl, rfl, hF, Below.refl _ _⟩
  case round =>
    clear hF hkI
    obtain ⟨k, n, out, hkn, ho, rfl, rfl, H, L⟩ := hrel
    by_cases hz : k = 0
    · subst hz
      rw [mkF_nil] at H
      have e : out = F := H
      subst e
      have q1 : ¬ 9223372036854775807 < 1 + out.size := by omega
      go_wp2
      go_ret
      exact ⟨by rw [HM.out]; rfl, L.out⟩
    · obtain ⟨n', rfl⟩ : ∃ n', n = n' + 1 := ⟨n - 1, by omega⟩
      rw [mkF, if_neg hz] at H
      have hpI : (0 : Int) < (k : Int) := by omega
      have hr : Int.tmod (k : Int) 10 = ((k % 10 : Nat) : Int) := by rw [Int.tmod_eq_emod_of_nonneg (by omega)]; omega
      have hq : Int.tdiv (k : Int) 10 = ((k / 10 : Nat) : Int) := by rw [Int.tdiv_eq_ediv_of_nonneg (by omega)]; omega
      obtain ⟨d, hd⟩ : ∃ d, k % 10 = d := ⟨_, rfl⟩
      obtain ⟨m, hm⟩ : ∃ m, k / 10 = m := ⟨_, rfl⟩
      rw [hd] at hr H
      rw [hm] at hq H
      have hd10 : d < 10 := by omega
      have hmk : m < k := by omega
      clear hd hm
      have hu : IntKind.u8.wrap (48 + (d : Int)) = 48 + (d : Int) := by rw [IntKind.wrap_u8]; omega
      have hcv := conv1 wr d hd10
      generalize hB : (⟨#[UInt8.ofNat (48 + d)]⟩ : ByteArray) = bt at *
      have hbz : bt.size = 1 := by rw [← hB]; rfl
      have L2 : Below w.heap.size w (wr.alloc (.cells #[.int .u8 (48 + (d : Int))] 5)) := L.out.alloc L.out.size _
      clear hB
      have q1 : ¬ 9223372036854775807 < bt.size + out.size := by omega
      go_wp2
      go_roundw
      case rel => exact ⟨m, n', bt ++ out, by omega, by rw [ByteArray.size_append]; omega, by go_num, rfl, H, L2⟩
      case measure => simp [intOf]; omega

/-- All blocks below B but one are as they were. -/
structure Kp (g B : Nat) (w w' : World) : Prop where
  os : w'.os = w.os
  tape : w'.tape = w.tape
  output : w'.output = w.output
  size : w.heap.size ≤ w'.heap.size
  block : ∀ b, b < B → b ≠ g → w'.heap[b]? = w.heap[b]?

theorem Kp.refl (g B : Nat) (w : World) : Kp g B w w := ⟨rfl, rfl, rfl, Nat.le_refl _, fun _ _ _ => rfl⟩

theorem Kp.on {g B : Nat} {a b c : World} (h : Kp g B a b) {D : Nat} (L : Below D b c) (hB : B ≤ D) : Kp g B a c :=
  ⟨L.os.trans h.os, L.tape.trans h.tape, L.output.trans h.output, Nat.le_trans h.size L.size, fun i h1 h2 => (L.block i (by omega)).trans (h.block i h1 h2)⟩

theorem Kp.set {g B : Nat} {a w : World} (h : Kp g B a w) (i : Nat) (u : Value) : Kp g B a (w.setCell ⟨g, i, none⟩ u) := by
  have L := (Below.refl 0 w).setCell (p := ⟨g, i, none⟩) (Nat.zero_le _) u
  refine ⟨L.os.trans h.os, L.tape.trans h.tape, L.output.trans h.output, by rw [World.size_setCell]; exact h.size, fun b h1 h2 => ?_⟩
  rw [Below.heap_setCell w ⟨g, i, none⟩ u b h2]
  exact h.block b h1 h2

theorem Kp.below {g B lo : Nat} {w w' : World} (h : Kp g B w w') (h1 : lo ≤ g) (h2 : lo ≤ B) : Below lo w w' := ⟨h.os, h.tape, h.output, h.size, fun k hk => h.block k (by omega) (by omega)⟩

/-- A slice of texts whose block is another one. -/
theorem Txts.kp {w w1 : World} {v : Value} {l : List ByteArray} {g B : Nat} (h : Txts w v l) (L : Kp g B w w1) (hB : w.heap.size ≤ B) (hv : ∀ b o n c, v = .slice (some ⟨b, o, none⟩) n c → b ≠ g) : Txts w1 v l := by
  obtain ⟨a, cap, rfl, h2⟩ := h
  refine ⟨a, cap, rfl, ?_⟩
  rcases h2 with h2 | ⟨b, rfl, hb, hc⟩
  · exact Or.inl h2
  · refine Or.inr ⟨b, rfl, Nat.lt_of_lt_of_le hb L.size, fun i hi => ?_⟩
    rw [World.cell?_of_block (a := ⟨b, i, none⟩) (L.block b (by omega) (hv _ _ _ _ rfl))]
    exact hc i hi

theorem own_lt {w : World} {base : Nat} {v : Value} {l : List ByteArray} (h : w.ownsRow base 9 1 v l.length (tcells l)) : ∀ b o n c, v = .slice (some ⟨b, o, none⟩) n c → b < w.heap.size := by
  intro b o n c e
  obtain ⟨-, h2⟩ := h
  rcases h2 with ⟨hv, -⟩ | ⟨g, cap, cur, hv, -, hh, -⟩
  · rw [hv] at e; cases e
  · rw [hv] at e
    cases e
    exact lt_of hh

theorem own_room {w : World} {base : Nat} {v : Value} {l : List ByteArray} (h : w.ownsRow base 9 1 v l.length (tcells l)) : ∃ g, base ≤ g ∧ (l.length = 0 ∨ ∃ c, v = .slice (some ⟨g, 0, none⟩) l.length c ∧ g < w.heap.size ∧ Pk.Room w g l.length) := by
  have h' := h
  obtain ⟨hl, h2⟩ := h
  rcases h2 with ⟨hv, h0⟩ | ⟨g, cap, cur, hv, hg, hh, h1, h3, h4, h5⟩
  · exact ⟨base, Nat.le_refl _, Or.inl h0⟩
  · refine ⟨g, hg, Or.inr ⟨cap, hv, lt_of hh, fun j hj => ⟨?_, Pk.frozen_at hh j⟩⟩⟩
    obtain ⟨g', cap', e, -, -, u, -, hc⟩ := own_at h' j hj
    rw [hv] at e
    simp only [Value.slice.injEq, Option.some.injEq, Addr.mk.injEq] at e
    exact ⟨u, by rw [e.1.1]; exact hc⟩

/-- The marks of n texts in block g. -/
def MarkedT (w : World) (g n : Nat) : Prop := ∀ i, i < n → w.cell? ⟨g, i, none⟩ = some (.string (mkT (i + 1)))

theorem MarkedT.on {w w1 : World} {g n B : Nat} (h : MarkedT w g n) (L : Below B w w1) (hg : g < B) : MarkedT w1 g n := by
  intro i hi
  rw [L.cell (p := ⟨g, i, none⟩) hg]
  exact h i hi

theorem MarkedT.step {w : World} {g n k : Nat} (h : MarkedT w g k) (R : Pk.Room w g n) (hk : k < n) : MarkedT (w.setCell ⟨g, k, none⟩ (.string (mkT (k + 1)))) g (k + 1) := by
  intro i hi
  by_cases e : i = k
  · subst e
    obtain ⟨⟨v0, e0⟩, -⟩ := R i hk
    rw [World.cell?_setCell_same _ _ _ e0]
  · rw [World.cell?_setCell_other _ _ _ _ (by intro h; apply e; simpa using h.symm)]
    exact h i (by omega)

end Gt
end Go.Proofs.YtehmlnojjfeheaaGreat
