/- Contracts of the program's writer of bits. -/
import Derived.Test.YtcifgableeeooabDoorPkRow
import Derived.Test.YtcifgableeeooabDoorMathBit
import Derived.BigRegion
import Derived.OneCell
namespace Go.Proofs.YtcifgableeeooabDoor
namespace Pk
open Go.ChangeShapes Go.WideShapes Go.ChangeAt Go.RowKit
open Math (Bits bytesOf)
set_option linter.unusedSimpArgs false
set_option linter.unusedVariables false

/-- A block with a cell written. -/
theorem heap_set {w : World} {c i : Nat} {cs : Array Value} {t : TypeId} {f : Nat × Nat} (h : w.heap[c]? = some (.cells cs t f)) (u : Value) : (w.setCell ⟨c, i, none⟩ u).heap[c]? = some (.cells (cs.setIfInBounds i u) t f) := by
  unfold World.setCell
  simp [Array.getElem?_modify, h]

theorem heap_set_other {w : World} {c g i : Nat} {x : Obj} (h : w.heap[c]? = some x) (hne : c ≠ g) (u : Value) : (w.setCell ⟨g, i, none⟩ u).heap[c]? = some x := by
  rw [Below.heap_setCell w ⟨g, i, none⟩ u c hne]
  exact h

/-- A row with a cell of its own written. -/
theorem own_set {w : World} {base e g n cap i : Nat} {xs : List Value} (h : w.ownsRow base e 1 (.slice (some ⟨g, 0, none⟩) n cap) n xs) (hi : i < n) (u : Value) : (w.setCell ⟨g, i, none⟩ u).ownsRow base e 1 (.slice (some ⟨g, 0, none⟩) n cap) n (xs.set i u) := by
  obtain ⟨hl, h2⟩ := h
  rcases h2 with ⟨hv, -⟩ | ⟨g', cap', cur, hv, hg, hh, h1, h3, h4, h5⟩
  · cases hv
  · simp only [Value.slice.injEq, Option.some.injEq, Addr.mk.injEq] at hv
    obtain ⟨⟨rfl, -⟩, -, rfl⟩ := hv
    refine ⟨by rw [List.length_set]; exact hl, Or.inr ⟨g, cap, _, rfl, hg, heap_set hh u, h1, h3, by rw [Array.size_setIfInBounds]; exact h4, ?_⟩⟩
    rw [Array.toList_setIfInBounds, ← h5, List.take_set]

/-- What is kept: every block that is neither one of bytes nor a writer. -/
def KeepT (w w1 : World) : Prop := ∀ (k : Nat) (cs : Array Value) (t : TypeId) (f : Nat × Nat), w.heap[k]? = some (.cells cs t f) → t ≠ 5 → t ≠ 79 → w1.heap[k]? = some (.cells cs t f)

/-- Of writers (79). -/
theorem KeepT.refl (w : World) : KeepT w w := fun _ _ _ _ h _ _ => h

/-- Of writers (79). -/
theorem KeepT.trans {w w1 w2 : World} (h : KeepT w w1) (g : KeepT w1 w2) : KeepT w w2 := fun k cs t f m h1 h2 => g k cs t f (h k cs t f m h1 h2) h1 h2

theorem KeepT.set {w w1 : World} {c i : Nat} {cs : Array Value} {t : TypeId} {f : Nat × Nat} (h : KeepT w w1) (m : w1.heap[c]? = some (.cells cs t f)) (ht : t = 5 ∨ t = 79) (u : Value) : KeepT w (w1.setCell ⟨c, i, none⟩ u) := by
  intro k cs' t' f' m' h1 h2
  have m1 := h k cs' t' f' m' h1 h2
  by_cases e : k = c
  · subst e
    rw [m] at m1
    simp only [Option.some.injEq, Obj.cells.injEq] at m1
    rcases ht with ht | ht
    · exact absurd (m1.2.1.symm.trans ht) h1
    · exact absurd (m1.2.1.symm.trans ht) h2
  · exact heap_set_other m1 e u

/-- Of writers (79). -/
theorem KeepT.drew {w w1 : World} (h : KeepT w w1) : KeepT w w1.drew := h

/-- Of writers (79). -/
theorem KeepT.of {w w1 : World} (L : Below w.heap.size w w1) : KeepT w w1 := fun _ _ _ _ m _ _ => kept L (lt_of m) m

theorem KeepT.row {w w1 : World} {base e size : Nat} {v : Value} {n : Nat} {xs : List Value} (K : KeepT w w1) (h : w.ownsRow base e size v n xs) (h1 : e ≠ 5) (h2 : e ≠ 79) : w1.ownsRow base e size v n xs := by
  obtain ⟨ha, hb⟩ := h
  refine ⟨ha, ?_⟩
  rcases hb with hb | ⟨g, cap, cur, hv, hg, hh, hr⟩
  · exact Or.inl hb
  · exact Or.inr ⟨g, cap, cur, hv, hg, K _ _ _ _ hh h1 h2, hr⟩

theorem KeepT.two {w : World} {g c q : Nat} {cur cs : Array Value} {u u2 : Value} (hh : w.heap[g]? = some (.cells cur 5)) (m : w.heap[c]? = some (.cells cs 79)) (hgc : g ≠ c) : KeepT w ((w.setCell ⟨g, q, none⟩ u).setCell ⟨c, 1, none⟩ u2).drew :=
  (((KeepT.refl w).set hh (Or.inl rfl) u).set (heap_set_other m (Ne.symm hgc) u) (Or.inr rfl) u2).drew

/-- The writer at block c holds these bits. -/
def Wr (B c : Nat) (l : List Nat) (w : World) : Prop := B ≤ c ∧ Bits l ∧ ∃ v, w.heap[c]? = some (.cells #[v, .int .i64 (l.length : Int)] 79) ∧ w.ownsRow B 5 1 v (bytesOf l).length (bcells (bytesOf l))

theorem own_block {w : World} {base e size g n cap : Nat} {xs : List Value} (h : w.ownsRow base e size (.slice (some ⟨g, 0, none⟩) n cap) n xs) : ∃ cur, w.heap[g]? = some (.cells cur e) := by
  obtain ⟨-, h2⟩ := h
  rcases h2 with ⟨hv, -⟩ | ⟨g', cap', cur, hv, hg, hh, -⟩
  · cases hv
  · simp only [Value.slice.injEq, Option.some.injEq, Addr.mk.injEq] at hv
    rw [hv.1.1]
    exact ⟨cur, hh⟩

theorem own_type {w : World} {base e size : Nat} {v : Value} {n : Nat} {xs : List Value} (h : w.ownsRow base e size v n xs) : ∀ g, v.ownBlock = some g → ∃ cur, w.heap[g]? = some (.cells cur e) := by
  obtain ⟨-, h2⟩ := h
  intro g hg
  rcases h2 with ⟨hv, -⟩ | ⟨g', cap', cur, hv, -, hh, -⟩
  · rw [hv] at hg
    cases hg
  · rw [hv] at hg
    simp only [Value.ownBlock, Option.some.injEq] at hg
    subst hg
    exact ⟨cur, hh⟩

/-- Of writers (79). -/
theorem KeepT.grown {w w1 w2 : World} {o : Option Nat} (K : KeepT w w1) (G : w1.grownBy w2 o) (ho : ∀ g, o = some g → ∃ cur, w1.heap[g]? = some (.cells cur 5)) : KeepT w w2 := by
  intro k cs t f m h1 h2
  have m1 := K k cs t f m h1 h2
  rw [G.block k (lt_of m1) (by
    intro e
    obtain ⟨cur, hc⟩ := ho k e.symm
    rw [hc] at m1
    simp only [Option.some.injEq, Obj.cells.injEq] at m1
    exact h1 m1.2.1.symm)]
  exact m1

theorem bcells_set (l : List UInt8) (i : Nat) (b : UInt8) : (bcells l).set i (.int .u8 (b.toNat : Int)) = bcells (l.set i b) := by simp [bcells, List.map_set]

theorem wrap_small (z : Nat) (h : z < 256) : wrap64 (z : Int) % 256 = (z : Int) := by
  unfold wrap64
  omega

theorem or_val (X b r : Nat) (hlow : X < 2 ^ r) (hsum : X + b * 2 ^ r < 256) : bits BinOp.or IntKind.u8 (X : Int) (wrap64 ((b : Int) * 2 ^ r) % 256) = ((UInt8.ofNat (X + b * 2 ^ r)).toNat : Int) := by
  have e4 : (b : Int) * 2 ^ r = ((b * 2 ^ r : Nat) : Int) := by simp
  rw [e4, wrap_small _ (by omega), Math.bits_or_u8 X (b * 2 ^ r) (by omega) (by omega), Math.or_low X b r hlow, UInt8.toNat_ofNat', Nat.mod_eq_of_lt hsum]

theorem bit_end {B c N q g M cap : Nat} {l : List Nat} {b : Nat} {w : World} {y : Int} {z : UInt8} {bs : List UInt8} (hBc : B ≤ c) (hbits : Bits l) (hb : b ≤ 1) (HL : l.length = N) (m : w.heap[c]? = some (.cells #[.slice (some ⟨g, 0, none⟩) M cap, .int .i64 (N : Int)] 79)) (hgc : g ≠ c)
    (hown : w.ownsRow B 5 1 (.slice (some ⟨g, 0, none⟩) M cap) M (bcells bs)) (hq : q < M) (hM : bs.length = M) (hne : (Value.slice (some ⟨g, 0, none⟩) M cap).ownBlock ≠ some c) (hy : y = (z.toNat : Int)) (hset : bytesOf (l ++ [b]) = bs.set q z) :
    Wr B c (l ++ [b]) ((w.setCell ⟨g, q, none⟩ (.int .u8 y)).setCell ⟨c, 1, none⟩ (.int .i64 ((N : Int) + 1))).drew := by
  subst hy
  refine ⟨hBc, hbits.append (Math.Bits.one hb), .slice (some ⟨g, 0, none⟩) M cap, ?_, ?_⟩
  · have h1 := heap_set (i := 1) (heap_set_other (g := g) (i := q) m (Ne.symm hgc) (.int .u8 (z.toNat : Int))) (.int .i64 ((N : Int) + 1))
    have e : ((l ++ [b]).length : Int) = (N : Int) + 1 := by rw [List.length_append, HL]; simp
    rw [e]
    exact h1
  · have h1 := ownsRow_setCell_other (own_set hown (i := q) hq (.int .u8 (z.toNat : Int))) (a := ⟨c, 1, none⟩) hne (.int .i64 ((N : Int) + 1))
    rw [bcells_set, ← hset] at h1
    have h2 : (bytesOf (l ++ [b])).length = M := by rw [hset, List.length_set]; exact hM
    rw [h2]
    exact h1

theorem or_zero (b : Nat) (hb : b ≤ 1) : bits BinOp.or IntKind.u8 0 (b : Int) = ((UInt8.ofNat b).toNat : Int) := by
  have h := Math.bits_or_u8 0 b (by omega) (by omega)
  rw [Nat.zero_or] at h
  rw [UInt8.toNat_ofNat', Nat.mod_eq_of_lt (by omega)]
  exact h

theorem set_last (l : List UInt8) (x y : UInt8) (q : Nat) (h : l.length = q) : (l ++ [x]).set q y = l ++ [y] := by
  subst h
  simp

set_option maxHeartbeats 2000000 in
theorem bit_more (B c N q r : Nat) (l : List Nat) (b : Nat) (w : World) (H : Wr B c l w) (hb : b ≤ 1) (hN : N ≤ 1000000) (HL : Hid (l.length = N)) (hq : N = 8 * q + r) (hr : r < 8) (hr0 : r ≠ 0) :
    Calls Tryd.prog 109 #[.pointer (some ⟨c, 0, none⟩), .int .i64 b] w fun e w' => e = .returned (.tuple #[]) ∧ Wr B c (l ++ [b]) w' ∧ Below B w w' ∧ KeepT w w' := by
  obtain ⟨hBc, hbits, v, m, hown⟩ := H
  have hlen := Math.bytesOf_length l
  rw [HL.out] at m hlen
  obtain ⟨g, cap, rfl, hg1, hg2, u, hu, hc⟩ := own_at hown q (by omega)
  have hne := own_ne' hown m (by decide)
  have hbl : (bytesOf l)[q]'(by omega) = UInt8.ofNat (Math.byteAt l q) := by simp [bytesOf]
  rw [bcells_at _ _ (by omega), hbl] at hu
  simp only [Option.some.injEq] at hu
  subst hu
  have hbt := Math.byteAt_lt hbits q
  rw [UInt8.toNat_ofNat', Nat.mod_eq_of_lt hbt] at hc
  have hlow := Math.byteAt_low hbits
  have hmore := Math.bytesOf_more l b (by rw [HL.out]; omega)
  rw [HL.out, show N / 8 = q by omega, show N % 8 = r by omega] at hlow hmore
  have HM : Hid (_) := hmore
  clear hmore hbl
  generalize Math.byteAt l q = X at *
  have hsum : X + b * 2 ^ r < 256 := by
    have h2 : 2 ^ r ≤ 2 ^ 7 := Nat.pow_le_pow_right (by omega) (by omega)
    have h3 : b * 2 ^ r ≤ 1 * 2 ^ r := Nat.mul_le_mul_right _ hb
    omega
  obtain ⟨cur, hh⟩ := own_block hown
  have HHH : Hid (_) := hh
  have hf : w.frozen? ⟨g, q, none⟩ = false := frozen_at hh q
  clear hh
  have c0 : w.cell? ⟨c, 0, none⟩ = some (.slice (some ⟨g, 0, none⟩) (bytesOf l).length cap) := cell_at m 0
  have c1 : w.cell? ⟨c, 1, none⟩ = some (.int .i64 N) := cell_at m 1
  have f1 : w.frozen? ⟨c, 1, none⟩ = false := frozen_at m 1
  have hgc : g ≠ c := fun e => hne (by rw [e]; rfl)
  have e1 : (N : Int) / 8 = q := by omega
  have e2 : (N : Int) % 8 = r := by omega
  have e3 : ((r : Int) == 0) = false := by rw [beq_eq_false_iff_ne]; omega
  have hql : (q : Int) < (bytesOf l).length := by omega
  have HQ : Hid (N = 8 * q + r) := hq
  have HMM : Hid (_) := m
  have HNE : Hid (_) := hne
  have HLN : Hid ((bytesOf l).length = (N + 7) / 8) := hlen
  clear hq hlen hne m hbt
  generalize hML : (bytesOf l).length = M at *
  have HML : Hid (_) := hML
  clear hML
  go_enter Tryd.func109, Tryd.ntmps109
  go_wp2
  go_region
  go_wp2
  go_end0
  exact ⟨rfl, bit_end hBc hbits hb HL HMM.out hgc hown (by omega) HML.out HNE.out (or_val X b r hlow hsum) HM.out, (((Below.refl B w).setCell hg1 _).setCell hBc _).drew, KeepT.two HHH.out HMM.out hgc⟩

set_option maxHeartbeats 2000000 in
theorem bit_new (B c N q : Nat) (l : List Nat) (b : Nat) (w : World) (H : Wr B c l w) (hB : B ≤ w.heap.size) (hb : b ≤ 1) (hN : N ≤ 1000000) (HL : Hid (l.length = N)) (hq : N = 8 * q) :
    Calls Tryd.prog 109 #[.pointer (some ⟨c, 0, none⟩), .int .i64 b] w fun e w' => e = .returned (.tuple #[]) ∧ Wr B c (l ++ [b]) w' ∧ Below B w w' ∧ KeepT w w' := by
  obtain ⟨i0, hi, hz0, hz1, hz2⟩ := info_of info_u8
  obtain ⟨hBc, hbits, v, m, hown⟩ := H
  have hlen := Math.bytesOf_length l
  rw [HL.out] at m hlen
  have hM : (bytesOf l).length = q := by omega
  rw [hM] at hown
  have hnew := Math.bytesOf_new l b (by rw [HL.out]; omega)
  have HW : Hid (_) := hnew
  have HML : Hid (_) := hM
  have hne := own_ne hown m (by decide)
  have hmc := lt_of m
  have c0 : w.cell? ⟨c, 0, none⟩ = some v := cell_at m 0
  have c1 : w.cell? ⟨c, 1, none⟩ = some (.int .i64 N) := cell_at m 1
  have e2 : (N : Int) % 8 = 0 := by omega
  have e1 : (N : Int) / 8 = q := by omega
  have HQ : Hid (N = 8 * q) := hq
  have hqb : q ≤ 1000000 := by omega
  obtain ⟨va, vc, rfl, -⟩ := own_form hown
  clear hq hlen hM hnew
  go_enter Tryd.func109, Tryd.ntmps109
  go_wp2_with (at_builtin; refine wpList_append_own _ rfl _ _ 22 rfl B 5 i0 (.int .u8 0) 1 1 Tryd.underlying22 hi hz0 hz1 hz2 rfl (by decide) _ _ _ rfl (hown.alloc _) ⟨w.heap.size, 0, none⟩ 1 1 [.int .u8 0] rfl rfl ?c1 ?c2 ?c3 ?c4 ?c5 ?_)
  case c1 => exact cell_one_new _ _ _
  case c2 => intro u hu; simp at hu; subst hu; rfl
  case c3 => unfold maxLen; omega
  case c4 => omega
  case c5 => simp; omega
  intro v' w3 hown3 hgrow _
  have L3 : Below B w w3 := ((Below.refl B w).alloc hB _).grown hgrow (by simp; omega) (fun k h => own_ge hown k h)
  have m3 : w3.heap[c]? = some (.cells #[.slice va q vc, .int .i64 N] 79) := by
    rw [hgrow.block c (by simp; omega) hne]
    exact heap_old m _
  have hne3 := own_ne' hown3 m3 (by decide)
  have hs := bcells_snoc (bytesOf l) 0
  rw [show ((0 : UInt8).toNat : Int) = 0 from rfl] at hs
  rw [hs] at hown3
  obtain ⟨g, cap, rfl, hg1, hg2, u, hu, hc⟩ := own_at hown3 q (by omega)
  rw [bcells_at _ _ (by rw [List.length_append, HML.out]; simp)] at hu
  simp only [Option.some.injEq] at hu
  subst hu
  have hz : (bytesOf l ++ [0])[q]'(by rw [List.length_append, HML.out]; simp) = 0 := by
    rw [List.getElem_append_right (by rw [HML.out]; exact Nat.le_refl _)]
    simp
  rw [hz] at hc
  have hc : w3.cell? ⟨g, q, none⟩ = some (.int .u8 0) := hc
  have hgc : g ≠ c := fun e => hne3 (by rw [e]; rfl)
  obtain ⟨cur, hh⟩ := own_block hown3
  have hf : w3.frozen? ⟨g, q, none⟩ = false := frozen_at hh q
  have K3 : KeepT w w3 := KeepT.grown (KeepT.of (new_below w _)) hgrow (own_type (hown.alloc (.cells #[.int .u8 0] 5)))
  have HK4 : Hid (KeepT w (w3.setCell ⟨c, 0, none⟩ (.slice (some ⟨g, 0, none⟩) (q + 1) cap))) := K3.set m3 (Or.inr rfl) _
  have HH4 : Hid (_) := heap_set_other (g := c) (i := 0) hh hgc (.slice (some ⟨g, 0, none⟩) (q + 1) cap)
  clear hh K3
  have d0 : w3.cell? ⟨c, 0, none⟩ = some (.slice va q vc) := cell_at m3 0
  have d1 : w3.cell? ⟨c, 1, none⟩ = some (.int .i64 N) := cell_at m3 1
  have g0 : w3.frozen? ⟨c, 0, none⟩ = false := frozen_at m3 0
  have g1 : w3.frozen? ⟨c, 1, none⟩ = false := frozen_at m3 1
  have HM3 : Hid (_) := m3
  have HN3 : Hid (_) := hne3
  clear hz hs hgrow hne c0 c1 m hmc m3 hne3 hown
  generalize hQ1 : q + 1 = q1 at *
  have hql : (q : Int) < q1 := by omega
  have HQ1 : Hid (q + 1 = q1) := hQ1
  clear hQ1
  have L4 : Below B w (w3.setCell ⟨c, 0, none⟩ (.slice (some ⟨g, 0, none⟩) q1 cap)) := L3.setCell hBc _
  have m4 := heap_set (i := 0) HM3.out (.slice (some ⟨g, 0, none⟩) q1 cap)
  have hown4 := ownsRow_setCell_other hown3 (a := ⟨c, 0, none⟩) HN3.out (.slice (some ⟨g, 0, none⟩) q1 cap)
  have hc4 : (w3.setCell ⟨c, 0, none⟩ (.slice (some ⟨g, 0, none⟩) q1 cap)).cell? ⟨g, q, none⟩ = some (.int .u8 0) := by
    rw [World.cell?_setCell_other _ _ _ _ (by simp [hgc, Ne.symm hgc])]
    exact hc
  have hf4 : (w3.setCell ⟨c, 0, none⟩ (.slice (some ⟨g, 0, none⟩) q1 cap)).frozen? ⟨g, q, none⟩ = false := by rw [World.frozen?_setCell]; exact hf
  go_wp2
  clear hc hf d0 d1 g0 g1 hown3 L3 HM3
  generalize w3.setCell ⟨c, 0, none⟩ (.slice (some ⟨g, 0, none⟩) q1 cap) = w4 at *
  have d0 : w4.cell? ⟨c, 0, none⟩ = some (.slice (some ⟨g, 0, none⟩) q1 cap) := cell_at m4 0
  have d1 : w4.cell? ⟨c, 1, none⟩ = some (.int .i64 N) := cell_at m4 1
  have g1 : w4.frozen? ⟨c, 1, none⟩ = false := frozen_at m4 1
  have HM4 : Hid (_) := m4
  clear m4
  go_region
  go_wp2
  go_end0
  exact ⟨rfl, bit_end hBc hbits hb HL HM4.out hgc hown4 (by omega) (by rw [List.length_append, HML.out]; exact HQ1.out) HN3.out (or_zero b hb) (by rw [HW.out, set_last _ _ _ _ HML.out]), ((L4.setCell hg1 _).setCell hBc _).drew, HK4.out.trans (KeepT.two HH4.out HM4.out hgc)⟩

/-- A bit more is written. -/
theorem bit_val (B c : Nat) (l : List Nat) (b : Nat) (w : World) (H : Wr B c l w) (hB : B ≤ w.heap.size) (hb : b ≤ 1) (hN : l.length ≤ 1000000) :
    Calls Tryd.prog 109 #[.pointer (some ⟨c, 0, none⟩), .int .i64 b] w fun e w' => e = .returned (.tuple #[]) ∧ Wr B c (l ++ [b]) w' ∧ Below B w w' ∧ KeepT w w' := by
  by_cases h : l.length % 8 = 0
  · exact bit_new B c l.length (l.length / 8) l b w H hB hb hN rfl (by omega)
  · exact bit_more B c l.length (l.length / 8) (l.length % 8) l b w H hb hN rfl (by omega) (by omega) h

theorem bit_shift (n i : Nat) (hn : n < 4294967296) : bits BinOp.and IntKind.i64 ((n : Int) / 2 ^ i) 1 = ((n / 2 ^ i % 2 : Nat) : Int) := by
  have e : (n : Int) / 2 ^ i = ((n / 2 ^ i : Nat) : Int) := by simp
  rw [e]
  exact Math.and_one_i64 _ (Nat.lt_of_le_of_lt (Nat.div_le_self _ _) (by omega))

set_option maxHeartbeats 1000000 in
theorem low_val (B c : Nat) (l : List Nat) (n k : Nat) (w : World) (H : Wr B c l w) (hB : B ≤ w.heap.size) (hn : n < 4294967296) (hk : k ≤ 60) (hN : l.length ≤ 900000) :
    Calls Tryd.prog 73 #[.pointer (some ⟨c, 0, none⟩), .int .i64 n, .int .i64 k] w fun e w' => e = .returned (.tuple #[]) ∧ Wr B c (l ++ Math.lowL n k) w' ∧ Below B w w' ∧ KeepT w w' := by
  go_enter Tryd.func73, Tryd.ntmps73
  go_wp2
  go_loopw [8] (fun i wr => ∃ (j : Nat), j ≤ k ∧ i = .int .i64 j ∧ Hid (Wr B c (l ++ Math.lowL n j) wr) ∧ Below B w wr ∧ KeepT w wr) (fun i _ => k - (intOf i).toNat)
  case atStart => exact ⟨0, by omega, rfl, by show Wr B c (l ++ []) w; rw [List.append_nil]; exact H, Below.refl _ _, KeepT.refl _⟩
  case round =>
    obtain ⟨j, hj, rfl, HW, L, K⟩ := hrel
    by_cases hjk : j < k
    · have hsh := bit_shift n j hn
      have hBr : B ≤ wr.heap.size := Nat.le_trans hB L.size
      have HB : Hid (∀ b, b ≤ 1 → _) := fun b hb => bit_val B c (l ++ Math.lowL n j) b wr HW.out hBr hb (by rw [List.length_append, Math.lowL_length]; omega)
      have HS : Hid (_) := Math.lowL_succ n j
      have hb1 : n / 2 ^ j % 2 ≤ 1 := by omega
      generalize n / 2 ^ j % 2 = b at *
      go_wp2_with fail
      refine (HB.out b hb1).mono ?_
      rintro e w2 ⟨rfl, W2, L2, K2⟩
      have K3 := K.trans K2
      rw [List.append_assoc, ← HS.out] at W2
      have W3 : Hid (_) := W2
      have L3 := L.trans L2
      clear W2 L2 HW HB L K K2
      go_wp2
      go_roundw
      case rel => exact ⟨j + 1, by omega, by go_num, W3, L3, K3⟩
      case measure => simp [intOf]; omega
    · obtain rfl : j = k := by omega
      go_wp2
      go_end0
      exact ⟨rfl, HW.out, L, K⟩

set_option maxHeartbeats 1000000 in
theorem high_val (B c : Nat) (l : List Nat) (n k : Nat) (w : World) (H : Wr B c l w) (hB : B ≤ w.heap.size) (hn : n < 4294967296) (hk : k ≤ 60) (hN : l.length ≤ 900000) :
    Calls Tryd.prog 112 #[.pointer (some ⟨c, 0, none⟩), .int .i64 n, .int .i64 k] w fun e w' => e = .returned (.tuple #[]) ∧ Wr B c (l ++ Math.highL n k) w' ∧ Below B w w' ∧ KeepT w w' := by
  go_enter Tryd.func112, Tryd.ntmps112
  go_wp2
  go_loopw [6] (fun i wr => ∃ (j : Nat), j ≤ k ∧ i = .int .i64 ((k : Int) - 1 - j) ∧ Hid (Wr B c (l ++ Math.highP n k j) wr) ∧ Below B w wr ∧ KeepT w wr) (fun i _ => (intOf i + 1).toNat)
  case atStart => exact ⟨0, by omega, by simp, by show Wr B c (l ++ []) w; rw [List.append_nil]; exact H, Below.refl _ _, KeepT.refl _⟩
  case round =>
    obtain ⟨j, hj, rfl, HW, L, K⟩ := hrel
    by_cases hjk : j < k
    · have e1 : (k : Int) - 1 - j = ((k - 1 - j : Nat) : Int) := by omega
      have hsh := bit_shift n (k - 1 - j) hn
      have hBr : B ≤ wr.heap.size := Nat.le_trans hB L.size
      have HB : Hid (∀ b, b ≤ 1 → _) := fun b hb => bit_val B c (l ++ Math.highP n k j) b wr HW.out hBr hb (by rw [List.length_append]; simp [Math.highP]; omega)
      have HS : Hid (_) := Math.highP_succ n k j
      have hb1 : n / 2 ^ (k - 1 - j) % 2 ≤ 1 := by omega
      generalize n / 2 ^ (k - 1 - j) % 2 = b at *
      have hq : (k - 1 - j : Nat) ≤ 60 := by omega
      have HQ : Hid ((k - 1 - j : Nat) + 1 + j = k) := by show _ = _; omega
      rw [e1]
      clear e1
      generalize k - 1 - j = q at *
      go_wp2_with fail
      refine (HB.out b hb1).mono ?_
      rintro e w2 ⟨rfl, W2, L2, K2⟩
      have K3 := K.trans K2
      rw [List.append_assoc, ← HS.out] at W2
      have W3 : Hid (_) := W2
      have L3 := L.trans L2
      clear W2 L2 HW HB L K K2
      go_wp2
      go_roundw
      case rel => exact ⟨j + 1, by omega, by have := HQ.out; go_num, W3, L3, K3⟩
      case measure => simp [intOf] <;> omega
    · obtain rfl : j = k := by omega
      rw [Math.highP_all] at HW
      have e1 : (j : Int) - 1 - j = -1 := by omega
      rw [e1]
      go_wp2
      go_end0
      exact ⟨rfl, HW.out, L, K⟩

theorem head_val (B c : Nat) (n : Nat) (w : World) (H : Wr B c [] w) (hB : B ≤ w.heap.size) (hn : n < 4294967296) :
    Calls Tryd.prog 65 #[.pointer (some ⟨c, 0, none⟩), .int .i64 n] w fun e w' => e = .returned (.tuple #[]) ∧ Wr B c ([1] ++ Math.lowL n 2) w' ∧ Below B w w' ∧ KeepT w w' := by
  go_enter Tryd.func65, Tryd.ntmps65
  go_wp2_with fail
  refine (bit_val B c [] 1 _ H hB (by omega) (by simp)).mono ?_
  rintro e w1 ⟨rfl, W1, L1, K1⟩
  go_wp2_with fail
  refine (low_val B c ([] ++ [1]) n 2 _ W1 (Nat.le_trans hB L1.size) hn (by omega) (by simp)).mono ?_
  rintro e w2 ⟨rfl, W2, L2, K2⟩
  go_wp2
  go_end0
  exact ⟨rfl, W2, L1.trans L2, K1.trans K2⟩

end Pk
end Go.Proofs.YtcifgableeeooabDoor
