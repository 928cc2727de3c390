/- The program's reader of a block. -/
import Derived.Test.YtcifgableeeooalDoorUnJump
import Derived.Deep.AppendLies
namespace Go.Proofs.YtcifgableeeooalDoor
namespace Pk
open Go.ChangeShapes Go.WideShapes Go.ChangeAt Go.RowKit
open Math (bitAt lowAt topAt symAt symLen lenBits lenTold backTold cleast cbits storedC rst body unpC unpT fixFrom p1 p2' bk dd nn copyN)
set_option linter.unusedSimpArgs false
set_option linter.unusedVariables false

theorem low_byte (s : ByteArray) (i : Nat) : lowAt s (8 * i) 8 = (s.data.toList.getD i 0).toNat := by
  have h (j : Nat) (hj : j < 8) : bitAt s (8 * i + j) = (s.data.toList.getD i 0).toNat / 2 ^ j % 2 := by
    unfold bitAt
    rw [show (8 * i + j) / 8 = i by omega, show (8 * i + j) % 8 = j by omega]
  have hb := (s.data.toList.getD i 0).toNat_lt
  simp only [lowAt, h 0 (by omega), h 1 (by omega), h 2 (by omega), h 3 (by omega), h 4 (by omega), h 5 (by omega), h 6 (by omega), h 7 (by omega)]
  generalize (s.data.toList.getD i 0).toNat = x at *
  omega

theorem take_byte (s : ByteArray) (k : Nat) (h : 5 + k < s.size) : (s.data.toList.drop 5).take (k + 1) = (s.data.toList.drop 5).take k ++ [s.data.toList.getD (5 + k) 0] := by
  have hl : 5 + k < s.data.toList.length := by rw [Array.length_toList]; exact h
  rw [List.take_add_one, List.getElem?_drop, List.getElem?_eq_getElem hl, List.getD_eq_getElem?_getD, List.getElem?_eq_getElem hl]
  rfl

theorem take_len (s : ByteArray) (k : Nat) (h : 5 + k ≤ s.size) : ((s.data.toList.drop 5).take k).length = k := by
  have hl : s.data.toList.length = s.size := Array.length_toList
  rw [List.length_take, List.length_drop]
  omega

/-- The reader within a block: its place, what it has made. -/
structure Bk (B c : Nat) (s : ByteArray) (a : Nat) (out : List UInt8) (va : Option Addr) (vc : Nat) (w0 w : World) : Prop where
  rd : RdI c s a (.slice va out.length vc) w
  own : w.ownsRow w0.heap.size 5 1 (.slice va out.length vc) out.length (bcells out)
  bl : Below B w0 w

theorem Bk.ne {B c : Nat} {s : ByteArray} {a : Nat} {out : List UInt8} {va : Option Addr} {vc : Nat} {w0 w : World} (h : Bk B c s a out va vc w0 w) : (Value.slice va out.length vc).ownBlock ≠ some c := own_ne' h.own h.rd (by decide)

theorem Bk.mv {B c : Nat} {s : ByteArray} {a a' : Nat} {out : List UInt8} {va : Option Addr} {vc : Nat} {w0 w w' : World} (h : Bk B c s a out va vc w0 w) (R : RdI c s a' (.slice va out.length vc) w') (T : Bt c w w') (hB : B ≤ c) (hB2 : B ≤ w0.heap.size) : Bk B c s a' out va vc w0 w' :=
  ⟨R, T.own h.own h.ne, h.bl.trans (T.below hB (Nat.le_trans hB2 h.bl.size))⟩

theorem own_oth {w : World} {base e size : Nat} {v : Value} {n : Nat} {xs : List Value} {P : Nat} (h : w.ownsRow base e size v n xs) (hne : v.ownBlock ≠ some P) (i : Nat) (u : Value) : (w.setCell ⟨P, i, none⟩ u).ownsRow base e size v n xs := by
  obtain ⟨hl, h2⟩ := h
  refine ⟨hl, ?_⟩
  rcases h2 with h2 | ⟨g, cap, cur, hv, hg, hh, hr⟩
  · exact Or.inl h2
  · refine Or.inr ⟨g, cap, cur, hv, hg, ?_, hr⟩
    rw [Below.heap_setCell w ⟨P, i, none⟩ u g (by intro e; apply hne; rw [hv]; exact congrArg some e)]
    exact hh

theorem Bk.put {B c : Nat} {s : ByteArray} {a : Nat} {out out' : List UInt8} {va va' : Option Addr} {vc vc' : Nat} {w0 w w3 : World} (h : Bk B c s a out va vc w0 w) (hB : B ≤ c) (m3 : RdI c s a (.slice va out.length vc) w3) (hown : w3.ownsRow w0.heap.size 5 1 (.slice va' out'.length vc') out'.length (bcells out')) (L : Below B w0 w3) : Bk B c s a out' va' vc' w0 (w3.setCell ⟨c, 2, none⟩ (.slice va' out'.length vc')) :=
  ⟨hp_set (w := w3) (i := 2) m3 (.slice va' out'.length vc'), own_oth hown (own_ne' hown m3 (by decide)) 2 _, L.setCell hB _⟩

/-- How the reader of a block ends. -/
def BlkEnd (B : Nat) (s : ByteArray) (c : Nat) (w0 : World) (e : Ending) (w : World) : Prop :=
  (unpC s ≠ 0 → e = fault (unpC s : Nat)) ∧ (unpC s = 0 → e = .returned (.tuple #[]) ∧ ∃ (q : Nat) (va : Option Addr) (vc : Nat) (out : List UInt8), unpT s = ⟨out.toArray⟩ ∧ Bk B c s q out va vc w0 w) ∧ Below B w0 w

/-- The text is neither too long nor empty, its block of a kind that is known. -/
def Known (s : ByteArray) : Prop := ¬ 6000 < s.size ∧ ¬ s.size = 0 ∧ ¬ (bitAt s 0 = 0 ∨ 1 < lowAt s 1 2)

theorem blk_bad {B : Nat} {s : ByteArray} {c : Nat} {w0 w : World} (hK : Known s) {k : Nat} {txt : List UInt8} {a : Nat} (hb : body s = (k, txt, a)) (hk : k ≠ 0) (L : Below B w0 w) : BlkEnd B s c w0 (fault (k : Nat)) w := by
  obtain ⟨h1, h2, h3⟩ := hK
  have e := ((Math.unp_body h1 h2 h3 hb).1 hk).1
  exact ⟨fun _ => by rw [e], fun h => absurd (e.symm.trans h) hk, L⟩

theorem blk_code {B : Nat} {s : ByteArray} {c : Nat} {w0 w : World} {k : Nat} (e : unpC s = k) (hk : k ≠ 0) (L : Below B w0 w) : BlkEnd B s c w0 (fault (k : Nat)) w :=
  ⟨fun _ => by rw [e], fun h => absurd (e.symm.trans h) hk, L⟩

/-- The slots of the reader of a block. -/
def bAct (c : Nat) (u : Nat → Value) (x3 : Value) : Act := { tmps := #[.pointer (some ⟨c, 0, none⟩), u 1, u 2, x3, u 4, u 5, u 6, u 7, u 8, u 9, u 10, u 11, u 12, u 13, u 14, u 15, u 16, u 17, u 18, u 19, u 20, u 21, u 22, u 23, u 24, u 25, u 26, u 27, u 28, u 29, u 30, u 31, u 32, u 33, u 34, u 35, u 36, u 37, u 38, u 39, u 40, u 41, u 42, u 43, u 44, u 45, u 46, u 47, u 48, u 49, u 50, u 51, u 52, u 53, u 54, u 55, u 56, u 57, u 58, u 59, u 60, u 61, u 62, u 63, u 64, u 65, u 66, u 67, u 68, u 69, u 70, u 71, u 72, u 73, u 74, u 75, u 76, u 77, u 78, u 79, u 80, u 81, u 82, u 83, u 84], defers := [] }

/-- What holds at each label, and what each pass lowers. -/
def JJ (B c : Nat) (s : ByteArray) (w : World) (l : Nat) (a' : Act) (w' : World) : Prop := ((l = 0 ∧ a' = bAct c (fun i => a'.tmps.getD i undef) (a'.tmps.getD 3 undef) ∧ Hid (lowAt s 1 2 = 0) ∧ RdI c s 3 (.slice none 0 0) w' ∧ Below B w w') ∨ (l = 1 ∧ a' = bAct c (fun i => a'.tmps.getD i undef) (a'.tmps.getD 3 undef) ∧ ∃ (a g : Nat) (out : List UInt8) (va : Option Addr) (vc : Nat), a ≤ 8 * s.size ∧ out.length ≤ 3000 ∧ 8 * s.size < a + 7 * g ∧ Hid (body s = fixFrom s g a out) ∧ Bk B c s a out va vc w w') ∨ (l = 2 ∧ a' = bAct c (fun i => a'.tmps.getD i undef) (a'.tmps.getD 3 undef) ∧ ∃ (a : Nat) (out : List UInt8) (va : Option Addr) (vc : Nat), a ≤ 8 * s.size ∧ Hid (body s = (0, out, a)) ∧ Bk B c s a out va vc w w') ∨ (l = 3 ∧ ∃ (a g y nl : Nat), a' = bAct c (fun i => a'.tmps.getD i undef) (.int .i64 (y : Int)) ∧ ∃ (out : List UInt8) (va : Option Addr) (vc : Nat), a + nl ≤ 8 * s.size ∧ 7 ≤ nl ∧ nl ≤ 9 ∧ out.length ≤ 3000 ∧ 8 * s.size < a + 7 * (g + 1) ∧ 256 < y ∧ y ≤ 285 ∧ Hid (symAt s a = y) ∧ Hid (symLen s a = nl) ∧ Hid (body s = fixFrom s (g + 1) a out) ∧ Bk B c s (a + nl) out va vc w w'))

def MM (c : Nat) (s : ByteArray) (l : Nat) (a' : Act) (w' : World) : Nat := ( if l = 2 then 0 else if l = 0 then 10000000 else 1 + (8 * s.size - (intOf ((w'.cell? ⟨c, 1, none⟩).getD undef)).toNat))

set_option maxRecDepth 100000 in
set_option maxHeartbeats 400000 in
theorem blkI_val (B c : Nat) (s : ByteArray) (w : World) (hs : s.size ≤ 6000) (hB : B ≤ c) (hB2 : B ≤ w.heap.size) (hrB : 0 < B) (HRU : Hid (Runs w)) (H : RdI c s 0 (.slice none 0 0) w) :
    Calls Tryd.prog 30 #[.pointer (some ⟨c, 0, none⟩)] w fun e w' => BlkEnd B s c w e w' := by
  have HRF : Hid (∀ (k : Int) (W : World), _) := fun k W => refuse_no k W
  have HRY : Hid (∀ (k : Int) (W : World), _) := fun k W => refuse_yes k W
  obtain ⟨i0, hi, hz0, hz1, hz2⟩ := info_of info_u8
  have hcw : c < w.heap.size := H.lt
  by_cases hz : s.size = 0
  · have HC : Hid (_) := bitI_cut B c s (.slice none 0 0) w (by omega) hB (by rw [hz]; exact H)
    have HU : Hid (unpC s = 1) := by show unpC s = 1; unfold unpC; rw [if_neg (by omega), if_pos hz]
    go_enter Tryd.func30, Tryd.ntmps30
    go_wp2
    go_step3
    go_wp2_with fail
    refine Calls.mono HC.out ?_
    rintro e w2 ⟨rfl, M, L⟩
    exact ⟨rfl, blk_code (k := 1) HU.out (by omega) L⟩
  have HB0 : Hid (_) := bitI_ok B c s 0 (.slice none 0 0) w (by omega) hB (by omega) H
  have hb0 := Math.bitAt_le s 0
  by_cases hb : bitAt s 0 = 0
  · have HU : Hid (unpC s = 2) := by show unpC s = 2; unfold unpC; rw [if_neg (by omega), if_neg hz, if_pos (Or.inl hb)]
    rw [hb] at HB0
    go_enter Tryd.func30, Tryd.ntmps30
    go_wp2
    go_step3
    go_wp2_with fail
    refine Calls.mono HB0.out ?_
    rintro e w2 ⟨rfl, R2, M, L⟩
    go_wp2_with fail
    refine (HRY.out 2 _).mono ?_
    rintro e w3 ⟨rfl, rfl⟩
    exact ⟨rfl, blk_code (k := 2) HU.out (by omega) L⟩
  have hb1 : bitAt s 0 = 1 := by omega
  rw [hb1] at HB0
  have HLO : Hid (∀ W : World, RdI c s 1 (.slice none 0 0) W → Calls Tryd.prog 36 #[.pointer (some ⟨c, 0, none⟩), .int .i64 2] W fun e w' => e = .returned (.int .i64 (lowAt s 1 2 : Nat)) ∧ RdI c s 3 (.slice none 0 0) w' ∧ Mv c W w' ∧ Below B W w') := fun W h => lowI_ok B c s 1 2 (.slice none 0 0) W (by omega) hB (by omega) (by omega) h
  have hk4 := Math.lowAt_lt s 1 2
  by_cases hkd : 1 < lowAt s 1 2
  · have HU : Hid (unpC s = 2) := by show unpC s = 2; unfold unpC; rw [if_neg (by omega), if_neg hz, if_pos (Or.inr hkd)]
    generalize lowAt s 1 2 = kd at *
    have hq0 : ¬ ((kd : Int) = 0) := by omega
    have hq1 : ¬ ((kd : Int) = 1) := by omega
    have hn0 : ((kd : Int) != 0) = true := bne_iff_ne.2 hq0
    have hn1 : ((kd : Int) != 1) = true := bne_iff_ne.2 hq1
    go_enter Tryd.func30, Tryd.ntmps30
    go_wp2
    go_step3
    go_wp2_with fail
    refine Calls.mono HB0.out ?_
    rintro e w2 ⟨rfl, R2, M2, L2⟩
    go_wp2_with fail
    refine (HRF.out 2 _).mono ?_
    rintro e w3 ⟨rfl, rfl⟩
    go_wp2_with fail
    refine (HLO.out _ R2).mono ?_
    rintro e w4 ⟨rfl, R4, M4, L4⟩
    go_wp2_with fail
    refine (HRY.out 2 _).mono ?_
    rintro e w3 ⟨rfl, rfl⟩
    exact ⟨rfl, blk_code (k := 2) HU.out (by omega) (L2.trans L4)⟩
  have HKN : Hid (Known s) := ⟨by omega, hz, fun h => h.elim hb hkd⟩
  go_enter Tryd.func30, Tryd.ntmps30
  go_wp2
  refine scope_many (JJ B c s w) (MM c s) ?_ ?_
  · rintro l a' w' (⟨rfl, hA, HK0, R, L⟩ | ⟨rfl, hA, a, g, out, va, vc, ha, hol, hg, HF, K⟩ | ⟨rfl, hA, a, out, va, vc, ha, HF, K⟩ | ⟨rfl, a, g, y, nl, hA, out, va, vc, ha, hn7, hn9, hol, hg, hy6, hy5, HY, HN, HF, K⟩)
    · obtain ⟨u, x3, rfl⟩ : ∃ u x3, a' = bAct c u x3 := ⟨_, _, hA⟩
      clear hA
      refine ⟨_, rfl, ?_⟩
      unfold bAct
      have hBw : B ≤ w'.heap.size := Nat.le_trans hB2 L.size
      have HST : Hid (_) := stoI_val c s 3 none 0 w' (by omega) (by omega) R
      unfold StoEnd at HST
      have HBO : Hid (body s = (storedC s, (Math.storedT s).data.toList, 40 + 8 * lowAt s 8 16)) := by show body s = _; unfold body; rw [if_neg (by rw [HK0.out]; omega)]
      have HSC : Hid (storedC s = if s.size < 5 then 1 else if lowAt s 8 16 + lowAt s 24 16 ≠ 65535 then 3 else if 3000 < lowAt s 8 16 then 5 else if s.size < lowAt s 8 16 + 5 then 1 else 0) := rfl
      have HTT : Hid (storedC s = 0 → Math.storedT s = s.extract 5 (5 + lowAt s 8 16)) := fun h => if_pos h
      have hl1 := Math.lowAt_lt s 8 16
      generalize lowAt s 8 16 = n at *
      generalize lowAt s 24 16 = z at *
      clear hk4 hkd
      go_wp2_with fail
      refine Calls.mono HST.out ?_
      rintro e w2 ⟨⟨e1, e2, e3, e0⟩, T⟩
      have L2 := L.trans (T.below hB hBw)
      by_cases h5 : s.size < 5
      · obtain rfl := e1 h5
        exact ⟨rfl, blk_bad (k := 1) HKN.out (HBO.out.trans (by rw [HSC.out, if_pos h5])) (by omega) L2⟩
      by_cases hne : n + z ≠ 65535
      · obtain rfl := e2 h5 hne
        exact ⟨rfl, blk_bad (k := 3) HKN.out (HBO.out.trans (by rw [HSC.out, if_neg h5, if_pos hne])) (by omega) L2⟩
      by_cases h30 : 3000 < n
      · obtain rfl := e3 h5 hne h30
        exact ⟨rfl, blk_bad (k := 5) HKN.out (HBO.out.trans (by rw [HSC.out, if_neg h5, if_neg hne, if_pos h30])) (by omega) L2⟩
      obtain ⟨rfl, R2⟩ := e0 h5 hne h30
      have HS2 : Hid (storedC s = if s.size < n + 5 then 1 else 0) := HSC.out.trans (by rw [if_neg h5, if_neg hne, if_neg h30])
      have HK2 : Hid (Bk B c s (40 + 8 * 0) ((s.data.toList.drop 5).take 0) none 0 w w2) := ⟨R2, World.ownsRow_nil _ _ _ _, L2⟩
      clear e1 e2 e3 e0 HST HSC T L2 R2
      go_wp2
      go_loopw [68] (fun i wr => ∃ (k : Nat) (va : Option Addr) (vc : Nat), k ≤ n ∧ i = .int .i64 k ∧ 5 + k ≤ s.size ∧ Hid (Bk B c s (40 + 8 * k) ((s.data.toList.drop 5).take k) va vc w wr)) (fun i _ => n - (intOf i).toNat)
      case atStart => exact ⟨0, none, 0, by omega, rfl, by omega, HK2⟩
      case round =>
        clear HK2
        obtain ⟨k, va, vc, hk, rfl, h5k, HK⟩ := hrel
        by_cases hkn : k < n
        · have hkI : (k : Int) < (n : Int) := by omega
          have hol := take_len s k h5k
          have R1 : RdI c s (40 + 8 * k) (.slice va k vc) wr := by have h := HK.out.rd; rw [hol] at h; exact h
          have O1 : wr.ownsRow w.heap.size 5 1 (.slice va k vc) k (bcells ((s.data.toList.drop 5).take k)) := by have h := HK.out.own; rw [hol] at h; exact h
          have hne : (Value.slice va k vc).ownBlock ≠ some c := own_ne' O1 R1 (by decide)
          have HBL : Hid (Below B w wr) := HK.out.bl
          have hBwr : B ≤ wr.heap.size := Nat.le_trans hB2 HBL.out.size
          have c2 : wr.cell? ⟨c, 2, none⟩ = some (.slice va k vc) := cell_at R1 2
          by_cases hcut : s.size < 6 + k
          · have HC : Hid (∀ W : World, RdI c s (40 + 8 * k) (.slice va k vc) W → Calls Tryd.prog 36 #[.pointer (some ⟨c, 0, none⟩), .int .i64 8] W fun e w' => e = fault 1 ∧ Mv c W w' ∧ Below 0 W w') := fun W h => lowI_cut 0 c s (40 + 8 * k) 8 _ W (by omega) (Nat.zero_le _) (by omega) (by omega) (by omega) h
            go_wp2
            refine wp_region_held_drew (S := (fun w' => w'.cell? ⟨c, 2, none⟩ = some (.slice va k vc))) (by kernel_rfl) ?_ (fun hHeld => ?_)
            · exact c2
            refine wpAnyH_take (i := 0) (oi := { dst := some 70, op := Op.move (Operand.tmp 0), type := 66, pos := "l03_pack.go:414", after := #[], guard := none }) (v := ?_) rfl (by kernel_rfl) (by kernel_rfl) (by kernel_rfl) (fun _ _ _ h => h) (Or.inl ⟨by rfl, ?_⟩) (by assumption) ?_
            rotate_left 1
            · (intro wS hSw; (try dsimp only at hSw); go_simp; try (with_reducible rfl))
            (try simp only [Act.put, List.setIfInBounds_toArray, List.set_cons_zero, List.set_cons_succ])
            refine wpAnyH_take (i := 1) (oi := { dst := some 71, op := Op.move (Operand.tmp 0), type := 66, pos := "l03_pack.go:414", after := #[], guard := none }) (v := ?_) rfl (by kernel_rfl) (by kernel_rfl) (by kernel_rfl) (fun _ _ _ h => h) (Or.inl ⟨by rfl, ?_⟩) (by assumption) ?_
            rotate_left 1
            · (intro wS hSw; (try dsimp only at hSw); go_simp; try (with_reducible rfl))
            (try simp only [Act.put, List.setIfInBounds_toArray, List.set_cons_zero, List.set_cons_succ])
            refine wpAnyH_take (i := 2) (oi := { dst := some 72, op := Op.nilCheck (Operand.tmp 71), type := 0, pos := "l03_pack.go:414", after := #[{ on := 1, ground := Ground.data }], guard := none }) (v := ?_) rfl (by kernel_rfl) (by kernel_rfl) (by kernel_rfl) (fun _ _ _ h => h) (Or.inl ⟨by rfl, ?_⟩) (by assumption) ?_
            rotate_left 1
            · (intro wS hSw; (try dsimp only at hSw); go_simp; try (with_reducible rfl))
            (try simp only [Act.put, List.setIfInBounds_toArray, List.set_cons_zero, List.set_cons_succ])
            refine wpAnyH_take (i := 3) (oi := { dst := some 73, op := Op.fieldAddr 61 (Operand.tmp 72) 2, type := 0, pos := "l03_pack.go:414", after := #[{ on := 2, ground := Ground.data }], guard := none }) (v := ?_) rfl (by kernel_rfl) (by kernel_rfl) (by kernel_rfl) (fun _ _ _ h => h) (Or.inl ⟨by rfl, ?_⟩) (by assumption) ?_
            rotate_left 1
            · (intro wS hSw; (try dsimp only at hSw); go_simp; try (with_reducible rfl))
            (try simp only [Act.put, List.setIfInBounds_toArray, List.set_cons_zero, List.set_cons_succ])
            refine wpAnyH_take (i := 4) (oi := { dst := some 74, op := Op.load 55 (Operand.tmp 73), type := 55, pos := "l03_pack.go:414", after := #[{ on := 3, ground := Ground.data }], guard := none }) (v := ?_) rfl (by kernel_rfl) (by kernel_rfl) (by kernel_rfl) (fun _ _ _ h => h) (Or.inl ⟨by rfl, ?_⟩) (by assumption) ?_
            rotate_left 1
            · (intro wS hSw; (try dsimp only at hSw); go_simp; try (with_reducible rfl))
            (try simp only [Act.put, List.setIfInBounds_toArray, List.set_cons_zero, List.set_cons_succ])
            refine wpAnyH_take (i := 5) (oi := { dst := some 75, op := Op.move (Operand.tmp 0), type := 66, pos := "l03_pack.go:414", after := #[], guard := none }) (v := ?_) rfl (by kernel_rfl) (by kernel_rfl) (by kernel_rfl) (fun _ _ _ h => h) (Or.inl ⟨by rfl, ?_⟩) (by assumption) ?_
            rotate_left 1
            · (intro wS hSw; (try dsimp only at hSw); go_simp; try (with_reducible rfl))
            (try simp only [Act.put, List.setIfInBounds_toArray, List.set_cons_zero, List.set_cons_succ])
            refine wpAnyH_ready (rs := [6]) (by kernel_rfl) (by simp) ?_
            refine AllReadyH.cons (o := { dst := some 76, op := Op.call { callee := Callee.value (Operand.func 36), args := #[Operand.tmp 75, Operand.const (Value.int IntKind.i64 8)], argTypes := #[66, 3] }, type := 3, pos := "l03_pack.go:414", after := #[{ on := 5, ground := Ground.data }], guard := none }) rfl (fun K hK => ?_) AllReadyH.nil
            go_simp
            refine (HC.out wr.drew R1).mono ?_
            rintro e x1 ⟨rfl, M1, L1⟩
            have T1 : Bt c wr x1 := ((Bt.refl c wr).drew).trans (Bt.of M1 L1)
            exact ⟨rfl, blk_bad (k := 1) HKN.out (HBO.out.trans (by rw [HS2.out, if_pos (by omega)])) (by omega) (HBL.out.trans (T1.below hB hBwr))⟩
          · have hbb := low_byte s (5 + k)
            rw [show 8 * (5 + k) = 40 + 8 * k by omega] at hbb
            have hby := take_byte s k (by omega)
            generalize s.data.toList.getD (5 + k) 0 = bb at *
            have hb8 := bb.toNat_lt
            have HT : Hid (∀ W : World, RdI c s (40 + 8 * k) (.slice va k vc) W → Calls Tryd.prog 36 #[.pointer (some ⟨c, 0, none⟩), .int .i64 8] W fun e w' => e = .returned (.int .i64 (bb.toNat : Int)) ∧ RdI c s (40 + 8 * k + 8) (.slice va k vc) w' ∧ Mv c W w' ∧ Below 0 W w') := fun W h => by rw [← hbb]; exact lowI_ok 0 c s (40 + 8 * k) 8 _ W (by omega) (Nat.zero_le _) (by omega) (by omega) h
            have hol2 := take_len s (k + 1) (by omega)
            have HSN : Hid (bcells ((s.data.toList.drop 5).take k) ++ [.int .u8 (bb.toNat : Int)] = bcells ((s.data.toList.drop 5).take (k + 1))) := by show _ = _; rw [hby]; exact bcells_snoc _ _
            have HPT : Hid (∀ (w6 : World) (gg cap6 : Nat), RdI c s (40 + 8 * k + 8) (.slice va k vc) w6 → w6.ownsRow w.heap.size 5 1 (.slice (some ⟨gg, 0, none⟩) (k + 1) cap6) (k + 1) (bcells ((s.data.toList.drop 5).take (k + 1))) → Below B w w6 → Bk B c s (40 + 8 * k + 8) ((s.data.toList.drop 5).take (k + 1)) (some ⟨gg, 0, none⟩) cap6 w (w6.setCell ⟨c, 2, none⟩ (.slice (some ⟨gg, 0, none⟩) (k + 1) cap6))) := by
              intro w6 gg cap6 m6 o6 L6
              refine ⟨?_, ?_, L6.setCell hB _⟩
              · rw [hol2]; exact hp_set (w := w6) (i := 2) m6 (.slice (some ⟨gg, 0, none⟩) (k + 1) cap6)
              · rw [hol2]; exact own_oth o6 (own_ne' o6 m6 (by decide)) 2 _
            have hwb : IntKind.u8.wrap (bb.toNat : Int) = (bb.toNat : Int) := by rw [IntKind.wrap_u8]; omega
            clear hbb hby HK hol hol2
            generalize (s.data.toList.drop 5).take k = out at *
            generalize hO2 : (s.data.toList.drop 5).take (k + 1) = out2 at *
            have HO2 : Hid (_) := hO2
            clear hO2
            generalize bb.toNat = b at *
            go_wp2
            refine wp_region_held_drew (S := (fun _ => True)) (by kernel_rfl) trivial (fun hHeld => ?_)
            refine wpAnyH_take (i := 0) (oi := { dst := some 70, op := Op.move (Operand.tmp 0), type := 66, pos := "l03_pack.go:414", after := #[], guard := none }) (v := ?_) rfl (by kernel_rfl) (by kernel_rfl) (by kernel_rfl) (fun _ _ _ h => h) (Or.inl ⟨by rfl, ?_⟩) (by assumption) ?_
            rotate_left 1
            · (intro wS hSw; (try dsimp only at hSw); go_simp; try (with_reducible rfl))
            (try simp only [Act.put, List.setIfInBounds_toArray, List.set_cons_zero, List.set_cons_succ])
            refine wpAnyH_take (i := 1) (oi := { dst := some 71, op := Op.move (Operand.tmp 0), type := 66, pos := "l03_pack.go:414", after := #[], guard := none }) (v := ?_) rfl (by kernel_rfl) (by kernel_rfl) (by kernel_rfl) (fun _ _ _ h => h) (Or.inl ⟨by rfl, ?_⟩) (by assumption) ?_
            rotate_left 1
            · (intro wS hSw; (try dsimp only at hSw); go_simp; try (with_reducible rfl))
            (try simp only [Act.put, List.setIfInBounds_toArray, List.set_cons_zero, List.set_cons_succ])
            refine wpAnyH_take (i := 2) (oi := { dst := some 72, op := Op.nilCheck (Operand.tmp 71), type := 0, pos := "l03_pack.go:414", after := #[{ on := 1, ground := Ground.data }], guard := none }) (v := ?_) rfl (by kernel_rfl) (by kernel_rfl) (by kernel_rfl) (fun _ _ _ h => h) (Or.inl ⟨by rfl, ?_⟩) (by assumption) ?_
            rotate_left 1
            · (intro wS hSw; (try dsimp only at hSw); go_simp; try (with_reducible rfl))
            (try simp only [Act.put, List.setIfInBounds_toArray, List.set_cons_zero, List.set_cons_succ])
            refine wpAnyH_take (i := 3) (oi := { dst := some 73, op := Op.fieldAddr 61 (Operand.tmp 72) 2, type := 0, pos := "l03_pack.go:414", after := #[{ on := 2, ground := Ground.data }], guard := none }) (v := ?_) rfl (by kernel_rfl) (by kernel_rfl) (by kernel_rfl) (fun _ _ _ h => h) (Or.inl ⟨by rfl, ?_⟩) (by assumption) ?_
            rotate_left 1
            · (intro wS hSw; (try dsimp only at hSw); go_simp; try (with_reducible rfl))
            (try simp only [Act.put, List.setIfInBounds_toArray, List.set_cons_zero, List.set_cons_succ])
            refine wpAnyH_take (i := 5) (oi := { dst := some 75, op := Op.move (Operand.tmp 0), type := 66, pos := "l03_pack.go:414", after := #[], guard := none }) (v := ?_) rfl (by kernel_rfl) (by kernel_rfl) (by kernel_rfl) (fun _ _ _ h => h) (Or.inl ⟨by rfl, ?_⟩) (by assumption) ?_
            rotate_left 1
            · (intro wS hSw; (try dsimp only at hSw); go_simp; try (with_reducible rfl))
            (try simp only [Act.put, List.setIfInBounds_toArray, List.set_cons_zero, List.set_cons_succ])
            refine wpAnyH_ready (rs := [4, 6]) (by kernel_rfl) (by simp) ?_
            refine AllReadyH.cons (o := { dst := some 74, op := Op.load 55 (Operand.tmp 73), type := 55, pos := "l03_pack.go:414", after := #[{ on := 3, ground := Ground.data }], guard := none }) rfl (fun K hK => ?_) (AllReadyH.cons (o := { dst := some 76, op := Op.call { callee := Callee.value (Operand.func 36), args := #[Operand.tmp 75, Operand.const (Value.int IntKind.i64 8)], argTypes := #[66, 3] }, type := 3, pos := "l03_pack.go:414", after := #[{ on := 5, ground := Ground.data }], guard := none }) rfl (fun K hK => ?_) AllReadyH.nil)
            · skip
              go_simp
              refine hK.out _ _ trivial (fun hHeld => ?_)
              clear hK K
              (try simp only [Act.put, List.setIfInBounds_toArray, List.set_cons_zero, List.set_cons_succ])
              refine wpAnyH_ready (rs := [6]) (by kernel_rfl) (by simp) ?_
              refine AllReadyH.cons (o := { dst := some 76, op := Op.call { callee := Callee.value (Operand.func 36), args := #[Operand.tmp 75, Operand.const (Value.int IntKind.i64 8)], argTypes := #[66, 3] }, type := 3, pos := "l03_pack.go:414", after := #[{ on := 5, ground := Ground.data }], guard := none }) rfl (fun K hK => ?_) AllReadyH.nil
              go_simp
              refine (HT.out wr.drew R1).mono ?_
              rintro e x5 ⟨rfl, R5, M5, L5⟩
              have T5 : Bt c wr x5 := ((Bt.refl c wr).drew).trans (Bt.of M5 L5)
              have O5 := T5.own O1 hne
              have B5 := HBL.out.trans (T5.below hB hBwr)
              have c52 : x5.cell? ⟨c, 2, none⟩ = some (.slice va k vc) := cell_at R5 2
              have m52 := heap_old R5 (.cells #[.int .u8 (b : Int)] 5)
              have c62 : (x5.alloc (.cells #[.int .u8 (b : Int)] 5)).cell? ⟨c, 2, none⟩ = some (.slice va k vc) := cell_at m52 2
              have hx5 : w.heap.size ≤ x5.heap.size := B5.size
              refine hK.out _ _ trivial (fun hHeld => ?_)
              clear hK K
              (try simp only [Act.put, List.setIfInBounds_toArray, List.set_cons_zero, List.set_cons_succ])
              refine wpAnyH_take (i := 7) (oi := { dst := some 77, op := Op.convert 3 5 (Operand.tmp 76), type := 5, pos := "l03_pack.go:414", after := #[{ on := 6, ground := Ground.data }], guard := none }) (v := ?_) rfl (by kernel_rfl) (by kernel_rfl) (by kernel_rfl) (fun _ _ _ h => h) (Or.inl ⟨by rfl, ?_⟩) (by assumption) ?_
              rotate_left 1
              · (intro wS hSw; (try dsimp only at hSw); go_simp; try (with_reducible rfl))
              (try simp only [Act.put, List.setIfInBounds_toArray, List.set_cons_zero, List.set_cons_succ])
              refine wpAnyH_ready (rs := [8]) (by kernel_rfl) (by simp) ?_
              refine AllReadyH.cons (o := { dst := some 78, op := Op.buildSlice 55 1 #[(0, Operand.tmp 77)], type := 55, pos := "l03_pack.go:414", after := #[{ on := 7, ground := Ground.data }], guard := none }) rfl (fun K hK => ?_) AllReadyH.nil
              go_simp
              refine hK.out _ _ trivial (fun hHeld => ?_)
              clear hK K
              (try simp only [Act.put, List.setIfInBounds_toArray, List.set_cons_zero, List.set_cons_succ])
              refine wpAnyH_ready (rs := [9]) (by kernel_rfl) (by simp) ?_
              refine AllReadyH.cons (o := { dst := some 79, op := Op.call { callee := Callee.builtin Builtin.append, args := #[Operand.tmp 74, Operand.tmp 78], argTypes := #[55, 55] }, type := 55, pos := "l03_pack.go:414", after := #[{ on := 4, ground := Ground.data }, { on := 8, ground := Ground.data }, { on := 6, ground := Ground.chain }], guard := none }) rfl (fun K hK => ?_) AllReadyH.nil
              refine step_append_lies _ (by rfl) _ _ _ (by rfl) w.heap.size 5 i0 _ 1 1 Tryd.underlying55 hi hz0 hz1 hz2 rfl (by omega) (.slice va k vc) k (bcells out) (by rfl) (O5.alloc _) ⟨x5.heap.size, 0, none⟩ 1 1 [.int .u8 (b : Int)] (by rfl) (by rfl) (World.news_of_block (cs := #[.int .u8 (b : Int)]) (t := 5) (fr := (0, 0)) (heap_alloc_new x5 _)) (by simp [Value.oneCell']) (by omega) (by unfold maxLen; omega) (by omega) (by simp; omega) (x5.heap.size + 1) (by simp) ?_
              intro gg cap6 w6 hown1 hgrow hat hlt
              have m6 : RdI c s (40 + 8 * k + 8) (.slice va k vc) w6 := (hgrow.block c (lt_of m52) (own_ne (O5.alloc _) m52 (by decide))).trans m52
              have L6 : Below B w w6 := (B5.alloc (by omega) _).grown hgrow (by simp; omega) (fun m h => Nat.le_trans hB2 (own_ge O5 m h))
              rw [HSN.out] at hown1
              have K7 : Bk B c s (40 + 8 * k + 8) out2 (some ⟨gg, 0, none⟩) cap6 w (w6.setCell ⟨c, 2, none⟩ (.slice (some ⟨gg, 0, none⟩) (k + 1) cap6)) := HPT.out w6 gg cap6 m6 hown1 L6
              have c6 : w6.cell? ⟨c, 2, none⟩ = some (.slice va k vc) := cell_at m6 2
              have f6 : w6.frozen? ⟨c, 2, none⟩ = false := frozen_at m6 2
              have HK7 : Hid (_) := K7
              clear K7 hown1 hgrow m6 L6 O5 B5 T5 m52 c52 c62 R5 M5 L5
              refine hK.out _ _ trivial (fun hHeld => ?_)
              clear hK K
              (try simp only [Act.put, List.setIfInBounds_toArray, List.set_cons_zero, List.set_cons_succ])
              refine wpAnyH_take (i := 10) (oi := { dst := some 80, op := Op.nilCheck (Operand.tmp 70), type := 0, pos := "l03_pack.go:414", after := #[{ on := 0, ground := Ground.data }, { on := 0, ground := Ground.phase }, { on := 1, ground := Ground.phase }, { on := 2, ground := Ground.phase }, { on := 3, ground := Ground.phase }, { on := 4, ground := Ground.phase }, { on := 5, ground := Ground.phase }, { on := 6, ground := Ground.phase }, { on := 7, ground := Ground.phase }, { on := 8, ground := Ground.phase }, { on := 9, ground := Ground.phase }], guard := none }) (v := ?_) rfl (by kernel_rfl) (by kernel_rfl) (by kernel_rfl) (fun _ _ _ h => h) (Or.inl ⟨by rfl, ?_⟩) (by assumption) ?_
              rotate_left 1
              · (intro wS hSw; (try dsimp only at hSw); go_simp; try (with_reducible rfl))
              (try simp only [Act.put, List.setIfInBounds_toArray, List.set_cons_zero, List.set_cons_succ])
              refine wpAnyH_take (i := 11) (oi := { dst := some 81, op := Op.fieldAddr 61 (Operand.tmp 80) 2, type := 0, pos := "l03_pack.go:414", after := #[{ on := 10, ground := Ground.data }, { on := 0, ground := Ground.phase }, { on := 1, ground := Ground.phase }, { on := 2, ground := Ground.phase }, { on := 3, ground := Ground.phase }, { on := 4, ground := Ground.phase }, { on := 5, ground := Ground.phase }, { on := 6, ground := Ground.phase }, { on := 7, ground := Ground.phase }, { on := 8, ground := Ground.phase }, { on := 9, ground := Ground.phase }], guard := none }) (v := ?_) rfl (by kernel_rfl) (by kernel_rfl) (by kernel_rfl) (fun _ _ _ h => h) (Or.inl ⟨by rfl, ?_⟩) (by assumption) ?_
              rotate_left 1
              · (intro wS hSw; (try dsimp only at hSw); go_simp; try (with_reducible rfl))
              (try simp only [Act.put, List.setIfInBounds_toArray, List.set_cons_zero, List.set_cons_succ])
              refine wpAnyH_ready (rs := [12]) (by kernel_rfl) (by simp) ?_
              refine AllReadyH.cons (o := { dst := none, op := Op.store 55 (Operand.tmp 81) (Operand.tmp 79), type := 0, pos := "l03_pack.go:414", after := #[{ on := 11, ground := Ground.data }, { on := 9, ground := Ground.data }, { on := 9, ground := Ground.chain }, { on := 0, ground := Ground.phase }, { on := 1, ground := Ground.phase }, { on := 2, ground := Ground.phase }, { on := 3, ground := Ground.phase }, { on := 4, ground := Ground.phase }, { on := 5, ground := Ground.phase }, { on := 6, ground := Ground.phase }, { on := 7, ground := Ground.phase }, { on := 8, ground := Ground.phase }, { on := 9, ground := Ground.phase }], guard := none }) rfl (fun K hK => ?_) AllReadyH.nil
              go_simp
              refine hK.out _ _ trivial (fun hHeld => ?_)
              clear hK K
              (try simp only [Act.put, List.setIfInBounds_toArray, List.set_cons_zero, List.set_cons_succ])
              refine wpAnyH_done (by kernel_rfl) ?_ _
              go_wp2
              go_roundw
              case rel => exact ⟨k + 1, some ⟨gg, 0, none⟩, cap6, by omega, by go_num, by omega, by rw [show 40 + 8 * (k + 1) = 40 + 8 * k + 8 by omega, HO2.out]; exact HK7⟩
              case measure => simp [intOf]; omega
            · skip
              go_simp
              refine (HT.out wr.drew R1).mono ?_
              rintro e x5 ⟨rfl, R5, M5, L5⟩
              have T5 : Bt c wr x5 := ((Bt.refl c wr).drew).trans (Bt.of M5 L5)
              have O5 := T5.own O1 hne
              have B5 := HBL.out.trans (T5.below hB hBwr)
              have c52 : x5.cell? ⟨c, 2, none⟩ = some (.slice va k vc) := cell_at R5 2
              have m52 := heap_old R5 (.cells #[.int .u8 (b : Int)] 5)
              have c62 : (x5.alloc (.cells #[.int .u8 (b : Int)] 5)).cell? ⟨c, 2, none⟩ = some (.slice va k vc) := cell_at m52 2
              have hx5 : w.heap.size ≤ x5.heap.size := B5.size
              refine hK.out _ _ trivial (fun hHeld => ?_)
              clear hK K
              (try simp only [Act.put, List.setIfInBounds_toArray, List.set_cons_zero, List.set_cons_succ])
              refine wpAnyH_take (i := 7) (oi := { dst := some 77, op := Op.convert 3 5 (Operand.tmp 76), type := 5, pos := "l03_pack.go:414", after := #[{ on := 6, ground := Ground.data }], guard := none }) (v := ?_) rfl (by kernel_rfl) (by kernel_rfl) (by kernel_rfl) (fun _ _ _ h => h) (Or.inl ⟨by rfl, ?_⟩) (by assumption) ?_
              rotate_left 1
              · (intro wS hSw; (try dsimp only at hSw); go_simp; try (with_reducible rfl))
              (try simp only [Act.put, List.setIfInBounds_toArray, List.set_cons_zero, List.set_cons_succ])
              refine wpAnyH_ready (rs := [4, 8]) (by kernel_rfl) (by simp) ?_
              refine AllReadyH.cons (o := { dst := some 74, op := Op.load 55 (Operand.tmp 73), type := 55, pos := "l03_pack.go:414", after := #[{ on := 3, ground := Ground.data }], guard := none }) rfl (fun K hK => ?_) (AllReadyH.cons (o := { dst := some 78, op := Op.buildSlice 55 1 #[(0, Operand.tmp 77)], type := 55, pos := "l03_pack.go:414", after := #[{ on := 7, ground := Ground.data }], guard := none }) rfl (fun K hK => ?_) AllReadyH.nil)
              · skip
                go_simp
                refine hK.out _ _ trivial (fun hHeld => ?_)
                clear hK K
                (try simp only [Act.put, List.setIfInBounds_toArray, List.set_cons_zero, List.set_cons_succ])
                refine wpAnyH_ready (rs := [8]) (by kernel_rfl) (by simp) ?_
                refine AllReadyH.cons (o := { dst := some 78, op := Op.buildSlice 55 1 #[(0, Operand.tmp 77)], type := 55, pos := "l03_pack.go:414", after := #[{ on := 7, ground := Ground.data }], guard := none }) rfl (fun K hK => ?_) AllReadyH.nil
                go_simp
                refine hK.out _ _ trivial (fun hHeld => ?_)
                clear hK K
                (try simp only [Act.put, List.setIfInBounds_toArray, List.set_cons_zero, List.set_cons_succ])
                refine wpAnyH_ready (rs := [9]) (by kernel_rfl) (by simp) ?_
                refine AllReadyH.cons (o := { dst := some 79, op := Op.call { callee := Callee.builtin Builtin.append, args := #[Operand.tmp 74, Operand.tmp 78], argTypes := #[55, 55] }, type := 55, pos := "l03_pack.go:414", after := #[{ on := 4, ground := Ground.data }, { on := 8, ground := Ground.data }, { on := 6, ground := Ground.chain }], guard := none }) rfl (fun K hK => ?_) AllReadyH.nil
                refine step_append_lies _ (by rfl) _ _ _ (by rfl) w.heap.size 5 i0 _ 1 1 Tryd.underlying55 hi hz0 hz1 hz2 rfl (by omega) (.slice va k vc) k (bcells out) (by rfl) (O5.alloc _) ⟨x5.heap.size, 0, none⟩ 1 1 [.int .u8 (b : Int)] (by rfl) (by rfl) (World.news_of_block (cs := #[.int .u8 (b : Int)]) (t := 5) (fr := (0, 0)) (heap_alloc_new x5 _)) (by simp [Value.oneCell']) (by omega) (by unfold maxLen; omega) (by omega) (by simp; omega) (x5.heap.size + 1) (by simp) ?_
                intro gg cap6 w6 hown1 hgrow hat hlt
                have m6 : RdI c s (40 + 8 * k + 8) (.slice va k vc) w6 := (hgrow.block c (lt_of m52) (own_ne (O5.alloc _) m52 (by decide))).trans m52
                have L6 : Below B w w6 := (B5.alloc (by omega) _).grown hgrow (by simp; omega) (fun m h => Nat.le_trans hB2 (own_ge O5 m h))
                rw [HSN.out] at hown1
                have K7 : Bk B c s (40 + 8 * k + 8) out2 (some ⟨gg, 0, none⟩) cap6 w (w6.setCell ⟨c, 2, none⟩ (.slice (some ⟨gg, 0, none⟩) (k + 1) cap6)) := HPT.out w6 gg cap6 m6 hown1 L6
                have c6 : w6.cell? ⟨c, 2, none⟩ = some (.slice va k vc) := cell_at m6 2
                have f6 : w6.frozen? ⟨c, 2, none⟩ = false := frozen_at m6 2
                have HK7 : Hid (_) := K7
                clear K7 hown1 hgrow m6 L6 O5 B5 T5 m52 c52 c62 R5 M5 L5
                refine hK.out _ _ trivial (fun hHeld => ?_)
                clear hK K
                (try simp only [Act.put, List.setIfInBounds_toArray, List.set_cons_zero, List.set_cons_succ])
                refine wpAnyH_take (i := 10) (oi := { dst := some 80, op := Op.nilCheck (Operand.tmp 70), type := 0, pos := "l03_pack.go:414", after := #[{ on := 0, ground := Ground.data }, { on := 0, ground := Ground.phase }, { on := 1, ground := Ground.phase }, { on := 2, ground := Ground.phase }, { on := 3, ground := Ground.phase }, { on := 4, ground := Ground.phase }, { on := 5, ground := Ground.phase }, { on := 6, ground := Ground.phase }, { on := 7, ground := Ground.phase }, { on := 8, ground := Ground.phase }, { on := 9, ground := Ground.phase }], guard := none }) (v := ?_) rfl (by kernel_rfl) (by kernel_rfl) (by kernel_rfl) (fun _ _ _ h => h) (Or.inl ⟨by rfl, ?_⟩) (by assumption) ?_
                rotate_left 1
                · (intro wS hSw; (try dsimp only at hSw); go_simp; try (with_reducible rfl))
                (try simp only [Act.put, List.setIfInBounds_toArray, List.set_cons_zero, List.set_cons_succ])
                refine wpAnyH_take (i := 11) (oi := { dst := some 81, op := Op.fieldAddr 61 (Operand.tmp 80) 2, type := 0, pos := "l03_pack.go:414", after := #[{ on := 10, ground := Ground.data }, { on := 0, ground := Ground.phase }, { on := 1, ground := Ground.phase }, { on := 2, ground := Ground.phase }, { on := 3, ground := Ground.phase }, { on := 4, ground := Ground.phase }, { on := 5, ground := Ground.phase }, { on := 6, ground := Ground.phase }, { on := 7, ground := Ground.phase }, { on := 8, ground := Ground.phase }, { on := 9, ground := Ground.phase }], guard := none }) (v := ?_) rfl (by kernel_rfl) (by kernel_rfl) (by kernel_rfl) (fun _ _ _ h => h) (Or.inl ⟨by rfl, ?_⟩) (by assumption) ?_
                rotate_left 1
                · (intro wS hSw; (try dsimp only at hSw); go_simp; try (with_reducible rfl))
                (try simp only [Act.put, List.setIfInBounds_toArray, List.set_cons_zero, List.set_cons_succ])
                refine wpAnyH_ready (rs := [12]) (by kernel_rfl) (by simp) ?_
                refine AllReadyH.cons (o := { dst := none, op := Op.store 55 (Operand.tmp 81) (Operand.tmp 79), type := 0, pos := "l03_pack.go:414", after := #[{ on := 11, ground := Ground.data }, { on := 9, ground := Ground.data }, { on := 9, ground := Ground.chain }, { on := 0, ground := Ground.phase }, { on := 1, ground := Ground.phase }, { on := 2, ground := Ground.phase }, { on := 3, ground := Ground.phase }, { on := 4, ground := Ground.phase }, { on := 5, ground := Ground.phase }, { on := 6, ground := Ground.phase }, { on := 7, ground := Ground.phase }, { on := 8, ground := Ground.phase }, { on := 9, ground := Ground.phase }], guard := none }) rfl (fun K hK => ?_) AllReadyH.nil
                go_simp
                refine hK.out _ _ trivial (fun hHeld => ?_)
                clear hK K
                (try simp only [Act.put, List.setIfInBounds_toArray, List.set_cons_zero, List.set_cons_succ])
                refine wpAnyH_done (by kernel_rfl) ?_ _
                go_wp2
                go_roundw
                case rel => exact ⟨k + 1, some ⟨gg, 0, none⟩, cap6, by omega, by go_num, by omega, by rw [show 40 + 8 * (k + 1) = 40 + 8 * k + 8 by omega, HO2.out]; exact HK7⟩
                case measure => simp [intOf]; omega
              · skip
                go_simp
                refine hK.out _ _ trivial (fun hHeld => ?_)
                clear hK K
                (try simp only [Act.put, List.setIfInBounds_toArray, List.set_cons_zero, List.set_cons_succ])
                refine wpAnyH_ready (rs := [4]) (by kernel_rfl) (by simp) ?_
                refine AllReadyH.cons (o := { dst := some 74, op := Op.load 55 (Operand.tmp 73), type := 55, pos := "l03_pack.go:414", after := #[{ on := 3, ground := Ground.data }], guard := none }) rfl (fun K hK => ?_) AllReadyH.nil
                go_simp
                refine hK.out _ _ trivial (fun hHeld => ?_)
                clear hK K
                (try simp only [Act.put, List.setIfInBounds_toArray, List.set_cons_zero, List.set_cons_succ])
                refine wpAnyH_ready (rs := [9]) (by kernel_rfl) (by simp) ?_
                refine AllReadyH.cons (o := { dst := some 79, op := Op.call { callee := Callee.builtin Builtin.append, args := #[Operand.tmp 74, Operand.tmp 78], argTypes := #[55, 55] }, type := 55, pos := "l03_pack.go:414", after := #[{ on := 4, ground := Ground.data }, { on := 8, ground := Ground.data }, { on := 6, ground := Ground.chain }], guard := none }) rfl (fun K hK => ?_) AllReadyH.nil
                refine step_append_lies _ (by rfl) _ _ _ (by rfl) w.heap.size 5 i0 _ 1 1 Tryd.underlying55 hi hz0 hz1 hz2 rfl (by omega) (.slice va k vc) k (bcells out) (by rfl) (O5.alloc _) ⟨x5.heap.size, 0, none⟩ 1 1 [.int .u8 (b : Int)] (by rfl) (by rfl) (World.news_of_block (cs := #[.int .u8 (b : Int)]) (t := 5) (fr := (0, 0)) (heap_alloc_new x5 _)) (by simp [Value.oneCell']) (by omega) (by unfold maxLen; omega) (by omega) (by simp; omega) (x5.heap.size + 1) (by simp) ?_
                intro gg cap6 w6 hown1 hgrow hat hlt
                have m6 : RdI c s (40 + 8 * k + 8) (.slice va k vc) w6 := (hgrow.block c (lt_of m52) (own_ne (O5.alloc _) m52 (by decide))).trans m52
                have L6 : Below B w w6 := (B5.alloc (by omega) _).grown hgrow (by simp; omega) (fun m h => Nat.le_trans hB2 (own_ge O5 m h))
                rw [HSN.out] at hown1
                have K7 : Bk B c s (40 + 8 * k + 8) out2 (some ⟨gg, 0, none⟩) cap6 w (w6.setCell ⟨c, 2, none⟩ (.slice (some ⟨gg, 0, none⟩) (k + 1) cap6)) := HPT.out w6 gg cap6 m6 hown1 L6
                have c6 : w6.cell? ⟨c, 2, none⟩ = some (.slice va k vc) := cell_at m6 2
                have f6 : w6.frozen? ⟨c, 2, none⟩ = false := frozen_at m6 2
                have HK7 : Hid (_) := K7
                clear K7 hown1 hgrow m6 L6 O5 B5 T5 m52 c52 c62 R5 M5 L5
                refine hK.out _ _ trivial (fun hHeld => ?_)
                clear hK K
                (try simp only [Act.put, List.setIfInBounds_toArray, List.set_cons_zero, List.set_cons_succ])
                refine wpAnyH_take (i := 10) (oi := { dst := some 80, op := Op.nilCheck (Operand.tmp 70), type := 0, pos := "l03_pack.go:414", after := #[{ on := 0, ground := Ground.data }, { on := 0, ground := Ground.phase }, { on := 1, ground := Ground.phase }, { on := 2, ground := Ground.phase }, { on := 3, ground := Ground.phase }, { on := 4, ground := Ground.phase }, { on := 5, ground := Ground.phase }, { on := 6, ground := Ground.phase }, { on := 7, ground := Ground.phase }, { on := 8, ground := Ground.phase }, { on := 9, ground := Ground.phase }], guard := none }) (v := ?_) rfl (by kernel_rfl) (by kernel_rfl) (by kernel_rfl) (fun _ _ _ h => h) (Or.inl ⟨by rfl, ?_⟩) (by assumption) ?_
                rotate_left 1
                · (intro wS hSw; (try dsimp only at hSw); go_simp; try (with_reducible rfl))
                (try simp only [Act.put, List.setIfInBounds_toArray, List.set_cons_zero, List.set_cons_succ])
                refine wpAnyH_take (i := 11) (oi := { dst := some 81, op := Op.fieldAddr 61 (Operand.tmp 80) 2, type := 0, pos := "l03_pack.go:414", after := #[{ on := 10, ground := Ground.data }, { on := 0, ground := Ground.phase }, { on := 1, ground := Ground.phase }, { on := 2, ground := Ground.phase }, { on := 3, ground := Ground.phase }, { on := 4, ground := Ground.phase }, { on := 5, ground := Ground.phase }, { on := 6, ground := Ground.phase }, { on := 7, ground := Ground.phase }, { on := 8, ground := Ground.phase }, { on := 9, ground := Ground.phase }], guard := none }) (v := ?_) rfl (by kernel_rfl) (by kernel_rfl) (by kernel_rfl) (fun _ _ _ h => h) (Or.inl ⟨by rfl, ?_⟩) (by assumption) ?_
                rotate_left 1
                · (intro wS hSw; (try dsimp only at hSw); go_simp; try (with_reducible rfl))
                (try simp only [Act.put, List.setIfInBounds_toArray, List.set_cons_zero, List.set_cons_succ])
                refine wpAnyH_ready (rs := [12]) (by kernel_rfl) (by simp) ?_
                refine AllReadyH.cons (o := { dst := none, op := Op.store 55 (Operand.tmp 81) (Operand.tmp 79), type := 0, pos := "l03_pack.go:414", after := #[{ on := 11, ground := Ground.data }, { on := 9, ground := Ground.data }, { on := 9, ground := Ground.chain }, { on := 0, ground := Ground.phase }, { on := 1, ground := Ground.phase }, { on := 2, ground := Ground.phase }, { on := 3, ground := Ground.phase }, { on := 4, ground := Ground.phase }, { on := 5, ground := Ground.phase }, { on := 6, ground := Ground.phase }, { on := 7, ground := Ground.phase }, { on := 8, ground := Ground.phase }, { on := 9, ground := Ground.phase }], guard := none }) rfl (fun K hK => ?_) AllReadyH.nil
                go_simp
                refine hK.out _ _ trivial (fun hHeld => ?_)
                clear hK K
                (try simp only [Act.put, List.setIfInBounds_toArray, List.set_cons_zero, List.set_cons_succ])
                refine wpAnyH_done (by kernel_rfl) ?_ _
                go_wp2
                go_roundw
                case rel => exact ⟨k + 1, some ⟨gg, 0, none⟩, cap6, by omega, by go_num, by omega, by rw [show 40 + 8 * (k + 1) = 40 + 8 * k + 8 by omega, HO2.out]; exact HK7⟩
                case measure => simp [intOf]; omega
        · obtain rfl : k = n := by omega
          have hkI : ¬ (k : Int) < (k : Int) := by omega
          have h0 : storedC s = 0 := HS2.out.trans (if_neg (by omega))
          have hT := HTT.out h0
          have hlist : (Math.storedT s).data.toList = (s.data.toList.drop 5).take k := by rw [hT, ByteArray.data_extract, Array.toList_extract]; simp [List.extract]
          have HF : Hid (body s = (0, (s.data.toList.drop 5).take k, 40 + 8 * k)) := by show body s = _; rw [HBO.out, h0, hlist]
          have HR : Hid (_) := restI_val c s (40 + 8 * k) (.slice va ((s.data.toList.drop 5).take k).length vc) wr (by omega) (by omega) HK.out.rd
          clear HTT HBO h0 hT hlist
          go_wp2
          go_step3
          rename_i hK2
          refine hK2 _ _ ?_
          go_wp2_with fail
          refine Calls.mono HR.out ?_
          rintro e w9 ⟨⟨h0, h6⟩, T⟩
          obtain ⟨k1, k2, k3⟩ := HKN.out
          have hu := (Math.unp_body k1 k2 k3 HF.out).2 rfl
          by_cases hr : rst s 8 (40 + 8 * k) = 0
          · obtain ⟨rfl, q, R⟩ := h0 hr
            have K2 := HK.out.mv R T hB hB2
            go_wp2
            exact ⟨rfl, _, results_none rfl _ _ _, ⟨fun h => absurd (hu.1.trans hr) h, fun _ => ⟨rfl, q, va, vc, _, hu.2 (hu.1.trans hr), K2⟩, K2.bl⟩⟩
          · obtain ⟨h7, rfl⟩ := h6 hr
            exact ⟨rfl, blk_code (k := 6) (hu.1.trans h7) (by omega) (HK.out.bl.trans (T.below hB (Nat.le_trans hB2 HK.out.bl.size)))⟩
    · obtain ⟨u, x3, rfl⟩ : ∃ u x3, a' = bAct c u x3 := ⟨_, _, hA⟩
      clear hA
      refine ⟨_, rfl, ?_⟩
      unfold bAct
      have hBw : B ≤ w'.heap.size := Nat.le_trans hB2 K.bl.size
      have HS : Hid (_) := symI_val 0 c s a (.slice va out.length vc) w' (by omega) (Nat.zero_le _) (Nat.zero_le _) ha (HRU.out.on K.bl hrB) K.rd
      obtain ⟨hn7, hn9⟩ := Math.symLen_bd s a
      have hys := Math.symAt_lt s a
      obtain ⟨g, rfl⟩ : ∃ k, g = k + 1 := ⟨g - 1, by omega⟩
      obtain ⟨nl, hnl⟩ : ∃ nl, symLen s a = nl := ⟨_, rfl⟩
      obtain ⟨y, hy⟩ : ∃ y, symAt s a = y := ⟨_, rfl⟩
      have HNN : Hid (symLen s a = nl) := hnl
      have HYY : Hid (symAt s a = y) := hy
      unfold SymEnd at HS
      rw [hnl, hy] at HS
      rw [hnl] at hn7 hn9
      rw [hy] at hys
      clear hnl hy
      have c1 : w'.cell? ⟨c, 1, none⟩ = some (.int .i64 (a : Int)) := cell_at K.rd 1
      have HMS : Hid (∀ A, MM c s 1 A w' = 1 + (8 * s.size - a)) := fun A => by unfold MM; rw [if_neg (by omega), if_neg (by omega), c1]; simp [intOf]
      clear c1
      go_wp2_with fail
      refine Calls.mono HS.out ?_
      rintro e w2 ⟨⟨e1, e2, e3⟩, T⟩
      have L2 := K.bl.trans (T.below hB hBw)
      by_cases hcut : 8 * s.size < a + nl
      · obtain rfl := e1 hcut
        have HX := HF.out.trans (Math.fix_cut (by rw [HNN.out]; exact hcut))
        exact ⟨rfl, blk_bad (k := 1) HKN.out HX (by omega) L2⟩
      by_cases h285 : 285 < y
      · obtain rfl := e2 hcut h285
        have HX := HF.out.trans (Math.fix_sym (by rw [HNN.out]; exact hcut) (by rw [HYY.out]; exact h285))
        exact ⟨rfl, blk_bad (k := 3) HKN.out HX (by omega) L2⟩
      obtain ⟨rfl, R2⟩ := e3 hcut h285
      have K2 := K.mv R2 T hB hB2
      clear e1 e2 e3 T HS L2
      have c21 : w2.cell? ⟨c, 1, none⟩ = some (.int .i64 ((a + nl : Nat) : Int)) := cell_at R2 1
      have HK2 : Hid (_) := K2
      by_cases h256 : y = 256
      · subst h256
        have HX : Hid (_) := HF.out.trans (Math.fix_end (by rw [HNN.out]; exact hcut) HYY.out)
        rw [HNN.out] at HX
        clear K2 R2 c21 K HF
        go_wp2
        go_step3
        refine ⟨Or.inr (Or.inr (Or.inl ⟨rfl, rfl, a + nl, out, va, vc, by omega, HX, HK2.out⟩)), ?_⟩
        rw [HMS.out]
        show 0 < _
        omega
      have h256I : ¬ (y : Int) = 256 := by omega
      by_cases hgt : 256 < y
      · have hgI : (256 : Int) < (y : Int) := by omega
        clear K2 R2 K
        go_wp2
        go_step3
        refine ⟨Or.inr (Or.inr (Or.inr ⟨rfl, a, g, y, nl, rfl, out, va, vc, by omega, hn7, hn9, hol, hg, hgt, by omega, HYY, HNN, HF, HK2.out⟩)), ?_⟩
        rw [HMS.out]
        show (1 + (8 * s.size - (intOf ((w2.cell? ⟨c, 1, none⟩).getD undef)).toNat)) < _
        rw [c21]
        simp [intOf]
        omega
      have hlt : y < 256 := by omega
      have hgI : ¬ (256 : Int) < (y : Int) := by omega
      have HBY : Hid (_) := beyond_val c s (a + nl) out.length 1 va vc w2 (by omega) (by omega) R2
      rw [show ((1 : Nat) : Int) = 1 from rfl] at HBY
      clear R2 K
      go_wp2_with fail
      refine Calls.mono HBY.out ?_
      rintro e w3 ⟨⟨e5, e0⟩, rfl⟩
      by_cases hful : 3000 < out.length + 1
      · obtain rfl := e5 hful
        have HX := HF.out.trans (Math.fix_full (by rw [HNN.out]; exact hcut) (by rw [HYY.out]; exact hlt) hful)
        exact ⟨rfl, blk_bad (k := 5) HKN.out HX (by omega) K2.bl⟩
      obtain rfl := e0 hful
      have HX : Hid (_) := HF.out.trans (Math.fix_byte (by rw [HNN.out]; exact hcut) (by rw [HYY.out]; exact hlt) hful)
      rw [HNN.out, HYY.out] at HX
      have c22 : w3.cell? ⟨c, 2, none⟩ = some (.slice va out.length vc) := cell_at K2.rd 2
      have f22 : w3.frozen? ⟨c, 2, none⟩ = false := frozen_at K2.rd 2
      have hown2 := K2.own
      have hB3 : B ≤ w3.heap.size := Nat.le_trans hB2 K2.bl.size
      have HL3 : Hid (_) := K2.bl
      have hw3w : w.heap.size ≤ w3.heap.size := K2.bl.size
      have HRD : Hid (_) := K2.rd
      have hwy : IntKind.u8.wrap (y : Int) = (y : Int) := by rw [IntKind.wrap_u8]; omega
      have HBT : Hid (((UInt8.ofNat y).toNat : Int) = (y : Int)) := by show ((UInt8.ofNat y).toNat : Int) = (y : Int); rw [UInt8.toNat_ofNat']; omega
      clear K2 e5 e0 HBY HF
      go_wp2_with (at_builtin; refine wpList_append_own _ rfl _ _ 55 rfl w.heap.size 5 i0 (.int .u8 0) 1 1 Tryd.underlying55 hi hz0 hz1 hz2 rfl (by decide) _ _ _ rfl (hown2.alloc _) ⟨w3.heap.size, 0, none⟩ 1 1 [.int .u8 (y : Int)] rfl rfl ?c1 ?c2 ?c3 ?c4 ?c5 ?_)
      case c1 => exact cell_one_new _ _ _
      case c2 => intro u hu; simp at hu; subst hu; rfl
      case c3 => unfold maxLen; omega
      case c4 => omega
      case c5 => simp; omega
      intro v' w4 hown3 hgrow _
      rw [← HBT.out, bcells_snoc] at hown3
      have m2 := heap_old HRD.out (.cells #[.int .u8 (y : Int)] 5)
      have m4 : RdI c s (a + nl) (.slice va out.length vc) w4 := (hgrow.block c (lt_of m2) (own_ne (hown2.alloc _) m2 (by decide))).trans m2
      have L4 : Below B w w4 := (HL3.out.alloc (by omega) _).grown hgrow (by simp; omega) (fun m h => Nat.le_trans hB2 (own_ge hown2 m h))
      obtain ⟨va3, vc3, rfl, -⟩ := own_form hown3
      have hown4 : w4.ownsRow w.heap.size 5 1 (.slice va3 (out ++ [UInt8.ofNat y]).length vc3) (out ++ [UInt8.ofNat y]).length (bcells (out ++ [UInt8.ofNat y])) := by rw [List.length_append]; exact hown3
      have K5 := HK2.out.put hB m4 hown4 L4
      rw [show (out ++ [UInt8.ofNat y]).length = out.length + 1 from List.length_append] at K5
      have c42 : w4.cell? ⟨c, 2, none⟩ = some (.slice va out.length vc) := cell_at m4 2
      have f42 : w4.frozen? ⟨c, 2, none⟩ = false := frozen_at m4 2
      have HK5 : Hid (_) := K5
      have c51 : Hid ((w4.setCell ⟨c, 2, none⟩ (.slice va3 (out.length + 1) vc3)).cell? ⟨c, 1, none⟩ = some (.int .i64 ((a + nl : Nat) : Int))) := cell_at K5.rd 1
      clear K5 hown3 hown4 hown2 hgrow m2 L4 c21 c22 f22 m4
      go_wp2
      go_step3
      refine ⟨Or.inr (Or.inl ⟨rfl, rfl, a + nl, g, out ++ [UInt8.ofNat y], va3, vc3, by omega, by rw [List.length_append]; simp; omega, by omega, HX, HK5.out⟩), ?_⟩
      rw [HMS.out]
      show (1 + (8 * s.size - (intOf (((w4.setCell ⟨c, 2, none⟩ (.slice va3 (out.length + 1) vc3)).cell? ⟨c, 1, none⟩).getD undef)).toNat)) < _
      rw [c51.out]
      simp [intOf]
      omega
    · obtain ⟨u, x3, rfl⟩ : ∃ u x3, a' = bAct c u x3 := ⟨_, _, hA⟩
      clear hA
      have HR : Hid (_) := restI_val c s a (.slice va out.length vc) w' (by omega) ha K.rd
      refine ⟨_, rfl, ?_⟩
      unfold bAct
      go_wp2_with fail
      refine Calls.mono HR.out ?_
      rintro e w2 ⟨⟨h0, h6⟩, T⟩
      obtain ⟨k1, k2, k3⟩ := HKN.out
      have hu := (Math.unp_body k1 k2 k3 HF.out).2 rfl
      by_cases hr : rst s 8 a = 0
      · obtain ⟨rfl, q, R⟩ := h0 hr
        have K2 := K.mv R T hB hB2
        go_wp2
        exact ⟨rfl, _, results_none rfl _ _ _, ⟨fun h => absurd (hu.1.trans hr) h, fun _ => ⟨rfl, q, va, vc, out, hu.2 (hu.1.trans hr), K2⟩, K2.bl⟩⟩
      · obtain ⟨h7, rfl⟩ := h6 hr
        have hBw : B ≤ w'.heap.size := Nat.le_trans hB2 K.bl.size
        exact ⟨rfl, blk_code (k := 6) (hu.1.trans h7) (by omega) (K.bl.trans (T.below hB hBw))⟩
    · obtain ⟨u, rfl⟩ : ∃ u, a' = bAct c u (.int .i64 (y : Int)) := ⟨_, hA⟩
      clear hA
      refine ⟨_, rfl, ?_⟩
      unfold bAct
      have hBw : B ≤ w'.heap.size := Nat.le_trans hB2 K.bl.size
      have c1 : w'.cell? ⟨c, 1, none⟩ = some (.int .i64 ((a + nl : Nat) : Int)) := cell_at K.rd 1
      have HMS : Hid (∀ A, MM c s 3 A w' = 1 + (8 * s.size - (a + nl))) := fun A => by unfold MM; rw [if_neg (by omega), if_neg (by omega), c1]; simp [intOf]; omega
      have HLE : Hid (_) := lenI_val c s (a + nl) y (.slice va out.length vc) w' (by omega) ha (by omega) hy5 K.rd
      have hx1 : ¬ 8 * s.size < a + symLen s a := by rw [HN.out]; omega
      have hx2 : 256 < symAt s a := by rw [HY.out]; exact hy6
      have hx3 : symAt s a ≤ 285 := by rw [HY.out]; exact hy5
      have hp1 : p1 s a = a + nl + lenBits y := by unfold p1; rw [HN.out, HY.out]
      have hnn : nn s a = lenTold s (a + nl) y := by unfold nn; rw [HN.out, HY.out]
      have hnb : nn s a ≤ 290 := by
        have h := len_bds y (by omega) hy5
        have h5 : lowAt s (a + nl) (lenBits y) < 32 := Nat.lt_of_lt_of_le (Math.lowAt_lt s (a + nl) (lenBits y)) (Nat.le_trans (Nat.pow_le_pow_right (by omega) h.2) (by decide))
        rw [hnn, Math.lenTold_is]
        omega
      have HX1 : Hid (_) := hx1
      have HX2 : Hid (_) := hx2
      have HX3 : Hid (_) := hx3
      have HP1 : Hid (_) := hp1
      have HNV : Hid (_) := hnn
      rw [← hnn, ← hp1] at HLE
      clear hx1 hx2 hx3 hnn c1
      obtain ⟨n, hn⟩ : ∃ n, nn s a = n := ⟨_, rfl⟩
      have HNQ : Hid (nn s a = n) := hn
      rw [hn] at HLE hnb
      obtain ⟨P, hP⟩ : ∃ P, p1 s a = P := ⟨_, rfl⟩
      have HPQ : Hid (p1 s a = P) := hP
      rw [hP] at HLE hp1
      have hPa : a + nl ≤ P := by omega
      clear hn hP hp1
      go_wp2_with fail
      refine Calls.mono HLE.out ?_
      rintro e w2 ⟨⟨e1, e0⟩, T⟩
      have L2 := K.bl.trans (T.below hB hBw)
      by_cases hcut : 8 * s.size < P
      · obtain rfl := e1 hcut
        have HX := HF.out.trans (Math.fix_cut2 HX1.out HX2.out HX3.out (by rw [HPQ.out]; omega))
        exact ⟨rfl, blk_bad (k := 1) HKN.out HX (by omega) L2⟩
      obtain ⟨rfl, R2⟩ := e0 hcut
      have K2 := K.mv R2 T hB hB2
      have HBA : Hid (_) := backI_val c s P (.slice va out.length vc) w2 (by omega) (by omega) R2
      have hBw2 : B ≤ w2.heap.size := Nat.le_trans hB2 K2.bl.size
      have hbk : bk s a = topAt s P 5 := by unfold bk; rw [HPQ.out]
      have hp2 : p2' s a = P + 5 + cbits 2 (bk s a) := by unfold p2'; rw [HPQ.out]
      have hdd : dd s a = backTold s (P + 5) (bk s a) := by unfold dd; rw [HPQ.out]
      rw [← hbk, ← hdd, ← hp2] at HBA
      have hdb : ¬ 29 < bk s a → 1 ≤ dd s a ∧ dd s a ≤ 50000 := by
        intro h
        obtain ⟨h1, h2⟩ := Math.back_bds (bk s a) (by omega)
        have h5 : lowAt s (P + 5) (cbits 2 (bk s a)) < 8192 := Nat.lt_of_lt_of_le (Math.lowAt_lt s (P + 5) (cbits 2 (bk s a))) (Nat.le_trans (Nat.pow_le_pow_right (by omega) h2) (by decide))
        rw [Math.dd_is, HPQ.out]
        omega
      have hp2b : P + 5 ≤ p2' s a := by omega
      have HDB : Hid (_) := hdb
      clear e1 e0 T HLE L2 K R2 hbk hdd hdb hp2
      obtain ⟨d, hd⟩ : ∃ d, dd s a = d := ⟨_, rfl⟩
      have HDQ : Hid (dd s a = d) := hd
      obtain ⟨P2, hP2⟩ : ∃ P2, p2' s a = P2 := ⟨_, rfl⟩
      have HP2 : Hid (p2' s a = P2) := hP2
      rw [hd, hP2] at HBA
      rw [hP2] at hp2b
      rw [hd] at HDB
      clear hd hP2
      go_wp2_with fail
      refine Calls.mono HBA.out ?_
      rintro e w3 ⟨⟨e1, e2, e3, e0⟩, T⟩
      have L3 := K2.bl.trans (T.below hB hBw2)
      by_cases hcut2 : 8 * s.size < P + 5
      · obtain rfl := e1 hcut2
        have HX := HF.out.trans (Math.fix_cut2 HX1.out HX2.out HX3.out (by rw [HPQ.out]; exact hcut2))
        exact ⟨rfl, blk_bad (k := 1) HKN.out HX (by omega) L3⟩
      have HX4 : Hid (¬ 8 * s.size < p1 s a + 5) := by show ¬ _; rw [HPQ.out]; exact hcut2
      by_cases h29 : 29 < bk s a
      · obtain rfl := e2 hcut2 h29
        have HX := HF.out.trans (Math.fix_sym2 HX1.out HX2.out HX3.out HX4.out h29)
        exact ⟨rfl, blk_bad (k := 3) HKN.out HX (by omega) L3⟩
      by_cases hcut3 : 8 * s.size < P2
      · obtain rfl := e3 hcut2 h29 hcut3
        have HX := HF.out.trans (Math.fix_cut3 HX1.out HX2.out HX3.out HX4.out h29 (by rw [HP2.out]; exact hcut3))
        exact ⟨rfl, blk_bad (k := 1) HKN.out HX (by omega) L3⟩
      obtain ⟨rfl, R3⟩ := e0 hcut2 h29 hcut3
      have K3 := K2.mv R3 T hB hB2
      have HX6 : Hid (¬ 8 * s.size < p2' s a) := by show ¬ _; rw [HP2.out]; exact hcut3
      have HX5 : Hid (¬ 29 < bk s a) := h29
      obtain ⟨hd1, hd2⟩ := HDB.out h29
      clear e1 e2 e3 e0 T HBA L3 K2 h29 HDB
      have c2 : w3.cell? ⟨c, 2, none⟩ = some (.slice va out.length vc) := cell_at K3.rd 2
      have HK3 : Hid (_) := K3
      have HBY : Hid (_) := beyond_val c s P2 out.length n va vc w3 (by omega) (by omega) R3
      clear R3 K3
      by_cases hbk : out.length < d
      · have hbI : (out.length : Int) < (d : Int) := by omega
        go_wp2_with fail
        refine (HRY.out 4 _).mono ?_
        rintro e w4 ⟨rfl, rfl⟩
        have HX := HF.out.trans (Math.fix_back HX1.out HX2.out HX3.out HX4.out HX5.out HX6.out (by rw [HDQ.out]; exact hbk))
        exact ⟨rfl, blk_bad (k := 4) HKN.out HX (by omega) HK3.out.bl⟩
      have HX7 : Hid (¬ out.length < dd s a) := by show ¬ _; rw [HDQ.out]; exact hbk
      have hbI : ¬ (out.length : Int) < (d : Int) := by omega
      go_wp2_with fail
      refine (HRF.out 4 _).mono ?_
      rintro e w4 ⟨rfl, rfl⟩
      go_wp2_with fail
      refine Calls.mono HBY.out ?_
      rintro e w5 ⟨⟨e5, e0⟩, rfl⟩
      by_cases hlg : 3000 < out.length + n
      · obtain rfl := e5 hlg
        have HX := HF.out.trans (Math.fix_long HX1.out HX2.out HX3.out HX4.out HX5.out HX6.out HX7.out (by rw [HNQ.out]; exact hlg))
        exact ⟨rfl, blk_bad (k := 5) HKN.out HX (by omega) HK3.out.bl⟩
      obtain rfl := e0 hlg
      have HX : Hid (_) := HF.out.trans (Math.fix_copy HX1.out HX2.out HX3.out HX4.out HX5.out HX6.out HX7.out (by rw [HNQ.out]; exact hlg))
      rw [HP2.out, HDQ.out, HNQ.out] at HX
      have hown3 := HK3.out.own
      have hw5 : w.heap.size ≤ w5.heap.size := HK3.out.bl.size
      have hn3k : out.length + n ≤ 3000 := by omega
      have HWC : Hid (_) := withCopy_val w.heap.size (.slice va out.length vc) out n d w5 hw5 hown3 hd1 (by omega) (by omega) (by omega)
      clear hown3 e5 e0 HBY
      go_wp2_with fail
      refine Calls.mono HWC.out ?_
      rintro e w6 ⟨v', rfl, hown6, L6⟩
      have m6 : RdI c s P2 (.slice va out.length vc) w6 := (L6.block c hcw).trans HK3.out.rd
      have L7 : Below B w w6 := HK3.out.bl.trans (L6.mono hB2)
      have hlen := Math.copyN_length out d n
      obtain ⟨va6, vc6, rfl, -⟩ := own_form hown6
      have hown7 : w6.ownsRow w.heap.size 5 1 (.slice va6 (copyN out d n).length vc6) (copyN out d n).length (bcells (copyN out d n)) := by rw [hlen]; exact hown6
      have K7 := HK3.out.put hB m6 hown7 L7
      rw [hlen] at K7
      have c62 : w6.cell? ⟨c, 2, none⟩ = some (.slice va out.length vc) := cell_at m6 2
      have f62 : w6.frozen? ⟨c, 2, none⟩ = false := frozen_at m6 2
      have HK7 : Hid (_) := K7
      have c71 : Hid ((w6.setCell ⟨c, 2, none⟩ (.slice va6 (out.length + n) vc6)).cell? ⟨c, 1, none⟩ = some (.int .i64 (P2 : Int))) := cell_at K7.rd 1
      have HLN : Hid (_) := hlen
      clear K7 hown6 hown7 m6 L6 L7 c2 HWC hlen
      go_wp2
      go_step3
      refine ⟨Or.inr (Or.inl ⟨rfl, rfl, P2, g, copyN out d n, va6, vc6, by omega, by rw [HLN.out]; omega, by omega, HX, HK7.out⟩), ?_⟩
      rw [HMS.out]
      show (1 + (8 * s.size - (intOf (((w6.setCell ⟨c, 2, none⟩ (.slice va6 (out.length + n) vc6)).cell? ⟨c, 1, none⟩).getD undef)).toNat)) < _
      rw [c71.out]
      simp [intOf]
      omega
  · intro fall
    go_wp2_with fail
    refine Calls.mono HB0.out ?_
    rintro e w2 ⟨rfl, R2, M2, L2⟩
    go_wp2_with fail
    refine (HRF.out 2 _).mono ?_
    rintro e w3 ⟨rfl, rfl⟩
    go_wp2_with fail
    refine (HLO.out _ R2).mono ?_
    rintro e w4 ⟨rfl, R4, M4, L4⟩
    have L5 := L2.trans L4
    clear M2 M4 L2 L4 R2
    by_cases hk0 : lowAt s 1 2 = 0
    · rw [hk0]
      go_wp2_with fail
      refine (HRF.out 2 _).mono ?_
      rintro e w3 ⟨rfl, rfl⟩
      go_wp2
      go_step3
      exact Or.inl ⟨rfl, rfl, hk0, R4, L5⟩
    · have hk1 : lowAt s 1 2 = 1 := by omega
      have HB1 : Hid (body s = fixFrom s (8 * s.size + 1) 3 []) := by show body s = _; unfold body; rw [if_pos hk1]
      rw [hk1]
      go_wp2_with fail
      refine (HRF.out 2 _).mono ?_
      rintro e w3 ⟨rfl, rfl⟩
      go_wp2
      go_step3
      rename_i hK
      refine hK _ _ (fall 1 _ _ _ rfl ?_)
      exact Or.inr (Or.inl ⟨rfl, rfl, 3, 8 * s.size + 1, [], none, 0, by omega, by simp, by omega, HB1, ⟨R4, World.ownsRow_nil _ _ _ _, L5⟩⟩)

end Pk
end Go.Proofs.YtcifgableeeooalDoor
