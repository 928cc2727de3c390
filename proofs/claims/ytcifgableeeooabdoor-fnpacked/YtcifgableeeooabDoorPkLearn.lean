/- The contract of the program's learn: the places up to one are known. -/
import Derived.Test.YtcifgableeeooabDoorPkMap
namespace Go.Proofs.YtcifgableeeooabDoor
namespace Pk
open Go.ChangeShapes Go.WideShapes Go.ChangeAt Go.RowKit
open Go.ChangeMaps (setBlock)
set_option linter.unusedSimpArgs false
set_option linter.unusedVariables false

/-- The three bytes at a place. -/
def keyAt (s : ByteArray) (i : Nat) : Key := (s.data.toList.getD i 0, s.data.toList.getD (i + 1) 0, s.data.toList.getD (i + 2) 0)

/-- The places below i at which three bytes stand. -/
def learnt (s : ByteArray) : Nat → Key → List Nat
  | 0 => fun _ => []
  | i + 1 => if i + 3 ≤ s.size then more (learnt s i) (keyAt s i) i else learnt s i

theorem learnt_end (s : ByteArray) (i m : Nat) (h : ¬ i + 3 ≤ s.size) (hm : i ≤ m) : learnt s m = learnt s i := by
  induction m with
  | zero => rw [show i = 0 by omega]
  | succ m ih =>
    by_cases e : i = m + 1
    · rw [e]
    · rw [learnt, if_neg (by omega), ih (by omega)]

theorem learnt_step (s : ByteArray) (i : Nat) (h : i + 3 ≤ s.size) : learnt s (i + 1) = more (learnt s i) (keyAt s i) i := if_pos h

theorem learnt_length (s : ByteArray) (i : Nat) (k : Key) : (learnt s i k).length ≤ i := by
  induction i with
  | zero => simp [learnt]
  | succ i ih =>
    unfold learnt
    split
    · by_cases e : k = keyAt s i
      · rw [e] at ih ⊢
        rw [more_same, List.length_append]
        simp
        omega
      · rw [more_other _ _ _ _ e]
        omega
    · omega

theorem keyAt_is (s : ByteArray) (i i1 i2 : Nat) (h0 : i < s.size) (h1 : i1 < s.size) (h2 : i2 < s.size) (e1 : i + 1 = i1) (e2 : i + 2 = i2) : kv (keyAt s i) = triV s[i] s[i1] s[i2] := by
  subst e1 e2
  have g : ∀ j (hj : j < s.size), s.data.toList.getD j 0 = s[j] := by
    intro j hj
    rw [List.getD_eq_getElem?_getD, Array.getElem?_toList, Array.getElem?_eq_getElem hj]
    rfl
  unfold kv keyAt
  rw [g i h0, g (i + 1) h1, g (i + 2) h2]

/-- Nothing but the map at b, rows of numbers, and new blocks has turned. -/
def KeptBut (b : Nat) (w w' : World) : Prop := Below b w w' ∧ ∀ (g : Nat) (o : Obj), w.heap[g]? = some o → g ≠ b → (∀ cs fz, o ≠ .cells cs 3 fz) → w'.heap[g]? = some o

theorem KeptBut.refl (b : Nat) (w : World) : KeptBut b w w := ⟨Below.refl _ _, fun _ _ h _ _ => h⟩

theorem KeptBut.trans {b : Nat} {w w1 w2 : World} (h : KeptBut b w w1) (k : KeptBut b w1 w2) : KeptBut b w w2 := ⟨h.1.trans k.1, fun g o hg hb ho => k.2 g o (h.2 g o hg hb ho) hb ho⟩

theorem KeptBut.of_below {b : Nat} {w w1 : World} (L : Below w.heap.size w w1) (hb : b ≤ w.heap.size) : KeptBut b w w1 := ⟨L.mono hb, fun g o hg _ _ => kept L (lt_of hg) hg⟩

theorem KeptBut.setBlock {b : Nat} {w : World} {o o' : Obj} (h : w.heap[b]? = some o) : KeptBut b w (setBlock w b o') :=
  ⟨⟨rfl, rfl, rfl, by show w.heap.size ≤ (w.heap.setIfInBounds b o').size; simp, fun k hk => (MapKept.heap_set h).2 k (by omega)⟩, fun g o1 hg hb _ => by
    show (w.heap.setIfInBounds b o')[g]? = _
    rw [(MapKept.heap_set h).2 g hb]
    exact hg⟩

/-- One more place is put down at its key. -/
theorem put_row {B b : Nat} {X1 w4 : World} {v0 v' : Value} {n : Nat} {xs ys : List Value} (hB : b < B) (hbX : b < X1.heap.size) (I : X1.ownsRow B 3 1 v0 n xs) (G : X1.grownBy w4 v0.ownBlock) : KeptBut b X1 w4 := by
  refine ⟨⟨G.os, G.tape, G.output, G.size, fun k hk => ?_⟩, fun g o hg hb ho => ?_⟩
  · exact G.block k (by omega) (fun h => by have := (I.lt k h.symm).1; omega)
  · rw [G.block g (lt_of hg) ?_]
    · exact hg
    · intro h
      obtain ⟨-, h2⟩ := I
      rcases h2 with ⟨hv, -⟩ | ⟨g', cap, cur, hv, -, hh, -⟩
      · rw [hv] at h; cases h
      · rw [hv] at h
        simp only [Value.ownBlock, Option.some.injEq] at h
        subst h
        rw [hg] at hh
        exact ho _ _ (Option.some.inj hh)

set_option maxHeartbeats 2000000 in
theorem learn_val (B b : Nat) (s : ByteArray) (from_ to_ : Nat) (es : Array MapEntry) (clock : Nat) (w : World) (hs : s.size ≤ 3000) (hft : from_ ≤ to_) (hto : to_ ≤ s.size) (hbB : b < B) (hBw : B ≤ w.heap.size) (M : Mp B b (learnt s from_) es clock w) :
    Calls Tryd.prog 111 #[.map (some b), .string s, .int .i64 from_, .int .i64 to_] w fun e w' => e = .returned (.tuple #[]) ∧ (∃ es' clock', Mp B b (learnt s to_) es' clock' w') ∧ KeptBut b w w' := by
  obtain ⟨i0, hi, hz0, hz1, hz2⟩ := info_of info_int
  go_enter Tryd.func111, Tryd.ntmps111
  go_wp2
  go_loopw [8] (fun i wr => ∃ (k : Nat), from_ ≤ k ∧ k ≤ to_ ∧ i = .int .i64 k ∧ Hid (∃ es' clock', Mp B b (learnt s k) es' clock' wr) ∧ KeptBut b w wr) (fun i _ => to_ - (intOf i).toNat)
  case atStart => exact ⟨from_, by omega, hft, rfl, ⟨es, clock, M⟩, KeptBut.refl _ _⟩
  case round =>
    obtain ⟨k, hk1, hk2, rfl, HM, KB⟩ := hrel
    by_cases h1 : k < to_
    · by_cases h2 : k + 3 ≤ s.size
      · obtain ⟨es1, clock1, M1⟩ := HM.out
        have hBr : B ≤ wr.heap.size := Nat.le_trans hBw KB.1.size
        have e1 : (k : Int) + 1 = ((k + 1 : Nat) : Int) := by omega
        have e2 : (k : Int) + 2 = ((k + 2 : Nat) : Int) := by omega
        have t2 : decide ((k : Int) + 3 ≤ (s.size : Int)) = true := decide_eq_true (by omega)
        have HK : Hid (_) := keyAt_is s k (k + 1) (k + 2) (by omega) (by omega) (by omega) rfl rfl
        have HL := learnt_length s k (keyAt s k)
        have HT : Hid (_) := learnt_step s k h2
        go_wp2_with fail
        refine (triple_is s k (k + 1) (k + 2) _ hs (by omega) (by omega) (by omega) e1 e2).mono ?_
        rintro e w2 ⟨rfl, L2⟩
        have L3 : Below wr.heap.size wr ((w2.alloc (.cells #[.int .u8 (s[k].toNat : Int), .int .u8 (s[k + 1].toNat : Int), .int .u8 (s[k + 2].toNat : Int)] 152)).alloc (.cells #[.int .i64 k] 3)) := (L2.alloc L2.size _).alloc (by simp; have := L2.size; omega) _
        have M3 := M1.on L3
        have KB3 := KB.trans (KeptBut.of_below L3 (by omega))
        obtain ⟨v0, st, es2, clock2, hrun, hown0, hstore⟩ := M3.entry (keyAt s k)
        rw [HK.out] at hrun
        clear HK HM M1 e1 e2
        have hc1 : (setBlock ((w2.alloc (.cells #[.int .u8 (s[k].toNat : Int), .int .u8 (s[k + 1].toNat : Int), .int .u8 (s[k + 2].toNat : Int)] 152)).alloc (.cells #[.int .i64 k] 3)) b (.map es2 clock2)).heap[w2.heap.size + 1]? = some (.cells #[.int .i64 k] 3) := by
          have h5 := heap_new (w2.alloc (.cells #[.int .u8 (s[k].toNat : Int), .int .u8 (s[k + 1].toNat : Int), .int .u8 (s[k + 2].toNat : Int)] 152)) (.cells #[.int .i64 k] 3)
          have h6 : (w2.alloc (.cells #[.int .u8 (s[k].toNat : Int), .int .u8 (s[k + 1].toNat : Int), .int .u8 (s[k + 2].toNat : Int)] 152)).heap.size = w2.heap.size + 1 := by simp
          rw [h6] at h5
          have h7 := L2.size
          show (Array.setIfInBounds _ b _)[w2.heap.size + 1]? = _
          rw [(MapKept.heap_set M3.blk).2 (w2.heap.size + 1) (by omega)]
          exact h5
        have KB4 := KB3.trans (KeptBut.setBlock (o' := .map es2 clock2) M3.blk)
        have hb4 : (setBlock ((w2.alloc (.cells #[.int .u8 (s[k].toNat : Int), .int .u8 (s[k + 1].toNat : Int), .int .u8 (s[k + 2].toNat : Int)] 152)).alloc (.cells #[.int .i64 k] 3)) b (.map es2 clock2)).heap[b]? = some (.map es2 clock2) := (MapKept.heap_set M3.blk).1
        have hB4 : B ≤ (setBlock ((w2.alloc (.cells #[.int .u8 (s[k].toNat : Int), .int .u8 (s[k + 1].toNat : Int), .int .u8 (s[k + 2].toNat : Int)] 152)).alloc (.cells #[.int .i64 k] 3)) b (.map es2 clock2)).heap.size := Nat.le_trans hBw KB4.1.size
        have HF : Hid (_) := hstore
        have M3b := M3.blk
        obtain ⟨va, vc, rfl, -⟩ := own_form hown0
        clear hstore
        go_wp2_with (at_builtin; refine wpList_append_own_at _ rfl _ _ 42 rfl B 3 i0 (.int .i64 0) 1 8 Tryd.underlying42 hi hz0 hz1 hz2 rfl (by decide) _ _ _ rfl hown0 ⟨w2.heap.size + 1, 0, none⟩ 1 1 [.int .i64 k] rfl rfl ?c1 ?c2 ?c3 ?c4 ?c5 ?_)
        case c1 =>
          intro j u hu
          match j with
          | 0 =>
            simp at hu
            subst hu
            simpa [Addr.add] using cell_at hc1 0
          | j + 1 => simp at hu
        case c2 => intro u hu; simp at hu; subst hu; rfl
        case c3 => unfold maxLen; omega
        case c4 => omega
        case c5 => exact hB4
        intro v' w4 hown4 hgrow _ hat
        have hw4 : w4.heap[b]? = some (.map es2 clock2) := by
          rw [hgrow.block b (lt_of hb4) (fun h => by have := own_ge hown0 b h.symm; omega)]
          exact hb4
        have K4 := put_row hbB (lt_of hb4) hown0 hgrow (v' := v') (ys := [])
        rw [icells_snoc] at hown4
        have hown5 : w4.ownsRow B 3 1 v' (learnt s k (keyAt s k) ++ [k]).length (icells (learnt s k (keyAt s k) ++ [k])) := by rw [List.length_append]; exact hown4
        obtain ⟨es3, clock3, hst, M4⟩ := HF.out w4 v' k hw4 hown5 (by
          rcases hat with h | h
          · obtain ⟨g, hg, -⟩ := own_some hown5 (by simp)
            exact Or.inl ⟨g, hg, by rw [← h]; exact hg⟩
          · refine Or.inr ⟨_, h, ?_⟩
            show _ ≤ (Array.setIfInBounds _ b _).size
            simp) (fun u n xs hu hne => (own_setBlock hu M3b (map_not_cells _ _)).kept hgrow (Or.inr hne))
        have hst2 : (Instr.entryStore 127 (.map (some b)) (.int .i64 (st : Int)) v').run Tryd.prog w4 = .ok () (setBlock w4 b (.map es3 clock3)) := hst
        clear hst
        rw [← HT.out] at M4
        have HM4 : Hid (∃ es' clock', Mp B b (learnt s (k + 1)) es' clock' _) := ⟨es3, clock3, M4⟩
        have KB5 := KB4.trans (K4.trans (KeptBut.setBlock (o' := .map es3 clock3) hw4))
        clear M4 hown4 hown5 hgrow hat K4 HF hown0 hc1 KB4 KB3 M3 M3b hrun hw4
        go_wp2
        go_roundw
        case rel => exact ⟨k + 1, by omega, by omega, by go_num, HM4, KB5⟩
        case measure => simp [intOf]; omega
      · have t2 : decide ((k : Int) + 3 ≤ (s.size : Int)) = false := decide_eq_false (by omega)
        have HE : Hid (_) := learnt_end s k to_ h2 hk2
        go_wp2
        go_end0
        exact ⟨rfl, by rw [HE.out]; exact HM.out, KB⟩
    · obtain rfl : k = to_ := by omega
      go_wp2
      go_end0
      exact ⟨rfl, HM.out, KB⟩

end Pk
end Go.Proofs.YtcifgableeeooabDoor
