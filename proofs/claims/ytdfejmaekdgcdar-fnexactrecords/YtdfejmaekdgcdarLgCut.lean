/- The records that a log begins with: the program. -/
import Derived.Test.YtdfejmaekdgcdarLgJoin
import Derived.Test.YtdfejmaekdgcdarLgRecs
namespace Go.Proofs.Ytdfejmaekdgcdar
namespace Lg10
open Go.ChangeShapes Go.WideShapes Go.ChangeAt Go.RowKit
open Pk (own_at own_ge own_below info_of new_below join_below)
open Gt (tcells tcells_snoc cell_one info_str own_new Txts)
set_option linter.unusedSimpArgs false
set_option linter.unusedVariables false

/-- The bytes of a text from place k on lie in block g from o on. -/
def Part (w : World) (g o k : Nat) (l : ByteArray) : Prop := ∀ j (h : k + j < l.size), w.cell? ⟨g, o + j, none⟩ = some (.int .u8 (l[k + j].toNat : Int))

theorem Part.on {w w1 : World} {g o k B : Nat} {l : ByteArray} (P : Part w g o k l) (L : Below B w w1) (hg : g < B) : Part w1 g o k l := by
  intro j h
  rw [L.cell (p := ⟨g, o + j, none⟩) hg]
  exact P j h

theorem Part.off {w : World} {g o k : Nat} {l : ByteArray} (P : Part w g o k l) (m : Nat) : Part w g (o + m) (k + m) l := by
  intro j h
  have := P (m + j) (by omega)
  rw [show o + m + j = o + (m + j) from by omega, this]
  simp [Nat.add_assoc]

theorem Part.none {w : World} {g o k : Nat} {l : ByteArray} (h : l.size ≤ k) : Part w g o k l := fun j hj => by omega

theorem conv_some {w : World} {g o k : Nat} {l : ByteArray} (n cp : Nat) (P : ∀ j, j < n → ∀ (h : k + j < l.size), w.cell? ⟨g, o + j, none⟩ = some (.int .u8 (l[k + j].toNat : Int))) (hb : k + n ≤ l.size) :
    (convert 119 9 (.slice (some ⟨g, o, none⟩) n cp)).run Try.prog w = .ok (.string (l.extract k (k + n))) w := by
  have hs : (l.extract k (k + n)).size = n := by rw [ByteArray.size_extract]; omega
  have hln : (l.extract k (k + n)).data.toList.length = n := by rw [Array.length_toList]; exact hs
  have := run_convert_bytes_back (P := Try.prog) w 119 9 5 ⟨g, o, none⟩ cp (l.extract k (k + n)).data.toList Try.underlying119 Try.underlying5 Try.underlying9 (by
    intro j hj
    rw [hln] at hj
    rw [show Addr.add ⟨g, o, none⟩ j = ⟨g, o + j, none⟩ from by simp [Addr.add], P j hj (by omega)]
    have e : (l.extract k (k + n)).data.toList[j]'(by rw [hln]; exact hj) = l[k + j]'(by omega) := by
      have h2 : (l.extract k (k + n))[j]'(by rw [hs]; exact hj) = l[k + j]'(by omega) := ByteArray.getElem_extract _
      rw [← h2]
      exact Array.getElem_toList _
    rw [e])
  rw [hln, Array.toArray_toList] at this
  exact this

theorem conv_part {w : World} {g o k : Nat} {l : ByteArray} (P : Part w g o k l) (n cp : Nat) (hb : k + n ≤ l.size) :
    (convert 119 9 (.slice (some ⟨g, o, none⟩) n cp)).run Try.prog w = .ok (.string (l.extract k (k + n))) w := conv_some n cp (fun j _ h => P j h) hb

theorem slc3 (g o n cp a b : Nat) (hab : a ≤ b) (hb : b ≤ cp) (W : World) : (Instr.slice 119 (.slice (some ⟨g, o, none⟩) n cp) (some (.int .i64 (a : Int))) (some (.int .i64 (b : Int))) (some (.int .i64 (b : Int)))).run Try.prog W = .ok (.slice (some ⟨g, if b = a then o else o + a, none⟩) (b - a) (b - a)) W := by
  have h1 : (a : Int) ≤ (b : Int) := by omega
  have h2 : (b : Int) ≤ (cp : Int) := by omega
  by_cases e : b = a
  · simp [go_sem, Try.underlying119, h1, h2, e]
    try omega
  · simp [go_sem, Try.underlying119, h1, h2, e, Addr.add]
    try omega

set_option maxRecDepth 100000 in
set_option maxHeartbeats 4000000 in
theorem cutRecord_val (l : ByteArray) (k n g o cp : Nat) (w : World) (hl : l.size ≤ 200000) (hn : k + n = l.size) (hcp : n ≤ cp) (hg : g < w.heap.size) (P : Part w g o k l) :
    Calls Try.prog 78 #[.slice (some ⟨g, o, none⟩) n cp] w fun e w' => (∃ t rv, e = .returned (.tuple #[.string t, rv, .bool (recB l k)]) ∧ (recB l k = true → t = txS l k ∧ ∃ o2 q, q + (k + 8 + txN l k) = l.size ∧ rv = .slice (some ⟨g, o2, none⟩) q q ∧ Part w' g o2 (k + 8 + txN l k) l)) ∧ Below w.heap.size w w' := by
  by_cases h8 : n < 8
  · have hno : recB l k = false := by unfold recB; rw [decide_eq_false (by omega)]; rfl
    rw [hno]
    have hI : (n : Int) < 8 := by omega
    go_enter Try.func78, Try.ntmps78
    go_wp2
    refine bodyPost_ret (results_tmp3 rfl _ _ _) rfl ?_
    exact ⟨⟨_, _, rfl, fun h => by cases h⟩, Below.refl _ _⟩
  · have hI : ¬ (n : Int) < 8 := by omega
    have s1 := slc3 g o n cp 0 4 (by omega) (by omega)
    have s2 := slc3 g o n cp 4 8 (by omega) (by omega)
    rw [if_neg (by omega), Nat.add_zero] at s1
    rw [if_neg (by omega)] at s2
    have c1 := conv_part P 4 4 (by omega)
    have c2 := conv_part (P.off 4) 4 4 (by omega)
    rw [show k + 4 + 4 = k + 8 from by omega] at c2
    have HN : Hid (∀ W, _) := fun W => Num.numberOf_val (l.extract k (k + 4)) W (by rw [ByteArray.size_extract]; omega)
    rw [show Num.part (l.extract k (k + 4)) 4 = txN l k from rfl] at HN
    have HRB : Hid (recB l k = (decide (k + 8 ≤ l.size) && decide (txN l k ≤ 3000) && decide (k + 8 + txN l k ≤ l.size) && decide (l.extract (k + 4) (k + 8) = Num.wordS (Math.crc (txS l k).data.toList)))) := rfl
    rw [decide_eq_true (show k + 8 ≤ l.size by omega)] at HRB
    have HTX : Hid (txS l k = l.extract (k + 8) (k + 8 + txN l k)) := rfl
    have htn : txN l k < 4294967296 := Num.part_lt (l.extract k (k + 4)) 4
    generalize txN l k = m at *
    generalize l.extract k (k + 4) = e4 at *
    have hs1 : ∀ W, (Instr.slice 119 (.slice (some ⟨g, o, none⟩) n cp) (some (.int .i64 0)) (some (.int .i64 4)) (some (.int .i64 4))).run Try.prog W = .ok (.slice (some ⟨g, o, none⟩) 4 4) W := s1
    have hs2 : ∀ W, (Instr.slice 119 (.slice (some ⟨g, o, none⟩) n cp) (some (.int .i64 4)) (some (.int .i64 8)) (some (.int .i64 8))).run Try.prog W = .ok (.slice (some ⟨g, o + 4, none⟩) 4 4) W := s2
    clear s1 s2
    by_cases hA : m ≤ 3000
    · by_cases hB : k + 8 + m ≤ l.size
      · rw [decide_eq_true hA, decide_eq_true hB] at HRB
        have htz : (txS l k).size ≤ 3000 := by rw [HTX.out, ByteArray.size_extract]; omega
        have HCS : Hid (∀ W, _) := fun W => Num.implCheckSum_any (txS l k) W (by unfold maxLen; omega)
        have HWT : Hid (∀ W, _) := fun W => Num.implWordText_any (Math.crc (txS l k).data.toList) W (Math.crc_lt _)
        obtain ⟨E, hE⟩ : ∃ E, 8 + m = E := ⟨_, rfl⟩
        have hEI : (8 : Int) + (m : Int) = (E : Int) := by omega
        have s3 := slc3 g o n cp 8 E (by omega) (by omega)
        have s4 := slc3 g o n cp E n (by omega) (by omega)
        rw [show E - 8 = m from by omega] at s3
        have hs3 : ∀ W, (Instr.slice 119 (.slice (some ⟨g, o, none⟩) n cp) (some (.int .i64 8)) (some (.int .i64 (E : Int))) (some (.int .i64 (E : Int)))).run Try.prog W = .ok (.slice (some ⟨g, if E = 8 then o else o + 8, none⟩) m m) W := s3
        have c3 : (convert 119 9 (.slice (some ⟨g, if E = 8 then o else o + 8, none⟩) m m)).run Try.prog w = .ok (.string (txS l k)) w := by
          rw [HTX.out]
          refine conv_some m m (fun j hj h => ?_) hB
          rw [if_neg (by omega)]
          exact P.off 8 j h
        have P4 : Part w g (if n = E then o else o + E) (k + 8 + m) l := by
          by_cases e : n = E
          · exact Part.none (by omega)
          · rw [if_neg e, show k + 8 + m = k + E from by omega]
            exact P.off E
        clear s3
        generalize (if E = 8 then o else o + 8) = o8 at *
        generalize (if n = E then o else o + E) = oE at *
        generalize txS l k = tx at *
        generalize Math.crc tx.data.toList = cr at *
        generalize Num.wordS cr = wd at *
        have g1 : ¬ (3000 : Int) < (m : Int) := by omega
        have g2 : ¬ (n : Int) - 8 < (m : Int) := by omega
        have HQ : Hid (recB l k = decide (l.extract (k + 4) (k + 8) = wd)) := by
          show _ = _
          rw [HRB.out]
          simp
        generalize l.extract (k + 4) (k + 8) = x8 at *
        clear HRB HTX
        by_cases hEq : x8 = wd
        · have hyes : recB l k = true := by rw [HQ.out]; exact decide_eq_true hEq
          rw [hyes]
          subst hEq
          clear HQ
          have hqE : n - E + (k + 8 + m) = l.size := by omega
          clear hE
          go_enter Try.func78, Try.ntmps78
          go_wp2_with fail
          refine (HN.out _).mono ?_
          rintro e w1 ⟨rfl, hw1⟩
          have hw2 := hw1.symm
          subst hw2
          go_wp2
          go_region_with (first
            | (go_at_call 76; (with_reducible refine (HCS.out _).mono ?_); rintro e x1 ⟨rfl, hx1⟩; subst hx1)
            | (go_at_call 75; (with_reducible refine (HWT.out _).mono ?_); rintro e x2 ⟨rfl, -, LX⟩; have L2 : Below w.heap.size w x2 := (by first | exact LX | exact ((Below.refl _ _).drew).trans LX | exact (((Below.refl _ _).drew).drew).trans LX)))
          all_goals
            go_wp2
            refine bodyPost_ret (results_tmp3 rfl _ _ _) rfl ?_
            exact ⟨⟨tx, _, rfl, fun _ => ⟨rfl, oE, n - E, hqE, rfl, by first | exact P4.on L2 hg | exact P4.on L2.drew hg⟩⟩, by first | exact L2 | exact L2.drew⟩
        · have hno : recB l k = false := by rw [HQ.out]; exact decide_eq_false hEq
          rw [hno]
          clear HQ hE
          have z1 : ¬ wd.toList = x8.toList := fun e => hEq (Go.WideShapes.bytes_inj (by rw [← ByteArray.toList_eq, ← ByteArray.toList_eq]; exact e.symm))
          have Z3 : Hid ((wd.toList == x8.toList) = false) := beq_eq_false_iff_ne.2 z1
          clear z1
          go_enter Try.func78, Try.ntmps78
          go_wp2_with fail
          refine (HN.out _).mono ?_
          rintro e w1 ⟨rfl, hw1⟩
          have hw2 := hw1.symm
          subst hw2
          go_wp2
          go_region_with (first
            | (go_at_call 76; (with_reducible refine (HCS.out _).mono ?_); rintro e x1 ⟨rfl, hx1⟩; subst hx1)
            | (go_at_call 75; (with_reducible refine (HWT.out _).mono ?_); rintro e x2 ⟨rfl, -, LX⟩; have L2 : Below w.heap.size w x2 := (by first | exact LX | exact ((Below.refl _ _).drew).trans LX | exact (((Below.refl _ _).drew).drew).trans LX)))
          all_goals
            go_wp2
            refine bodyPost_ret (results_tmp3 rfl _ _ _) rfl ?_
            exact ⟨⟨tx, .slice (some ⟨g, oE, none⟩) (n - E) (n - E), (by show Ending.returned (.tuple #[.string tx, .slice (some ⟨g, oE, none⟩) (n - E) (n - E), .bool (wd.toList == x8.toList)]) = _; rw [Z3.out]), fun h => by cases h⟩, by first | exact L2 | exact L2.drew⟩
      · have hno : recB l k = false := by rw [HRB.out, decide_eq_false hB]; simp
        rw [hno]
        have g1 : ¬ (3000 : Int) < (m : Int) := by omega
        have g2 : (n : Int) - 8 < (m : Int) := by omega
        go_enter Try.func78, Try.ntmps78
        go_wp2_with fail
        refine (HN.out _).mono ?_
        rintro e w1 ⟨rfl, rfl⟩
        go_wp2
        refine bodyPost_ret (results_tmp3 rfl _ _ _) rfl ?_
        exact ⟨⟨_, _, rfl, fun h => by cases h⟩, Below.refl _ _⟩
    · have hno : recB l k = false := by rw [HRB.out, decide_eq_false hA]; simp
      rw [hno]
      have g1 : (3000 : Int) < (m : Int) := by omega
      go_enter Try.func78, Try.ntmps78
      go_wp2_with fail
      refine (HN.out _).mono ?_
      rintro e w1 ⟨rfl, rfl⟩
      go_wp2
      refine bodyPost_ret (results_tmp3 rfl _ _ _) rfl ?_
      exact ⟨⟨_, _, rfl, fun h => by cases h⟩, Below.refl _ _⟩

end Lg10
end Go.Proofs.Ytdfejmaekdgcdar
