/- The bits of a text, and the size of the least square: contracts of the model's helpers of Paint. -/
import Derived.Test.YtkhibgicejcmlamSqHeart2
import Derived.Test.YtkhibgicejcmlamPkFix
import Derived.Test.YtkhibgicejcmlamMathSum
import Derived.Test.YtkhibgicejcmlamNumSum
import Derived.Test.YtkhibgicejcmlamNumWord
namespace Go.Proofs.Ytkhibgicejcmlam
namespace Sq
open Go.ChangeShapes Go.WideShapes Go.ChangeAt Go.RowKit
open Pk (icells icells_length icells_append info_of info_int own_at own_new own_ge own_below)
set_option linter.unusedSimpArgs false
set_option linter.unusedVariables false

theorem own_pos {w : World} {base e size : Nat} {v : Value} {n : Nat} {xs : List Value} (h : w.ownsRow base e size v n xs) (hn : 0 < n) : ∃ g cap, v = .slice (some ⟨g, 0, none⟩) n cap := by
  obtain ⟨-, h2⟩ := h
  rcases h2 with ⟨-, h0⟩ | ⟨g, cap, cur, h1, -⟩
  · omega
  · exact ⟨g, cap, h1⟩

theorem own_news {w : World} {base e g n cap : Nat} {xs : List Value} (h : w.ownsRow base e 1 (.slice (some ⟨g, 0, none⟩) n cap) n xs) : ∀ j u, xs[j]? = some u → w.cell? (Addr.add ⟨g, 0, none⟩ j) = some u := by
  intro j u hu
  have hj : j < n := by
    have h1 := h.1
    have := (List.getElem?_eq_some_iff.1 hu).1
    omega
  obtain ⟨g', cap', e1, -, -, u', hu', hc⟩ := own_at h j hj
  simp only [Value.slice.injEq, Option.some.injEq, Addr.mk.injEq] at e1
  rw [show Addr.add ⟨g, 0, none⟩ j = ⟨g, j, none⟩ from by simp [Addr.add]; exact Eq.symm, e1.1.1, hc, ← hu', hu]

theorem icells_one (l : List Nat) : ∀ u ∈ icells l, u.oneCell' = true := by
  intro u hu
  obtain ⟨b, -, rfl⟩ := List.mem_map.1 hu
  rfl

theorem icells_news (l : List Nat) (n : Nat) (h : l.length = n) : (icells l).length = n * 1 := by rw [icells_length]; omega

/-- The bits of bytes, the highest of each first. -/
def bitsL (l : List UInt8) : List Nat := l.flatMap fun b => Math.highL b.toNat 8

theorem bitsL_snoc (l : List UInt8) (b : UInt8) : bitsL (l ++ [b]) = bitsL l ++ Math.highL b.toNat 8 := by
  unfold bitsL
  rw [List.flatMap_append]
  simp

theorem bitsL_length (l : List UInt8) : (bitsL l).length = 8 * l.length := by
  induction l with
  | nil => rfl
  | cons b l ih =>
    have : bitsL (b :: l) = Math.highL b.toNat 8 ++ bitsL l := rfl
    rw [this, List.length_append, Math.highL_length, ih, List.length_cons]
    omega

set_option maxHeartbeats 1000000 in
theorem bits_val (s : ByteArray) (w : World) (hs : s.size ≤ 1000) :
    Calls Try.prog 35 #[.string s] w fun e w' => ∃ v, e = .returned v ∧ w'.ownsRow w.heap.size 3 1 v (8 * s.size) (icells (bitsL s.data.toList)) ∧ Below w.heap.size w w' := by
  obtain ⟨i0, hi, hz0, hz1, hz2⟩ := info_of info_int
  go_enter Try.func35, Try.ntmps35
  go_wp2
  go_loopw [3, 4] (fun v i wr => ∃ k : Nat, k ≤ s.size ∧ i = .int .i64 k ∧ wr.ownsRow w.heap.size 3 1 v (8 * k) (icells (bitsL (s.data.toList.take k))) ∧ Hid (Below w.heap.size w wr)) (fun _ i _ => s.size - (intOf i).toNat)
  case atStart => exact ⟨0, by omega, rfl, own_new w _, Pk.new_below _ _⟩
  case round =>
    obtain ⟨k, hk, rfl, O, L⟩ := hrel
    by_cases hlt : k < s.size
    · have HN : Hid (bitsL (s.data.toList.take (k + 1)) = bitsL (s.data.toList.take k) ++ Math.highL s[k].toNat 8) := by
        show _ = _
        rw [Math.take_snoc s k hlt, bitsL_snoc]
      have hb := s[k].toNat_lt
      have HH : Hid (∀ w, _) := fun w => Pk.high_made s[k].toNat 8 w (by omega) (by omega)
      have HL : Hid ((Math.highL s[k].toNat 8).length = 8) := Math.highL_length _ _
      generalize Math.highL s[k].toNat 8 = F at *
      generalize bitsL (s.data.toList.take k) = G at *
      have z1 : IntKind.i64.wrap (s[k].toNat : Int) = (s[k].toNat : Int) := by rw [IntKind.wrap_i64]; omega
      go_wp2_with fail
      refine (HH.out _).mono ?_
      rintro e w3 ⟨vf, rfl, ownf, L3⟩
      obtain ⟨gA, cpA, rfl⟩ := own_pos ownf (by omega)
      have OA := own_below O L3 (Nat.le_refl _)
      have L4 := Pk.join_below L.out L3
      go_wp2_with (at_builtin; refine wpList_append_own _ rfl _ _ 60 rfl w.heap.size 3 i0 (.int .i64 0) 1 8 Try.underlying60 hi hz0 hz1 hz2 rfl (by decide) _ _ _ rfl OA ⟨gA, 0, none⟩ 8 cpA (icells F) rfl ?pAa ?pAb (icells_one _) ?pAc ?pAd ?pAe ?_)
      case pAa => exact icells_news _ _ HL.out
      case pAb => exact own_news ownf
      case pAc => unfold maxLen; omega
      case pAd => omega
      case pAe => exact L4.size
      intro vA xA ownA growA _
      have LLA : Below w.heap.size w xA := L4.grown growA L4.size (fun m h => own_ge OA m h)
      rw [icells_append, ← HN.out] at ownA
      have e8 : 8 * k + 8 = 8 * (k + 1) := by omega
      rw [e8] at ownA
      clear growA e8
      go_wp2
      go_roundw
      case rel => exact ⟨k + 1, by omega, by go_num, ownA, LLA⟩
      case measure => simp [intOf]; omega
    · obtain rfl : k = s.size := by omega
      have e1 : s.data.toList.take s.size = s.data.toList := Math.take_all s
      rw [e1] at O
      go_wp2
      go_ret
      exact ⟨_, rfl, O, L.out⟩

/-- Half the size of the least square for so many bits, from h on. -/
def szFrom (n : Nat) : Nat → Nat → Nat
  | 0, h => h
  | f + 1, h => if (2 * h + 1) * (2 * h + 1) < n + 25 then szFrom n f (h + 1) else h

/-- Half the size of the least square for so many bits. -/
def szH (n : Nat) : Nat := szFrom n 26 4

theorem szFrom_bd (n f h : Nat) : h ≤ szFrom n f h ∧ szFrom n f h ≤ h + f := by
  induction f generalizing h with
  | zero => exact ⟨Nat.le_refl _, Nat.le_refl _⟩
  | succ f ih =>
    unfold szFrom
    by_cases e : (2 * h + 1) * (2 * h + 1) < n + 25
    · rw [if_pos e]
      have := ih (h + 1)
      omega
    · rw [if_neg e]
      omega

theorem szFrom_ge (n f h : Nat) (hf : n + 25 ≤ (2 * (h + f) + 1) * (2 * (h + f) + 1)) : n + 25 ≤ (2 * szFrom n f h + 1) * (2 * szFrom n f h + 1) := by
  induction f generalizing h with
  | zero => exact hf
  | succ f ih =>
    unfold szFrom
    by_cases e : (2 * h + 1) * (2 * h + 1) < n + 25
    · rw [if_pos e]
      exact ih (h + 1) (by rw [show h + 1 + f = h + (f + 1) from by omega]; exact hf)
    · rw [if_neg e]
      omega

theorem size_val (n : Nat) (w : World) (hn : n ≤ 3400) :
    Calls Try.prog 38 #[.int .i64 n] w fun e w' => e = .returned (.int .i64 (2 * (szH n : Int) + 1)) ∧ w' = w := by
  have HV : Hid (szH n = szFrom n 26 4) := rfl
  generalize szH n = V at *
  go_enter Try.func38, Try.ntmps38
  go_wp2
  go_loop [3] (fun i => ∃ h f : Nat, h + f = 30 ∧ 4 ≤ h ∧ i = .int .i64 (2 * (h : Int) + 1) ∧ Hid (V = szFrom n f h)) (fun i => (61 - intOf i).toNat)
  case atStart => exact ⟨4, 26, by omega, by omega, by simp, HV⟩
  case round =>
    obtain ⟨h, f, hhf, h4, rfl, H⟩ := hrel
    have hA : (2 * (h : Int) + 1) * (2 * (h : Int) + 1) = (((2 * h + 1) * (2 * h + 1) : Nat) : Int) := by
      rw [Int.natCast_mul]
      have : ((2 * h + 1 : Nat) : Int) = 2 * (h : Int) + 1 := by omega
      rw [this]
    have hA1 : (2 * h + 1) * (2 * h + 1) ≤ 61 * 61 := Nat.mul_le_mul (by omega) (by omega)
    by_cases hlt : (2 * h + 1) * (2 * h + 1) < n + 25
    · have hf0 : f ≠ 0 := by
        rintro rfl
        obtain rfl : h = 30 := by omega
        omega
      obtain ⟨f', rfl⟩ : ∃ f', f = f' + 1 := ⟨f - 1, by omega⟩
      have HN : Hid (V = szFrom n f' (h + 1)) := by show _ = _; rw [H.out, szFrom, if_pos hlt]
      generalize (2 * h + 1) * (2 * h + 1) = A at *
      go_wp2
      go_round
      case rel => exact ⟨h + 1, f', by omega, by omega, by go_num, HN⟩
      case measure => simp [intOf]; omega
    · have HN : Hid (V = h) := by
        show _ = _
        rw [H.out]
        cases f with
        | zero => rfl
        | succ f => rw [szFrom, if_neg hlt]
      generalize (2 * h + 1) * (2 * h + 1) = A at *
      go_wp2
      go_ret
      exact ⟨by rw [HN.out]; rfl, rfl⟩

end Sq
end Go.Proofs.Ytkhibgicejcmlam
