/- Contracts of Whole, of the program and of its model. -/
import Derived.Test.YtcifgableeeooalDoorPkRow
import Derived.Test.YtcifgableeeooalDoorMathWhole
namespace Go.Proofs.YtcifgableeeooalDoor
namespace Pk
open Go.ChangeShapes Go.WideShapes Go.ChangeAt Go.RowKit
open Math (Pc)
set_option linter.unusedSimpArgs false
set_option linter.unusedVariables false

/-- A piece as a value. -/
abbrev pcV (x n d : Int) : Value := .agg #[.int .i64 x, .int .i64 n, .int .i64 d]

/-- A slice of pieces. -/
def Pcs (w : World) (a : Option Addr) (ps : List Pc) : Prop :=
  ps = [] ∨ ∃ b o, a = some ⟨b, o, none⟩ ∧ b < w.heap.size ∧ ∀ i (h : i < ps.length), w.cell? ⟨b, o + i * 3, none⟩ = some (.int .i64 ps[i].x) ∧ w.cell? ⟨b, o + i * 3 + 1, none⟩ = some (.int .i64 ps[i].n) ∧ w.cell? ⟨b, o + i * 3 + 2, none⟩ = some (.int .i64 ps[i].d)

theorem Pcs.on {w w1 : World} {a : Option Addr} {ps : List Pc} (h : Pcs w a ps) (L : Below w.heap.size w w1) : Pcs w1 a ps := by
  rcases h with h | ⟨b, o, ha, hb, hc⟩
  · exact Or.inl h
  · exact Or.inr ⟨b, o, ha, Nat.lt_of_lt_of_le hb L.size, fun i hi => by rw [L.cell (p := ⟨b, o + i * 3, none⟩) hb, L.cell (p := ⟨b, o + i * 3 + 1, none⟩) hb, L.cell (p := ⟨b, o + i * 3 + 2, none⟩) hb]; exact hc i hi⟩

theorem Pcs.at {w : World} {a : Option Addr} {ps : List Pc} (h : Pcs w a ps) (k : Nat) (hk : k < ps.length) : ∃ b o, a = some ⟨b, o, none⟩ ∧ b < w.heap.size ∧ w.cell? ⟨b, o + k * 3, none⟩ = some (.int .i64 ps[k].x) ∧ w.cell? ⟨b, o + k * 3 + 1, none⟩ = some (.int .i64 ps[k].n) ∧ w.cell? ⟨b, o + k * 3 + 2, none⟩ = some (.int .i64 ps[k].d) := by
  rcases h with h | ⟨b, o, ha, hb, hc⟩
  · subst h; simp at hk
  · exact ⟨b, o, ha, hb, hc k hk⟩

theorem withCopy_val (B : Nat) (v : Value) (l : List UInt8) (n d : Nat) (w : World) (hB : B ≤ w.heap.size) (hown : w.ownsRow B 5 1 v l.length (bcells l)) (hd1 : 1 ≤ d) (hd2 : d ≤ l.length) (hl : l.length ≤ 10000) (hn : n ≤ 1000) :
    Calls Tryd.prog 41 #[v, .int .i64 n, .int .i64 d] w fun e w' => ∃ v', e = .returned v' ∧ w'.ownsRow B 5 1 v' (l.length + n) (bcells (Math.copyN l d n)) ∧ Below B w w' := by
  obtain ⟨i0, hi, hz0, hz1, hz2⟩ := info_of info_u8
  go_enter Tryd.func41, Tryd.ntmps41
  go_wp2
  go_loopw [0, 8] (fun v i wr => ∃ (k : Nat), k ≤ n ∧ i = .int .i64 k ∧ wr.ownsRow B 5 1 v (l.length + k) (bcells (Math.copyN l d k)) ∧ Below B w wr) (fun _ i _ => n - (intOf i).toNat)
  case atStart => exact ⟨0, by omega, rfl, hown, Below.refl _ _⟩
  case round =>
    obtain ⟨k, hk, rfl, hown, L⟩ := hrel
    by_cases hkn : k < n
    · have hlen : (Math.copyN l d k).length = l.length + k := Math.copyN_length l d k
      obtain ⟨g, cap, rfl, hg1, hg2, u, hu, hc⟩ := own_at hown (l.length + k - d) (by omega)
      rw [bcells_at _ _ (by omega)] at hu
      simp only [Option.some.injEq] at hu
      subst hu
      have hgd : (Math.copyN l d k)[l.length + k - d]'(by omega) = (Math.copyN l d k).getD ((Math.copyN l d k).length - d) 0 := by
        rw [List.getD_eq_getElem?_getD, show (Math.copyN l d k).length - d = l.length + k - d by omega, List.getElem?_eq_getElem (by omega)]
        rfl
      rw [hgd] at hc
      have HS : Hid (bcells (Math.copyN l d k) ++ [.int .u8 (((Math.copyN l d k).getD ((Math.copyN l d k).length - d) 0).toNat : Int)] = bcells (Math.copyN l d (k + 1))) := bcells_snoc (Math.copyN l d k) ((Math.copyN l d k).getD ((Math.copyN l d k).length - d) 0)
      clear hgd
      generalize (Math.copyN l d k).getD ((Math.copyN l d k).length - d) 0 = b at *
      have hb := b.toNat_lt
      have hBr : B ≤ wr.heap.size := Nat.le_trans hB L.size
      have e1 : ((l.length : Int) + k - d) = ((l.length + k - d : Nat) : Int) := by omega
      generalize l.length + k - d = j at *
      go_wp2_with (at_builtin; refine wpList_append_own _ rfl _ _ 55 rfl B 5 i0 (.int .u8 0) 1 1 Tryd.underlying55 hi hz0 hz1 hz2 rfl (by decide) _ _ _ rfl (hown.alloc _) ⟨wr.heap.size, 0, none⟩ 1 1 [.int .u8 b.toNat] rfl rfl ?c1 ?c2 ?c3 ?c4 ?c5 ?_)
      case c1 => exact cell_one_new _ _ _
      case c2 => intro u hu; simp at hu; subst hu; rfl
      case c3 => unfold maxLen; omega
      case c4 => omega
      case c5 => simp; omega
      · intro v' w3 hown3 hgrow _
        have L3 : Below B w w3 := (L.alloc hBr _).grown hgrow (by simp; omega) (fun m h => own_ge hown m h)
        rw [HS.out] at hown3
        clear hown hgrow hc
        go_wp2
        go_roundw
        case rel => exact ⟨k + 1, by omega, by go_num, hown3, L3⟩
        case measure => simp [intOf]; omega
    · obtain rfl : k = n := by omega
      go_wp2
      go_ret
      exact ⟨_, rfl, hown, L⟩

theorem u8_of (x : Int) (h0 : 0 ≤ x) (h1 : x ≤ 255) : ((UInt8.ofNat x.toNat).toNat : Int) = x := by
  rw [UInt8.toNat_ofNat']
  omega

/-- A text and whether it is one, as a result. -/
abbrev t2 (s : ByteArray) (b : Bool) : Value := .tuple #[.string s, .bool b]

end Pk
end Go.Proofs.YtcifgableeeooalDoor
