/- Contracts of the draws of decimal texts. -/
import Derived.Test.YtnmbhkecbpmhiaaDoorCurNum
import Derived.Test.YtnmbhkecbpmhiaaDoorNumDec
namespace Go.Proofs.YtnmbhkecbpmhiaaDoor
namespace Cur
open Go.ChangeShapes Go.WideShapes Go.ChangeAt Go.RowKit

/-- A row of texts of which each has the property. -/
def RowOfS (p : ByteArray → Prop) (w : World) (g m : Nat) : Prop := ∀ i, i < m → ∃ v : ByteArray, w.cell? ⟨g, i, none⟩ = some (.string v) ∧ p v

theorem rowOfS_new (p : ByteArray → Prop) (w : World) (zs : List ByteArray) (t : Nat) (h : ∀ z, z ∈ zs → p z) : RowOfS p (w.alloc (.cells (zs.map Value.string).toArray t)) w.heap.size zs.length := by
  intro i hi
  refine ⟨zs[i], ?_, h _ (List.getElem_mem hi)⟩
  rw [World.cell?_alloc_mark]
  simp [hi]

theorem pick_any {W0 : World} {a : Option Addr} {n cap c : Nat} {w : World} (C : Is W0 a n cap c w) (p : ByteArray → Prop) (g m k : Nat) (hg : g ≠ c) (hm : 0 < m) (hm2 : m ≤ 1000) (R : RowOfS p w g m) :
    Calls Tryd.prog 14 #[.pointer (some ⟨c, 0, none⟩), .slice (some ⟨g, 0, none⟩) m k] w fun e w' => (∃ x : ByteArray, e = .returned (.string x) ∧ p x) ∧ Is W0 a n cap c w' ∧ Moved c w w' := by
  go_enter Tryd.func14, Tryd.ntmps14
  go_wp2_with fail
  refine (below_any C _).mono ?_
  rintro e w1 ⟨⟨x, rfl, hx0, hx1⟩, C1, M1⟩
  have hx2 := hx1 (by omega)
  obtain ⟨i, rfl⟩ := Int.eq_ofNat_of_zero_le hx0
  obtain ⟨v, hv, hp⟩ := R i (by omega)
  have hv1 : w1.cell? ⟨g, i, none⟩ = some (.string v) := (M1.cell (p := ⟨g, i, none⟩) hg).trans hv
  have HP : Hid (p v) := hp
  clear hp hv hx1
  go_wp2
  go_ret
  exact ⟨⟨_, rfl, HP⟩, C1, M1⟩

theorem decS_size (n : Nat) (h : n ≤ 9223372036854775807) : (Num.decS n).size ≤ 20 := by
  unfold Num.decS Lib.itoa
  rw [if_neg (by omega)]
  have := Math.dec_len_le n (by omega)
  simpa [ByteArray.size] using this

theorem drawReadDec (W0 : World) (a : Option Addr) (n cap : Nat) (hn : n ≤ 1048576) (B : Bytes W0 a n) :
    Calls Tryd.prog 5 #[.slice a n cap] W0 fun e w' => (∃ s : ByteArray, e = .returned (.string s) ∧ s.size ≤ 20) ∧ Below W0.heap.size W0 w' := by
  go_enter Tryd.func5, Tryd.ntmps5
  go_wp2_with fail
  refine (new_any W0 a n cap hn B).mono ?_
  rintro e w1 ⟨rfl, C1⟩
  go_wp2_with fail
  refine (below_any C1 _).mono ?_
  rintro e w2 ⟨⟨x, rfl, hx0, hx1⟩, C2, M2⟩
  have hx2 := hx1 (by omega)
  clear hx1
  obtain ⟨k, rfl⟩ := Int.eq_ofNat_of_zero_le hx0
  have hs := decS_size k (by omega)
  go_wp2_with fail
  refine (Num.specDecText_nat k _ (by omega)).mono ?_
  rintro e w3 ⟨rfl, rfl⟩
  generalize Num.decS (k : Int) = S at *
  go_wp2_with fail
  refine (once_any C2 _).mono ?_
  rintro e w4 ⟨⟨o, rfl⟩, C4, M4⟩
  cases o
  · go_wp2
    go_ret
    exact ⟨⟨S, rfl, hs⟩, C4.below⟩
  · have hlt := C4.lt
    go_wp2_with fail
    refine (pick_any (C4.alloc _) (fun v => v.size ≤ 20) w4.heap.size 8 8 (by omega) (by omega) (by omega) (rowOfS_new _ w4 [⟨#[]⟩, ⟨#[48]⟩, ⟨#[48, 48]⟩, ⟨#[45, 49]⟩, ⟨#[57, 57, 57, 57, 57, 57, 57, 57, 57]⟩, ⟨#[49, 48, 48, 48, 48, 48, 48, 48, 48, 48]⟩, ⟨#[49, 120]⟩, ⟨#[32, 49]⟩] _ (by intro z hz; simp at hz; rcases hz with h | h | h | h | h | h | h | h <;> subst h <;> decide))).mono ?_
    rintro e w5 ⟨⟨y, rfl, hy⟩, C5, M5⟩
    go_wp2
    go_ret
    exact ⟨⟨y, rfl, hy⟩, C5.below⟩

theorem drawDecText (W0 : World) (a : Option Addr) (n cap : Nat) (hn : n ≤ 1048576) (B : Bytes W0 a n) :
    Calls Tryd.prog 8 #[.slice a n cap] W0 fun e w' => (∃ x : Int, e = .returned (.int .i64 x) ∧ I64 x) ∧ Below W0.heap.size W0 w' := by
  go_enter Tryd.func8, Tryd.ntmps8
  go_wp2_with fail
  refine (new_any W0 a n cap hn B).mono ?_
  rintro e w1 ⟨rfl, C1⟩
  go_wp2_with fail
  refine (num_any C1).mono ?_
  rintro e w2 ⟨⟨x, rfl, hx⟩, C2⟩
  go_wp2
  go_ret
  exact ⟨⟨x, rfl, hx⟩, C2.below⟩

end Cur
end Go.Proofs.YtnmbhkecbpmhiaaDoor
