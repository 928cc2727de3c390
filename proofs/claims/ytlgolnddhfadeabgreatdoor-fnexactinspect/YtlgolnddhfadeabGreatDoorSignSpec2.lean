/- Contracts of the model's functions of chapter 2, further: keys and marks. -/
import Derived.Test.YtlgolnddhfadeabGreatDoorSignSpec
namespace Go.Proofs.YtlgolnddhfadeabGreatDoor
namespace Num
open Go.ChangeShapes Go.WideShapes Go.ChangeAt Go.RowKit

/-- Whether a secret is one of these parameters. -/
def keyB (p q g x : Int) : Bool := okP p q g && decide (1 ≤ x ∧ x ≤ q - 1)

/-- What OpenKey answers. -/
def keyI (p q g x : Int) : Int := if keyB p q g x = true then powV g x p else 0

theorem keyI_yes {p q g x : Int} (h : keyB p q g x = true) : keyI p q g x = powV g x p := if_pos h

theorem keyI_no {p q g x : Int} (h : keyB p q g x = false) : keyI p q g x = 0 := if_neg (by rw [h]; simp)

theorem keyB_facts {p q g x : Int} (h : keyB p q g x = true) : okP p q g = true ∧ 1 ≤ x ∧ x ≤ q - 1 := by
  simpa [keyB] using h

theorem specParamsOk_is (p q g : Int) (b : Bool) (h : okP p q g = b) (w : World) :
    Calls Tryz.prog 76 #[pv p q g] w fun e w' => e = .returned (.bool b) ∧ Below w.heap.size w w' := by
  subst h
  exact specParamsOk_val p q g w

theorem specInverse_is (a m : Int) (i : Int) (b : Bool) (hi : invI a m = i) (hb : invB a m = b) (w : World) :
    Calls Tryz.prog 78 #[.int .i64 a, .int .i64 m] w fun e w' => e = .returned (.tuple #[.int .i64 i, .bool b]) ∧ w' = w := by
  subst hi hb
  exact specInverse_val a m w

/-- The first half of the mark that a draw makes; 0 where it will not do. -/
def onceR (p q g x h k : Int) : Int := if doV p q g x h k = true then rV p q g k else 0

/-- The second half. -/
def onceS (p q g x h k : Int) : Int := if doV p q g x h k = true then sV p q g x h k else 0

theorem once_yes {p q g x h k : Int} (hd : doV p q g x h k = true) : onceR p q g x h k = rV p q g k ∧ onceS p q g x h k = sV p q g x h k := ⟨if_pos hd, if_pos hd⟩

theorem once_no {p q g x h k : Int} (hd : doV p q g x h k = false) : onceR p q g x h k = 0 ∧ onceS p q g x h k = 0 := ⟨if_neg (by rw [hd]; simp), if_neg (by rw [hd]; simp)⟩

/-- The block of some parameters. -/
abbrev pb (p q g : Int) : Obj := .cells #[.int .i64 p, .int .i64 q, .int .i64 g] 29

/-- The block of a mark. -/
abbrev mb (r s : Int) : Obj := .cells #[.int .i64 r, .int .i64 s] 72

theorem cell_at {w : World} {b : Nat} {cs : Array Value} {t : TypeId} {f : Nat × Nat} (h : w.heap[b]? = some (.cells cs t f)) (i : Nat) : w.cell? ⟨b, i, none⟩ = cs[i]? := by
  unfold World.cell?
  rw [h]
  simp

theorem heap_new (w : World) (o : Obj) : (w.alloc o).heap[w.heap.size]? = some o := by
  show (w.heap.push o)[w.heap.size]? = some o
  simp

theorem heap_old {w : World} {b : Nat} {x : Obj} (h : w.heap[b]? = some x) (o : Obj) : (w.alloc o).heap[b]? = some x := by
  show (w.heap.push o)[b]? = some x
  have := (Array.getElem?_eq_some_iff.1 h).1
  rw [Array.getElem?_push_lt this]
  exact Array.getElem?_eq_some_iff.1 h |>.2 |> fun e => by rw [e]

theorem frozen_at {w : World} {b : Nat} {cs : Array Value} {t : TypeId} (h : w.heap[b]? = some (.cells cs t (0, 0))) (i : Nat) : w.frozen? ⟨b, i, none⟩ = false := by
  unfold World.frozen?
  rw [h]
  simp

theorem kept_new {X w4 : World} {n : Nat} {o : Obj} (L : Below X.heap.size X w4) (h : X.heap[n]? = some o) : w4.heap[n]? = some o := by rw [L.block n (Array.getElem?_eq_some_iff.1 h).1, h]

theorem kept_drawn {X w4 : World} {n : Nat} {o : Obj} (D : Drawn X w4) (h : X.heap[n]? = some o) : w4.heap[n]? = some o := kept_new (drawn_below _ D) h

/-- Whether a text can be signed with a secret. -/
def signB (p q g x : Int) (t : ByteArray) : Bool := keyB p q g x && decide (t.size ≤ 5000)

theorem signB_facts {p q g x : Int} {t : ByteArray} (h : signB p q g x t = true) : okP p q g = true ∧ (1 ≤ x ∧ x ≤ q - 1) ∧ t.size ≤ 5000 := by
  simp only [signB, Bool.and_eq_true, decide_eq_true_eq] at h
  exact ⟨(keyB_facts h.1).1, (keyB_facts h.1).2, h.2⟩

/-- The folding of a text. -/
def hV (t : ByteArray) (q : Int) : Int := (Math.foldAt t.data.toList : Int) % q

theorem hV_bd (t : ByteArray) {q : Int} (h : Meas q) : 0 ≤ hV t q ∧ hV t q < q := Math.emod_bd _ _ h.1

/-- Whether SignOnce makes a mark. -/
def soB (p q g x : Int) (t : ByteArray) (k : Int) : Bool := signB p q g x t && doV p q g x (hV t q) k

/-- The halves of the mark that SignOnce answers. -/
def soR (p q g x : Int) (t : ByteArray) (k : Int) : Int := if soB p q g x t k = true then rV p q g k else 0

def soS (p q g x : Int) (t : ByteArray) (k : Int) : Int := if soB p q g x t k = true then sV p q g x (hV t q) k else 0

theorem so_no {p q g x : Int} {t : ByteArray} (k : Int) (h : signB p q g x t = false) : soB p q g x t k = false ∧ soR p q g x t k = 0 ∧ soS p q g x t k = 0 := by
  have e : soB p q g x t k = false := by rw [soB, h]; rfl
  exact ⟨e, if_neg (by rw [e]; simp), if_neg (by rw [e]; simp)⟩

theorem so_yes {p q g x : Int} {t : ByteArray} (k : Int) (h : signB p q g x t = true) : soB p q g x t k = doV p q g x (hV t q) k ∧ soR p q g x t k = onceR p q g x (hV t q) k ∧ soS p q g x t k = onceS p q g x (hV t q) k := by
  have e : soB p q g x t k = doV p q g x (hV t q) k := by rw [soB, h]; rfl
  refine ⟨e, ?_, ?_⟩
  · unfold soR onceR; rw [e]
  · unfold soS onceS; rw [e]

theorem signB_cases (p q g x : Int) (t : ByteArray) : (okP p q g = false ∧ signB p q g x t = false) ∨ (okP p q g = true ∧ ¬ (1 ≤ x ∧ x ≤ q - 1) ∧ signB p q g x t = false) ∨ (okP p q g = true ∧ (1 ≤ x ∧ x ≤ q - 1) ∧ 5000 < t.size ∧ signB p q g x t = false) ∨ (okP p q g = true ∧ (1 ≤ x ∧ x ≤ q - 1) ∧ t.size ≤ 5000 ∧ signB p q g x t = true) := by
  cases h1 : okP p q g
  · exact Or.inl ⟨rfl, by simp [signB, keyB, h1]⟩
  · by_cases h2 : 1 ≤ x ∧ x ≤ q - 1
    · by_cases h3 : t.size ≤ 5000
      · exact Or.inr (Or.inr (Or.inr ⟨rfl, h2, h3, by simp [signB, keyB, h1, h2, h3]⟩))
      · exact Or.inr (Or.inr (Or.inl ⟨rfl, h2, by omega, by simp [signB, h3]⟩))
    · exact Or.inr (Or.inl ⟨rfl, h2, by rw [signB, keyB, decide_eq_false h2, Bool.and_false]; rfl⟩)

end Num
end Go.Proofs.YtlgolnddhfadeabGreatDoor
