/- What the program's search has still to do; a row of hops as it lies. -/
import Derived.Test.YtfoccmhmgdengaaEaPP
import Derived.Test.YtfoccmhmgdengaaEaMi
namespace Go.Proofs.Ytfoccmhmgdengaa
namespace Rd
open Go.ChangeShapes Go.WideShapes Go.ChangeAt Go.RowKit
open Pk (new_below join_below cell_at heap_new frozen_at lt_of kept heap_old info_of)
set_option linter.unusedSimpArgs false
set_option linter.unusedVariables false

/-- How often a station may still be gone on from; how many ways may still come. -/
def cst (fw : Int → Option Nat) (s : Int) : Nat := (fw s).getD 6
def phi (H : List Hp) (fw : Int → Option Nat) : Nat := (H.map fun h => cst fw h.r.fr).sum
def putN (fw : Int → Option Nat) (s : Int) (n : Nat) : Int → Option Nat := fun q => if q = s then some n else fw q
def hopsAt (H : List Hp) (s : Int) : List Hp := H.filter fun h => decide (h.r.fr = s)

theorem phi_zero (H : List Hp) : phi H (fun _ => none) = 6 * H.length := by
  induction H with
  | nil => rfl
  | cons h H ih =>
    unfold phi at ih ⊢
    rw [List.map_cons, List.sum_cons, ih, List.length_cons]
    simp [cst]
    omega

theorem phi_put {fw : Int → Option Nat} {s : Int} {n : Nat} (h : n < cst fw s) : ∀ H : List Hp, phi H (putN fw s n) + (hopsAt H s).length ≤ phi H fw
  | [] => by simp [phi, hopsAt]
  | x :: H => by
    have ih := phi_put h H
    unfold phi hopsAt at ih ⊢
    rw [List.map_cons, List.sum_cons, List.map_cons, List.sum_cons]
    by_cases e : x.r.fr = s
    · rw [List.filter_cons_of_pos (by simpa using e), List.length_cons]
      have h1 : cst (putN fw s n) x.r.fr = n := by simp [cst, putN, e]
      have h2 : cst fw x.r.fr = cst fw s := by rw [e]
      omega
    · rw [List.filter_cons_of_neg (by simpa using e)]
      have h1 : cst (putN fw s n) x.r.fr = cst fw x.r.fr := by simp [cst, putN, e]
      omega

theorem putN_cast (fw : Int → Option Nat) (s : Int) (n : Nat) : Em.putL (fun k => (fw k).map fun (x : Nat) => (x : Int)) s (n : Int) = fun k => (putN fw s n k).map fun (x : Nat) => (x : Int) := by
  funext q
  unfold Em.putL putN
  by_cases e : q = s <;> simp [e]

theorem hopsAt_len (H : List Hp) (s : Int) : (hopsAt H s).length ≤ H.length := List.length_filter_le _ _

theorem hopsAt_iff {H : List Hp} {s : Int} {h : Hp} : h ∈ hopsAt H s ↔ h ∈ H ∧ h.r.fr = s := by
  unfold hopsAt
  rw [List.mem_filter, decide_eq_true_eq]

theorem mem_ways {n : Nat} {f : Nat → Vw} {u : Vw} : u ∈ (List.range n).map f ↔ ∃ k, k < n ∧ f k = u := by
  rw [List.mem_map]
  constructor
  · rintro ⟨k, hk, e⟩
    exact ⟨k, List.mem_range.1 hk, e⟩
  · rintro ⟨k, hk, e⟩
    exact ⟨k, List.mem_range.2 hk, e⟩

theorem way_ends {H : List Hp} : ∀ {p : List Hp} {s y : Int}, isWay H s y p → endS s p = s ∨ ∃ h ∈ H, endS s p = h.r.to
  | [], s, y, _ => Or.inl rfl
  | a :: p, s, y, h => by
    rcases way_ends h.2.2.2 with e | e
    · exact Or.inr ⟨a, h.1, e⟩
    · exact Or.inr e

/-- A row of hops as it lies. -/
def Hops (w : World) (a : Option Addr) (l : List Hp) : Prop := ∀ i (h : i < l.length), ∃ g, a = some ⟨g, 0, none⟩ ∧ g < w.heap.size ∧ w.cell? ⟨g, i * 6, none⟩ = some (.int .i64 l[i].r.tr) ∧ w.cell? ⟨g, i * 6 + 1, none⟩ = some (.int .i64 l[i].r.dy) ∧ w.cell? ⟨g, i * 6 + 2, none⟩ = some (.int .i64 l[i].r.fr) ∧ w.cell? ⟨g, i * 6 + 3, none⟩ = some (.int .i64 l[i].r.to) ∧ w.cell? ⟨g, i * 6 + 4, none⟩ = some (.int .i64 l[i].d) ∧ w.cell? ⟨g, i * 6 + 5, none⟩ = some (.int .i64 l[i].z)

theorem Hops.on {w w1 : World} {a : Option Addr} {l : List Hp} (h : Hops w a l) (L : Below w.heap.size w w1) : Hops w1 a l := fun i hi => by
  obtain ⟨g, e, hg, c0, c1, c2, c3, c4, c5⟩ := h i hi
  exact ⟨g, e, Nat.lt_of_lt_of_le hg L.size, (L.cell (p := ⟨g, i * 6, none⟩) hg).trans c0, (L.cell (p := ⟨g, i * 6 + 1, none⟩) hg).trans c1, (L.cell (p := ⟨g, i * 6 + 2, none⟩) hg).trans c2, (L.cell (p := ⟨g, i * 6 + 3, none⟩) hg).trans c3, (L.cell (p := ⟨g, i * 6 + 4, none⟩) hg).trans c4, (L.cell (p := ⟨g, i * 6 + 5, none⟩) hg).trans c5⟩

theorem hops_of {w : World} {B : Nat} {v : Value} {l : List Hp} (O : w.ownsRow B 76 6 v l.length (Em.hcells l)) : ∃ a c, v = .slice a l.length c ∧ Hops w a l := by
  by_cases h0 : l.length = 0
  · obtain ⟨-, ⟨hv, -⟩ | ⟨g, cap, cur, hv, -⟩⟩ := O
    · exact ⟨none, 0, by rw [hv, h0], fun i hi => by omega⟩
    · exact ⟨_, _, hv, fun i hi => by omega⟩
  · obtain ⟨g, cap, rfl, -, hg, hc, -⟩ := Em.own_cell O (by omega)
    refine ⟨_, _, rfl, fun i hi => ⟨g, rfl, hg, ?_⟩⟩
    have hx := fun c (hc : c < 6) => Em.hcells_get l i c hi hc
    exact ⟨hc _ _ (hx 0 (by omega)), hc _ _ (hx 1 (by omega)), hc _ _ (hx 2 (by omega)), hc _ _ (hx 3 (by omega)), hc _ _ (hx 4 (by omega)), hc _ _ (hx 5 (by omega))⟩

/-- What is looked up in the map of hops. -/
theorem hops_look {B b : Nat} {H : List Hp} {es : Array MapEntry} {clock : Nat} {w : World} (M : Em.Mp B b (hopsAt H) es clock w) {s : Int} (hs : Em.WfI s) :
    ∃ a c, (∀ w1 : World, Below w.heap.size w w1 → (Instr.lookup 62 (.map (some b)) (.int .i64 s) false).run Try.prog w1 = .ok (.slice a (hopsAt H s).length c) w1) ∧ Hops w a (hopsAt H s) := by
  obtain ⟨v0, h1, h2, -⟩ := M.look s hs
  obtain ⟨a, c, rfl, h3⟩ := hops_of h2
  exact ⟨a, c, fun w1 L => h1 w1 (kept L (lt_of M.blk) M.blk), h3⟩

theorem five_new (w : World) (a b c d e : Obj) : (((((w.alloc a).alloc b).alloc c).alloc d).alloc e).heap[w.heap.size]? = some a ∧ (((((w.alloc a).alloc b).alloc c).alloc d).alloc e).heap[w.heap.size + 1]? = some b ∧ (((((w.alloc a).alloc b).alloc c).alloc d).alloc e).heap[w.heap.size + 1 + 1]? = some c ∧ (((((w.alloc a).alloc b).alloc c).alloc d).alloc e).heap[w.heap.size + 1 + 1 + 1]? = some d ∧ (((((w.alloc a).alloc b).alloc c).alloc d).alloc e).heap[w.heap.size + 1 + 1 + 1 + 1]? = some e ∧ Below w.heap.size w (((((w.alloc a).alloc b).alloc c).alloc d).alloc e) := by
  have e1 : (w.alloc a).heap.size = w.heap.size + 1 := Array.size_push ..
  have e2 : ((w.alloc a).alloc b).heap.size = w.heap.size + 1 + 1 := (Array.size_push ..).trans (by rw [e1])
  have e3 : (((w.alloc a).alloc b).alloc c).heap.size = w.heap.size + 1 + 1 + 1 := (Array.size_push ..).trans (by rw [e2])
  have e4 : ((((w.alloc a).alloc b).alloc c).alloc d).heap.size = w.heap.size + 1 + 1 + 1 + 1 := (Array.size_push ..).trans (by rw [e3])
  have hb := heap_new (w.alloc a) b
  have hc := heap_new ((w.alloc a).alloc b) c
  have hd := heap_new (((w.alloc a).alloc b).alloc c) d
  have he := heap_new ((((w.alloc a).alloc b).alloc c).alloc d) e
  rw [e1] at hb
  rw [e2] at hc
  rw [e3] at hd
  rw [e4] at he
  exact ⟨heap_old (heap_old (heap_old (heap_old (heap_new w a) b) c) d) e, heap_old (heap_old (heap_old hb c) d) e, heap_old (heap_old hc d) e, heap_old hd e, he, join_below (join_below (join_below (join_below (new_below w a) (new_below _ b)) (new_below _ c)) (new_below _ d)) (new_below _ e)⟩

/-- Three cells of a block set. -/
theorem set_three {w : World} {b : Nat} {x y z x' y' z' : Value} {t : TypeId} {fz : Nat × Nat} (h : w.heap[b]? = some (.cells #[x, y, z] t fz)) : (((w.setCell ⟨b, 0, none⟩ x').setCell ⟨b, 1, none⟩ y').setCell ⟨b, 2, none⟩ z').heap[b]? = some (.cells #[x', y', z'] t fz) := by
  unfold World.setCell
  simp [Array.getElem?_modify, h]

end Rd
end Go.Proofs.Ytfoccmhmgdengaa
