/- Rides put behind rides: the builtin append at an operation, whatever list it is. -/
import Derived.Test.YtfoccmhmgdengaaEaCand
import Derived.Laws.AppendOwnNone
namespace Go.Proofs.Ytfoccmhmgdengaa
namespace Rd
open Go.ChangeShapes Go.WideShapes Go.ChangeAt Go.RowKit
open Pk (new_below join_below cell_at heap_new frozen_at lt_of kept heap_old)
set_option linter.unusedSimpArgs false
set_option linter.unusedVariables false

/-- The cells of a list of rides, read off. -/
theorem rides_read {w : World} {b o : Nat} {l : List Ri} (I : Rides w (some ⟨b, o, none⟩) l) : ∀ j u, (rcells l)[j]? = some u → w.cell? (Addr.add ⟨b, o, none⟩ j) = some u := by
  intro j u hu
  have hj : j < (rcells l).length := (List.getElem?_eq_some_iff.1 hu).1
  rw [rcells_length] at hj
  rw [add_plain]
  have hi : j / 4 < l.length := by omega
  obtain ⟨b', o', e, -, c0, c1, c2, c3⟩ := I.at (j / 4) hi
  simp only [Option.some.injEq, Addr.mk.injEq, and_true] at e
  obtain ⟨rfl, rfl⟩ := e
  obtain ⟨d0, d1, d2, d3⟩ := rcells_at l (j / 4) hi
  have h4 : j % 4 = 0 ∨ j % 4 = 1 ∨ j % 4 = 2 ∨ j % 4 = 3 := by omega
  rcases h4 with h | h | h | h
  · have e : j = j / 4 * 4 := by omega
    rw [← e] at d0 c0
    rw [d0] at hu
    rw [← hu]; exact c0
  · have e : j = j / 4 * 4 + 1 := by omega
    rw [← e] at d1
    rw [Nat.add_assoc, ← e] at c1
    rw [d1] at hu
    rw [← hu]; exact c1
  · have e : j = j / 4 * 4 + 2 := by omega
    rw [← e] at d2
    rw [Nat.add_assoc, ← e] at c2
    rw [d2] at hu
    rw [← hu]; exact c2
  · have e : j = j / 4 * 4 + 3 := by omega
    rw [← e] at d3
    rw [Nat.add_assoc, ← e] at c3
    rw [d3] at hu
    rw [← hu]; exact c3

/-- Rides in a row of the call's own. -/
theorem ride_own {w : World} {base n c : Nat} {a : Option Addr} {l : List Ri} (O : w.ownsRow base 37 4 (.slice a n c) n (rcells l)) (hn : n = l.length) : RideAt w base a c l := by
  subst hn
  exact O

theorem own_empty (w : World) (base e size : Nat) (hb : base ≤ w.heap.size) : (w.alloc (.cells #[] e)).ownsRow base e size (.slice (some ⟨w.heap.size, 0, none⟩) 0 0) 0 [] :=
  ⟨by simp, Or.inr ⟨w.heap.size, 0, #[], rfl, hb, heap_new w _, by omega, by simp [maxLen], by simp, by simp⟩⟩

theorem info_ride' : (Try.prog.info? 37).map (fun i => (i.zero, i.size, i.bytes)) = some (some (lgV ⟨0, 0, 0, 0⟩), 4, 32) := by kernel_rfl

/-- 'append' at an operation, whatever is appended. -/
theorem wp_append_at {P : Program} {w : World} {o : Oper} {a : Act} {K : Act → World → Prop} {Q : Exit → Act → World → Prop} (s x : Operand) (t : TypeId)
    (ho : o.op = .call { callee := .builtin .append, args := #[s, x], argTypes := #[t, t] })
    (base : Nat) (e : TypeId) (i : TypeInfo) (z : Value) (size bytes : Nat) (ht : P.underlying t = some (.slice e)) (hi : P.info? e = some i) (hz : i.zero = some z)
    (hsize : i.size = size) (hby : i.bytes = bytes) (hzs : z.cells.size = size) (hsz : 0 < size)
    (v : Value) (n : Nat) (xs : List Value) (hs : a.eval s = v) (hown : w.ownsRow base e size v n xs)
    (ad : Addr) (m c : Nat) (news : List Value) (hx : a.eval x = .slice (some ad) m c) (hl : news.length = m * size) (hnews : ∀ j u, news[j]? = some u → w.cell? (ad.add j) = some u) (h1 : ∀ u ∈ news, u.oneCell' = true)
    (h63 : n + m ≤ maxLen) (hbytes : (n + m) * bytes ≤ 140737488355328) (hbase : base ≤ w.heap.size)
    (h : ∀ v' w', w'.ownsRow base e size v' (n + m) (xs ++ news) → w.grownBy w' v.ownBlock → (v'.ownBlock = v.ownBlock ∨ v'.ownBlock = some w.heap.size) → K (a.put o.dst v') w') : o.wp P a w K Q := by
  obtain ⟨v', w', hr, h2, h3, -, h5⟩ := run_append_own_at (P := P) w base t o.type e i z size bytes ht hi hz hsize hby hzs hsz v n xs hown ad m c news hl hnews h1 h63 hbytes hbase
  unfold Oper.wp execOp
  simp only [ho, resolve, invoke, builtin, Sem.run_bind, Sem.run_pure, Result.andThen_ok, List.map_toArray, List.map_cons, List.map_nil, hs, hx, hr]
  exact h v' w' h2 h3 h5

/-- A list of rides, which may be none, is appended. -/
theorem wp_append_rides {P : Program} {w : World} {o : Oper} {a : Act} {K : Act → World → Prop} {Q : Exit → Act → World → Prop} (s x : Operand) (t : TypeId)
    (ho : o.op = .call { callee := .builtin .append, args := #[s, x], argTypes := #[t, t] })
    (base : Nat) (e : TypeId) (i : TypeInfo) (z : Value) (ht : P.underlying t = some (.slice e)) (hi : P.info? e = some i) (hz : i.zero = some z)
    (hsize : i.size = 4) (hby : i.bytes = 32) (hzs : z.cells.size = 4)
    (v : Value) (n : Nat) (xs : List Value) (hs : a.eval s = v) (hown : w.ownsRow base e 4 v n xs)
    (l : List Ri) (b : Option Addr) (m c : Nat) (hm : m = l.length) (hx : a.eval x = .slice b m c) (hnil : l.length = 0 → Value.slice b m c = .slice none 0 0) (I : l.length = 0 ∨ ∃ g, b = some ⟨g, 0, none⟩ ∧ Rides w (some ⟨g, 0, none⟩) l)
    (h63 : n + m ≤ 1000) (hbase : base ≤ w.heap.size)
    (h : ∀ v' w', w'.ownsRow base e 4 v' (n + m) (xs ++ rcells l) → w.grownBy w' v.ownBlock → (v'.ownBlock = v.ownBlock ∨ v'.ownBlock = some w.heap.size) → K (a.put o.dst v') w') : o.wp P a w K Q := by
  subst hm
  by_cases h0 : l.length = 0
  · have hn := hnil h0
    rw [hn] at hx
    have hrun := run_append_owned_none (P := P) (w := w) base t o.type e i 4 ht hi v n xs hown
    unfold Oper.wp
    simp [execOp, ho, resolve, invoke, builtin, hs, hx, hrun, Result.andThen]
    have hl : l = [] := List.eq_nil_of_length_eq_zero h0
    refine h v w ?_ (grown_refl _ _) (Or.inl rfl)
    rw [hl]
    simpa [rcells] using hown
  · rcases I with I | ⟨g, rfl, I⟩
    · exact absurd I h0
    · exact wp_append_at s x t ho base e i z 4 32 ht hi hz hsize hby hzs (by omega) v n xs hs hown ⟨g, 0, none⟩ l.length c (rcells l) hx (rcells_length l) (rides_read I) (rcells_one l) (by unfold maxLen; omega) (by omega) hbase h

theorem RideAt.form {w : World} {base c : Nat} {a : Option Addr} {l : List Ri} (h : RideAt w base a c l) : l.length = 0 ∨ ∃ g, a = some ⟨g, 0, none⟩ ∧ Rides w (some ⟨g, 0, none⟩) l := h.old.imp_right fun ⟨g, _, h1, _, _, h2⟩ => ⟨g, h1, h2⟩

/-- The cells of one ride, new. -/
theorem four_new {w : World} {g : Nat} {x0 x1 x2 x3 : Value} {ty : TypeId} {f : Nat × Nat} (h : w.heap[g]? = some (.cells #[x0, x1, x2, x3] ty f)) : ∀ j u, [x0, x1, x2, x3][j]? = some u → w.cell? (Addr.add ⟨g, 0, none⟩ j) = some u := by
  intro j u hu
  rw [add_plain, Nat.zero_add, cell_at h j]
  simpa using hu

end Rd
end Go.Proofs.Ytfoccmhmgdengaa
