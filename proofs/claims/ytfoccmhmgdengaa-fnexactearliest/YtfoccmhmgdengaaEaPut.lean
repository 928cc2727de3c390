/- A hop put behind those of its station. -/
import Derived.Test.YtfoccmhmgdengaaEaMap
import Derived.Test.YtfoccmhmgdengaaEaApp
namespace Go.Proofs.Ytfoccmhmgdengaa
namespace Rd
namespace Em
open Go.ChangeShapes Go.WideShapes Go.ChangeAt Go.RowKit
open Pk (new_below join_below cell_at heap_new frozen_at lt_of kept heap_old info_of own_form own_below Room)
open Go.ChangeMaps (setBlock)
set_option linter.unusedSimpArgs false
set_option linter.unusedVariables false

theorem six_at {w : World} {b : Nat} {p : Hp} {t : TypeId} {f : Nat × Nat} (h : w.heap[b]? = some (.cells #[.int .i64 p.r.tr, .int .i64 p.r.dy, .int .i64 p.r.fr, .int .i64 p.r.to, .int .i64 p.d, .int .i64 p.z] t f)) : ∀ j u, (hc1 p)[j]? = some u → w.cell? (Addr.add ⟨b, 0, none⟩ j) = some u := by
  intro j u hu
  rw [add_plain, Nat.zero_add, cell_at h j]
  simpa [hc1] using hu

theorem wp_look {w : World} {o : Oper} {a : Act} {K : Act → World → Prop} {Q : Exit → Act → World → Prop} (m x : Operand) (ho : o.op = .lookup 62 m x false) (mv kk v : Value) (hm : a.eval m = mv) (hx : a.eval x = kk)
    (hr : (Instr.lookup 62 mv kk false).run Try.prog w = .ok v w) (h : K (a.put o.dst v) w) : o.wp Try.prog a w K Q := by
  unfold Oper.wp
  simp [execOp, ho, hm, hx, hr, Result.andThen]
  exact h

theorem wp_upd {w w' : World} {o : Oper} {a : Act} {K : Act → World → Prop} {Q : Exit → Act → World → Prop} (m x y : Operand) (ho : o.op = .mapUpdate 62 m x y) (mv kk v : Value) (hm : a.eval m = mv) (hx : a.eval x = kk) (hy : a.eval y = v)
    (hr : (Instr.mapUpdate 62 mv kk v).run Try.prog w = .ok () w') (h : K (a.put o.dst undef) w') : o.wp Try.prog a w K Q := by
  unfold Oper.wp
  simp [execOp, ho, hm, hx, hy, hr, Result.andThen]
  exact h

theorem Mp.add {B b : Nat} {f : Int → List Hp} {es : Array MapEntry} {clock : Nat} {w : World} (M : Mp B b f es clock w) (p : Hp) (hk : WfI p.r.fr) (hbB : b < B) (hBw : B ≤ w.heap.size) :
    ∃ v0, (∀ w1 : World, Below w.heap.size w w1 → (Instr.lookup 62 (.map (some b)) (.int .i64 p.r.fr) false).run Try.prog w1 = .ok v0 w1) ∧ w.ownsRow B 76 6 v0 (f (p.r.fr)).length (hcells (f (p.r.fr))) ∧
      ∀ (wc w9 : World) (v' : Value), Below w.heap.size w wc → w9.ownsRow B 76 6 v' ((f (p.r.fr)).length + 1) (hcells (f (p.r.fr)) ++ hc1 p) → wc.grownBy w9 v0.ownBlock → (v'.ownBlock = v0.ownBlock ∨ v'.ownBlock = some wc.heap.size) →
        (∀ c, w.heap.size ≤ c → c < wc.heap.size → w9.heap[c]? = wc.heap[c]?) ∧ ∃ es' clock', (Instr.mapUpdate 62 (.map (some b)) (.int .i64 p.r.fr) v').run Try.prog w9 = .ok () (setBlock w9 b (.map es' clock')) ∧ Mp B b (more f (p.r.fr) p) es' clock' (setBlock w9 b (.map es' clock')) ∧ Below b w (setBlock w9 b (.map es' clock')) ∧ ∀ c, w.heap.size ≤ c → c < wc.heap.size → (setBlock w9 b (.map es' clock')).heap[c]? = wc.heap[c]? := by
  obtain ⟨v0, h1, h2, h3⟩ := M.look (p.r.fr) hk
  refine ⟨v0, fun w1 L => h1 w1 (kept L (lt_of M.blk) M.blk), h2, ?_⟩
  intro wc w9 v' L O10 G hl
  have hv : ∀ g, v0.ownBlock = some g → B ≤ g ∧ g < w.heap.size := fun g hg => h2.lt g hg
  have hbc := kept L (lt_of M.blk) M.blk
  have hb9 : w9.heap[b]? = some (.map es clock) := by
    rw [G.block b (lt_of hbc) (fun h => by have := (hv b h.symm).1; omega)]
    exact hbc
  have hc9 : ∀ c, w.heap.size ≤ c → c < wc.heap.size → w9.heap[c]? = wc.heap[c]? := fun c h4 h5 => G.block c h5 (fun h => by have := (hv c h.symm).2; omega)
  have hown : w9.ownsRow B 76 6 v' (f (p.r.fr) ++ [p]).length (hcells (f (p.r.fr) ++ [p])) := by
    rw [← hcells_snoc, List.length_append]
    exact O10
  refine ⟨hc9, ?_⟩
  obtain ⟨es', clock', h4, h5⟩ := h3 w9 v' p hb9 hown (by
    obtain ⟨g, hg, -⟩ := own_some hown (by simp)
    rcases hl with h | h
    · exact Or.inl ⟨g, hg, by rw [← h]; exact hg⟩
    · exact Or.inr ⟨_, h, L.size⟩) (fun u n xs hu hne => (own_below hu L (Nat.le_refl _)).kept G (Or.inr hne))
  refine ⟨es', clock', h4, h5, ?_, ?_⟩
  · refine ⟨G.os.trans L.os, G.tape.trans L.tape, G.output.trans L.output, ?_, fun k hk => ?_⟩
    · have h6 : (setBlock w9 b (.map es' clock')).heap.size = w9.heap.size := by simp [setBlock]
      rw [h6]
      exact Nat.le_trans L.size G.size
    · show (w9.heap.setIfInBounds b _)[k]? = _
      have hkb := lt_of M.blk
      rw [(MapKept.heap_set hb9).2 k (by omega), G.block k (by have := L.size; omega) (fun h => by have := (hv k h.symm).1; omega)]
      exact L.block k (by omega)
  · intro c h6 h7
    have hkb := lt_of M.blk
    show (w9.heap.setIfInBounds b _)[c]? = _
    rw [(MapKept.heap_set hb9).2 c (by omega)]
    exact hc9 c h6 h7

end Em
end Rd
end Go.Proofs.Ytfoccmhmgdengaa
