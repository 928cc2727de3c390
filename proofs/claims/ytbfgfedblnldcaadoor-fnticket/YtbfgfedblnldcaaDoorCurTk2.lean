/- The draw of any ticket. -/
import Derived.Test.YtbfgfedblnldcaaDoorCurTk
import Derived.Deep.RegionHeld3
import Derived.Deep.CutRange
import Derived.Maps.AppendAt
namespace Go.Proofs.YtbfgfedblnldcaaDoor
namespace Cur
open Go.ChangeShapes Go.WideShapes Go.ChangeAt Go.RowKit
open Pk (own_form new_below join_below heap_new lt_of kept cell_at heap_old frozen_at info_of own_below own_ne own_ne')
open Tk (Lg Hd tkV tkB)
open Gt (lcells lc1)
set_option linter.unusedSimpArgs false
set_option linter.unusedVariables false

/-- A ticket as it is drawn: its legs lie in a row of its own. -/
structure Tkt (lo : Nat) (w : World) (t : Hd) (nm : ByteArray) (va : Option Addr) (vc : Nat) (ls : List Lg) : Prop where
  own : w.ownsRow lo 40 6 (.slice va ls.length vc) ls.length (lcells ls)
  nm : nm.size ≤ 41
  len : ls.length ≤ 7

theorem own_setn {w : World} {base e g n cap i size : Nat} {xs : List Value} (h : w.ownsRow base e size (.slice (some ⟨g, 0, none⟩) n cap) n xs) (u : Value) : (w.setCell ⟨g, i, none⟩ u).ownsRow base e size (.slice (some ⟨g, 0, none⟩) n cap) n (xs.set i u) := by
  obtain ⟨hl, h2⟩ := h
  rcases h2 with ⟨hv, -⟩ | ⟨g', cap', cur, hv, hg, hh, h1, h3, h4, h5⟩
  · cases hv
  · simp only [Value.slice.injEq, Option.some.injEq, Addr.mk.injEq] at hv
    obtain ⟨⟨rfl, -⟩, -, rfl⟩ := hv
    refine ⟨by rw [List.length_set]; exact hl, Or.inr ⟨g, cap, _, rfl, hg, tk_set hh u, h1, h3, by rw [Array.size_setIfInBounds]; exact h4, ?_⟩⟩
    rw [Array.toList_setIfInBounds, ← h5, List.take_set]

theorem own_lo {w : World} {lo lo' e size n : Nat} {v : Value} {xs : List Value} (h : w.ownsRow lo e size v n xs) (hl : lo' ≤ lo) : w.ownsRow lo' e size v n xs := by
  obtain ⟨h1, h2⟩ := h
  refine ⟨h1, ?_⟩
  rcases h2 with h2 | ⟨g, cap, cur, hv, hg, hh, hr⟩
  · exact Or.inl h2
  · exact Or.inr ⟨g, cap, cur, hv, Nat.le_trans hl hg, hh, hr⟩

theorem own_none {w : World} {lo e size n cap g : Nat} {xs : List Value} (h : w.ownsRow lo e size (.slice (some ⟨g, 0, none⟩) n cap) n xs) : w.ownsRow lo e size (.slice (some ⟨g, 0, none⟩) 0 cap) 0 [] := by
  obtain ⟨h1, h2⟩ := h
  rcases h2 with ⟨hv, -⟩ | ⟨g', cap', cur, hv, hg, hh, h1, h3, h4, h5⟩
  · cases hv
  · simp only [Value.slice.injEq, Option.some.injEq, Addr.mk.injEq] at hv
    obtain ⟨⟨rfl, -⟩, -, rfl⟩ := hv
    exact ⟨by simp, Or.inr ⟨g, cap, cur, rfl, hg, hh, by omega, h3, h4, by simp⟩⟩

theorem own_some {w : World} {base e size n c : Nat} {a : Option Addr} {xs : List Value} (h : w.ownsRow base e size (.slice a n c) n xs) (hn : 0 < n) : ∃ g, a = some ⟨g, 0, none⟩ := by
  obtain ⟨-, ⟨h1, h2⟩ | ⟨g, cap, cur, h1, -⟩⟩ := h
  · simp only [Value.slice.injEq] at h1
    omega
  · simp only [Value.slice.injEq] at h1
    exact ⟨g, h1.1⟩

/-- The first cells of a row of legs. -/
theorem own_first {w : World} {base e g n cap : Nat} {p : Lg} {ls : List Lg} (h : w.ownsRow base e 6 (.slice (some ⟨g, 0, none⟩) n cap) n (lcells (p :: ls))) : (∀ j u, (lc1 p)[j]? = some u → w.cell? ⟨g, j, none⟩ = some u) ∧ ∀ j, w.frozen? ⟨g, j, none⟩ = false := by
  obtain ⟨hl, h2⟩ := h
  rcases h2 with ⟨hv, -⟩ | ⟨g', cap', cur, hv, hg, hh, h1, h3, h4, h5⟩
  · cases hv
  · simp only [Value.slice.injEq, Option.some.injEq, Addr.mk.injEq] at hv
    obtain ⟨⟨rfl, -⟩, -, rfl⟩ := hv
    refine ⟨fun j u hu => ?_, fun j => frozen_at hh j⟩
    have hj : j < 6 := by
      have := (List.getElem?_eq_some_iff.1 hu).1
      simpa [lc1] using this
    rw [cell_at hh j, ← Array.getElem?_toList]
    have h6 : (lcells (p :: ls))[j]? = some u := by
      rw [Gt.lcells_cons, List.getElem?_append_left (by simpa [lc1] using hj)]
      exact hu
    have h7 : j < (lcells (p :: ls)).length := (List.getElem?_eq_some_iff.1 h6).1
    rw [← h5] at h6 h7
    rw [List.length_take] at h7
    rw [List.getElem?_take_of_lt (by omega)] at h6
    exact h6

theorem wp_append_at {P : Program} {w : World} {o : Oper} {a : Act} {K : Act → World → Prop} {Q : Exit → Act → World → Prop} (s x : Operand) (t : TypeId)
    (ho : o.op = .call { callee := .builtin .append, args := #[s, x], argTypes := #[t, t] })
    (base : Nat) (e : TypeId) (i : TypeInfo) (z : Value) (size bytes : Nat) (ht : P.underlying t = some (.slice e)) (hi : P.info? e = some i) (hz : i.zero = some z)
    (hsize : i.size = size) (hby : i.bytes = bytes) (hzs : z.cells.size = size) (hsz : 0 < size)
    (v : Value) (n : Nat) (xs : List Value) (hs : a.eval s = v) (hown : w.ownsRow base e size v n xs)
    (ad : Addr) (m c : Nat) (news : List Value) (hx : a.eval x = .slice (some ad) m c) (hl : news.length = m * size) (hnews : ∀ j u, news[j]? = some u → w.cell? (ad.add j) = some u) (h1 : ∀ u ∈ news, u.oneCell' = true)
    (h63 : n + m ≤ maxLen) (hbytes : (n + m) * bytes ≤ 140737488355328) (hbase : base ≤ w.heap.size)
    (h : ∀ v' w', w'.ownsRow base e size v' (n + m) (xs ++ news) → w.grownBy w' v.ownBlock → (v'.ownBlock = v.ownBlock ∨ v'.ownBlock = some w.heap.size) → K (a.put o.dst v') w') : o.wp P a w K Q := by
  obtain ⟨v', w', hr, h2, h3, -, h5⟩ := run_append_own_at (P := P) w base t o.type e i z size bytes ht hi hz hsize hby hzs hsz v n xs hown ad m c news hl hnews h1 h63 hbytes hbase
  unfold Oper.wp execOp
  simp only [ho, resolve, invoke, builtin, Sem.run_bind, Sem.run_pure, Result.andThen_ok, List.map_toArray, List.map_cons, List.map_nil, hs, hx, hr]
  exact h v' w' h2 h3 h5

def lenT (w : World) (Q : Nat) : Nat := match w.cell? ⟨Q, 6, none⟩ with
  | some (.slice _ n _) => n
  | _ => 0

set_option maxRecDepth 100000 in
set_option maxHeartbeats 8000000 in
theorem any_any {W0 : World} {a : Option Addr} {n cap c : Nat} {w : World} (C : Is W0 a n cap c w) :
    Calls Tryd.prog 14 #[.pointer (some ⟨c, 0, none⟩)] w fun e w' => (∃ (t : Hd) (nm : ByteArray) (va : Option Addr) (vc : Nat) (ls : List Lg), e = .returned (tkV t nm va ls.length vc) ∧ Tkt w.heap.size w' t nm va vc ls) ∧ Is W0 a n cap c w' ∧ Kb c w w' := by
  have hcw := C.lt
  have hW0 : W0.heap.size ≤ w.heap.size := C.below.size
  have hRc : w.heap.size ≠ c := by omega
  obtain ⟨i0, hi, hy0, hy1, hy2⟩ := info_of Tk.info_leg
  have C1 := C.alloc (tkB ⟨0, 0, 0, 0, 0⟩ ⟨#[]⟩ none 0 0 26)
  have K1 : Kb c w (w.alloc (tkB ⟨0, 0, 0, 0, 0⟩ ⟨#[]⟩ none 0 0 26)) := (Kb.refl c w).alloc _
  have p1 := heap_new w (tkB ⟨0, 0, 0, 0, 0⟩ ⟨#[]⟩ none 0 0 26)
  go_enter Tryd.func14, Tryd.ntmps14
  go_wp2_with fail
  refine (right_any C1).mono ?_
  generalize w.alloc (tkB ⟨0, 0, 0, 0, 0⟩ ⟨#[]⟩ none 0 0 26) = v1 at *
  rintro e w2 ⟨⟨t, nm, va, vc, ls0, rfl, hnm, hl1, hl3, O2⟩, C2, K2⟩
  obtain ⟨g, rfl⟩ := own_some O2 (by omega)
  obtain ⟨p, ls, rfl⟩ : ∃ p ls, ls0 = p :: ls := by
    cases ls0 with
    | nil => simp at hl1
    | cons p ls => exact ⟨p, ls, rfl⟩
  have p2 := K2.at hRc p1
  have K2w := K1.trans K2
  have O2w : w2.ownsRow w.heap.size 40 6 (.slice (some ⟨g, 0, none⟩) (p :: ls).length vc) (p :: ls).length (lcells (p :: ls)) := own_lo O2 K1.size
  have HLN : Hid ((p :: ls).length ≤ 3) := hl3
  have HNM : Hid (nm.size ≤ 41) := by show _ ≤ _; omega
  have C3 := C2.alloc (.cells #[.int .i64 t.id, .string nm, .int .i64 t.cl, .int .i64 t.pr, .int .i64 t.fi, .int .i64 t.la, .slice (some ⟨g, 0, none⟩) (p :: ls).length vc] 26)
  have K3 := K2w.alloc (.cells #[.int .i64 t.id, .string nm, .int .i64 t.cl, .int .i64 t.pr, .int .i64 t.fi, .int .i64 t.la, .slice (some ⟨g, 0, none⟩) (p :: ls).length vc] 26)
  have p3 := heap_old p2 (.cells #[.int .i64 t.id, .string nm, .int .i64 t.cl, .int .i64 t.pr, .int .i64 t.fi, .int .i64 t.la, .slice (some ⟨g, 0, none⟩) (p :: ls).length vc] 26)
  have q3 := heap_new w2 (.cells #[.int .i64 t.id, .string nm, .int .i64 t.cl, .int .i64 t.pr, .int .i64 t.fi, .int .i64 t.la, .slice (some ⟨g, 0, none⟩) (p :: ls).length vc] 26)
  have O3 := own_below O2w (new_below w2 (.cells #[.int .i64 t.id, .string nm, .int .i64 t.cl, .int .i64 t.pr, .int .i64 t.fi, .int .i64 t.la, .slice (some ⟨g, 0, none⟩) (p :: ls).length vc] 26)) (Nat.le_refl _)
  have hQc : w2.heap.size ≠ c := by have := C2.lt; omega
  have hQw : w.heap.size ≤ w2.heap.size := K2w.size
  have hQP : w2.heap.size ≠ w.heap.size := by have := lt_of p2; omega
  have hQW : W0.heap.size ≤ w2.heap.size := by omega
  have hPQ : w.heap.size ≠ w2.heap.size := fun h => hQP h.symm
  clear C1 K1 p1 C2 K2 p2 K2w O2 O2w hl1 hl3 hnm
  go_wp2_with fail
  refine (below_any C3 18).mono ?_
  generalize w2.heap.size = Q at *
  generalize w2.alloc (.cells #[.int .i64 t.id, .string nm, .int .i64 t.cl, .int .i64 t.pr, .int .i64 t.fi, .int .i64 t.la, .slice (some ⟨g, 0, none⟩) (p :: ls).length vc] 26) = w3 at *
  rintro e w8 ⟨⟨s, rfl, hs0, hs1⟩, C8, M8⟩
  have K8 := K3.trans (Kb.moved M8)
  have p8 := (M8.block _ hRc).trans p3
  have q8 := (M8.block _ hQc).trans q3
  have O8 := own_kb O3 (Kb.moved M8) hcw
  clear C3 K3 p3 q3 O3 M8 hs0 hs1
  by_cases h0 : s = 0
  · subst h0
    have CA := C8.alloc (.cells #[.int .i64 0, .int .i64 999999999, .int .i64 1000000000] 3)
    have KA := K8.alloc (.cells #[.int .i64 0, .int .i64 999999999, .int .i64 1000000000] 3)
    have pA := heap_old p8 (.cells #[.int .i64 0, .int .i64 999999999, .int .i64 1000000000] 3)
    have qA := heap_old q8 (.cells #[.int .i64 0, .int .i64 999999999, .int .i64 1000000000] 3)
    have OA := own_below O8 (new_below w8 (.cells #[.int .i64 0, .int .i64 999999999, .int .i64 1000000000] 3)) (Nat.le_refl _)
    have hXc : w8.heap.size ≠ c := by have := C8.lt; omega
    have HPK := pickInt_any CA (fun _ => True) w8.heap.size 3 3 hXc (by omega) (by omega) (rowOf_new (fun _ => True) w8 [0, 999999999, 1000000000] 3 (fun _ _ => trivial))
    clear C8 K8 p8 q8 O8
    go_wp2_with fail
    refine HPK.mono ?_
    clear HPK
    generalize w8.alloc (.cells #[.int .i64 0, .int .i64 999999999, .int .i64 1000000000] 3) = u8 at *
    rintro e w5 ⟨⟨x, rfl, -⟩, C5, M5⟩
    have K5 := KA.trans (Kb.moved M5)
    have p5 := (M5.block _ hRc).trans pA
    have q5 := (M5.block _ hQc).trans qA
    have O5 := own_kb OA (Kb.moved M5) hcw
    clear CA KA pA qA OA M5
    have C9 := C5.set Q 0 (.int .i64 x) hQc hQW
    have K9 := K5.set Q 0 (.int .i64 x) hQw
    have q9 : (w5.setCell ⟨Q, 0, none⟩ (.int .i64 x)).heap[Q]? = some (.cells #[.int .i64 x, .string nm, .int .i64 t.cl, .int .i64 t.pr, .int .i64 t.fi, .int .i64 t.la, .slice (some ⟨g, 0, none⟩) (p :: ls).length vc] 26) := tk_set q5 _
    have p9 : (w5.setCell ⟨Q, 0, none⟩ (.int .i64 x)).heap[w.heap.size]? = some (tkB ⟨0, 0, 0, 0, 0⟩ ⟨#[]⟩ none 0 0 26) := (Below.heap_setCell _ _ _ _ hPQ).trans p5
    have O9 := own_else (i := 0) (u := .int .i64 x) O5 (own_ne' O5 q5 (by decide))
    have dd0 : w5.cell? ⟨Q, 0, none⟩ = some (.int .i64 t.id) := cell_at q5 0
    have ee0 : w5.frozen? ⟨Q, 0, none⟩ = false := frozen_at q5 0
    have qq0 : (w5.setCell ⟨Q, 0, none⟩ (.int .i64 x)).cell? ⟨Q, 0, none⟩ = some (.int .i64 x) := cell_at q9 0
    have qq1 : (w5.setCell ⟨Q, 0, none⟩ (.int .i64 x)).cell? ⟨Q, 1, none⟩ = some (.string nm) := cell_at q9 1
    have qq2 : (w5.setCell ⟨Q, 0, none⟩ (.int .i64 x)).cell? ⟨Q, 2, none⟩ = some (.int .i64 t.cl) := cell_at q9 2
    have qq3 : (w5.setCell ⟨Q, 0, none⟩ (.int .i64 x)).cell? ⟨Q, 3, none⟩ = some (.int .i64 t.pr) := cell_at q9 3
    have qq4 : (w5.setCell ⟨Q, 0, none⟩ (.int .i64 x)).cell? ⟨Q, 4, none⟩ = some (.int .i64 t.fi) := cell_at q9 4
    have qq5 : (w5.setCell ⟨Q, 0, none⟩ (.int .i64 x)).cell? ⟨Q, 5, none⟩ = some (.int .i64 t.la) := cell_at q9 5
    have qq6 : (w5.setCell ⟨Q, 0, none⟩ (.int .i64 x)).cell? ⟨Q, 6, none⟩ = some (.slice (some ⟨g, 0, none⟩) (p :: ls).length vc) := cell_at q9 6
    have bb0 : (w5.setCell ⟨Q, 0, none⟩ (.int .i64 x)).cell? ⟨w.heap.size, 0, none⟩ = some (.int .i64 0) := cell_at p9 0
    have bb1 : (w5.setCell ⟨Q, 0, none⟩ (.int .i64 x)).cell? ⟨w.heap.size, 1, none⟩ = some (.string ⟨#[]⟩) := cell_at p9 1
    have bb2 : (w5.setCell ⟨Q, 0, none⟩ (.int .i64 x)).cell? ⟨w.heap.size, 2, none⟩ = some (.int .i64 0) := cell_at p9 2
    have bb3 : (w5.setCell ⟨Q, 0, none⟩ (.int .i64 x)).cell? ⟨w.heap.size, 3, none⟩ = some (.int .i64 0) := cell_at p9 3
    have bb4 : (w5.setCell ⟨Q, 0, none⟩ (.int .i64 x)).cell? ⟨w.heap.size, 4, none⟩ = some (.int .i64 0) := cell_at p9 4
    have bb5 : (w5.setCell ⟨Q, 0, none⟩ (.int .i64 x)).cell? ⟨w.heap.size, 5, none⟩ = some (.int .i64 0) := cell_at p9 5
    have bb6 : (w5.setCell ⟨Q, 0, none⟩ (.int .i64 x)).cell? ⟨w.heap.size, 6, none⟩ = some (.slice none 0 0) := cell_at p9 6
    have ff0 : (w5.setCell ⟨Q, 0, none⟩ (.int .i64 x)).frozen? ⟨w.heap.size, 0, none⟩ = false := frozen_at p9 0
    have ff1 : (w5.setCell ⟨Q, 0, none⟩ (.int .i64 x)).frozen? ⟨w.heap.size, 1, none⟩ = false := frozen_at p9 1
    have ff2 : (w5.setCell ⟨Q, 0, none⟩ (.int .i64 x)).frozen? ⟨w.heap.size, 2, none⟩ = false := frozen_at p9 2
    have ff3 : (w5.setCell ⟨Q, 0, none⟩ (.int .i64 x)).frozen? ⟨w.heap.size, 3, none⟩ = false := frozen_at p9 3
    have ff4 : (w5.setCell ⟨Q, 0, none⟩ (.int .i64 x)).frozen? ⟨w.heap.size, 4, none⟩ = false := frozen_at p9 4
    have ff5 : (w5.setCell ⟨Q, 0, none⟩ (.int .i64 x)).frozen? ⟨w.heap.size, 5, none⟩ = false := frozen_at p9 5
    have ff6 : (w5.setCell ⟨Q, 0, none⟩ (.int .i64 x)).frozen? ⟨w.heap.size, 6, none⟩ = false := frozen_at p9 6
    have hne := own_ne' O9 p9 (by decide)
    go_wp2
    refine bodyPost_ret (v := tkV ⟨x, t.cl, t.pr, t.fi, t.la⟩ nm (some ⟨g, 0, none⟩) (p :: ls).length vc) (by simp [results, Tryd.results14, go_sem, bb0, bb1, bb2, bb3, bb4, bb5, bb6]) rfl ?_
    exact ⟨⟨_, _, _, _, (p :: ls), rfl, (own_else (i := 6) (own_else (i := 5) (own_else (i := 4) (own_else (i := 3) (own_else (i := 2) (own_else (i := 1) (own_else (i := 0) O9 hne) hne) hne) hne) hne) hne) hne), HNM.out, by have := HLN.out; omega⟩, (((((((C9.set w.heap.size 0 _ hRc hW0).set w.heap.size 1 _ hRc hW0).set w.heap.size 2 _ hRc hW0).set w.heap.size 3 _ hRc hW0).set w.heap.size 4 _ hRc hW0).set w.heap.size 5 _ hRc hW0).set w.heap.size 6 _ hRc hW0), (((((((K9.set w.heap.size 0 _ (Nat.le_refl _)).set w.heap.size 1 _ (Nat.le_refl _)).set w.heap.size 2 _ (Nat.le_refl _)).set w.heap.size 3 _ (Nat.le_refl _)).set w.heap.size 4 _ (Nat.le_refl _)).set w.heap.size 5 _ (Nat.le_refl _)).set w.heap.size 6 _ (Nat.le_refl _))⟩
  have d0 : decide (s = 0) = false := decide_eq_false h0
  by_cases h1 : s = 1
  · subst h1
    have CA := C8.alloc (.cells #[.string ⟨#[97, 10, 98]⟩, .string ⟨#[48, 49, 50, 51, 52, 53, 54, 55, 56, 57, 48, 49, 50, 51, 52, 53, 54, 55, 56, 57, 48, 49, 50, 51, 52, 53, 54, 55, 56, 57, 48, 49, 50, 51, 52, 53, 54, 55, 56, 57]⟩, .string ⟨#[48, 49, 50, 51, 52, 53, 54, 55, 56, 57, 48, 49, 50, 51, 52, 53, 54, 55, 56, 57, 48, 49, 50, 51, 52, 53, 54, 55, 56, 57, 48, 49, 50, 51, 52, 53, 54, 55, 56, 57, 48]⟩] 9)
    have KA := K8.alloc (.cells #[.string ⟨#[97, 10, 98]⟩, .string ⟨#[48, 49, 50, 51, 52, 53, 54, 55, 56, 57, 48, 49, 50, 51, 52, 53, 54, 55, 56, 57, 48, 49, 50, 51, 52, 53, 54, 55, 56, 57, 48, 49, 50, 51, 52, 53, 54, 55, 56, 57]⟩, .string ⟨#[48, 49, 50, 51, 52, 53, 54, 55, 56, 57, 48, 49, 50, 51, 52, 53, 54, 55, 56, 57, 48, 49, 50, 51, 52, 53, 54, 55, 56, 57, 48, 49, 50, 51, 52, 53, 54, 55, 56, 57, 48]⟩] 9)
    have pA := heap_old p8 (.cells #[.string ⟨#[97, 10, 98]⟩, .string ⟨#[48, 49, 50, 51, 52, 53, 54, 55, 56, 57, 48, 49, 50, 51, 52, 53, 54, 55, 56, 57, 48, 49, 50, 51, 52, 53, 54, 55, 56, 57, 48, 49, 50, 51, 52, 53, 54, 55, 56, 57]⟩, .string ⟨#[48, 49, 50, 51, 52, 53, 54, 55, 56, 57, 48, 49, 50, 51, 52, 53, 54, 55, 56, 57, 48, 49, 50, 51, 52, 53, 54, 55, 56, 57, 48, 49, 50, 51, 52, 53, 54, 55, 56, 57, 48]⟩] 9)
    have qA := heap_old q8 (.cells #[.string ⟨#[97, 10, 98]⟩, .string ⟨#[48, 49, 50, 51, 52, 53, 54, 55, 56, 57, 48, 49, 50, 51, 52, 53, 54, 55, 56, 57, 48, 49, 50, 51, 52, 53, 54, 55, 56, 57, 48, 49, 50, 51, 52, 53, 54, 55, 56, 57]⟩, .string ⟨#[48, 49, 50, 51, 52, 53, 54, 55, 56, 57, 48, 49, 50, 51, 52, 53, 54, 55, 56, 57, 48, 49, 50, 51, 52, 53, 54, 55, 56, 57, 48, 49, 50, 51, 52, 53, 54, 55, 56, 57, 48]⟩] 9)
    have OA := own_below O8 (new_below w8 (.cells #[.string ⟨#[97, 10, 98]⟩, .string ⟨#[48, 49, 50, 51, 52, 53, 54, 55, 56, 57, 48, 49, 50, 51, 52, 53, 54, 55, 56, 57, 48, 49, 50, 51, 52, 53, 54, 55, 56, 57, 48, 49, 50, 51, 52, 53, 54, 55, 56, 57]⟩, .string ⟨#[48, 49, 50, 51, 52, 53, 54, 55, 56, 57, 48, 49, 50, 51, 52, 53, 54, 55, 56, 57, 48, 49, 50, 51, 52, 53, 54, 55, 56, 57, 48, 49, 50, 51, 52, 53, 54, 55, 56, 57, 48]⟩] 9)) (Nat.le_refl _)
    have hXc : w8.heap.size ≠ c := by have := C8.lt; omega
    have HPK := pick_any CA (fun z => z.size ≤ 41) w8.heap.size 3 3 hXc (by omega) (by omega) (rowOfS_new (fun z => z.size ≤ 41) w8 [⟨#[97, 10, 98]⟩, ⟨#[48, 49, 50, 51, 52, 53, 54, 55, 56, 57, 48, 49, 50, 51, 52, 53, 54, 55, 56, 57, 48, 49, 50, 51, 52, 53, 54, 55, 56, 57, 48, 49, 50, 51, 52, 53, 54, 55, 56, 57]⟩, ⟨#[48, 49, 50, 51, 52, 53, 54, 55, 56, 57, 48, 49, 50, 51, 52, 53, 54, 55, 56, 57, 48, 49, 50, 51, 52, 53, 54, 55, 56, 57, 48, 49, 50, 51, 52, 53, 54, 55, 56, 57, 48]⟩] 9 (by intro z hz; simp at hz; rcases hz with rfl | rfl | rfl <;> decide))
    clear C8 K8 p8 q8 O8
    go_wp2_with fail
    refine HPK.mono ?_
    clear HPK
    generalize w8.alloc (.cells #[.string ⟨#[97, 10, 98]⟩, .string ⟨#[48, 49, 50, 51, 52, 53, 54, 55, 56, 57, 48, 49, 50, 51, 52, 53, 54, 55, 56, 57, 48, 49, 50, 51, 52, 53, 54, 55, 56, 57, 48, 49, 50, 51, 52, 53, 54, 55, 56, 57]⟩, .string ⟨#[48, 49, 50, 51, 52, 53, 54, 55, 56, 57, 48, 49, 50, 51, 52, 53, 54, 55, 56, 57, 48, 49, 50, 51, 52, 53, 54, 55, 56, 57, 48, 49, 50, 51, 52, 53, 54, 55, 56, 57, 48]⟩] 9) = u8 at *
    rintro e w5 ⟨⟨x, rfl, hx⟩, C5, M5⟩
    have K5 := KA.trans (Kb.moved M5)
    have p5 := (M5.block _ hRc).trans pA
    have q5 := (M5.block _ hQc).trans qA
    have O5 := own_kb OA (Kb.moved M5) hcw
    clear CA KA pA qA OA M5
    have C9 := C5.set Q 1 (.string x) hQc hQW
    have K9 := K5.set Q 1 (.string x) hQw
    have q9 : (w5.setCell ⟨Q, 1, none⟩ (.string x)).heap[Q]? = some (.cells #[.int .i64 t.id, .string x, .int .i64 t.cl, .int .i64 t.pr, .int .i64 t.fi, .int .i64 t.la, .slice (some ⟨g, 0, none⟩) (p :: ls).length vc] 26) := tk_set q5 _
    have p9 : (w5.setCell ⟨Q, 1, none⟩ (.string x)).heap[w.heap.size]? = some (tkB ⟨0, 0, 0, 0, 0⟩ ⟨#[]⟩ none 0 0 26) := (Below.heap_setCell _ _ _ _ hPQ).trans p5
    have O9 := own_else (i := 1) (u := .string x) O5 (own_ne' O5 q5 (by decide))
    have dd1 : w5.cell? ⟨Q, 1, none⟩ = some (.string nm) := cell_at q5 1
    have ee1 : w5.frozen? ⟨Q, 1, none⟩ = false := frozen_at q5 1
    have qq0 : (w5.setCell ⟨Q, 1, none⟩ (.string x)).cell? ⟨Q, 0, none⟩ = some (.int .i64 t.id) := cell_at q9 0
    have qq1 : (w5.setCell ⟨Q, 1, none⟩ (.string x)).cell? ⟨Q, 1, none⟩ = some (.string x) := cell_at q9 1
    have qq2 : (w5.setCell ⟨Q, 1, none⟩ (.string x)).cell? ⟨Q, 2, none⟩ = some (.int .i64 t.cl) := cell_at q9 2
    have qq3 : (w5.setCell ⟨Q, 1, none⟩ (.string x)).cell? ⟨Q, 3, none⟩ = some (.int .i64 t.pr) := cell_at q9 3
    have qq4 : (w5.setCell ⟨Q, 1, none⟩ (.string x)).cell? ⟨Q, 4, none⟩ = some (.int .i64 t.fi) := cell_at q9 4
    have qq5 : (w5.setCell ⟨Q, 1, none⟩ (.string x)).cell? ⟨Q, 5, none⟩ = some (.int .i64 t.la) := cell_at q9 5
    have qq6 : (w5.setCell ⟨Q, 1, none⟩ (.string x)).cell? ⟨Q, 6, none⟩ = some (.slice (some ⟨g, 0, none⟩) (p :: ls).length vc) := cell_at q9 6
    have bb0 : (w5.setCell ⟨Q, 1, none⟩ (.string x)).cell? ⟨w.heap.size, 0, none⟩ = some (.int .i64 0) := cell_at p9 0
    have bb1 : (w5.setCell ⟨Q, 1, none⟩ (.string x)).cell? ⟨w.heap.size, 1, none⟩ = some (.string ⟨#[]⟩) := cell_at p9 1
    have bb2 : (w5.setCell ⟨Q, 1, none⟩ (.string x)).cell? ⟨w.heap.size, 2, none⟩ = some (.int .i64 0) := cell_at p9 2
    have bb3 : (w5.setCell ⟨Q, 1, none⟩ (.string x)).cell? ⟨w.heap.size, 3, none⟩ = some (.int .i64 0) := cell_at p9 3
    have bb4 : (w5.setCell ⟨Q, 1, none⟩ (.string x)).cell? ⟨w.heap.size, 4, none⟩ = some (.int .i64 0) := cell_at p9 4
    have bb5 : (w5.setCell ⟨Q, 1, none⟩ (.string x)).cell? ⟨w.heap.size, 5, none⟩ = some (.int .i64 0) := cell_at p9 5
    have bb6 : (w5.setCell ⟨Q, 1, none⟩ (.string x)).cell? ⟨w.heap.size, 6, none⟩ = some (.slice none 0 0) := cell_at p9 6
    have ff0 : (w5.setCell ⟨Q, 1, none⟩ (.string x)).frozen? ⟨w.heap.size, 0, none⟩ = false := frozen_at p9 0
    have ff1 : (w5.setCell ⟨Q, 1, none⟩ (.string x)).frozen? ⟨w.heap.size, 1, none⟩ = false := frozen_at p9 1
    have ff2 : (w5.setCell ⟨Q, 1, none⟩ (.string x)).frozen? ⟨w.heap.size, 2, none⟩ = false := frozen_at p9 2
    have ff3 : (w5.setCell ⟨Q, 1, none⟩ (.string x)).frozen? ⟨w.heap.size, 3, none⟩ = false := frozen_at p9 3
    have ff4 : (w5.setCell ⟨Q, 1, none⟩ (.string x)).frozen? ⟨w.heap.size, 4, none⟩ = false := frozen_at p9 4
    have ff5 : (w5.setCell ⟨Q, 1, none⟩ (.string x)).frozen? ⟨w.heap.size, 5, none⟩ = false := frozen_at p9 5
    have ff6 : (w5.setCell ⟨Q, 1, none⟩ (.string x)).frozen? ⟨w.heap.size, 6, none⟩ = false := frozen_at p9 6
    have hne := own_ne' O9 p9 (by decide)
    go_wp2
    refine bodyPost_ret (v := tkV t x (some ⟨g, 0, none⟩) (p :: ls).length vc) (by simp [results, Tryd.results14, go_sem, bb0, bb1, bb2, bb3, bb4, bb5, bb6]) rfl ?_
    exact ⟨⟨_, _, _, _, (p :: ls), rfl, (own_else (i := 6) (own_else (i := 5) (own_else (i := 4) (own_else (i := 3) (own_else (i := 2) (own_else (i := 1) (own_else (i := 0) O9 hne) hne) hne) hne) hne) hne) hne), hx, by have := HLN.out; omega⟩, (((((((C9.set w.heap.size 0 _ hRc hW0).set w.heap.size 1 _ hRc hW0).set w.heap.size 2 _ hRc hW0).set w.heap.size 3 _ hRc hW0).set w.heap.size 4 _ hRc hW0).set w.heap.size 5 _ hRc hW0).set w.heap.size 6 _ hRc hW0), (((((((K9.set w.heap.size 0 _ (Nat.le_refl _)).set w.heap.size 1 _ (Nat.le_refl _)).set w.heap.size 2 _ (Nat.le_refl _)).set w.heap.size 3 _ (Nat.le_refl _)).set w.heap.size 4 _ (Nat.le_refl _)).set w.heap.size 5 _ (Nat.le_refl _)).set w.heap.size 6 _ (Nat.le_refl _))⟩
  have d1 : decide (s = 1) = false := decide_eq_false h1
  by_cases h2 : s = 2
  · subst h2
    obtain ⟨x, hxb⟩ : ∃ x : Int, IntKind.i64.wrap (t.fi - 1) = x := ⟨_, rfl⟩
    have hxa : wrap64 (t.fi - 1) = x := by rw [← hxb, IntKind.wrap_i64]; unfold wrap64; omega
    have C9 := C8.set Q 5 (.int .i64 x) hQc hQW
    have K9 := K8.set Q 5 (.int .i64 x) hQw
    have q9 : (w8.setCell ⟨Q, 5, none⟩ (.int .i64 x)).heap[Q]? = some (.cells #[.int .i64 t.id, .string nm, .int .i64 t.cl, .int .i64 t.pr, .int .i64 t.fi, .int .i64 x, .slice (some ⟨g, 0, none⟩) (p :: ls).length vc] 26) := tk_set q8 _
    have p9 : (w8.setCell ⟨Q, 5, none⟩ (.int .i64 x)).heap[w.heap.size]? = some (tkB ⟨0, 0, 0, 0, 0⟩ ⟨#[]⟩ none 0 0 26) := (Below.heap_setCell _ _ _ _ hPQ).trans p8
    have O9 := own_else (i := 5) (u := .int .i64 x) O8 (own_ne' O8 q8 (by decide))
    have dd4 : w8.cell? ⟨Q, 4, none⟩ = some (.int .i64 t.fi) := cell_at q8 4
    have dd5 : w8.cell? ⟨Q, 5, none⟩ = some (.int .i64 t.la) := cell_at q8 5
    have ee5 : w8.frozen? ⟨Q, 5, none⟩ = false := frozen_at q8 5
    have qq0 : (w8.setCell ⟨Q, 5, none⟩ (.int .i64 x)).cell? ⟨Q, 0, none⟩ = some (.int .i64 t.id) := cell_at q9 0
    have qq1 : (w8.setCell ⟨Q, 5, none⟩ (.int .i64 x)).cell? ⟨Q, 1, none⟩ = some (.string nm) := cell_at q9 1
    have qq2 : (w8.setCell ⟨Q, 5, none⟩ (.int .i64 x)).cell? ⟨Q, 2, none⟩ = some (.int .i64 t.cl) := cell_at q9 2
    have qq3 : (w8.setCell ⟨Q, 5, none⟩ (.int .i64 x)).cell? ⟨Q, 3, none⟩ = some (.int .i64 t.pr) := cell_at q9 3
    have qq4 : (w8.setCell ⟨Q, 5, none⟩ (.int .i64 x)).cell? ⟨Q, 4, none⟩ = some (.int .i64 t.fi) := cell_at q9 4
    have qq5 : (w8.setCell ⟨Q, 5, none⟩ (.int .i64 x)).cell? ⟨Q, 5, none⟩ = some (.int .i64 x) := cell_at q9 5
    have qq6 : (w8.setCell ⟨Q, 5, none⟩ (.int .i64 x)).cell? ⟨Q, 6, none⟩ = some (.slice (some ⟨g, 0, none⟩) (p :: ls).length vc) := cell_at q9 6
    have bb0 : (w8.setCell ⟨Q, 5, none⟩ (.int .i64 x)).cell? ⟨w.heap.size, 0, none⟩ = some (.int .i64 0) := cell_at p9 0
    have bb1 : (w8.setCell ⟨Q, 5, none⟩ (.int .i64 x)).cell? ⟨w.heap.size, 1, none⟩ = some (.string ⟨#[]⟩) := cell_at p9 1
    have bb2 : (w8.setCell ⟨Q, 5, none⟩ (.int .i64 x)).cell? ⟨w.heap.size, 2, none⟩ = some (.int .i64 0) := cell_at p9 2
    have bb3 : (w8.setCell ⟨Q, 5, none⟩ (.int .i64 x)).cell? ⟨w.heap.size, 3, none⟩ = some (.int .i64 0) := cell_at p9 3
    have bb4 : (w8.setCell ⟨Q, 5, none⟩ (.int .i64 x)).cell? ⟨w.heap.size, 4, none⟩ = some (.int .i64 0) := cell_at p9 4
    have bb5 : (w8.setCell ⟨Q, 5, none⟩ (.int .i64 x)).cell? ⟨w.heap.size, 5, none⟩ = some (.int .i64 0) := cell_at p9 5
    have bb6 : (w8.setCell ⟨Q, 5, none⟩ (.int .i64 x)).cell? ⟨w.heap.size, 6, none⟩ = some (.slice none 0 0) := cell_at p9 6
    have ff0 : (w8.setCell ⟨Q, 5, none⟩ (.int .i64 x)).frozen? ⟨w.heap.size, 0, none⟩ = false := frozen_at p9 0
    have ff1 : (w8.setCell ⟨Q, 5, none⟩ (.int .i64 x)).frozen? ⟨w.heap.size, 1, none⟩ = false := frozen_at p9 1
    have ff2 : (w8.setCell ⟨Q, 5, none⟩ (.int .i64 x)).frozen? ⟨w.heap.size, 2, none⟩ = false := frozen_at p9 2
    have ff3 : (w8.setCell ⟨Q, 5, none⟩ (.int .i64 x)).frozen? ⟨w.heap.size, 3, none⟩ = false := frozen_at p9 3
    have ff4 : (w8.setCell ⟨Q, 5, none⟩ (.int .i64 x)).frozen? ⟨w.heap.size, 4, none⟩ = false := frozen_at p9 4
    have ff5 : (w8.setCell ⟨Q, 5, none⟩ (.int .i64 x)).frozen? ⟨w.heap.size, 5, none⟩ = false := frozen_at p9 5
    have ff6 : (w8.setCell ⟨Q, 5, none⟩ (.int .i64 x)).frozen? ⟨w.heap.size, 6, none⟩ = false := frozen_at p9 6
    have hne := own_ne' O9 p9 (by decide)
    go_wp2
    refine bodyPost_ret (v := tkV ⟨t.id, t.cl, t.pr, t.fi, x⟩ nm (some ⟨g, 0, none⟩) (p :: ls).length vc) (by simp [results, Tryd.results14, go_sem, bb0, bb1, bb2, bb3, bb4, bb5, bb6]) rfl ?_
    exact ⟨⟨_, _, _, _, (p :: ls), rfl, (own_else (i := 6) (own_else (i := 5) (own_else (i := 4) (own_else (i := 3) (own_else (i := 2) (own_else (i := 1) (own_else (i := 0) O9 hne) hne) hne) hne) hne) hne) hne), HNM.out, by have := HLN.out; omega⟩, (((((((C9.set w.heap.size 0 _ hRc hW0).set w.heap.size 1 _ hRc hW0).set w.heap.size 2 _ hRc hW0).set w.heap.size 3 _ hRc hW0).set w.heap.size 4 _ hRc hW0).set w.heap.size 5 _ hRc hW0).set w.heap.size 6 _ hRc hW0), (((((((K9.set w.heap.size 0 _ (Nat.le_refl _)).set w.heap.size 1 _ (Nat.le_refl _)).set w.heap.size 2 _ (Nat.le_refl _)).set w.heap.size 3 _ (Nat.le_refl _)).set w.heap.size 4 _ (Nat.le_refl _)).set w.heap.size 5 _ (Nat.le_refl _)).set w.heap.size 6 _ (Nat.le_refl _))⟩
  have d2 : decide (s = 2) = false := decide_eq_false h2
  by_cases h3 : s = 3
  · subst h3
    obtain ⟨x, hxb⟩ : ∃ x : Int, IntKind.i64.wrap (t.la + 1) = x := ⟨_, rfl⟩
    have hxa : wrap64 (t.la + 1) = x := by rw [← hxb, IntKind.wrap_i64]; unfold wrap64; omega
    have hgc : g ≠ c := by have := (O8.lt g rfl).1; omega
    have hgw : w.heap.size ≤ g := (O8.lt g rfl).1
    have hgW : W0.heap.size ≤ g := by omega
    have hQg : Q ≠ g := fun h => own_ne' O8 q8 (by decide) (by rw [h]; rfl)
    have hPg : w.heap.size ≠ g := fun h => own_ne' O8 p8 (by decide) (by rw [h]; rfl)
    obtain ⟨FC, FF⟩ := own_first O8
    have C9 := C8.set g 1 (.int .i64 x) hgc hgW
    have K9 := K8.set g 1 (.int .i64 x) hgw
    have q9 : (w8.setCell ⟨g, 1, none⟩ (.int .i64 x)).heap[Q]? = some (.cells #[.int .i64 t.id, .string nm, .int .i64 t.cl, .int .i64 t.pr, .int .i64 t.fi, .int .i64 t.la, .slice (some ⟨g, 0, none⟩) (p :: ls).length vc] 26) := (Below.heap_setCell _ _ _ _ hQg).trans q8
    have p9 : (w8.setCell ⟨g, 1, none⟩ (.int .i64 x)).heap[w.heap.size]? = some (tkB ⟨0, 0, 0, 0, 0⟩ ⟨#[]⟩ none 0 0 26) := (Below.heap_setCell _ _ _ _ hPg).trans p8
    have O9 : (w8.setCell ⟨g, 1, none⟩ (.int .i64 x)).ownsRow w.heap.size 40 6 (.slice (some ⟨g, 0, none⟩) (p :: ls).length vc) (p :: ls).length (lcells ((⟨p.tr, x, p.fr, p.to, p.co, p.se⟩ : Lg) :: ls)) := own_setn (i := 1) O8 (.int .i64 x)
    have c1 : w8.cell? ⟨g, 1, none⟩ = some (.int .i64 p.dy) := FC 1 _ rfl
    have fz : w8.frozen? ⟨g, 1, none⟩ = false := FF 1
    clear FC FF
    have dd5 : w8.cell? ⟨Q, 5, none⟩ = some (.int .i64 t.la) := cell_at q8 5
    have dd6 : w8.cell? ⟨Q, 6, none⟩ = some (.slice (some ⟨g, 0, none⟩) (p :: ls).length vc) := cell_at q8 6
    have qq0 : (w8.setCell ⟨g, 1, none⟩ (.int .i64 x)).cell? ⟨Q, 0, none⟩ = some (.int .i64 t.id) := cell_at q9 0
    have qq1 : (w8.setCell ⟨g, 1, none⟩ (.int .i64 x)).cell? ⟨Q, 1, none⟩ = some (.string nm) := cell_at q9 1
    have qq2 : (w8.setCell ⟨g, 1, none⟩ (.int .i64 x)).cell? ⟨Q, 2, none⟩ = some (.int .i64 t.cl) := cell_at q9 2
    have qq3 : (w8.setCell ⟨g, 1, none⟩ (.int .i64 x)).cell? ⟨Q, 3, none⟩ = some (.int .i64 t.pr) := cell_at q9 3
    have qq4 : (w8.setCell ⟨g, 1, none⟩ (.int .i64 x)).cell? ⟨Q, 4, none⟩ = some (.int .i64 t.fi) := cell_at q9 4
    have qq5 : (w8.setCell ⟨g, 1, none⟩ (.int .i64 x)).cell? ⟨Q, 5, none⟩ = some (.int .i64 t.la) := cell_at q9 5
    have qq6 : (w8.setCell ⟨g, 1, none⟩ (.int .i64 x)).cell? ⟨Q, 6, none⟩ = some (.slice (some ⟨g, 0, none⟩) (p :: ls).length vc) := cell_at q9 6
    have bb0 : (w8.setCell ⟨g, 1, none⟩ (.int .i64 x)).cell? ⟨w.heap.size, 0, none⟩ = some (.int .i64 0) := cell_at p9 0
    have bb1 : (w8.setCell ⟨g, 1, none⟩ (.int .i64 x)).cell? ⟨w.heap.size, 1, none⟩ = some (.string ⟨#[]⟩) := cell_at p9 1
    have bb2 : (w8.setCell ⟨g, 1, none⟩ (.int .i64 x)).cell? ⟨w.heap.size, 2, none⟩ = some (.int .i64 0) := cell_at p9 2
    have bb3 : (w8.setCell ⟨g, 1, none⟩ (.int .i64 x)).cell? ⟨w.heap.size, 3, none⟩ = some (.int .i64 0) := cell_at p9 3
    have bb4 : (w8.setCell ⟨g, 1, none⟩ (.int .i64 x)).cell? ⟨w.heap.size, 4, none⟩ = some (.int .i64 0) := cell_at p9 4
    have bb5 : (w8.setCell ⟨g, 1, none⟩ (.int .i64 x)).cell? ⟨w.heap.size, 5, none⟩ = some (.int .i64 0) := cell_at p9 5
    have bb6 : (w8.setCell ⟨g, 1, none⟩ (.int .i64 x)).cell? ⟨w.heap.size, 6, none⟩ = some (.slice none 0 0) := cell_at p9 6
    have ff0 : (w8.setCell ⟨g, 1, none⟩ (.int .i64 x)).frozen? ⟨w.heap.size, 0, none⟩ = false := frozen_at p9 0
    have ff1 : (w8.setCell ⟨g, 1, none⟩ (.int .i64 x)).frozen? ⟨w.heap.size, 1, none⟩ = false := frozen_at p9 1
    have ff2 : (w8.setCell ⟨g, 1, none⟩ (.int .i64 x)).frozen? ⟨w.heap.size, 2, none⟩ = false := frozen_at p9 2
    have ff3 : (w8.setCell ⟨g, 1, none⟩ (.int .i64 x)).frozen? ⟨w.heap.size, 3, none⟩ = false := frozen_at p9 3
    have ff4 : (w8.setCell ⟨g, 1, none⟩ (.int .i64 x)).frozen? ⟨w.heap.size, 4, none⟩ = false := frozen_at p9 4
    have ff5 : (w8.setCell ⟨g, 1, none⟩ (.int .i64 x)).frozen? ⟨w.heap.size, 5, none⟩ = false := frozen_at p9 5
    have ff6 : (w8.setCell ⟨g, 1, none⟩ (.int .i64 x)).frozen? ⟨w.heap.size, 6, none⟩ = false := frozen_at p9 6
    have hne := own_ne' O9 p9 (by decide)
    go_wp2
    refine bodyPost_ret (v := tkV t nm (some ⟨g, 0, none⟩) ((⟨p.tr, x, p.fr, p.to, p.co, p.se⟩ : Lg) :: ls).length vc) (by simp [results, Tryd.results14, go_sem, bb0, bb1, bb2, bb3, bb4, bb5, bb6]) rfl ?_
    exact ⟨⟨_, _, _, _, ((⟨p.tr, x, p.fr, p.to, p.co, p.se⟩ : Lg) :: ls), rfl, (own_else (i := 6) (own_else (i := 5) (own_else (i := 4) (own_else (i := 3) (own_else (i := 2) (own_else (i := 1) (own_else (i := 0) O9 hne) hne) hne) hne) hne) hne) hne), HNM.out, (by have := HLN.out; simp at this ⊢; omega)⟩, (((((((C9.set w.heap.size 0 _ hRc hW0).set w.heap.size 1 _ hRc hW0).set w.heap.size 2 _ hRc hW0).set w.heap.size 3 _ hRc hW0).set w.heap.size 4 _ hRc hW0).set w.heap.size 5 _ hRc hW0).set w.heap.size 6 _ hRc hW0), (((((((K9.set w.heap.size 0 _ (Nat.le_refl _)).set w.heap.size 1 _ (Nat.le_refl _)).set w.heap.size 2 _ (Nat.le_refl _)).set w.heap.size 3 _ (Nat.le_refl _)).set w.heap.size 4 _ (Nat.le_refl _)).set w.heap.size 5 _ (Nat.le_refl _)).set w.heap.size 6 _ (Nat.le_refl _))⟩
  have d3 : decide (s = 3) = false := decide_eq_false h3
  by_cases h4 : s = 4
  · subst h4
    have hpl : (0 : Int) < ((p :: ls).length : Int) := by rw [List.length_cons]; omega
    go_wp2
    have CD : Is W0 a n cap c (World.drew w8) := C8.drewN 1
    have KD : Kb c w (World.drew w8) := K8.drew
    have pD : (World.drew w8).heap[w.heap.size]? = some (tkB ⟨0, 0, 0, 0, 0⟩ ⟨#[]⟩ none 0 0 26) := p8
    have qD : (World.drew w8).heap[Q]? = some (.cells #[.int .i64 t.id, .string nm, .int .i64 t.cl, .int .i64 t.pr, .int .i64 t.fi, .int .i64 t.la, .slice (some ⟨g, 0, none⟩) (p :: ls).length vc] 26) := q8
    have OD : (World.drew w8).ownsRow w.heap.size 40 6 (.slice (some ⟨g, 0, none⟩) (p :: ls).length vc) (p :: ls).length (lcells (p :: ls)) := O8
    clear C8 K8 p8 q8 O8
    refine wp_region_held_drew (S := (fun w' : World => w'.cell? ⟨Q, 6, none⟩ = some (.slice (some ⟨g, 0, none⟩) (p :: ls).length vc) ∧ w'.cell? ⟨g, 2, none⟩ = some (.int .i64 p.fr))) (by kernel_rfl) ?_ (fun hHeld => ?_)
    · exact ⟨cell_at qD 6, (own_first OD).1 2 _ rfl⟩
    generalize World.drew w8 = w4 at *
    have hgc : g ≠ c := by have := (OD.lt g rfl).1; omega
    have hgw : w.heap.size ≤ g := (OD.lt g rfl).1
    have hgW : W0.heap.size ≤ g := by omega
    have hQg : Q ≠ g := fun h => own_ne' OD qD (by decide) (by rw [h]; rfl)
    have hPg : w.heap.size ≠ g := fun h => own_ne' OD pD (by decide) (by rw [h]; rfl)
    obtain ⟨FC, FF⟩ := own_first OD
    have C9 := CD.set g 3 (.int .i64 p.fr) hgc hgW
    have K9 := KD.set g 3 (.int .i64 p.fr) hgw
    have q9 : (w4.setCell ⟨g, 3, none⟩ (.int .i64 p.fr)).heap[Q]? = some (.cells #[.int .i64 t.id, .string nm, .int .i64 t.cl, .int .i64 t.pr, .int .i64 t.fi, .int .i64 t.la, .slice (some ⟨g, 0, none⟩) (p :: ls).length vc] 26) := (Below.heap_setCell _ _ _ _ hQg).trans qD
    have p9 : (w4.setCell ⟨g, 3, none⟩ (.int .i64 p.fr)).heap[w.heap.size]? = some (tkB ⟨0, 0, 0, 0, 0⟩ ⟨#[]⟩ none 0 0 26) := (Below.heap_setCell _ _ _ _ hPg).trans pD
    have O9 : (w4.setCell ⟨g, 3, none⟩ (.int .i64 p.fr)).ownsRow w.heap.size 40 6 (.slice (some ⟨g, 0, none⟩) (p :: ls).length vc) (p :: ls).length (lcells ((⟨p.tr, p.dy, p.fr, p.fr, p.co, p.se⟩ : Lg) :: ls)) := own_setn (i := 3) OD (.int .i64 p.fr)
    have c3 : w4.cell? ⟨g, 3, none⟩ = some (.int .i64 p.to) := FC 3 _ rfl
    have fz : w4.frozen? ⟨g, 3, none⟩ = false := FF 3
    clear FC FF
    refine wpAnyH_take (i := 0) (v := .pointer (some ⟨Q, 6, none⟩)) rfl (by kernel_rfl) (by kernel_rfl) (by kernel_rfl) (fun _ _ _ h => h) (Or.inl ⟨by kernel_rfl, fun w hSw => by first | (go_simp; done) | (dsimp only at hSw; obtain ⟨s0, s1⟩ := hSw; go_simp; done) | rfl⟩) (by assumption) ?_
    simp only [Act.put, List.getElem_toArray, List.getElem_cons_succ, List.getElem_cons_zero, List.setIfInBounds_toArray, List.set_cons_succ, List.set_cons_zero]
    refine wpAnyH_take (i := 1) (v := .slice (some ⟨g, 0, none⟩) (p :: ls).length vc) rfl (by kernel_rfl) (by kernel_rfl) (by kernel_rfl) (fun _ _ _ h => h) (Or.inl ⟨by kernel_rfl, fun w hSw => by first | (go_simp; done) | (dsimp only at hSw; obtain ⟨s0, s1⟩ := hSw; go_simp; done) | rfl⟩) (by assumption) ?_
    simp only [Act.put, List.getElem_toArray, List.getElem_cons_succ, List.getElem_cons_zero, List.setIfInBounds_toArray, List.set_cons_succ, List.set_cons_zero]
    refine wpAnyH_take (i := 2) (v := .pointer (some ⟨Q, 6, none⟩)) rfl (by kernel_rfl) (by kernel_rfl) (by kernel_rfl) (fun _ _ _ h => h) (Or.inl ⟨by kernel_rfl, fun w hSw => by first | (go_simp; done) | (dsimp only at hSw; obtain ⟨s0, s1⟩ := hSw; go_simp; done) | rfl⟩) (by assumption) ?_
    simp only [Act.put, List.getElem_toArray, List.getElem_cons_succ, List.getElem_cons_zero, List.setIfInBounds_toArray, List.set_cons_succ, List.set_cons_zero]
    refine wpAnyH_take (i := 3) (v := .slice (some ⟨g, 0, none⟩) (p :: ls).length vc) rfl (by kernel_rfl) (by kernel_rfl) (by kernel_rfl) (fun _ _ _ h => h) (Or.inl ⟨by kernel_rfl, fun w hSw => by first | (go_simp; done) | (dsimp only at hSw; obtain ⟨s0, s1⟩ := hSw; go_simp; done) | rfl⟩) (by assumption) ?_
    simp only [Act.put, List.getElem_toArray, List.getElem_cons_succ, List.getElem_cons_zero, List.setIfInBounds_toArray, List.set_cons_succ, List.set_cons_zero]
    refine wpAnyH_take (i := 4) (v := .pointer (some ⟨g, 0, none⟩)) rfl (by kernel_rfl) (by kernel_rfl) (by kernel_rfl) (fun _ _ _ h => h) (Or.inl ⟨by kernel_rfl, fun w hSw => by first | (go_simp; done) | (dsimp only at hSw; obtain ⟨s0, s1⟩ := hSw; go_simp; done) | rfl⟩) (by assumption) ?_
    simp only [Act.put, List.getElem_toArray, List.getElem_cons_succ, List.getElem_cons_zero, List.setIfInBounds_toArray, List.set_cons_succ, List.set_cons_zero]
    refine wpAnyH_take (i := 5) (v := .pointer (some ⟨g, 2, none⟩)) rfl (by kernel_rfl) (by kernel_rfl) (by kernel_rfl) (fun _ _ _ h => h) (Or.inl ⟨by kernel_rfl, fun w hSw => by first | (go_simp; done) | (dsimp only at hSw; obtain ⟨s0, s1⟩ := hSw; go_simp; done) | rfl⟩) (by assumption) ?_
    simp only [Act.put, List.getElem_toArray, List.getElem_cons_succ, List.getElem_cons_zero, List.setIfInBounds_toArray, List.set_cons_succ, List.set_cons_zero]
    refine wpAnyH_take (i := 6) (v := .int .i64 p.fr) rfl (by kernel_rfl) (by kernel_rfl) (by kernel_rfl) (fun _ _ _ h => h) (Or.inl ⟨by kernel_rfl, fun w hSw => by first | (go_simp; done) | (dsimp only at hSw; obtain ⟨s0, s1⟩ := hSw; go_simp; done) | rfl⟩) (by assumption) ?_
    simp only [Act.put, List.getElem_toArray, List.getElem_cons_succ, List.getElem_cons_zero, List.setIfInBounds_toArray, List.set_cons_succ, List.set_cons_zero]
    refine wpAnyH_take (i := 7) (v := .pointer (some ⟨g, 0, none⟩)) rfl (by kernel_rfl) (by kernel_rfl) (by kernel_rfl) (fun _ _ _ h => h) (Or.inl ⟨by kernel_rfl, fun w hSw => by first | (go_simp; done) | (dsimp only at hSw; obtain ⟨s0, s1⟩ := hSw; go_simp; done) | rfl⟩) (by assumption) ?_
    simp only [Act.put, List.getElem_toArray, List.getElem_cons_succ, List.getElem_cons_zero, List.setIfInBounds_toArray, List.set_cons_succ, List.set_cons_zero]
    refine wpAnyH_take (i := 8) (v := .pointer (some ⟨g, 3, none⟩)) rfl (by kernel_rfl) (by kernel_rfl) (by kernel_rfl) (fun _ _ _ h => h) (Or.inl ⟨by kernel_rfl, fun w hSw => by first | (go_simp; done) | (dsimp only at hSw; obtain ⟨s0, s1⟩ := hSw; go_simp; done) | rfl⟩) (by assumption) ?_
    simp only [Act.put, List.getElem_toArray, List.getElem_cons_succ, List.getElem_cons_zero, List.setIfInBounds_toArray, List.set_cons_succ, List.set_cons_zero]
    refine wpAnyH_ready (rs := [9]) (by kernel_rfl) (by simp) ?_
    refine AllReadyH.cons rfl (fun K hK => ?_) AllReadyH.nil
    go_simp
    refine hK.out _ _ ?_ (fun hHeld2 => ?_)
    · exact ⟨cell_at q9 6, (own_first O9).1 2 _ rfl⟩
    clear hK K hHeld
    have hHeld := hHeld2
    clear hHeld2
    refine wpAnyH_done (by kernel_rfl) ?_ _
    have qq0 : (w4.setCell ⟨g, 3, none⟩ (.int .i64 p.fr)).cell? ⟨Q, 0, none⟩ = some (.int .i64 t.id) := cell_at q9 0
    have qq1 : (w4.setCell ⟨g, 3, none⟩ (.int .i64 p.fr)).cell? ⟨Q, 1, none⟩ = some (.string nm) := cell_at q9 1
    have qq2 : (w4.setCell ⟨g, 3, none⟩ (.int .i64 p.fr)).cell? ⟨Q, 2, none⟩ = some (.int .i64 t.cl) := cell_at q9 2
    have qq3 : (w4.setCell ⟨g, 3, none⟩ (.int .i64 p.fr)).cell? ⟨Q, 3, none⟩ = some (.int .i64 t.pr) := cell_at q9 3
    have qq4 : (w4.setCell ⟨g, 3, none⟩ (.int .i64 p.fr)).cell? ⟨Q, 4, none⟩ = some (.int .i64 t.fi) := cell_at q9 4
    have qq5 : (w4.setCell ⟨g, 3, none⟩ (.int .i64 p.fr)).cell? ⟨Q, 5, none⟩ = some (.int .i64 t.la) := cell_at q9 5
    have qq6 : (w4.setCell ⟨g, 3, none⟩ (.int .i64 p.fr)).cell? ⟨Q, 6, none⟩ = some (.slice (some ⟨g, 0, none⟩) (p :: ls).length vc) := cell_at q9 6
    have bb0 : (w4.setCell ⟨g, 3, none⟩ (.int .i64 p.fr)).cell? ⟨w.heap.size, 0, none⟩ = some (.int .i64 0) := cell_at p9 0
    have bb1 : (w4.setCell ⟨g, 3, none⟩ (.int .i64 p.fr)).cell? ⟨w.heap.size, 1, none⟩ = some (.string ⟨#[]⟩) := cell_at p9 1
    have bb2 : (w4.setCell ⟨g, 3, none⟩ (.int .i64 p.fr)).cell? ⟨w.heap.size, 2, none⟩ = some (.int .i64 0) := cell_at p9 2
    have bb3 : (w4.setCell ⟨g, 3, none⟩ (.int .i64 p.fr)).cell? ⟨w.heap.size, 3, none⟩ = some (.int .i64 0) := cell_at p9 3
    have bb4 : (w4.setCell ⟨g, 3, none⟩ (.int .i64 p.fr)).cell? ⟨w.heap.size, 4, none⟩ = some (.int .i64 0) := cell_at p9 4
    have bb5 : (w4.setCell ⟨g, 3, none⟩ (.int .i64 p.fr)).cell? ⟨w.heap.size, 5, none⟩ = some (.int .i64 0) := cell_at p9 5
    have bb6 : (w4.setCell ⟨g, 3, none⟩ (.int .i64 p.fr)).cell? ⟨w.heap.size, 6, none⟩ = some (.slice none 0 0) := cell_at p9 6
    have ff0 : (w4.setCell ⟨g, 3, none⟩ (.int .i64 p.fr)).frozen? ⟨w.heap.size, 0, none⟩ = false := frozen_at p9 0
    have ff1 : (w4.setCell ⟨g, 3, none⟩ (.int .i64 p.fr)).frozen? ⟨w.heap.size, 1, none⟩ = false := frozen_at p9 1
    have ff2 : (w4.setCell ⟨g, 3, none⟩ (.int .i64 p.fr)).frozen? ⟨w.heap.size, 2, none⟩ = false := frozen_at p9 2
    have ff3 : (w4.setCell ⟨g, 3, none⟩ (.int .i64 p.fr)).frozen? ⟨w.heap.size, 3, none⟩ = false := frozen_at p9 3
    have ff4 : (w4.setCell ⟨g, 3, none⟩ (.int .i64 p.fr)).frozen? ⟨w.heap.size, 4, none⟩ = false := frozen_at p9 4
    have ff5 : (w4.setCell ⟨g, 3, none⟩ (.int .i64 p.fr)).frozen? ⟨w.heap.size, 5, none⟩ = false := frozen_at p9 5
    have ff6 : (w4.setCell ⟨g, 3, none⟩ (.int .i64 p.fr)).frozen? ⟨w.heap.size, 6, none⟩ = false := frozen_at p9 6
    have hne := own_ne' O9 p9 (by decide)
    go_wp2
    refine bodyPost_ret (v := tkV t nm (some ⟨g, 0, none⟩) ((⟨p.tr, p.dy, p.fr, p.fr, p.co, p.se⟩ : Lg) :: ls).length vc) (by simp [results, Tryd.results14, go_sem, bb0, bb1, bb2, bb3, bb4, bb5, bb6]) rfl ?_
    exact ⟨⟨_, _, _, _, ((⟨p.tr, p.dy, p.fr, p.fr, p.co, p.se⟩ : Lg) :: ls), rfl, (own_else (i := 6) (own_else (i := 5) (own_else (i := 4) (own_else (i := 3) (own_else (i := 2) (own_else (i := 1) (own_else (i := 0) O9 hne) hne) hne) hne) hne) hne) hne), HNM.out, (by have := HLN.out; simp at this ⊢; omega)⟩, (((((((C9.set w.heap.size 0 _ hRc hW0).set w.heap.size 1 _ hRc hW0).set w.heap.size 2 _ hRc hW0).set w.heap.size 3 _ hRc hW0).set w.heap.size 4 _ hRc hW0).set w.heap.size 5 _ hRc hW0).set w.heap.size 6 _ hRc hW0), (((((((K9.set w.heap.size 0 _ (Nat.le_refl _)).set w.heap.size 1 _ (Nat.le_refl _)).set w.heap.size 2 _ (Nat.le_refl _)).set w.heap.size 3 _ (Nat.le_refl _)).set w.heap.size 4 _ (Nat.le_refl _)).set w.heap.size 5 _ (Nat.le_refl _)).set w.heap.size 6 _ (Nat.le_refl _))⟩
  have d4 : decide (s = 4) = false := decide_eq_false h4
  by_cases h5 : s = 5
  · subst h5
    have hpl : (0 : Int) < ((p :: ls).length : Int) := by rw [List.length_cons]; omega
    go_wp2
    have CD : Is W0 a n cap c (World.drew w8) := C8.drewN 1
    have KD : Kb c w (World.drew w8) := K8.drew
    have pD : (World.drew w8).heap[w.heap.size]? = some (tkB ⟨0, 0, 0, 0, 0⟩ ⟨#[]⟩ none 0 0 26) := p8
    have qD : (World.drew w8).heap[Q]? = some (.cells #[.int .i64 t.id, .string nm, .int .i64 t.cl, .int .i64 t.pr, .int .i64 t.fi, .int .i64 t.la, .slice (some ⟨g, 0, none⟩) (p :: ls).length vc] 26) := q8
    have OD : (World.drew w8).ownsRow w.heap.size 40 6 (.slice (some ⟨g, 0, none⟩) (p :: ls).length vc) (p :: ls).length (lcells (p :: ls)) := O8
    clear C8 K8 p8 q8 O8
    refine wp_region_held_drew (S := (fun w' : World => w'.cell? ⟨Q, 6, none⟩ = some (.slice (some ⟨g, 0, none⟩) (p :: ls).length vc))) (by kernel_rfl) ?_ (fun hHeld => ?_)
    · exact cell_at qD 6
    generalize World.drew w8 = w4 at *
    have CA := CD.alloc (.cells #[.int .i64 0, .int .i64 1, .int .i64 100] 3)
    have KA := KD.alloc (.cells #[.int .i64 0, .int .i64 1, .int .i64 100] 3)
    have pA := heap_old pD (.cells #[.int .i64 0, .int .i64 1, .int .i64 100] 3)
    have qA := heap_old qD (.cells #[.int .i64 0, .int .i64 1, .int .i64 100] 3)
    have OA := own_below OD (new_below w4 (.cells #[.int .i64 0, .int .i64 1, .int .i64 100] 3)) (Nat.le_refl _)
    have hXc : w4.heap.size ≠ c := by have := CD.lt; omega
    have HPK := pickInt_any CA (fun _ => True) w4.heap.size 3 3 hXc (by omega) (by omega) (rowOf_new (fun _ => True) w4 [0, 1, 100] 3 (fun _ _ => trivial))
    refine wpAnyH_take (i := 0) (v := .pointer (some ⟨Q, 6, none⟩)) rfl (by kernel_rfl) (by kernel_rfl) (by kernel_rfl) (fun _ _ _ h => h) (Or.inl ⟨by kernel_rfl, fun w hSw => by first | (go_simp; done) | (dsimp only at hSw; have hS0 := hSw; go_simp; done) | rfl⟩) (by assumption) ?_
    simp only [Act.put, List.getElem_toArray, List.getElem_cons_succ, List.getElem_cons_zero, List.setIfInBounds_toArray, List.set_cons_succ, List.set_cons_zero]
    refine wpAnyH_take (i := 1) (v := .slice (some ⟨g, 0, none⟩) (p :: ls).length vc) rfl (by kernel_rfl) (by kernel_rfl) (by kernel_rfl) (fun _ _ _ h => h) (Or.inl ⟨by kernel_rfl, fun w hSw => by first | (go_simp; done) | (dsimp only at hSw; have hS0 := hSw; go_simp; done) | rfl⟩) (by assumption) ?_
    simp only [Act.put, List.getElem_toArray, List.getElem_cons_succ, List.getElem_cons_zero, List.setIfInBounds_toArray, List.set_cons_succ, List.set_cons_zero]
    refine wpAnyH_take (i := 2) (v := .pointer (some ⟨c, 0, none⟩)) rfl (by kernel_rfl) (by kernel_rfl) (by kernel_rfl) (fun _ _ _ h => h) (Or.inl ⟨by kernel_rfl, fun w hSw => by first | (go_simp; done) | (dsimp only at hSw; have hS0 := hSw; go_simp; done) | rfl⟩) (by assumption) ?_
    simp only [Act.put, List.getElem_toArray, List.getElem_cons_succ, List.getElem_cons_zero, List.setIfInBounds_toArray, List.set_cons_succ, List.set_cons_zero]
    refine wpAnyH_ready (rs := [3]) (by kernel_rfl) (by simp) ?_
    refine AllReadyH.cons rfl (fun K hK => ?_) AllReadyH.nil
    go_simp
    refine hK.out _ _ ?_ (fun hHeld2 => ?_)
    · exact cell_at qA 6
    clear hK K hHeld
    have hHeld := hHeld2
    clear hHeld2
    refine wpAnyH_ready (rs := [4]) (by kernel_rfl) (by simp) ?_
    refine AllReadyH.cons rfl (fun K hK => ?_) AllReadyH.nil
    go_simp
    go_wp2_with ((go_at_call 32; (with_reducible refine HPK.mono ?_); rintro e w5 ⟨⟨x, rfl, -⟩, C5, M5⟩; have K5 := KA.trans (Kb.moved M5); have p5 := (M5.block _ hRc).trans pA; have q5 := (M5.block _ hQc).trans qA; have O5 := own_kb OA (Kb.moved M5) hcw; have hgc : g ≠ c := (by have := (O5.lt g rfl).1; omega); have hgw : w.heap.size ≤ g := (O5.lt g rfl).1; have hgW : W0.heap.size ≤ g := (by omega); have hQg : Q ≠ g := fun h => own_ne' O5 q5 (by decide) (by rw [h]; rfl); have hPg : w.heap.size ≠ g := fun h => own_ne' O5 p5 (by decide) (by rw [h]; rfl); obtain ⟨FC, FF⟩ := own_first O5; have C9 := C5.set g 5 (.int .i64 x) hgc hgW; have K9 := K5.set g 5 (.int .i64 x) hgw; have q9 : (w5.setCell ⟨g, 5, none⟩ (.int .i64 x)).heap[Q]? = some (.cells #[.int .i64 t.id, .string nm, .int .i64 t.cl, .int .i64 t.pr, .int .i64 t.fi, .int .i64 t.la, .slice (some ⟨g, 0, none⟩) (p :: ls).length vc] 26) := (Below.heap_setCell _ _ _ _ hQg).trans q5; have p9 : (w5.setCell ⟨g, 5, none⟩ (.int .i64 x)).heap[w.heap.size]? = some (tkB ⟨0, 0, 0, 0, 0⟩ ⟨#[]⟩ none 0 0 26) := (Below.heap_setCell _ _ _ _ hPg).trans p5; have O9 : (w5.setCell ⟨g, 5, none⟩ (.int .i64 x)).ownsRow w.heap.size 40 6 (.slice (some ⟨g, 0, none⟩) (p :: ls).length vc) (p :: ls).length (lcells ((⟨p.tr, p.dy, p.fr, p.to, p.co, x⟩ : Lg) :: ls)) := own_setn (i := 5) O5 (.int .i64 x); have c5 : w5.cell? ⟨g, 5, none⟩ = some (.int .i64 p.se) := FC 5 _ rfl; have fz : w5.frozen? ⟨g, 5, none⟩ = false := FF 5; have g6 := cell_at q5 6))
    refine hK.out _ _ ?_ (fun hHeld2 => ?_)
    · exact cell_at q5 6
    clear hK K hHeld
    have hHeld := hHeld2
    clear hHeld2
    refine wpAnyH_take (i := 5) (v := .pointer (some ⟨g, 0, none⟩)) rfl (by kernel_rfl) (by kernel_rfl) (by kernel_rfl) (fun _ _ _ h => h) (Or.inl ⟨by kernel_rfl, fun w hSw => by first | (go_simp; done) | (dsimp only at hSw; have hS0 := hSw; go_simp; done) | rfl⟩) (by assumption) ?_
    simp only [Act.put, List.getElem_toArray, List.getElem_cons_succ, List.getElem_cons_zero, List.setIfInBounds_toArray, List.set_cons_succ, List.set_cons_zero]
    refine wpAnyH_take (i := 6) (v := .pointer (some ⟨g, 5, none⟩)) rfl (by kernel_rfl) (by kernel_rfl) (by kernel_rfl) (fun _ _ _ h => h) (Or.inl ⟨by kernel_rfl, fun w hSw => by first | (go_simp; done) | (dsimp only at hSw; have hS0 := hSw; go_simp; done) | rfl⟩) (by assumption) ?_
    simp only [Act.put, List.getElem_toArray, List.getElem_cons_succ, List.getElem_cons_zero, List.setIfInBounds_toArray, List.set_cons_succ, List.set_cons_zero]
    refine wpAnyH_ready (rs := [7]) (by kernel_rfl) (by simp) ?_
    refine AllReadyH.cons rfl (fun K hK => ?_) AllReadyH.nil
    go_simp
    refine hK.out _ _ ?_ (fun hHeld2 => ?_)
    · exact cell_at q9 6
    clear hK K hHeld
    have hHeld := hHeld2
    clear hHeld2
    refine wpAnyH_done (by kernel_rfl) ?_ _
    have qq0 : (w5.setCell ⟨g, 5, none⟩ (.int .i64 x)).cell? ⟨Q, 0, none⟩ = some (.int .i64 t.id) := cell_at q9 0
    have qq1 : (w5.setCell ⟨g, 5, none⟩ (.int .i64 x)).cell? ⟨Q, 1, none⟩ = some (.string nm) := cell_at q9 1
    have qq2 : (w5.setCell ⟨g, 5, none⟩ (.int .i64 x)).cell? ⟨Q, 2, none⟩ = some (.int .i64 t.cl) := cell_at q9 2
    have qq3 : (w5.setCell ⟨g, 5, none⟩ (.int .i64 x)).cell? ⟨Q, 3, none⟩ = some (.int .i64 t.pr) := cell_at q9 3
    have qq4 : (w5.setCell ⟨g, 5, none⟩ (.int .i64 x)).cell? ⟨Q, 4, none⟩ = some (.int .i64 t.fi) := cell_at q9 4
    have qq5 : (w5.setCell ⟨g, 5, none⟩ (.int .i64 x)).cell? ⟨Q, 5, none⟩ = some (.int .i64 t.la) := cell_at q9 5
    have qq6 : (w5.setCell ⟨g, 5, none⟩ (.int .i64 x)).cell? ⟨Q, 6, none⟩ = some (.slice (some ⟨g, 0, none⟩) (p :: ls).length vc) := cell_at q9 6
    have bb0 : (w5.setCell ⟨g, 5, none⟩ (.int .i64 x)).cell? ⟨w.heap.size, 0, none⟩ = some (.int .i64 0) := cell_at p9 0
    have bb1 : (w5.setCell ⟨g, 5, none⟩ (.int .i64 x)).cell? ⟨w.heap.size, 1, none⟩ = some (.string ⟨#[]⟩) := cell_at p9 1
    have bb2 : (w5.setCell ⟨g, 5, none⟩ (.int .i64 x)).cell? ⟨w.heap.size, 2, none⟩ = some (.int .i64 0) := cell_at p9 2
    have bb3 : (w5.setCell ⟨g, 5, none⟩ (.int .i64 x)).cell? ⟨w.heap.size, 3, none⟩ = some (.int .i64 0) := cell_at p9 3
    have bb4 : (w5.setCell ⟨g, 5, none⟩ (.int .i64 x)).cell? ⟨w.heap.size, 4, none⟩ = some (.int .i64 0) := cell_at p9 4
    have bb5 : (w5.setCell ⟨g, 5, none⟩ (.int .i64 x)).cell? ⟨w.heap.size, 5, none⟩ = some (.int .i64 0) := cell_at p9 5
    have bb6 : (w5.setCell ⟨g, 5, none⟩ (.int .i64 x)).cell? ⟨w.heap.size, 6, none⟩ = some (.slice none 0 0) := cell_at p9 6
    have ff0 : (w5.setCell ⟨g, 5, none⟩ (.int .i64 x)).frozen? ⟨w.heap.size, 0, none⟩ = false := frozen_at p9 0
    have ff1 : (w5.setCell ⟨g, 5, none⟩ (.int .i64 x)).frozen? ⟨w.heap.size, 1, none⟩ = false := frozen_at p9 1
    have ff2 : (w5.setCell ⟨g, 5, none⟩ (.int .i64 x)).frozen? ⟨w.heap.size, 2, none⟩ = false := frozen_at p9 2
    have ff3 : (w5.setCell ⟨g, 5, none⟩ (.int .i64 x)).frozen? ⟨w.heap.size, 3, none⟩ = false := frozen_at p9 3
    have ff4 : (w5.setCell ⟨g, 5, none⟩ (.int .i64 x)).frozen? ⟨w.heap.size, 4, none⟩ = false := frozen_at p9 4
    have ff5 : (w5.setCell ⟨g, 5, none⟩ (.int .i64 x)).frozen? ⟨w.heap.size, 5, none⟩ = false := frozen_at p9 5
    have ff6 : (w5.setCell ⟨g, 5, none⟩ (.int .i64 x)).frozen? ⟨w.heap.size, 6, none⟩ = false := frozen_at p9 6
    have hne := own_ne' O9 p9 (by decide)
    go_wp2
    refine bodyPost_ret (v := tkV t nm (some ⟨g, 0, none⟩) ((⟨p.tr, p.dy, p.fr, p.to, p.co, x⟩ : Lg) :: ls).length vc) (by simp [results, Tryd.results14, go_sem, bb0, bb1, bb2, bb3, bb4, bb5, bb6]) rfl ?_
    exact ⟨⟨_, _, _, _, ((⟨p.tr, p.dy, p.fr, p.to, p.co, x⟩ : Lg) :: ls), rfl, (own_else (i := 6) (own_else (i := 5) (own_else (i := 4) (own_else (i := 3) (own_else (i := 2) (own_else (i := 1) (own_else (i := 0) O9 hne) hne) hne) hne) hne) hne) hne), HNM.out, (by have := HLN.out; simp at this ⊢; omega)⟩, (((((((C9.set w.heap.size 0 _ hRc hW0).set w.heap.size 1 _ hRc hW0).set w.heap.size 2 _ hRc hW0).set w.heap.size 3 _ hRc hW0).set w.heap.size 4 _ hRc hW0).set w.heap.size 5 _ hRc hW0).set w.heap.size 6 _ hRc hW0), (((((((K9.set w.heap.size 0 _ (Nat.le_refl _)).set w.heap.size 1 _ (Nat.le_refl _)).set w.heap.size 2 _ (Nat.le_refl _)).set w.heap.size 3 _ (Nat.le_refl _)).set w.heap.size 4 _ (Nat.le_refl _)).set w.heap.size 5 _ (Nat.le_refl _)).set w.heap.size 6 _ (Nat.le_refl _))⟩
  have d5 : decide (s = 5) = false := decide_eq_false h5
  by_cases h6 : s = 6
  · subst h6
    have HL2 : Hid ((p :: ls).length ≤ 7) := by have := HLN.out; show _ ≤ _; omega
    go_wp2
    go_loopw [57] (fun _ wr => ∃ (ls : List Lg) (g vc : Nat), Is W0 a n cap c wr ∧ Kb c w wr ∧ wr.heap[w.heap.size]? = some (tkB ⟨0, 0, 0, 0, 0⟩ ⟨#[]⟩ none 0 0 26) ∧ wr.heap[Q]? = some (.cells #[.int .i64 t.id, .string nm, .int .i64 t.cl, .int .i64 t.pr, .int .i64 t.fi, .int .i64 t.la, .slice (some ⟨g, 0, none⟩) (p :: ls).length vc] 26) ∧ Hid (wr.ownsRow w.heap.size 40 6 (.slice (some ⟨g, 0, none⟩) (p :: ls).length vc) (p :: ls).length (lcells (p :: ls))) ∧ Hid ((p :: ls).length ≤ 7)) (fun _ wr => 9 - lenT wr Q)
    case atStart => exact ⟨ls, g, vc, C8, K8, p8, q8, O8, HL2⟩
    case round =>
      clear C8 K8 p8 q8 O8 HL2
      obtain ⟨ls, g, vc, CR, KR, pR, qR, HO, HLR⟩ := hrel
      have aR : wr.cell? ⟨Q, 6, none⟩ = some (.slice (some ⟨g, 0, none⟩) (p :: ls).length vc) := cell_at qR 6
      have hlq : lenT wr Q = (p :: ls).length := by unfold lenT; rw [aR]
      have CD : Is W0 a n cap c (World.drew wr) := CR.drewN 1
      go_wp2
      go_region_held3 (fun w' : World => w'.cell? ⟨Q, 6, none⟩ = some (.slice (some ⟨g, 0, none⟩) (p :: ls).length vc)) (go_keep) ((go_at_call 31; (with_reducible refine (below_any CD 2).mono ?_); rintro e w8 ⟨⟨x, rfl, hx0, hx1⟩, C8, M8⟩; have a8 : w8.cell? ⟨Q, 6, none⟩ = some (.slice (some ⟨g, 0, none⟩) (p :: ls).length vc) := (M8.cell (p := ⟨Q, 6, none⟩) hQc).trans aR))
      have hx2 := hx1 (by omega)
      have KM : Kb c wr w8 := Kb.moved ⟨M8.size, M8.block⟩
      have K8 := KR.trans KM
      have p8 := (M8.block _ hRc).trans pR
      have q8 := (M8.block _ hQc).trans qR
      have O8 := own_kb HO.out KM hcw
      have w1 : wrap64 (6 + x) = 6 + x := by unfold wrap64; omega
      have w2 : IntKind.i64.wrap (6 + x) = 6 + x := by clear w1; rw [IntKind.wrap_i64]; omega
      clear CR KR pR qR HO M8 KM hx0 hx1 aR CD
      by_cases hlt : ((p :: ls).length : Int) < 6 + x
      · have hl2 : (ls.length : Int) + 1 < 6 + x := by clear w1 w2; rw [List.length_cons] at hlt; omega
        have dlt : decide ((ls.length : Int) + 1 < 6 + x) = true := decide_eq_true hl2
        have hln : (p :: ls).length ≤ 6 := by clear w1 w2 dlt; omega
        have hpl : (0 : Int) < ((p :: ls).length : Int) := by clear w1 w2 dlt; rw [List.length_cons]; omega
        go_wp2
        clear w1 w2 dlt hlt hl2 a8
        have CD : Is W0 a n cap c (World.drew w8) := C8.drewN 1
        have KD : Kb c w (World.drew w8) := K8.drew
        have pD : (World.drew w8).heap[w.heap.size]? = some (tkB ⟨0, 0, 0, 0, 0⟩ ⟨#[]⟩ none 0 0 26) := p8
        have qD : (World.drew w8).heap[Q]? = some (.cells #[.int .i64 t.id, .string nm, .int .i64 t.cl, .int .i64 t.pr, .int .i64 t.fi, .int .i64 t.la, .slice (some ⟨g, 0, none⟩) (p :: ls).length vc] 26) := q8
        have OD : (World.drew w8).ownsRow w.heap.size 40 6 (.slice (some ⟨g, 0, none⟩) (p :: ls).length vc) (p :: ls).length (lcells (p :: ls)) := O8
        clear C8 K8 p8 q8 O8
        refine wp_region_held_drew (S := (fun _ : World => True)) (by kernel_rfl) ?_ (fun hHeld => ?_)
        · trivial
        generalize World.drew w8 = w4 at *
        have c0 : w4.cell? ⟨g, 0, none⟩ = some (.int .i64 p.tr) := (own_first OD).1 0 _ rfl
        have c1 : w4.cell? ⟨g, 1, none⟩ = some (.int .i64 p.dy) := (own_first OD).1 1 _ rfl
        have c2 : w4.cell? ⟨g, 2, none⟩ = some (.int .i64 p.fr) := (own_first OD).1 2 _ rfl
        have c3 : w4.cell? ⟨g, 3, none⟩ = some (.int .i64 p.to) := (own_first OD).1 3 _ rfl
        have c4 : w4.cell? ⟨g, 4, none⟩ = some (.int .i64 p.co) := (own_first OD).1 4 _ rfl
        have c5 : w4.cell? ⟨g, 5, none⟩ = some (.int .i64 p.se) := (own_first OD).1 5 _ rfl
        have CA := CD.alloc (.cells #[.int .i64 p.tr, .int .i64 p.dy, .int .i64 p.fr, .int .i64 p.to, .int .i64 p.co, .int .i64 p.se] 40)
        have KA := KD.alloc (.cells #[.int .i64 p.tr, .int .i64 p.dy, .int .i64 p.fr, .int .i64 p.to, .int .i64 p.co, .int .i64 p.se] 40)
        have pA := heap_old pD (.cells #[.int .i64 p.tr, .int .i64 p.dy, .int .i64 p.fr, .int .i64 p.to, .int .i64 p.co, .int .i64 p.se] 40)
        have qA := heap_old qD (.cells #[.int .i64 p.tr, .int .i64 p.dy, .int .i64 p.fr, .int .i64 p.to, .int .i64 p.co, .int .i64 p.se] 40)
        have lA := heap_new w4 (.cells #[.int .i64 p.tr, .int .i64 p.dy, .int .i64 p.fr, .int .i64 p.to, .int .i64 p.co, .int .i64 p.se] 40)
        have OA := own_below OD (new_below w4 (.cells #[.int .i64 p.tr, .int .i64 p.dy, .int .i64 p.fr, .int .i64 p.to, .int .i64 p.co, .int .i64 p.se] 40)) (Nat.le_refl _)
        have hsA : w.heap.size ≤ (w4.alloc (.cells #[.int .i64 p.tr, .int .i64 p.dy, .int .i64 p.fr, .int .i64 p.to, .int .i64 p.co, .int .i64 p.se] 40)).heap.size := KA.size
        have k6 : w4.cell? ⟨Q, 6, none⟩ = some (.slice (some ⟨g, 0, none⟩) (p :: ls).length vc) := cell_at qD 6
        have k7 : (w4.alloc (.cells #[.int .i64 p.tr, .int .i64 p.dy, .int .i64 p.fr, .int .i64 p.to, .int .i64 p.co, .int .i64 p.se] 40)).cell? ⟨Q, 6, none⟩ = some (.slice (some ⟨g, 0, none⟩) (p :: ls).length vc) := cell_at qA 6
        refine wpAnyH_take (i := 0) (v := .pointer (some ⟨Q, 6, none⟩)) rfl (by kernel_rfl) (by kernel_rfl) (by kernel_rfl) (fun _ _ _ h => h) (Or.inl ⟨by kernel_rfl, fun w hSw => by first | (go_simp; done) | (have hS0 := hSw; go_simp; done) | rfl⟩) (by assumption) ?_
        simp only [Act.put, List.getElem_toArray, List.getElem_cons_succ, List.getElem_cons_zero, List.setIfInBounds_toArray, List.set_cons_succ, List.set_cons_zero]
        refine wpAnyH_take (i := 2) (v := .pointer (some ⟨Q, 6, none⟩)) rfl (by kernel_rfl) (by kernel_rfl) (by kernel_rfl) (fun _ _ _ h => h) (Or.inl ⟨by kernel_rfl, fun w hSw => by first | (go_simp; done) | (have hS0 := hSw; go_simp; done) | rfl⟩) (by assumption) ?_
        simp only [Act.put, List.getElem_toArray, List.getElem_cons_succ, List.getElem_cons_zero, List.setIfInBounds_toArray, List.set_cons_succ, List.set_cons_zero]
        refine wpAnyH_ready (rs := [1, 3]) (by kernel_rfl) (by simp) ?_
        refine AllReadyH.cons rfl (fun K hK => ?_) (AllReadyH.cons rfl (fun K hK => ?_) (AllReadyH.nil))
        · go_simp
          refine hK.out _ _ ?_ (fun hHeld2 => ?_)
          · trivial
          clear hK K hHeld
          have hHeld := hHeld2
          clear hHeld2
          refine wpAnyH_ready (rs := [3]) (by kernel_rfl) (by simp) ?_
          refine AllReadyH.cons rfl (fun K hK => ?_) (AllReadyH.nil)
          go_simp
          refine hK.out _ _ ?_ (fun hHeld2 => ?_)
          · trivial
          clear hK K hHeld
          have hHeld := hHeld2
          clear hHeld2
          refine wpAnyH_take (i := 4) (v := .pointer (some ⟨g, 0, none⟩)) rfl (by kernel_rfl) (by kernel_rfl) (by kernel_rfl) (fun _ _ _ h => h) (Or.inl ⟨by kernel_rfl, fun w hSw => by first | (go_simp; done) | (have hS0 := hSw; go_simp; done) | rfl⟩) (by assumption) ?_
          simp only [Act.put, List.getElem_toArray, List.getElem_cons_succ, List.getElem_cons_zero, List.setIfInBounds_toArray, List.set_cons_succ, List.set_cons_zero]
          refine wpAnyH_ready (rs := [5]) (by kernel_rfl) (by simp) ?_
          refine AllReadyH.cons rfl (fun K hK => ?_) (AllReadyH.nil)
          go_simp
          refine hK.out _ _ ?_ (fun hHeld2 => ?_)
          · trivial
          clear hK K hHeld
          have hHeld := hHeld2
          clear hHeld2
          refine wpAnyH_ready (rs := [6]) (by kernel_rfl) (by simp) ?_
          refine AllReadyH.cons rfl (fun K hK => ?_) (AllReadyH.nil)
          go_simp
          refine hK.out _ _ ?_ (fun hHeld2 => ?_)
          · trivial
          clear hK K hHeld
          have hHeld := hHeld2
          clear hHeld2
          refine wpAnyH_ready (rs := [7]) (by kernel_rfl) (by simp) ?_
          refine AllReadyH.cons rfl (fun K hK => ?_) AllReadyH.nil
          rw [if_pos (by kernel_rfl)]
          refine wp_append_at _ _ 24 rfl w.heap.size 40 i0 (Tk.lgV ⟨0, 0, 0, 0, 0, 0⟩) 6 48 Tryd.underlying24 hi hy0 hy1 hy2 rfl (by decide) _ _ _ rfl OA ⟨w4.heap.size, 0, none⟩ 1 1 (lc1 p) rfl rfl (leg_at lA) (by intro u hu; simp only [lc1, List.mem_cons, List.not_mem_nil, or_false] at hu; rcases hu with rfl | rfl | rfl | rfl | rfl | rfl <;> rfl) (by have := HLR.out; unfold maxLen; omega) (by have := HLR.out; omega) hsA ?_
          intro v' w9 O9 G9 hat
          have C9 : Is W0 a n cap c w9 := CA.grown G9 (fun h => by have := (OA.lt _ h).1; omega) (fun k h => by have := (OA.lt _ h).1; omega)
          have K9 : Kb c w w9 := KA.grown G9 (fun k h => (OA.lt _ h).1)
          have q9 : w9.heap[Q]? = _ := (G9.block Q (lt_of qA) (own_ne OA qA (by decide))).trans qA
          have p9 : w9.heap[w.heap.size]? = _ := (G9.block _ (lt_of pA) (own_ne OA pA (by decide))).trans pA
          rw [Gt.lcells_snoc] at O9
          obtain ⟨va2, vc2, rfl, -⟩ := own_form O9
          obtain ⟨g2, rfl⟩ := own_some O9 (by omega)
          clear CA KA qA pA OA lA G9 hat
          have z6 : w9.cell? ⟨Q, 6, none⟩ = some (.slice (some ⟨g, 0, none⟩) (p :: ls).length vc) := cell_at q9 6
          have fz6 : w9.frozen? ⟨Q, 6, none⟩ = false := frozen_at q9 6
          have HQ10 : Hid ((w9.setCell ⟨Q, 6, none⟩ (.slice (some ⟨g2, 0, none⟩) ((p :: ls).length + 1) vc2)).heap[Q]? = some (.cells #[.int .i64 t.id, .string nm, .int .i64 t.cl, .int .i64 t.pr, .int .i64 t.fi, .int .i64 t.la, .slice (some ⟨g2, 0, none⟩) ((p :: ls).length + 1) vc2] 26)) := tk_set q9 _
          try simp only [Act.put, List.getElem_toArray, List.getElem_cons_succ, List.getElem_cons_zero, List.setIfInBounds_toArray, List.set_cons_succ, List.set_cons_zero]
          refine hK.out _ _ ?_ (fun hHeld2 => ?_)
          · trivial
          clear hK K hHeld
          have hHeld := hHeld2
          clear hHeld2
          refine wpAnyH_take (i := 8) (v := .pointer (some ⟨Q, 6, none⟩)) rfl (by kernel_rfl) (by kernel_rfl) (by kernel_rfl) (fun _ _ _ h => h) (Or.inl ⟨by kernel_rfl, fun w hSw => by first | (go_simp; done) | (have hS0 := hSw; go_simp; done) | rfl⟩) (by assumption) ?_
          simp only [Act.put, List.getElem_toArray, List.getElem_cons_succ, List.getElem_cons_zero, List.setIfInBounds_toArray, List.set_cons_succ, List.set_cons_zero]
          refine wpAnyH_ready (rs := [9]) (by kernel_rfl) (by simp) ?_
          refine AllReadyH.cons rfl (fun K hK => ?_) AllReadyH.nil
          go_simp
          refine hK.out _ _ ?_ (fun hHeld2 => ?_)
          · trivial
          clear hK K hHeld
          have hHeld := hHeld2
          clear hHeld2
          refine wpAnyH_done (by kernel_rfl) ?_ _
          have e9 : (p :: ls).length + 1 = (p :: (ls ++ [p])).length := by simp
          have C10 : Is W0 a n cap c (w9.setCell ⟨Q, 6, none⟩ (.slice (some ⟨g2, 0, none⟩) ((p :: ls).length + 1) vc2)) := C9.set Q 6 (.slice (some ⟨g2, 0, none⟩) ((p :: ls).length + 1) vc2) hQc hQW
          have K10 : Kb c w (w9.setCell ⟨Q, 6, none⟩ (.slice (some ⟨g2, 0, none⟩) ((p :: ls).length + 1) vc2)) := K9.set Q 6 (.slice (some ⟨g2, 0, none⟩) ((p :: ls).length + 1) vc2) hQw
          have q10 := HQ10.out
          have p10 : (w9.setCell ⟨Q, 6, none⟩ (.slice (some ⟨g2, 0, none⟩) ((p :: ls).length + 1) vc2)).heap[w.heap.size]? = some (tkB ⟨0, 0, 0, 0, 0⟩ ⟨#[]⟩ none 0 0 26) := (Below.heap_setCell _ _ _ _ hPQ).trans p9
          have O10 : Hid ((w9.setCell ⟨Q, 6, none⟩ (.slice (some ⟨g2, 0, none⟩) ((p :: ls).length + 1) vc2)).ownsRow w.heap.size 40 6 (.slice (some ⟨g2, 0, none⟩) (p :: (ls ++ [p])).length vc2) (p :: (ls ++ [p])).length (lcells (p :: (ls ++ [p])))) := by
            show World.ownsRow _ _ _ _ _ _ _
            rw [← e9]
            exact own_else (i := 6) O9 (own_ne' O9 q9 (by decide))
          have HL10 : Hid ((p :: (ls ++ [p])).length ≤ 7) := by show _ ≤ _; rw [← e9]; omega
          have hlq2 : lenT (w9.setCell ⟨Q, 6, none⟩ (.slice (some ⟨g2, 0, none⟩) ((p :: ls).length + 1) vc2)) Q = (p :: ls).length + 1 := by
            unfold lenT
            rw [show (w9.setCell ⟨Q, 6, none⟩ (.slice (some ⟨g2, 0, none⟩) ((p :: ls).length + 1) vc2)).cell? ⟨Q, 6, none⟩ = some (.slice (some ⟨g2, 0, none⟩) ((p :: ls).length + 1) vc2) from cell_at HQ10.out 6]
          have q11 : (w9.setCell ⟨Q, 6, none⟩ (.slice (some ⟨g2, 0, none⟩) ((p :: ls).length + 1) vc2)).heap[Q]? = some (.cells #[.int .i64 t.id, .string nm, .int .i64 t.cl, .int .i64 t.pr, .int .i64 t.fi, .int .i64 t.la, .slice (some ⟨g2, 0, none⟩) (p :: (ls ++ [p])).length vc2] 26) := by rw [← e9]; exact q10
          clear e9 q9 p9 O9 C9 K9 q10
          go_wp2
          go_roundw
          case rel => exact ⟨ls ++ [p], g2, vc2, C10, K10, p10, q11, O10, HL10⟩
          case measure => rw [hlq]; have h9 := hlq2; simp only [List.length_cons] at h9 hln ⊢; rw [h9]; omega
        · go_simp
          refine hK.out _ _ ?_ (fun hHeld2 => ?_)
          · trivial
          clear hK K hHeld
          have hHeld := hHeld2
          clear hHeld2
          refine wpAnyH_take (i := 4) (v := .pointer (some ⟨g, 0, none⟩)) rfl (by kernel_rfl) (by kernel_rfl) (by kernel_rfl) (fun _ _ _ h => h) (Or.inl ⟨by kernel_rfl, fun w hSw => by first | (go_simp; done) | (have hS0 := hSw; go_simp; done) | rfl⟩) (by assumption) ?_
          simp only [Act.put, List.getElem_toArray, List.getElem_cons_succ, List.getElem_cons_zero, List.setIfInBounds_toArray, List.set_cons_succ, List.set_cons_zero]
          refine wpAnyH_ready (rs := [1, 5]) (by kernel_rfl) (by simp) ?_
          refine AllReadyH.cons rfl (fun K hK => ?_) (AllReadyH.cons rfl (fun K hK => ?_) (AllReadyH.nil))
          · go_simp
            refine hK.out _ _ ?_ (fun hHeld2 => ?_)
            · trivial
            clear hK K hHeld
            have hHeld := hHeld2
            clear hHeld2
            refine wpAnyH_ready (rs := [5]) (by kernel_rfl) (by simp) ?_
            refine AllReadyH.cons rfl (fun K hK => ?_) (AllReadyH.nil)
            go_simp
            refine hK.out _ _ ?_ (fun hHeld2 => ?_)
            · trivial
            clear hK K hHeld
            have hHeld := hHeld2
            clear hHeld2
            refine wpAnyH_ready (rs := [6]) (by kernel_rfl) (by simp) ?_
            refine AllReadyH.cons rfl (fun K hK => ?_) (AllReadyH.nil)
            go_simp
            refine hK.out _ _ ?_ (fun hHeld2 => ?_)
            · trivial
            clear hK K hHeld
            have hHeld := hHeld2
            clear hHeld2
            refine wpAnyH_ready (rs := [7]) (by kernel_rfl) (by simp) ?_
            refine AllReadyH.cons rfl (fun K hK => ?_) AllReadyH.nil
            rw [if_pos (by kernel_rfl)]
            refine wp_append_at _ _ 24 rfl w.heap.size 40 i0 (Tk.lgV ⟨0, 0, 0, 0, 0, 0⟩) 6 48 Tryd.underlying24 hi hy0 hy1 hy2 rfl (by decide) _ _ _ rfl OA ⟨w4.heap.size, 0, none⟩ 1 1 (lc1 p) rfl rfl (leg_at lA) (by intro u hu; simp only [lc1, List.mem_cons, List.not_mem_nil, or_false] at hu; rcases hu with rfl | rfl | rfl | rfl | rfl | rfl <;> rfl) (by have := HLR.out; unfold maxLen; omega) (by have := HLR.out; omega) hsA ?_
            intro v' w9 O9 G9 hat
            have C9 : Is W0 a n cap c w9 := CA.grown G9 (fun h => by have := (OA.lt _ h).1; omega) (fun k h => by have := (OA.lt _ h).1; omega)
            have K9 : Kb c w w9 := KA.grown G9 (fun k h => (OA.lt _ h).1)
            have q9 : w9.heap[Q]? = _ := (G9.block Q (lt_of qA) (own_ne OA qA (by decide))).trans qA
            have p9 : w9.heap[w.heap.size]? = _ := (G9.block _ (lt_of pA) (own_ne OA pA (by decide))).trans pA
            rw [Gt.lcells_snoc] at O9
            obtain ⟨va2, vc2, rfl, -⟩ := own_form O9
            obtain ⟨g2, rfl⟩ := own_some O9 (by omega)
            clear CA KA qA pA OA lA G9 hat
            have z6 : w9.cell? ⟨Q, 6, none⟩ = some (.slice (some ⟨g, 0, none⟩) (p :: ls).length vc) := cell_at q9 6
            have fz6 : w9.frozen? ⟨Q, 6, none⟩ = false := frozen_at q9 6
            have HQ10 : Hid ((w9.setCell ⟨Q, 6, none⟩ (.slice (some ⟨g2, 0, none⟩) ((p :: ls).length + 1) vc2)).heap[Q]? = some (.cells #[.int .i64 t.id, .string nm, .int .i64 t.cl, .int .i64 t.pr, .int .i64 t.fi, .int .i64 t.la, .slice (some ⟨g2, 0, none⟩) ((p :: ls).length + 1) vc2] 26)) := tk_set q9 _
            try simp only [Act.put, List.getElem_toArray, List.getElem_cons_succ, List.getElem_cons_zero, List.setIfInBounds_toArray, List.set_cons_succ, List.set_cons_zero]
            refine hK.out _ _ ?_ (fun hHeld2 => ?_)
            · trivial
            clear hK K hHeld
            have hHeld := hHeld2
            clear hHeld2
            refine wpAnyH_take (i := 8) (v := .pointer (some ⟨Q, 6, none⟩)) rfl (by kernel_rfl) (by kernel_rfl) (by kernel_rfl) (fun _ _ _ h => h) (Or.inl ⟨by kernel_rfl, fun w hSw => by first | (go_simp; done) | (have hS0 := hSw; go_simp; done) | rfl⟩) (by assumption) ?_
            simp only [Act.put, List.getElem_toArray, List.getElem_cons_succ, List.getElem_cons_zero, List.setIfInBounds_toArray, List.set_cons_succ, List.set_cons_zero]
            refine wpAnyH_ready (rs := [9]) (by kernel_rfl) (by simp) ?_
            refine AllReadyH.cons rfl (fun K hK => ?_) AllReadyH.nil
            go_simp
            refine hK.out _ _ ?_ (fun hHeld2 => ?_)
            · trivial
            clear hK K hHeld
            have hHeld := hHeld2
            clear hHeld2
            refine wpAnyH_done (by kernel_rfl) ?_ _
            have e9 : (p :: ls).length + 1 = (p :: (ls ++ [p])).length := by simp
            have C10 : Is W0 a n cap c (w9.setCell ⟨Q, 6, none⟩ (.slice (some ⟨g2, 0, none⟩) ((p :: ls).length + 1) vc2)) := C9.set Q 6 (.slice (some ⟨g2, 0, none⟩) ((p :: ls).length + 1) vc2) hQc hQW
            have K10 : Kb c w (w9.setCell ⟨Q, 6, none⟩ (.slice (some ⟨g2, 0, none⟩) ((p :: ls).length + 1) vc2)) := K9.set Q 6 (.slice (some ⟨g2, 0, none⟩) ((p :: ls).length + 1) vc2) hQw
            have q10 := HQ10.out
            have p10 : (w9.setCell ⟨Q, 6, none⟩ (.slice (some ⟨g2, 0, none⟩) ((p :: ls).length + 1) vc2)).heap[w.heap.size]? = some (tkB ⟨0, 0, 0, 0, 0⟩ ⟨#[]⟩ none 0 0 26) := (Below.heap_setCell _ _ _ _ hPQ).trans p9
            have O10 : Hid ((w9.setCell ⟨Q, 6, none⟩ (.slice (some ⟨g2, 0, none⟩) ((p :: ls).length + 1) vc2)).ownsRow w.heap.size 40 6 (.slice (some ⟨g2, 0, none⟩) (p :: (ls ++ [p])).length vc2) (p :: (ls ++ [p])).length (lcells (p :: (ls ++ [p])))) := by
              show World.ownsRow _ _ _ _ _ _ _
              rw [← e9]
              exact own_else (i := 6) O9 (own_ne' O9 q9 (by decide))
            have HL10 : Hid ((p :: (ls ++ [p])).length ≤ 7) := by show _ ≤ _; rw [← e9]; omega
            have hlq2 : lenT (w9.setCell ⟨Q, 6, none⟩ (.slice (some ⟨g2, 0, none⟩) ((p :: ls).length + 1) vc2)) Q = (p :: ls).length + 1 := by
              unfold lenT
              rw [show (w9.setCell ⟨Q, 6, none⟩ (.slice (some ⟨g2, 0, none⟩) ((p :: ls).length + 1) vc2)).cell? ⟨Q, 6, none⟩ = some (.slice (some ⟨g2, 0, none⟩) ((p :: ls).length + 1) vc2) from cell_at HQ10.out 6]
            have q11 : (w9.setCell ⟨Q, 6, none⟩ (.slice (some ⟨g2, 0, none⟩) ((p :: ls).length + 1) vc2)).heap[Q]? = some (.cells #[.int .i64 t.id, .string nm, .int .i64 t.cl, .int .i64 t.pr, .int .i64 t.fi, .int .i64 t.la, .slice (some ⟨g2, 0, none⟩) (p :: (ls ++ [p])).length vc2] 26) := by rw [← e9]; exact q10
            clear e9 q9 p9 O9 C9 K9 q10
            go_wp2
            go_roundw
            case rel => exact ⟨ls ++ [p], g2, vc2, C10, K10, p10, q11, O10, HL10⟩
            case measure => rw [hlq]; have h9 := hlq2; simp only [List.length_cons] at h9 hln ⊢; rw [h9]; omega
          · go_simp
            refine hK.out _ _ ?_ (fun hHeld2 => ?_)
            · trivial
            clear hK K hHeld
            have hHeld := hHeld2
            clear hHeld2
            refine wpAnyH_ready (rs := [1, 6]) (by kernel_rfl) (by simp) ?_
            refine AllReadyH.cons rfl (fun K hK => ?_) (AllReadyH.cons rfl (fun K hK => ?_) (AllReadyH.nil))
            · go_simp
              refine hK.out _ _ ?_ (fun hHeld2 => ?_)
              · trivial
              clear hK K hHeld
              have hHeld := hHeld2
              clear hHeld2
              refine wpAnyH_ready (rs := [6]) (by kernel_rfl) (by simp) ?_
              refine AllReadyH.cons rfl (fun K hK => ?_) (AllReadyH.nil)
              go_simp
              refine hK.out _ _ ?_ (fun hHeld2 => ?_)
              · trivial
              clear hK K hHeld
              have hHeld := hHeld2
              clear hHeld2
              refine wpAnyH_ready (rs := [7]) (by kernel_rfl) (by simp) ?_
              refine AllReadyH.cons rfl (fun K hK => ?_) AllReadyH.nil
              rw [if_pos (by kernel_rfl)]
              refine wp_append_at _ _ 24 rfl w.heap.size 40 i0 (Tk.lgV ⟨0, 0, 0, 0, 0, 0⟩) 6 48 Tryd.underlying24 hi hy0 hy1 hy2 rfl (by decide) _ _ _ rfl OA ⟨w4.heap.size, 0, none⟩ 1 1 (lc1 p) rfl rfl (leg_at lA) (by intro u hu; simp only [lc1, List.mem_cons, List.not_mem_nil, or_false] at hu; rcases hu with rfl | rfl | rfl | rfl | rfl | rfl <;> rfl) (by have := HLR.out; unfold maxLen; omega) (by have := HLR.out; omega) hsA ?_
              intro v' w9 O9 G9 hat
              have C9 : Is W0 a n cap c w9 := CA.grown G9 (fun h => by have := (OA.lt _ h).1; omega) (fun k h => by have := (OA.lt _ h).1; omega)
              have K9 : Kb c w w9 := KA.grown G9 (fun k h => (OA.lt _ h).1)
              have q9 : w9.heap[Q]? = _ := (G9.block Q (lt_of qA) (own_ne OA qA (by decide))).trans qA
              have p9 : w9.heap[w.heap.size]? = _ := (G9.block _ (lt_of pA) (own_ne OA pA (by decide))).trans pA
              rw [Gt.lcells_snoc] at O9
              obtain ⟨va2, vc2, rfl, -⟩ := own_form O9
              obtain ⟨g2, rfl⟩ := own_some O9 (by omega)
              clear CA KA qA pA OA lA G9 hat
              have z6 : w9.cell? ⟨Q, 6, none⟩ = some (.slice (some ⟨g, 0, none⟩) (p :: ls).length vc) := cell_at q9 6
              have fz6 : w9.frozen? ⟨Q, 6, none⟩ = false := frozen_at q9 6
              have HQ10 : Hid ((w9.setCell ⟨Q, 6, none⟩ (.slice (some ⟨g2, 0, none⟩) ((p :: ls).length + 1) vc2)).heap[Q]? = some (.cells #[.int .i64 t.id, .string nm, .int .i64 t.cl, .int .i64 t.pr, .int .i64 t.fi, .int .i64 t.la, .slice (some ⟨g2, 0, none⟩) ((p :: ls).length + 1) vc2] 26)) := tk_set q9 _
              try simp only [Act.put, List.getElem_toArray, List.getElem_cons_succ, List.getElem_cons_zero, List.setIfInBounds_toArray, List.set_cons_succ, List.set_cons_zero]
              refine hK.out _ _ ?_ (fun hHeld2 => ?_)
              · trivial
              clear hK K hHeld
              have hHeld := hHeld2
              clear hHeld2
              refine wpAnyH_take (i := 8) (v := .pointer (some ⟨Q, 6, none⟩)) rfl (by kernel_rfl) (by kernel_rfl) (by kernel_rfl) (fun _ _ _ h => h) (Or.inl ⟨by kernel_rfl, fun w hSw => by first | (go_simp; done) | (have hS0 := hSw; go_simp; done) | rfl⟩) (by assumption) ?_
              simp only [Act.put, List.getElem_toArray, List.getElem_cons_succ, List.getElem_cons_zero, List.setIfInBounds_toArray, List.set_cons_succ, List.set_cons_zero]
              refine wpAnyH_ready (rs := [9]) (by kernel_rfl) (by simp) ?_
              refine AllReadyH.cons rfl (fun K hK => ?_) AllReadyH.nil
              go_simp
              refine hK.out _ _ ?_ (fun hHeld2 => ?_)
              · trivial
              clear hK K hHeld
              have hHeld := hHeld2
              clear hHeld2
              refine wpAnyH_done (by kernel_rfl) ?_ _
              have e9 : (p :: ls).length + 1 = (p :: (ls ++ [p])).length := by simp
              have C10 : Is W0 a n cap c (w9.setCell ⟨Q, 6, none⟩ (.slice (some ⟨g2, 0, none⟩) ((p :: ls).length + 1) vc2)) := C9.set Q 6 (.slice (some ⟨g2, 0, none⟩) ((p :: ls).length + 1) vc2) hQc hQW
              have K10 : Kb c w (w9.setCell ⟨Q, 6, none⟩ (.slice (some ⟨g2, 0, none⟩) ((p :: ls).length + 1) vc2)) := K9.set Q 6 (.slice (some ⟨g2, 0, none⟩) ((p :: ls).length + 1) vc2) hQw
              have q10 := HQ10.out
              have p10 : (w9.setCell ⟨Q, 6, none⟩ (.slice (some ⟨g2, 0, none⟩) ((p :: ls).length + 1) vc2)).heap[w.heap.size]? = some (tkB ⟨0, 0, 0, 0, 0⟩ ⟨#[]⟩ none 0 0 26) := (Below.heap_setCell _ _ _ _ hPQ).trans p9
              have O10 : Hid ((w9.setCell ⟨Q, 6, none⟩ (.slice (some ⟨g2, 0, none⟩) ((p :: ls).length + 1) vc2)).ownsRow w.heap.size 40 6 (.slice (some ⟨g2, 0, none⟩) (p :: (ls ++ [p])).length vc2) (p :: (ls ++ [p])).length (lcells (p :: (ls ++ [p])))) := by
                show World.ownsRow _ _ _ _ _ _ _
                rw [← e9]
                exact own_else (i := 6) O9 (own_ne' O9 q9 (by decide))
              have HL10 : Hid ((p :: (ls ++ [p])).length ≤ 7) := by show _ ≤ _; rw [← e9]; omega
              have hlq2 : lenT (w9.setCell ⟨Q, 6, none⟩ (.slice (some ⟨g2, 0, none⟩) ((p :: ls).length + 1) vc2)) Q = (p :: ls).length + 1 := by
                unfold lenT
                rw [show (w9.setCell ⟨Q, 6, none⟩ (.slice (some ⟨g2, 0, none⟩) ((p :: ls).length + 1) vc2)).cell? ⟨Q, 6, none⟩ = some (.slice (some ⟨g2, 0, none⟩) ((p :: ls).length + 1) vc2) from cell_at HQ10.out 6]
              have q11 : (w9.setCell ⟨Q, 6, none⟩ (.slice (some ⟨g2, 0, none⟩) ((p :: ls).length + 1) vc2)).heap[Q]? = some (.cells #[.int .i64 t.id, .string nm, .int .i64 t.cl, .int .i64 t.pr, .int .i64 t.fi, .int .i64 t.la, .slice (some ⟨g2, 0, none⟩) (p :: (ls ++ [p])).length vc2] 26) := by rw [← e9]; exact q10
              clear e9 q9 p9 O9 C9 K9 q10
              go_wp2
              go_roundw
              case rel => exact ⟨ls ++ [p], g2, vc2, C10, K10, p10, q11, O10, HL10⟩
              case measure => rw [hlq]; have h9 := hlq2; simp only [List.length_cons] at h9 hln ⊢; rw [h9]; omega
            · go_simp
              refine hK.out _ _ ?_ (fun hHeld2 => ?_)
              · trivial
              clear hK K hHeld
              have hHeld := hHeld2
              clear hHeld2
              refine wpAnyH_ready (rs := [1]) (by kernel_rfl) (by simp) ?_
              refine AllReadyH.cons rfl (fun K hK => ?_) (AllReadyH.nil)
              go_simp
              refine hK.out _ _ ?_ (fun hHeld2 => ?_)
              · trivial
              clear hK K hHeld
              have hHeld := hHeld2
              clear hHeld2
              refine wpAnyH_ready (rs := [7]) (by kernel_rfl) (by simp) ?_
              refine AllReadyH.cons rfl (fun K hK => ?_) AllReadyH.nil
              rw [if_pos (by kernel_rfl)]
              refine wp_append_at _ _ 24 rfl w.heap.size 40 i0 (Tk.lgV ⟨0, 0, 0, 0, 0, 0⟩) 6 48 Tryd.underlying24 hi hy0 hy1 hy2 rfl (by decide) _ _ _ rfl OA ⟨w4.heap.size, 0, none⟩ 1 1 (lc1 p) rfl rfl (leg_at lA) (by intro u hu; simp only [lc1, List.mem_cons, List.not_mem_nil, or_false] at hu; rcases hu with rfl | rfl | rfl | rfl | rfl | rfl <;> rfl) (by have := HLR.out; unfold maxLen; omega) (by have := HLR.out; omega) hsA ?_
              intro v' w9 O9 G9 hat
              have C9 : Is W0 a n cap c w9 := CA.grown G9 (fun h => by have := (OA.lt _ h).1; omega) (fun k h => by have := (OA.lt _ h).1; omega)
              have K9 : Kb c w w9 := KA.grown G9 (fun k h => (OA.lt _ h).1)
              have q9 : w9.heap[Q]? = _ := (G9.block Q (lt_of qA) (own_ne OA qA (by decide))).trans qA
              have p9 : w9.heap[w.heap.size]? = _ := (G9.block _ (lt_of pA) (own_ne OA pA (by decide))).trans pA
              rw [Gt.lcells_snoc] at O9
              obtain ⟨va2, vc2, rfl, -⟩ := own_form O9
              obtain ⟨g2, rfl⟩ := own_some O9 (by omega)
              clear CA KA qA pA OA lA G9 hat
              have z6 : w9.cell? ⟨Q, 6, none⟩ = some (.slice (some ⟨g, 0, none⟩) (p :: ls).length vc) := cell_at q9 6
              have fz6 : w9.frozen? ⟨Q, 6, none⟩ = false := frozen_at q9 6
              have HQ10 : Hid ((w9.setCell ⟨Q, 6, none⟩ (.slice (some ⟨g2, 0, none⟩) ((p :: ls).length + 1) vc2)).heap[Q]? = some (.cells #[.int .i64 t.id, .string nm, .int .i64 t.cl, .int .i64 t.pr, .int .i64 t.fi, .int .i64 t.la, .slice (some ⟨g2, 0, none⟩) ((p :: ls).length + 1) vc2] 26)) := tk_set q9 _
              try simp only [Act.put, List.getElem_toArray, List.getElem_cons_succ, List.getElem_cons_zero, List.setIfInBounds_toArray, List.set_cons_succ, List.set_cons_zero]
              refine hK.out _ _ ?_ (fun hHeld2 => ?_)
              · trivial
              clear hK K hHeld
              have hHeld := hHeld2
              clear hHeld2
              refine wpAnyH_take (i := 8) (v := .pointer (some ⟨Q, 6, none⟩)) rfl (by kernel_rfl) (by kernel_rfl) (by kernel_rfl) (fun _ _ _ h => h) (Or.inl ⟨by kernel_rfl, fun w hSw => by first | (go_simp; done) | (have hS0 := hSw; go_simp; done) | rfl⟩) (by assumption) ?_
              simp only [Act.put, List.getElem_toArray, List.getElem_cons_succ, List.getElem_cons_zero, List.setIfInBounds_toArray, List.set_cons_succ, List.set_cons_zero]
              refine wpAnyH_ready (rs := [9]) (by kernel_rfl) (by simp) ?_
              refine AllReadyH.cons rfl (fun K hK => ?_) AllReadyH.nil
              go_simp
              refine hK.out _ _ ?_ (fun hHeld2 => ?_)
              · trivial
              clear hK K hHeld
              have hHeld := hHeld2
              clear hHeld2
              refine wpAnyH_done (by kernel_rfl) ?_ _
              have e9 : (p :: ls).length + 1 = (p :: (ls ++ [p])).length := by simp
              have C10 : Is W0 a n cap c (w9.setCell ⟨Q, 6, none⟩ (.slice (some ⟨g2, 0, none⟩) ((p :: ls).length + 1) vc2)) := C9.set Q 6 (.slice (some ⟨g2, 0, none⟩) ((p :: ls).length + 1) vc2) hQc hQW
              have K10 : Kb c w (w9.setCell ⟨Q, 6, none⟩ (.slice (some ⟨g2, 0, none⟩) ((p :: ls).length + 1) vc2)) := K9.set Q 6 (.slice (some ⟨g2, 0, none⟩) ((p :: ls).length + 1) vc2) hQw
              have q10 := HQ10.out
              have p10 : (w9.setCell ⟨Q, 6, none⟩ (.slice (some ⟨g2, 0, none⟩) ((p :: ls).length + 1) vc2)).heap[w.heap.size]? = some (tkB ⟨0, 0, 0, 0, 0⟩ ⟨#[]⟩ none 0 0 26) := (Below.heap_setCell _ _ _ _ hPQ).trans p9
              have O10 : Hid ((w9.setCell ⟨Q, 6, none⟩ (.slice (some ⟨g2, 0, none⟩) ((p :: ls).length + 1) vc2)).ownsRow w.heap.size 40 6 (.slice (some ⟨g2, 0, none⟩) (p :: (ls ++ [p])).length vc2) (p :: (ls ++ [p])).length (lcells (p :: (ls ++ [p])))) := by
                show World.ownsRow _ _ _ _ _ _ _
                rw [← e9]
                exact own_else (i := 6) O9 (own_ne' O9 q9 (by decide))
              have HL10 : Hid ((p :: (ls ++ [p])).length ≤ 7) := by show _ ≤ _; rw [← e9]; omega
              have hlq2 : lenT (w9.setCell ⟨Q, 6, none⟩ (.slice (some ⟨g2, 0, none⟩) ((p :: ls).length + 1) vc2)) Q = (p :: ls).length + 1 := by
                unfold lenT
                rw [show (w9.setCell ⟨Q, 6, none⟩ (.slice (some ⟨g2, 0, none⟩) ((p :: ls).length + 1) vc2)).cell? ⟨Q, 6, none⟩ = some (.slice (some ⟨g2, 0, none⟩) ((p :: ls).length + 1) vc2) from cell_at HQ10.out 6]
              have q11 : (w9.setCell ⟨Q, 6, none⟩ (.slice (some ⟨g2, 0, none⟩) ((p :: ls).length + 1) vc2)).heap[Q]? = some (.cells #[.int .i64 t.id, .string nm, .int .i64 t.cl, .int .i64 t.pr, .int .i64 t.fi, .int .i64 t.la, .slice (some ⟨g2, 0, none⟩) (p :: (ls ++ [p])).length vc2] 26) := by rw [← e9]; exact q10
              clear e9 q9 p9 O9 C9 K9 q10
              go_wp2
              go_roundw
              case rel => exact ⟨ls ++ [p], g2, vc2, C10, K10, p10, q11, O10, HL10⟩
              case measure => rw [hlq]; have h9 := hlq2; simp only [List.length_cons] at h9 hln ⊢; rw [h9]; omega
      · have hl2 : ¬ (ls.length : Int) + 1 < 6 + x := by clear w1 w2; rw [List.length_cons] at hlt; omega
        have dlt : decide ((ls.length : Int) + 1 < 6 + x) = false := decide_eq_false hl2
        have qq0 : w8.cell? ⟨Q, 0, none⟩ = some (.int .i64 t.id) := cell_at q8 0
        have qq1 : w8.cell? ⟨Q, 1, none⟩ = some (.string nm) := cell_at q8 1
        have qq2 : w8.cell? ⟨Q, 2, none⟩ = some (.int .i64 t.cl) := cell_at q8 2
        have qq3 : w8.cell? ⟨Q, 3, none⟩ = some (.int .i64 t.pr) := cell_at q8 3
        have qq4 : w8.cell? ⟨Q, 4, none⟩ = some (.int .i64 t.fi) := cell_at q8 4
        have qq5 : w8.cell? ⟨Q, 5, none⟩ = some (.int .i64 t.la) := cell_at q8 5
        have qq6 : w8.cell? ⟨Q, 6, none⟩ = some (.slice (some ⟨g, 0, none⟩) (p :: ls).length vc) := cell_at q8 6
        have bb0 : w8.cell? ⟨w.heap.size, 0, none⟩ = some (.int .i64 0) := cell_at p8 0
        have bb1 : w8.cell? ⟨w.heap.size, 1, none⟩ = some (.string ⟨#[]⟩) := cell_at p8 1
        have bb2 : w8.cell? ⟨w.heap.size, 2, none⟩ = some (.int .i64 0) := cell_at p8 2
        have bb3 : w8.cell? ⟨w.heap.size, 3, none⟩ = some (.int .i64 0) := cell_at p8 3
        have bb4 : w8.cell? ⟨w.heap.size, 4, none⟩ = some (.int .i64 0) := cell_at p8 4
        have bb5 : w8.cell? ⟨w.heap.size, 5, none⟩ = some (.int .i64 0) := cell_at p8 5
        have bb6 : w8.cell? ⟨w.heap.size, 6, none⟩ = some (.slice none 0 0) := cell_at p8 6
        have ff0 : w8.frozen? ⟨w.heap.size, 0, none⟩ = false := frozen_at p8 0
        have ff1 : w8.frozen? ⟨w.heap.size, 1, none⟩ = false := frozen_at p8 1
        have ff2 : w8.frozen? ⟨w.heap.size, 2, none⟩ = false := frozen_at p8 2
        have ff3 : w8.frozen? ⟨w.heap.size, 3, none⟩ = false := frozen_at p8 3
        have ff4 : w8.frozen? ⟨w.heap.size, 4, none⟩ = false := frozen_at p8 4
        have ff5 : w8.frozen? ⟨w.heap.size, 5, none⟩ = false := frozen_at p8 5
        have ff6 : w8.frozen? ⟨w.heap.size, 6, none⟩ = false := frozen_at p8 6
        have hne := own_ne' O8 p8 (by decide)
        go_wp2
        refine bodyPost_ret (v := tkV t nm (some ⟨g, 0, none⟩) (p :: ls).length vc) (by simp [results, Tryd.results14, go_sem, bb0, bb1, bb2, bb3, bb4, bb5, bb6]) rfl ?_
        exact ⟨⟨_, _, _, _, (p :: ls), rfl, (own_else (i := 6) (own_else (i := 5) (own_else (i := 4) (own_else (i := 3) (own_else (i := 2) (own_else (i := 1) (own_else (i := 0) O8 hne) hne) hne) hne) hne) hne) hne), HNM.out, by have := HLR.out; omega⟩, (((((((C8.set w.heap.size 0 _ hRc hW0).set w.heap.size 1 _ hRc hW0).set w.heap.size 2 _ hRc hW0).set w.heap.size 3 _ hRc hW0).set w.heap.size 4 _ hRc hW0).set w.heap.size 5 _ hRc hW0).set w.heap.size 6 _ hRc hW0), (((((((K8.set w.heap.size 0 _ (Nat.le_refl _)).set w.heap.size 1 _ (Nat.le_refl _)).set w.heap.size 2 _ (Nat.le_refl _)).set w.heap.size 3 _ (Nat.le_refl _)).set w.heap.size 4 _ (Nat.le_refl _)).set w.heap.size 5 _ (Nat.le_refl _)).set w.heap.size 6 _ (Nat.le_refl _))⟩
  have d6 : decide (s = 6) = false := decide_eq_false h6
  by_cases h7 : s = 7
  · subst h7
    have C9 := C8.set Q 6 (.slice (some ⟨g, 0, none⟩) 0 vc) hQc hQW
    have K9 := K8.set Q 6 (.slice (some ⟨g, 0, none⟩) 0 vc) hQw
    have q9 : (w8.setCell ⟨Q, 6, none⟩ (.slice (some ⟨g, 0, none⟩) 0 vc)).heap[Q]? = some (.cells #[.int .i64 t.id, .string nm, .int .i64 t.cl, .int .i64 t.pr, .int .i64 t.fi, .int .i64 t.la, .slice (some ⟨g, 0, none⟩) 0 vc] 26) := tk_set q8 _
    have p9 : (w8.setCell ⟨Q, 6, none⟩ (.slice (some ⟨g, 0, none⟩) 0 vc)).heap[w.heap.size]? = some (tkB ⟨0, 0, 0, 0, 0⟩ ⟨#[]⟩ none 0 0 26) := (Below.heap_setCell _ _ _ _ hPQ).trans p8
    have O9 := own_else (i := 6) (u := .slice (some ⟨g, 0, none⟩) 0 vc) O8 (own_ne' O8 q8 (by decide))
    have O0 := own_none O9
    clear O9
    have O9 : (w8.setCell ⟨Q, 6, none⟩ (.slice (some ⟨g, 0, none⟩) 0 vc)).ownsRow w.heap.size 40 6 (.slice (some ⟨g, 0, none⟩) ([] : List Lg).length vc) ([] : List Lg).length (lcells []) := O0
    have hvc : (0 : Int) ≤ (vc : Int) := by omega
    have dd6 : w8.cell? ⟨Q, 6, none⟩ = some (.slice (some ⟨g, 0, none⟩) (p :: ls).length vc) := cell_at q8 6
    have ee6 : w8.frozen? ⟨Q, 6, none⟩ = false := frozen_at q8 6
    have qq0 : (w8.setCell ⟨Q, 6, none⟩ (.slice (some ⟨g, 0, none⟩) 0 vc)).cell? ⟨Q, 0, none⟩ = some (.int .i64 t.id) := cell_at q9 0
    have qq1 : (w8.setCell ⟨Q, 6, none⟩ (.slice (some ⟨g, 0, none⟩) 0 vc)).cell? ⟨Q, 1, none⟩ = some (.string nm) := cell_at q9 1
    have qq2 : (w8.setCell ⟨Q, 6, none⟩ (.slice (some ⟨g, 0, none⟩) 0 vc)).cell? ⟨Q, 2, none⟩ = some (.int .i64 t.cl) := cell_at q9 2
    have qq3 : (w8.setCell ⟨Q, 6, none⟩ (.slice (some ⟨g, 0, none⟩) 0 vc)).cell? ⟨Q, 3, none⟩ = some (.int .i64 t.pr) := cell_at q9 3
    have qq4 : (w8.setCell ⟨Q, 6, none⟩ (.slice (some ⟨g, 0, none⟩) 0 vc)).cell? ⟨Q, 4, none⟩ = some (.int .i64 t.fi) := cell_at q9 4
    have qq5 : (w8.setCell ⟨Q, 6, none⟩ (.slice (some ⟨g, 0, none⟩) 0 vc)).cell? ⟨Q, 5, none⟩ = some (.int .i64 t.la) := cell_at q9 5
    have qq6 : (w8.setCell ⟨Q, 6, none⟩ (.slice (some ⟨g, 0, none⟩) 0 vc)).cell? ⟨Q, 6, none⟩ = some (.slice (some ⟨g, 0, none⟩) 0 vc) := cell_at q9 6
    have bb0 : (w8.setCell ⟨Q, 6, none⟩ (.slice (some ⟨g, 0, none⟩) 0 vc)).cell? ⟨w.heap.size, 0, none⟩ = some (.int .i64 0) := cell_at p9 0
    have bb1 : (w8.setCell ⟨Q, 6, none⟩ (.slice (some ⟨g, 0, none⟩) 0 vc)).cell? ⟨w.heap.size, 1, none⟩ = some (.string ⟨#[]⟩) := cell_at p9 1
    have bb2 : (w8.setCell ⟨Q, 6, none⟩ (.slice (some ⟨g, 0, none⟩) 0 vc)).cell? ⟨w.heap.size, 2, none⟩ = some (.int .i64 0) := cell_at p9 2
    have bb3 : (w8.setCell ⟨Q, 6, none⟩ (.slice (some ⟨g, 0, none⟩) 0 vc)).cell? ⟨w.heap.size, 3, none⟩ = some (.int .i64 0) := cell_at p9 3
    have bb4 : (w8.setCell ⟨Q, 6, none⟩ (.slice (some ⟨g, 0, none⟩) 0 vc)).cell? ⟨w.heap.size, 4, none⟩ = some (.int .i64 0) := cell_at p9 4
    have bb5 : (w8.setCell ⟨Q, 6, none⟩ (.slice (some ⟨g, 0, none⟩) 0 vc)).cell? ⟨w.heap.size, 5, none⟩ = some (.int .i64 0) := cell_at p9 5
    have bb6 : (w8.setCell ⟨Q, 6, none⟩ (.slice (some ⟨g, 0, none⟩) 0 vc)).cell? ⟨w.heap.size, 6, none⟩ = some (.slice none 0 0) := cell_at p9 6
    have ff0 : (w8.setCell ⟨Q, 6, none⟩ (.slice (some ⟨g, 0, none⟩) 0 vc)).frozen? ⟨w.heap.size, 0, none⟩ = false := frozen_at p9 0
    have ff1 : (w8.setCell ⟨Q, 6, none⟩ (.slice (some ⟨g, 0, none⟩) 0 vc)).frozen? ⟨w.heap.size, 1, none⟩ = false := frozen_at p9 1
    have ff2 : (w8.setCell ⟨Q, 6, none⟩ (.slice (some ⟨g, 0, none⟩) 0 vc)).frozen? ⟨w.heap.size, 2, none⟩ = false := frozen_at p9 2
    have ff3 : (w8.setCell ⟨Q, 6, none⟩ (.slice (some ⟨g, 0, none⟩) 0 vc)).frozen? ⟨w.heap.size, 3, none⟩ = false := frozen_at p9 3
    have ff4 : (w8.setCell ⟨Q, 6, none⟩ (.slice (some ⟨g, 0, none⟩) 0 vc)).frozen? ⟨w.heap.size, 4, none⟩ = false := frozen_at p9 4
    have ff5 : (w8.setCell ⟨Q, 6, none⟩ (.slice (some ⟨g, 0, none⟩) 0 vc)).frozen? ⟨w.heap.size, 5, none⟩ = false := frozen_at p9 5
    have ff6 : (w8.setCell ⟨Q, 6, none⟩ (.slice (some ⟨g, 0, none⟩) 0 vc)).frozen? ⟨w.heap.size, 6, none⟩ = false := frozen_at p9 6
    have hne := own_ne' O9 p9 (by decide)
    go_wp2
    refine bodyPost_ret (v := tkV t nm (some ⟨g, 0, none⟩) ([] : List Lg).length vc) (by simp [results, Tryd.results14, go_sem, bb0, bb1, bb2, bb3, bb4, bb5, bb6]) rfl ?_
    exact ⟨⟨_, _, _, _, ([] : List Lg), rfl, (own_else (i := 6) (own_else (i := 5) (own_else (i := 4) (own_else (i := 3) (own_else (i := 2) (own_else (i := 1) (own_else (i := 0) O9 hne) hne) hne) hne) hne) hne) hne), HNM.out, by simp⟩, (((((((C9.set w.heap.size 0 _ hRc hW0).set w.heap.size 1 _ hRc hW0).set w.heap.size 2 _ hRc hW0).set w.heap.size 3 _ hRc hW0).set w.heap.size 4 _ hRc hW0).set w.heap.size 5 _ hRc hW0).set w.heap.size 6 _ hRc hW0), (((((((K9.set w.heap.size 0 _ (Nat.le_refl _)).set w.heap.size 1 _ (Nat.le_refl _)).set w.heap.size 2 _ (Nat.le_refl _)).set w.heap.size 3 _ (Nat.le_refl _)).set w.heap.size 4 _ (Nat.le_refl _)).set w.heap.size 5 _ (Nat.le_refl _)).set w.heap.size 6 _ (Nat.le_refl _))⟩
  have d7 : decide (s = 7) = false := decide_eq_false h7
  have qq0 : w8.cell? ⟨Q, 0, none⟩ = some (.int .i64 t.id) := cell_at q8 0
  have qq1 : w8.cell? ⟨Q, 1, none⟩ = some (.string nm) := cell_at q8 1
  have qq2 : w8.cell? ⟨Q, 2, none⟩ = some (.int .i64 t.cl) := cell_at q8 2
  have qq3 : w8.cell? ⟨Q, 3, none⟩ = some (.int .i64 t.pr) := cell_at q8 3
  have qq4 : w8.cell? ⟨Q, 4, none⟩ = some (.int .i64 t.fi) := cell_at q8 4
  have qq5 : w8.cell? ⟨Q, 5, none⟩ = some (.int .i64 t.la) := cell_at q8 5
  have qq6 : w8.cell? ⟨Q, 6, none⟩ = some (.slice (some ⟨g, 0, none⟩) (p :: ls).length vc) := cell_at q8 6
  have bb0 : w8.cell? ⟨w.heap.size, 0, none⟩ = some (.int .i64 0) := cell_at p8 0
  have bb1 : w8.cell? ⟨w.heap.size, 1, none⟩ = some (.string ⟨#[]⟩) := cell_at p8 1
  have bb2 : w8.cell? ⟨w.heap.size, 2, none⟩ = some (.int .i64 0) := cell_at p8 2
  have bb3 : w8.cell? ⟨w.heap.size, 3, none⟩ = some (.int .i64 0) := cell_at p8 3
  have bb4 : w8.cell? ⟨w.heap.size, 4, none⟩ = some (.int .i64 0) := cell_at p8 4
  have bb5 : w8.cell? ⟨w.heap.size, 5, none⟩ = some (.int .i64 0) := cell_at p8 5
  have bb6 : w8.cell? ⟨w.heap.size, 6, none⟩ = some (.slice none 0 0) := cell_at p8 6
  have ff0 : w8.frozen? ⟨w.heap.size, 0, none⟩ = false := frozen_at p8 0
  have ff1 : w8.frozen? ⟨w.heap.size, 1, none⟩ = false := frozen_at p8 1
  have ff2 : w8.frozen? ⟨w.heap.size, 2, none⟩ = false := frozen_at p8 2
  have ff3 : w8.frozen? ⟨w.heap.size, 3, none⟩ = false := frozen_at p8 3
  have ff4 : w8.frozen? ⟨w.heap.size, 4, none⟩ = false := frozen_at p8 4
  have ff5 : w8.frozen? ⟨w.heap.size, 5, none⟩ = false := frozen_at p8 5
  have ff6 : w8.frozen? ⟨w.heap.size, 6, none⟩ = false := frozen_at p8 6
  have hne := own_ne' O8 p8 (by decide)
  go_wp2
  refine bodyPost_ret (v := tkV t nm (some ⟨g, 0, none⟩) (p :: ls).length vc) (by simp [results, Tryd.results14, go_sem, bb0, bb1, bb2, bb3, bb4, bb5, bb6]) rfl ?_
  exact ⟨⟨_, _, _, _, (p :: ls), rfl, (own_else (i := 6) (own_else (i := 5) (own_else (i := 4) (own_else (i := 3) (own_else (i := 2) (own_else (i := 1) (own_else (i := 0) O8 hne) hne) hne) hne) hne) hne) hne), HNM.out, by have := HLN.out; omega⟩, (((((((C8.set w.heap.size 0 _ hRc hW0).set w.heap.size 1 _ hRc hW0).set w.heap.size 2 _ hRc hW0).set w.heap.size 3 _ hRc hW0).set w.heap.size 4 _ hRc hW0).set w.heap.size 5 _ hRc hW0).set w.heap.size 6 _ hRc hW0), (((((((K8.set w.heap.size 0 _ (Nat.le_refl _)).set w.heap.size 1 _ (Nat.le_refl _)).set w.heap.size 2 _ (Nat.le_refl _)).set w.heap.size 3 _ (Nat.le_refl _)).set w.heap.size 4 _ (Nat.le_refl _)).set w.heap.size 5 _ (Nat.le_refl _)).set w.heap.size 6 _ (Nat.le_refl _))⟩

end Cur
end Go.Proofs.YtbfgfedblnldcaaDoor
