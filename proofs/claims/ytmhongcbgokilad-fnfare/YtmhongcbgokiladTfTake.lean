/- The program takes the first of its open ways. -/
import Derived.Test.YtmhongcbgokiladTfGoOn
import Derived.Lib.SliceRun
namespace Go.Proofs.Ytmhongcbgokilad
namespace Tf
open Go.ChangeShapes Go.WideShapes Go.ChangeAt Go.RowKit
open Pk (new_below join_below cell_at heap_new frozen_at lt_of kept heap_old Drawn info_of)
set_option linter.unusedSimpArgs false
set_option linter.unusedVariables false
variable {bs : Nat}

theorem ranges_has {w : World} {b r n cnt : Nat} {D : DataW Value} {left : Lit → Bool} (h : w.ranges Try.prog 3 hld b r n D left cnt) {kl : Lit} (hk : left kl = true) : Maps.has D kl = true := by
  obtain ⟨es, clock, since, seen, c0, hb, F, hs, rfl, hr, hold, hc, hl1, hl2, -⟩ := h
  obtain ⟨x, hx, rfl⟩ := hl2 kl hk
  obtain ⟨y, hy⟩ := F.reads x hx
  exact List.any_eq_true.2 ⟨WideElems.rg Try.prog 3 hld x, mem_sorted.2 (List.mem_map.2 ⟨x, hx, rfl⟩), WideAt.sameKey_self (by rw [WideElems.rg_of hy]; exact klaw.key (WideElems.rd_key hy))⟩

theorem wp_next_open {o : Oper} {a : Act} {K : Act → World → Prop} {Q : Exit → Act → World → Prop} {w w0 : World} (it : Operand) (ho : o.op = Op.next it false) (b r n cnt : Nat) (D : DataW Value) (left : Lit → Bool) (F : Int → Option Wy)
    (hit : a.eval it = .pointer (some ⟨r, 0, none⟩)) (h : w.ranges Try.prog 3 hld b r n D left cnt) (hFct : Fct bs w0 D F)
    (hDone : (∀ kl, left kl = false) → K (a.put o.dst (.tuple #[.bool false])) w)
    (hMore : ∀ k p g cap w' cnt', (kk k).wf = true → F k = some p → left (kk k) = true → w'.ranges Try.prog 3 hld b r n D (fun z => left z && !z.sameKey (kk k)) cnt' → cnt' < cnt → w.grownBy w' (some r) → w'.heap.size = w.heap.size →
      (Instr.entry (.pointer (some ⟨r, 0, none⟩))).run Try.prog w' = .ok (.tuple #[.int .i64 k, .agg #[.int .i64 p.c, .slice (some ⟨g, 0, none⟩) p.s.length cap]]) w' → Wv bs w0 (.agg #[.int .i64 p.c, .slice (some ⟨g, 0, none⟩) p.s.length cap]) p →
      K (a.put o.dst (.tuple #[.bool true, .int .i64 k, .agg #[.int .i64 p.c, .slice (some ⟨g, 0, none⟩) p.s.length cap]])) w') : o.wp Try.prog a w K Q := by
  unfold Oper.wp
  rcases h.next klaw o.type with ⟨h0, hl, hrun⟩ | ⟨key, v, kl, y, w', cnt', hkey, hlk, hv, hat, hrun, hrg, hlt, hgr, hsz, hen⟩
  · simp [execOp, ho, hit, hrun, Result.andThen]
    exact hDone hl
  · obtain ⟨k, rfl, rfl, hw⟩ := Maps.keyOf_int_inv Try.underlying3 hkey
    have hh := ranges_has h hlk
    cases hF : F k with
    | none =>
      have := (hFct k hw).1 hF
      rw [this] at hh
      cases hh
    | some p =>
      obtain ⟨-, v', h4, h5⟩ := (hFct k hw).2 p hF
      obtain rfl : v = v' := by
        have e1 := (hat .nil).symm.trans (h4 .nil)
        simp only [hld, Option.some.injEq] at hv
        rw [← hv] at e1
        simp only [DataW.held.injEq] at e1
        exact e1
      have h6 := h5
      obtain ⟨g, cap, rfl, -⟩ := h5
      simp [execOp, ho, hit, hrun, Result.andThen]
      exact hMore k p g cap w' cnt' hw hF hlk hrg hlt hgr hsz hen h6

theorem wpList_next_open {w w0 : World} {ops : Array Oper} {rest : List Oper} {o : Oper} {a : Act} {Q : Exit → Act → World → Prop} (hg : o.guard = none) (it : Operand) (ho : o.op = Op.next it false) (b r n cnt : Nat) (D : DataW Value) (left : Lit → Bool) (F : Int → Option Wy)
    (hit : a.eval it = .pointer (some ⟨r, 0, none⟩)) (h : w.ranges Try.prog 3 hld b r n D left cnt) (hFct : Fct bs w0 D F)
    (hDone : (∀ kl, left kl = false) → wpList Try.prog ops Q rest (a.put o.dst (.tuple #[.bool false])) w)
    (hMore : ∀ k p g cap w' cnt', (kk k).wf = true → F k = some p → left (kk k) = true → w'.ranges Try.prog 3 hld b r n D (fun z => left z && !z.sameKey (kk k)) cnt' → cnt' < cnt → w.grownBy w' (some r) → w'.heap.size = w.heap.size →
      (Instr.entry (.pointer (some ⟨r, 0, none⟩))).run Try.prog w' = .ok (.tuple #[.int .i64 k, .agg #[.int .i64 p.c, .slice (some ⟨g, 0, none⟩) p.s.length cap]]) w' → Wv bs w0 (.agg #[.int .i64 p.c, .slice (some ⟨g, 0, none⟩) p.s.length cap]) p →
      wpList Try.prog ops Q rest (a.put o.dst (.tuple #[.bool true, .int .i64 k, .agg #[.int .i64 p.c, .slice (some ⟨g, 0, none⟩) p.s.length cap]])) w') : wpList Try.prog ops Q (o :: rest) a w :=
  wpList_plain hg fun K hK => wp_next_open it ho b r n cnt D left F hit h hFct (fun h => hK _ _ (hDone h)) (fun k p g cap w' cnt' h1 h2 h3 h4 h5 h6 h7 h8 h9 => hK _ _ (hMore k p g cap w' cnt' h1 h2 h3 h4 h5 h6 h7 h8 h9))

theorem wp_del_fct {o : Oper} {a : Act} {K : Act → World → Prop} {Q : Exit → Act → World → Prop} {w w0 : World} (m x : Operand) (ho : o.op = Op.call { callee := Callee.builtin Builtin.delete, args := #[m, x], argTypes := #[139, 3] }) (b n : Nat) (D : DataW Value) (F : Int → Option Wy) (hm : a.eval m = .map (some b)) (h1 : w.ownsMap Try.prog 3 hld b n D) (h2 : Fct bs w0 D F) (k : Int) (hw : (kk k).wf = true) (hx : a.eval x = .int .i64 k)
    (h : ∀ w' D', w'.ownsMap Try.prog 3 hld b n D' → Fct bs w0 D' (setF F k none) → w.grownBy w' (some b) → K (a.put o.dst (.tuple #[])) w') : o.wp Try.prog a w K Q := by
  obtain ⟨w', hrun, r1, r2⟩ := h1.drop klaw Try.underlying139 (kk_of hw) o.type
  unfold Oper.wp
  simp [execOp, ho, resolve, invoke, builtin, hm, hx, hrun, Result.andThen]
  refine h w' _ r1 (fun j hj => ?_) r2.grown
  by_cases e : j = k
  · subst e
    exact ⟨fun _ => Maps.has_del_same, fun q hq => by simp [setF] at hq⟩
  · simp only [setF, if_neg e]
    rw [Maps.has_del_other (kk_ne e)]
    refine ⟨(h2 j hj).1, fun q hq => ?_⟩
    obtain ⟨h3, v', h4, h5⟩ := (h2 j hj).2 q hq
    exact ⟨h3, v', fun z => by rw [Maps.atKey_del_other (kk_ne e)]; exact h4 z, h5⟩

theorem hs_same {w : World} {c i : Nat} {cs : Array Value} {t : TypeId} {f : Nat × Nat} (h : w.heap[c]? = some (.cells cs t f)) (u : Value) : (w.setCell ⟨c, i, none⟩ u).heap[c]? = some (.cells (cs.setIfInBounds i u) t f) := by
  unfold World.setCell
  simp [Array.getElem?_modify, h]

theorem set2 {w : World} {b : Nat} {x y : Value} {t : TypeId} (h : w.heap[b]? = some (.cells #[x, y] t (0, 0))) (u v : Value) : ((w.setCell ⟨b, 0, none⟩ u).setCell ⟨b, 1, none⟩ v).heap[b]? = some (.cells #[u, v] t (0, 0)) := hs_same (i := 1) (hs_same (i := 0) h u) v

theorem nil_yes (w : World) : (binOp .eql 56 (.slice none 0 0) (.slice none 0 0)).run Try.prog w = .ok (.bool true) w := Lib.run_eql_slice_nil w _ _ none 0 0 0 0 Try.underlying56
theorem nil_no (w : World) (a : Addr) (n c : Nat) : (binOp .eql 56 (.slice (some a) n c) (.slice none 0 0)).run Try.prog w = .ok (.bool false) w := Lib.run_eql_slice_nil w _ _ (some a) n c 0 0 Try.underlying56
theorem nil_yes' (w : World) : (binOp .neq 56 (.slice none 0 0) (.slice none 0 0)).run Try.prog w = .ok (.bool false) w := run_neq_slice_nil_any w _ _ none 0 0 0 0 Try.underlying56
theorem nil_no' (w : World) (a : Addr) (n c : Nat) : (binOp .neq 56 (.slice (some a) n c) (.slice none 0 0)).run Try.prog w = .ok (.bool true) w := run_neq_slice_nil_any w _ _ (some a) n c 0 0 Try.underlying56

theorem grown_set2 (w : World) (b : Nat) (u v : Value) : w.grownBy ((w.setCell ⟨b, 0, none⟩ u).setCell ⟨b, 1, none⟩ v) (some b) := by
  have L := ((Below.refl 0 w).setCell (p := ⟨b, 0, none⟩) (Nat.zero_le _) u).setCell (p := ⟨b, 1, none⟩) (Nat.zero_le _) v
  exact ⟨L.os, L.tape, L.output, L.size, fun i hi hne => by
    have hib : i ≠ b := by simpa using hne
    rw [Below.heap_setCell _ ⟨b, 1, none⟩ v i hib, Below.heap_setCell _ ⟨b, 0, none⟩ u i hib]⟩

/-- Where the search for the first one is. -/
def St (bs : Nat) (w : World) (F : Int → Option Wy) (left : Lit → Bool) (c0 : Int) (c1 : Value) : Prop :=
  (c0 = 0 ∧ c1 = .slice none 0 0 ∧ ∀ k p, (kk k).wf = true → F k = some p → left (kk k) = true) ∨
  ∃ k m g cap, (kk k).wf = true ∧ F k = some m ∧ c0 = m.c ∧ c1 = .slice (some ⟨g, 0, none⟩) m.s.length cap ∧ Wv bs w (.agg #[.int .i64 m.c, .slice (some ⟨g, 0, none⟩) m.s.length cap]) m ∧ ∀ j p, (kk j).wf = true → F j = some p → left (kk j) = false → le m p

theorem left_off {left : Lit → Bool} {j k : Int} (h : (left (kk j) && !(kk j).sameKey (kk k)) = false) (hj : (kk j).wf = true) : left (kk j) = false ∨ j = k := by
  cases e : left (kk j)
  · exact Or.inl rfl
  · rw [e] at h
    simp at h
    have := WideAt.sameKey_eq h
    cases this
    exact Or.inr rfl

theorem st_first {w : World} {F : Int → Option Wy} {left : Lit → Bool} {k : Int} {p : Wy} {g cap : Nat} (h : ∀ j q, (kk j).wf = true → F j = some q → left (kk j) = true) (hw : (kk k).wf = true) (hF : F k = some p) (hV : Wv bs w (.agg #[.int .i64 p.c, .slice (some ⟨g, 0, none⟩) p.s.length cap]) p) :
    St bs w F (fun z => left z && !z.sameKey (kk k)) p.c (.slice (some ⟨g, 0, none⟩) p.s.length cap) :=
  Or.inr ⟨k, p, g, cap, hw, hF, rfl, rfl, hV, fun j q hj hq hl => by
    rcases left_off hl hj with h1 | h1
    · rw [h j q hj hq] at h1
      cases h1
    · subst h1
      rw [hF] at hq
      cases hq
      exact le_refl _⟩

theorem st_take {w : World} {F : Int → Option Wy} {left : Lit → Bool} {k : Int} {p m : Wy} {g cap : Nat} (h : ∀ j q, (kk j).wf = true → F j = some q → left (kk j) = false → le m q) (hw : (kk k).wf = true) (hF : F k = some p) (hV : Wv bs w (.agg #[.int .i64 p.c, .slice (some ⟨g, 0, none⟩) p.s.length cap]) p) (ha : ahead p m = true) :
    St bs w F (fun z => left z && !z.sameKey (kk k)) p.c (.slice (some ⟨g, 0, none⟩) p.s.length cap) :=
  Or.inr ⟨k, p, g, cap, hw, hF, rfl, rfl, hV, fun j q hj hq hl => by
    rcases left_off hl hj with h1 | h1
    · exact le_trans (le_of_ahead ha) (h j q hj hq h1)
    · subst h1
      rw [hF] at hq
      cases hq
      exact le_refl _⟩

theorem st_keep {w : World} {F : Int → Option Wy} {left : Lit → Bool} {k k0 : Int} {p m : Wy} {g cap : Nat} (h : ∀ j q, (kk j).wf = true → F j = some q → left (kk j) = false → le m q) (hw : (kk k0).wf = true) (hF : F k0 = some m) (hFp : F k = some p) (hV : Wv bs w (.agg #[.int .i64 m.c, .slice (some ⟨g, 0, none⟩) m.s.length cap]) m) (ha : ahead p m = false) :
    St bs w F (fun z => left z && !z.sameKey (kk k)) m.c (.slice (some ⟨g, 0, none⟩) m.s.length cap) :=
  Or.inr ⟨k0, m, g, cap, hw, hF, rfl, rfl, hV, fun j q hj hq hl => by
    rcases left_off hl hj with h1 | h1
    · exact h j q hj hq h1
    · subst h1
      rw [hFp] at hq
      cases hq
      exact ha⟩

set_option maxHeartbeats 2000000 in
set_option maxRecDepth 100000 in
theorem take_none (ea : Option Addr) (le ce bo bg fn : Nat) (F : Int → Option Wy) (w : World) (I : Opn bs w bo fn F) (hAll : ∀ k, (kk k).wf = true → F k = none) :
    Calls Try.prog 105 #[.agg #[.slice ea le ce, .map (some bo), .map (some bg)]] w fun e w' => e = .returned (.tuple #[.agg #[.int .i64 0, .slice none 0 0], .bool false]) ∧ Below w.heap.size w w' := by
  have N1 := new_below w (.cells #[.slice ea le ce, .map (some bo), .map (some bg)] 141)
  have m1 := heap_new w (.cells #[.slice ea le ce, .map (some bo), .map (some bg)] 141)
  have e1 : (w.alloc (.cells #[.slice ea le ce, .map (some bo), .map (some bg)] 141)).heap.size = w.heap.size + 1 := Array.size_push ..
  generalize hW1 : w.alloc (.cells #[.slice ea le ce, .map (some bo), .map (some bg)] 141) = W1 at *
  have N2 := new_below W1 (.cells #[.int .i64 0, .slice none 0 0] 103)
  have m2 := heap_new W1 (.cells #[.int .i64 0, .slice none 0 0] 103)
  generalize hW2 : W1.alloc (.cells #[.int .i64 0, .slice none 0 0] 103) = W at *
  have m1' := kept N2 (lt_of m1) m1
  rw [e1] at m2
  have N := join_below N1 N2
  rw [← hW1] at hW2
  have a1 : W.cell? ⟨w.heap.size, 1, none⟩ = some (.map (some bo)) := cell_at m1' 1
  have b0 : W.cell? ⟨w.heap.size + 1, 0, none⟩ = some (.int .i64 0) := cell_at m2 0
  have b1 : W.cell? ⟨w.heap.size + 1, 1, none⟩ = some (.slice none 0 0) := cell_at m2 1
  have f0 : W.frozen? ⟨w.heap.size + 1, 0, none⟩ = false := frozen_at m2 0
  have f1 : W.frozen? ⟨w.heap.size + 1, 1, none⟩ = false := frozen_at m2 1
  have OW := I.on N
  have HM : Hid (W.heap[w.heap.size]? = some (.cells #[.slice ea le ce, .map (some bo), .map (some bg)] 141) ∧ W.heap[w.heap.size + 1]? = some (.cells #[.int .i64 0, .slice none 0 0] 103)) := ⟨m1', m2⟩
  clear hW1 m1 m2 m1' N1 N2 e1
  have HL : Hid (_) := hAll
  clear hAll
  go_enter Try.func105, Try.ntmps105
  go_wp2_with (first | (at_len; refine wpList_plain rfl fun K hK => ?_; refine wp_len_open _ rfl bo fn F rfl OW ?_; intro cL hL0 hL1; (have e0 : ((cL : Int) == 0) = true := (by rw [hL1 HL.out]; rfl)); refine hK _ _ ?_; clear hK K hL0 hL1) | go_in)
  go_wp2
  refine bodyPost_ret (v := .tuple #[.agg #[.int .i64 0, .slice none 0 0], .bool false]) (by simp [results, Try.results105, go_sem, b0, b1]) rfl ?_
  exact ⟨rfl, (N.setCell (p := ⟨w.heap.size + 1, 0, none⟩) (Nat.le_succ _) _).setCell (p := ⟨w.heap.size + 1, 1, none⟩) (Nat.le_succ _) _⟩

theorem len_some {F : Int → Option Wy} {cL : Nat} (h : ∃ k p, (kk k).wf = true ∧ F k = some p) (h0 : cL = 0 → ∀ k, (kk k).wf = true → F k = none) : ((cL : Int) == 0) = false := by
  obtain ⟨k, p, hw, hF⟩ := h
  refine beq_eq_false_iff_ne.2 fun h => ?_
  have := h0 (by omega) k hw
  rw [hF] at this
  cases this

set_option maxHeartbeats 8000000 in
set_option maxRecDepth 100000 in
theorem take_some (ea : Option Addr) (le ce bo bg fn : Nat) (F : Int → Option Wy) (w : World) (I : Opn bs w bo fn F) (hSome : ∃ k p, (kk k).wf = true ∧ F k = some p) (hKey : ∀ k p, F k = some p → endW p = k ∧ p.s.length ≤ 1048576) :
    Calls Try.prog 105 #[.agg #[.slice ea le ce, .map (some bo), .map (some bg)]] w fun e w' => ∃ k m g cap, (kk k).wf = true ∧ F k = some m ∧ (∀ j p, (kk j).wf = true → F j = some p → Tf.le m p) ∧ e = .returned (.tuple #[.agg #[.int .i64 m.c, .slice (some ⟨g, 0, none⟩) m.s.length cap], .bool true]) ∧
      Opn bs w' bo fn (setF F k none) ∧ Wv bs w' (.agg #[.int .i64 m.c, .slice (some ⟨g, 0, none⟩) m.s.length cap]) m ∧ w.grownBy w' (some bo) := by
  have N1 := new_below w (.cells #[.slice ea le ce, .map (some bo), .map (some bg)] 141)
  have m1 := heap_new w (.cells #[.slice ea le ce, .map (some bo), .map (some bg)] 141)
  have e1 : (w.alloc (.cells #[.slice ea le ce, .map (some bo), .map (some bg)] 141)).heap.size = w.heap.size + 1 := Array.size_push ..
  generalize hW1 : w.alloc (.cells #[.slice ea le ce, .map (some bo), .map (some bg)] 141) = W1 at *
  have N2 := new_below W1 (.cells #[.int .i64 0, .slice none 0 0] 103)
  have m2 := heap_new W1 (.cells #[.int .i64 0, .slice none 0 0] 103)
  generalize hW2 : W1.alloc (.cells #[.int .i64 0, .slice none 0 0] 103) = W at *
  have m1' := kept N2 (lt_of m1) m1
  rw [e1] at m2
  have N := join_below N1 N2
  rw [← hW1] at hW2
  have a1 : W.cell? ⟨w.heap.size, 1, none⟩ = some (.map (some bo)) := cell_at m1' 1
  have b0 : W.cell? ⟨w.heap.size + 1, 0, none⟩ = some (.int .i64 0) := cell_at m2 0
  have b1 : W.cell? ⟨w.heap.size + 1, 1, none⟩ = some (.slice none 0 0) := cell_at m2 1
  have f0 : W.frozen? ⟨w.heap.size + 1, 0, none⟩ = false := frozen_at m2 0
  have f1 : W.frozen? ⟨w.heap.size + 1, 1, none⟩ = false := frozen_at m2 1
  have OW := I.on N
  have HM : Hid (W.heap[w.heap.size]? = some (.cells #[.slice ea le ce, .map (some bo), .map (some bg)] 141) ∧ W.heap[w.heap.size + 1]? = some (.cells #[.int .i64 0, .slice none 0 0] 103)) := ⟨m1', m2⟩
  clear hW1 m1 m2 m1' N1 N2 e1
  have HL : Hid (_) := hSome
  have HKey : Hid (_) := hKey
  obtain ⟨D, hD, hFct⟩ := id I
  have lbo := I.lt
  have N3 := new_below W (.cells #[.int .i64 0, .slice none 0 0] 103)
  have m3 := heap_new W (.cells #[.int .i64 0, .slice none 0 0] 103)
  have eW : W.heap.size = w.heap.size + 1 + 1 := by
    rw [← hW2]
    exact (Array.size_push ..).trans (congrArg (· + 1) (Array.size_push ..))
  have eW3 : (W.alloc (.cells #[.int .i64 0, .slice none 0 0] 103)).heap.size = w.heap.size + 1 + 1 + 1 := (Array.size_push ..).trans (congrArg (· + 1) eW)
  have HM3 : Hid ((W.alloc (.cells #[.int .i64 0, .slice none 0 0] 103)).heap[w.heap.size]? = some (.cells #[.slice ea le ce, .map (some bo), .map (some bg)] 141) ∧ (W.alloc (.cells #[.int .i64 0, .slice none 0 0] 103)).heap[w.heap.size + 1]? = some (.cells #[.int .i64 0, .slice none 0 0] 103)) := ⟨kept N3 (lt_of HM.out.1) HM.out.1, kept N3 (lt_of HM.out.2) HM.out.2⟩
  have N4 := join_below N N3
  rw [eW] at m3
  have hD3 := own_on hD N4 lbo
  generalize hW3 : W.alloc (.cells #[.int .i64 0, .slice none 0 0] 103) = W3 at *
  have a13 : W3.cell? ⟨w.heap.size, 1, none⟩ = some (.map (some bo)) := cell_at HM3.out.1 1
  clear hSome hKey N3 HM
  go_enter Try.func105, Try.ntmps105
  go_wp2_with (first | (at_len; refine wpList_plain rfl fun K hK => ?_; refine wp_len_open _ rfl bo fn F rfl OW ?_; intro cL hL0 hL1; have e0 : ((cL : Int) == 0) = false := len_some HL.out hL0; refine hK _ _ ?_; clear hK K hL0 hL1) | (at_range; refine wpList_range_own _ rfl _ 139 rfl 3 103 klaw Try.underlying139 hld bo fn D rfl hD3 ?_; intro w4 hrg0 hg0 hs0) | go_in)
  rw [eW3] at hrg0
  have KR0 : Below (w.heap.size + 1 + 1 + 1) W3 w4 := ⟨hg0.os, hg0.tape, hg0.output, hg0.size, fun i hi => hg0.block i (by omega) (by simp)⟩
  have HE3 : Hid (W3.heap.size = w.heap.size + 1 + 1 + 1) := eW3
  have hm4 := kept KR0 (by omega) m3
  clear a13 hW3 hW2 eW e0 hs0 hg0 m3 OW a1 b0 b1 f0 f1 hD3 N
  go_frame
  rw [eW3]
  clear eW3
  go_loopw [15] (fun _ wr => ∃ (left : Lit → Bool) (cnt : Nat) (c0 : Int) (c1 : Value), Below (w.heap.size + 1 + 1) W3 wr ∧ wr.heap[w.heap.size + 1 + 1]? = some (.cells #[.int .i64 c0, c1] 103) ∧ Hid (wr.ranges Try.prog 3 hld bo (w.heap.size + 1 + 1 + 1) fn D left cnt) ∧ Hid (St bs w F left c0 c1)) (fun _ wr => wr.rangeLeft bo (w.heap.size + 1 + 1 + 1))
  case atStart => exact ⟨_, _, 0, .slice none 0 0, KR0.mono (by omega), hm4, hrg0, Or.inl ⟨rfl, rfl, fun k p hw hF => ((hFct k hw).2 p hF).1⟩⟩
  case round =>
    obtain ⟨left, cnt, c0, c1, KR, hm, HR, HT⟩ := hrel
    clear hrg0 KR0 hm4
    have lt2 : w.heap.size + 1 + 1 < wr.heap.size := lt_of hm
    have NR : Below w.heap.size w wr := N4.trans (KR.mono (by omega))
    go_wp2_with (first | (at_next; refine wpList_next_open rfl _ rfl bo (w.heap.size + 1 + 1 + 1) fn cnt D left F rfl HR.out hFct ?_ ?_) | go_in)
    · intro hl0
      rcases HT.out with ⟨-, -, h1⟩ | ⟨k, m, g, cap, hw, hFm, rfl, rfl, hV, hmin⟩
      · obtain ⟨k, p, hw, hF⟩ := HL.out
        have := h1 k p hw hF
        rw [hl0] at this
        cases this
      have HMin : Hid (∀ j p, (kk j).wf = true → F j = some p → Tf.le m p) := fun j p hj hp => hmin j p hj hp (hl0 _)
      obtain ⟨hek, hlm⟩ := HKey.out k m hFm
      have OR := HR.out.owns
      have HEnd : Hid (∀ w', Below w.heap.size w w' → _) := fun w' L => end_val _ m w' hlm (hV.on L)
      rw [hek] at HEnd
      have ht := KR.block w.heap.size (by omega)
      rw [HM3.out.1] at ht
      have hr := KR.block (w.heap.size + 1) (by omega)
      rw [HM3.out.2] at hr
      have a1 : wr.cell? ⟨w.heap.size, 1, none⟩ = some (.map (some bo)) := cell_at ht 1
      have b0 : wr.cell? ⟨w.heap.size + 1 + 1, 0, none⟩ = some (.int .i64 m.c) := cell_at hm 0
      have b1 : wr.cell? ⟨w.heap.size + 1 + 1, 1, none⟩ = some (.slice (some ⟨g, 0, none⟩) m.s.length cap) := cell_at hm 1
      clear hmin HT HL HKey HR
      go_wp2
      refine wp_region_held_drew (S := (fun w' => w'.cell? ⟨w.heap.size, 1, none⟩ = some (.map (some bo)) ∧ w'.cell? ⟨w.heap.size + 1 + 1, 0, none⟩ = some (.int .i64 m.c) ∧ w'.cell? ⟨w.heap.size + 1 + 1, 1, none⟩ = some (.slice (some ⟨g, 0, none⟩) m.s.length cap))) (by kernel_rfl) ?_ (fun hHeld => ?_)
      · exact ⟨a1, b0, b1⟩
      refine wpAnyH_take (i := 0) (v := .pointer (some ⟨w.heap.size, 1, none⟩)) rfl (by kernel_rfl) (by kernel_rfl) (by kernel_rfl) (fun _ _ _ h => h) (Or.inl ⟨by kernel_rfl, fun w hSw => by first | (go_simp; done) | (dsimp only at hSw; obtain ⟨hS0, hS1, hS2⟩ := hSw; go_simp; done) | rfl⟩) (by assumption) ?_
      simp only [Act.put, List.getElem_toArray, List.getElem_cons_succ, List.getElem_cons_zero, List.setIfInBounds_toArray, List.set_cons_succ, List.set_cons_zero]
      refine wpAnyH_take (i := 1) (v := .map (some bo)) rfl (by kernel_rfl) (by kernel_rfl) (by kernel_rfl) (fun _ _ _ h => h) (Or.inl ⟨by kernel_rfl, fun w hSw => by first | (go_simp; done) | (dsimp only at hSw; obtain ⟨hS0, hS1, hS2⟩ := hSw; go_simp; done) | rfl⟩) (by assumption) ?_
      simp only [Act.put, List.getElem_toArray, List.getElem_cons_succ, List.getElem_cons_zero, List.setIfInBounds_toArray, List.set_cons_succ, List.set_cons_zero]
      refine wpAnyH_take (i := 2) (v := .agg #[.int .i64 m.c, .slice (some ⟨g, 0, none⟩) m.s.length cap]) rfl (by kernel_rfl) (by kernel_rfl) (by kernel_rfl) (fun _ _ _ h => h) (Or.inl ⟨by kernel_rfl, fun w hSw => by first | (go_simp; done) | (dsimp only at hSw; obtain ⟨hS0, hS1, hS2⟩ := hSw; go_simp; done) | rfl⟩) (by assumption) ?_
      simp only [Act.put, List.getElem_toArray, List.getElem_cons_succ, List.getElem_cons_zero, List.setIfInBounds_toArray, List.set_cons_succ, List.set_cons_zero]
      refine wpAnyH_ready (rs := [3]) (by kernel_rfl) (by simp) ?_
      refine AllReadyH.cons rfl (fun K hK => ?_) AllReadyH.nil
      go_simp
      go_wp2_with (go_at_call 106; refine (HEnd.out _ ?_).mono ?_; (exact (NR.trans (((Below.refl _ _).drew).mono NR.size))); rintro e w5 ⟨rfl, L5⟩; have M5 : Below wr.heap.size wr w5 := ((Below.refl _ _).drew).trans L5)
      refine hK.out _ _ ?_ (fun hHeld2 => ?_)
      · first | exact hHeld | exact ⟨(M5.cell (p := ⟨w.heap.size, 1, none⟩) (by show w.heap.size < _; omega)).trans a1, (M5.cell (p := ⟨w.heap.size + 1 + 1, 0, none⟩) lt2).trans b0, (M5.cell (p := ⟨w.heap.size + 1 + 1, 1, none⟩) lt2).trans b1⟩ | exact ⟨cell_at (hk6.out.1) 1, cell_at (hk6.out.2.1) 0, cell_at (hk6.out.2.1) 1⟩
      clear hK K hHeld
      have hHeld := hHeld2
      clear hHeld2
      refine wpAnyH_ready (rs := [4]) (by kernel_rfl) (by simp) ?_
      refine AllReadyH.cons rfl (fun K hK => ?_) AllReadyH.nil
      rw [if_pos (by kernel_rfl)]
      refine wp_del_fct _ _ rfl bo fn D F rfl (own_on OR M5 (by omega)) hFct k hw rfl ?_
      intro w6 D6 O6 F6 G6
      have hk6 : Hid (w6.heap[w.heap.size]? = some (.cells #[.slice ea le ce, .map (some bo), .map (some bg)] 141) ∧ w6.heap[w.heap.size + 1 + 1]? = some (.cells #[.int .i64 m.c, .slice (some ⟨g, 0, none⟩) m.s.length cap] 103) ∧ w6.heap[w.heap.size + 1]? = some (.cells #[.int .i64 0, .slice none 0 0] 103)) := by
        have s5 := M5.size
        exact ⟨(G6.block _ (by omega) (by simp; omega)).trans (kept M5 (by omega) ht), (G6.block _ (by omega) (by simp; omega)).trans (kept M5 lt2 hm), (G6.block _ (by omega) (by simp; omega)).trans (kept M5 (by omega) hr)⟩
      try simp only [Act.put, List.getElem_toArray, List.getElem_cons_succ, List.getElem_cons_zero, List.setIfInBounds_toArray, List.set_cons_succ, List.set_cons_zero]
      refine hK.out _ _ ?_ (fun hHeld2 => ?_)
      · first | exact hHeld | exact ⟨(M5.cell (p := ⟨w.heap.size, 1, none⟩) (by show w.heap.size < _; omega)).trans a1, (M5.cell (p := ⟨w.heap.size + 1 + 1, 0, none⟩) lt2).trans b0, (M5.cell (p := ⟨w.heap.size + 1 + 1, 1, none⟩) lt2).trans b1⟩ | exact ⟨cell_at (hk6.out.1) 1, cell_at (hk6.out.2.1) 0, cell_at (hk6.out.2.1) 1⟩
      clear hK K hHeld
      have hHeld := hHeld2
      clear hHeld2
      refine wpAnyH_done (by kernel_rfl) ?_ _
      clear hHeld a1 b0 b1
      have b0 : w6.cell? ⟨w.heap.size + 1 + 1, 0, none⟩ = some (.int .i64 m.c) := cell_at hk6.out.2.1 0
      have b1 : w6.cell? ⟨w.heap.size + 1 + 1, 1, none⟩ = some (.slice (some ⟨g, 0, none⟩) m.s.length cap) := cell_at hk6.out.2.1 1
      have r0 : w6.cell? ⟨w.heap.size + 1, 0, none⟩ = some (.int .i64 0) := cell_at hk6.out.2.2 0
      have r1 : w6.cell? ⟨w.heap.size + 1, 1, none⟩ = some (.slice none 0 0) := cell_at hk6.out.2.2 1
      have f0 : w6.frozen? ⟨w.heap.size + 1, 0, none⟩ = false := frozen_at hk6.out.2.2 0
      have f1 : w6.frozen? ⟨w.heap.size + 1, 1, none⟩ = false := frozen_at hk6.out.2.2 1
      have hs6 := G6.size
      have L7 : Below (w.heap.size + 1) w6 ((w6.setCell ⟨w.heap.size + 1, 0, none⟩ (.int .i64 m.c)).setCell ⟨w.heap.size + 1, 1, none⟩ (.slice (some ⟨g, 0, none⟩) m.s.length cap)) := ((Below.refl _ _).setCell (p := ⟨w.heap.size + 1, 0, none⟩) (Nat.le_refl _) _).setCell (p := ⟨w.heap.size + 1, 1, none⟩) (Nat.le_refl _) _
      have NF : w.grownBy w6 (some bo) := grown_below (NR.trans (M5.mono NR.size)) G6
      have HW : Hid (Wv bs ((w6.setCell ⟨w.heap.size + 1, 0, none⟩ (.int .i64 m.c)).setCell ⟨w.heap.size + 1, 1, none⟩ (.slice (some ⟨g, 0, none⟩) m.s.length cap)) (.agg #[.int .i64 m.c, .slice (some ⟨g, 0, none⟩) m.s.length cap]) m) := by
        obtain ⟨es0, cl0, hb0⟩ := I.isMap
        have h1 := hV.off hb0 NF
        obtain ⟨g', cap', hv, hlt, hn, hc⟩ := h1
        obtain ⟨g2, cap2, hv2, hlt3, -, -⟩ := hV
        have hlt2 := hlt3.2.1
        simp only [Value.agg.injEq, Array.mk.injEq, List.cons.injEq, Value.slice.injEq, Option.some.injEq, Addr.mk.injEq] at hv hv2
        have e1 : g = g' := hv.2.1.1.1
        have e2 : g = g2 := hv2.2.1.1.1
        have e3 : cap = cap' := hv.2.1.2.2
        subst e1 e2 e3
        refine ⟨g, cap, rfl, hlt.of_block L7.size (L7.block g (by omega)), hn, fun i hi => ?_⟩
        rw [L7.cell (p := ⟨g, i, none⟩) (by show g < w.heap.size + 1; omega)]
        exact hc i hi
      have L8 : w.grownBy ((w6.setCell ⟨w.heap.size + 1, 0, none⟩ (.int .i64 m.c)).setCell ⟨w.heap.size + 1, 1, none⟩ (.slice (some ⟨g, 0, none⟩) m.s.length cap)) (some bo) :=
        ⟨L7.os.trans NF.os, L7.tape.trans NF.tape, L7.output.trans NF.output, Nat.le_trans NF.size L7.size, fun i hi hne => (L7.block i (by omega)).trans (NF.block i hi hne)⟩
      have HO : Hid (Opn bs ((w6.setCell ⟨w.heap.size + 1, 0, none⟩ (.int .i64 m.c)).setCell ⟨w.heap.size + 1, 1, none⟩ (.slice (some ⟨g, 0, none⟩) m.s.length cap)) bo fn (setF F k none)) := by
        obtain ⟨es0, cl0, hb0⟩ := I.isMap
        exact ⟨D6, own_on O6 L7 (by omega), F6.off hb0 L8⟩
      go_wp2
      refine bodyPost_ret (v := .tuple #[.agg #[.int .i64 m.c, .slice (some ⟨g, 0, none⟩) m.s.length cap], .bool true]) (by simp [results, Try.results105, go_sem, r0, r1]) rfl ?_
      exact ⟨k, m, g, cap, hw, hFm, HMin.out, rfl, HO.out, HW.out, L8⟩
    · intro k p g cap w1 cnt1 hw hFk hlk hrg1 hlt1 hg1 hs1 hen hV
      have K1 : Below (w.heap.size + 1 + 1 + 1) wr w1 := ⟨hg1.os, hg1.tape, hg1.output, hg1.size, fun i hi => hg1.block i (by omega) (by simp; omega)⟩
      have hm1 := kept K1 (by omega) hm
      have NX := new_below w1 (.cells #[.int .i64 p.c, .slice (some ⟨g, 0, none⟩) p.s.length cap] 103)
      have mX := heap_new w1 (.cells #[.int .i64 p.c, .slice (some ⟨g, 0, none⟩) p.s.length cap] 103)
      have RX := hrg1.alloc (.cells #[.int .i64 p.c, .slice (some ⟨g, 0, none⟩) p.s.length cap] 103)
      have hmX := kept NX (lt_of hm1) hm1
      have lt3 : w.heap.size + 1 + 1 < w1.heap.size := lt_of hm1
      generalize hX : w1.alloc (.cells #[.int .i64 p.c, .slice (some ⟨g, 0, none⟩) p.s.length cap] 103) = X at *
      have KX : Below (w.heap.size + 1 + 1) W3 X := KR.trans ((K1.mono (by omega)).trans (NX.mono (by omega)))
      have NWX : Below w.heap.size w X := N4.trans (KX.mono (by omega))
      have x0 : X.cell? ⟨w1.heap.size, 0, none⟩ = some (.int .i64 p.c) := cell_at mX 0
      have x1 : X.cell? ⟨w1.heap.size, 1, none⟩ = some (.slice (some ⟨g, 0, none⟩) p.s.length cap) := cell_at mX 1
      have b0 : X.cell? ⟨w.heap.size + 1 + 1, 0, none⟩ = some (.int .i64 c0) := cell_at hmX 0
      have b1 : X.cell? ⟨w.heap.size + 1 + 1, 1, none⟩ = some c1 := cell_at hmX 1
      have f0 : X.frozen? ⟨w.heap.size + 1 + 1, 0, none⟩ = false := frozen_at hmX 0
      have f1 : X.frozen? ⟨w.heap.size + 1 + 1, 1, none⟩ = false := frozen_at hmX 1
      have hme1 := RX.left_eq
      have hme2 := HR.out.left_eq
      have hlp := (HKey.out k p hFk).2
      have q1 := nil_yes
      have q2 := nil_no
      clear hs1 hm hm1 mX K1 hg1 hrg1
      rcases HT.out with ⟨rfl, rfl, h1⟩ | ⟨k0, m, gm, cm, hwm, hFm, rfl, rfl, hVm, hmin⟩
      · have HT2 : Hid (_) := st_first h1 hw hFk hV
        clear HT h1
        have hm9 := set2 hmX (.int .i64 p.c) (.slice (some ⟨g, 0, none⟩) p.s.length cap)
        have G9 : X.grownBy ((X.setCell ⟨w.heap.size + 1 + 1, 0, none⟩ (.int .i64 p.c)).setCell ⟨w.heap.size + 1 + 1, 1, none⟩ (.slice (some ⟨g, 0, none⟩) p.s.length cap)) (some (w.heap.size + 1 + 1)) := grown_set2 _ _ _ _
        have R9 := RX.kept G9 (by simp; omega) (by simp)
        have K9 : Below (w.heap.size + 1 + 1) W3 ((X.setCell ⟨w.heap.size + 1 + 1, 0, none⟩ (.int .i64 p.c)).setCell ⟨w.heap.size + 1 + 1, 1, none⟩ (.slice (some ⟨g, 0, none⟩) p.s.length cap)) := (KX.setCell (p := ⟨w.heap.size + 1 + 1, 0, none⟩) (Nat.le_refl _) _).setCell (p := ⟨w.heap.size + 1 + 1, 1, none⟩) (Nat.le_refl _) _
        go_wp2
        clear hX
        go_roundw
        case rel => exact ⟨_, cnt1, p.c, _, K9, hm9, R9, HT2⟩
        case measure => rw [R9.left_eq, hme2]; exact hlt1
      · have hlm := (HKey.out k0 m hFm).2
        have HA : Hid (∀ _ : Unit, _) := fun _ => ahead_val _ _ p m X hlp hlm (hV.on NWX) (hVm.on NWX)
        have HY : Hid (_ → _) := st_take (left := left) hmin hw hFk hV
        have HN : Hid (_ → _) := st_keep (left := left) (k := k) hmin hwm hFm hFk hVm
        clear HT hmin
        generalize ahead p m = aB at *
        go_wp2_with fail
        clear hX
        refine (HA.out ()).mono ?_
        rintro e w7 ⟨rfl, L7⟩
        have RX := RX.kept (below_grown L7 none) (by simp) (by simp)
        have hmX := kept L7 (lt_of hmX) hmX
        have x0 : w7.cell? ⟨w1.heap.size, 0, none⟩ = some (.int .i64 p.c) := (L7.cell (p := ⟨w1.heap.size, 0, none⟩) (World.block_lt_of_cell? X _ x0)).trans x0
        have x1 : w7.cell? ⟨w1.heap.size, 1, none⟩ = some (.slice (some ⟨g, 0, none⟩) p.s.length cap) := (L7.cell (p := ⟨w1.heap.size, 1, none⟩) (World.block_lt_of_cell? X _ x1)).trans x1
        have b0 : w7.cell? ⟨w.heap.size + 1 + 1, 0, none⟩ = some (.int .i64 m.c) := cell_at hmX 0
        have b1 : w7.cell? ⟨w.heap.size + 1 + 1, 1, none⟩ = some (.slice (some ⟨gm, 0, none⟩) m.s.length cm) := cell_at hmX 1
        have f0 : w7.frozen? ⟨w.heap.size + 1 + 1, 0, none⟩ = false := frozen_at hmX 0
        have f1 : w7.frozen? ⟨w.heap.size + 1 + 1, 1, none⟩ = false := frozen_at hmX 1
        have KX : Below (w.heap.size + 1 + 1) W3 w7 := KX.trans (L7.mono (by have := NX.size; omega))
        cases aB
        · have HT2 : Hid (_) := HN.out rfl
          go_wp2
          go_roundw
          case rel => exact ⟨_, cnt1, m.c, _, KX, hmX, RX, HT2⟩
          case measure => rw [RX.left_eq, hme2]; exact hlt1
        · have HT2 : Hid (_) := HY.out rfl
          have hm9 := set2 hmX (.int .i64 p.c) (.slice (some ⟨g, 0, none⟩) p.s.length cap)
          have G9 : w7.grownBy ((w7.setCell ⟨w.heap.size + 1 + 1, 0, none⟩ (.int .i64 p.c)).setCell ⟨w.heap.size + 1 + 1, 1, none⟩ (.slice (some ⟨g, 0, none⟩) p.s.length cap)) (some (w.heap.size + 1 + 1)) := grown_set2 _ _ _ _
          have R9 := RX.kept G9 (by simp; omega) (by simp)
          have K9 : Below (w.heap.size + 1 + 1) W3 ((w7.setCell ⟨w.heap.size + 1 + 1, 0, none⟩ (.int .i64 p.c)).setCell ⟨w.heap.size + 1 + 1, 1, none⟩ (.slice (some ⟨g, 0, none⟩) p.s.length cap)) := (KX.setCell (p := ⟨w.heap.size + 1 + 1, 0, none⟩) (Nat.le_refl _) _).setCell (p := ⟨w.heap.size + 1 + 1, 1, none⟩) (Nat.le_refl _) _
          go_wp2
          go_roundw
          case rel => exact ⟨_, cnt1, p.c, _, K9, hm9, R9, HT2⟩
          case measure => rw [R9.left_eq, hme2]; exact hlt1

end Tf
end Go.Proofs.Ytmhongcbgokilad
