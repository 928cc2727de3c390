/- slices.Insert of one number into a row of one's own, by the library's contracts. -/
import Derived.Test.YtbmfhdlbbaabgaaCeIns
import Derived.Shelf.Spec.SlicesInsert
import Derived.Shelf.Spec.SlicesInsertGrow
import Derived.Ground.Names2Prog
namespace Go.Proofs.Ytbmfhdlbbaabgaa
namespace Hn
open Go.ChangeShapes Go.WideShapes Go.ChangeAt Go.RowKit Go.Joins
open Pk (new_below join_below cell_at heap_new frozen_at lt_of kept heap_old Drawn info_of Room own_form own_below)
set_option linter.unusedSimpArgs false
set_option linter.unusedVariables false

def laysIns_ren : Go.Shelf.Ren := ⟨fun | 21 => 45 | 27 => 61 | 28 => 62 | 35 => 71 | 39 => 84 | n => n, fun | 22 => 24 | 3 => 3 | 4 => 4 | 0 => 0 | n => n, fun | n => n⟩
theorem laysIns : Go.Proofs.Lays2.n21 Try.prog laysIns_ren := {
  mixed := by kernel_rfl
  f21 := Try.func45.trans (congrArg some (by kernel_rfl))
  f27 := Try.func61.trans (congrArg some (by kernel_rfl))
  f28 := Try.func62.trans (congrArg some (by kernel_rfl))
  f35 := Try.func71.trans (congrArg some (by kernel_rfl))
  f39 := Try.func84.trans (congrArg some (by kernel_rfl))
  t0 := Try.underlying0
  a0 := Try.isAgg0
  z0 := Try.sizeOf0
  v0 := Try.zeroValue0
  t3 := Try.underlying3
  a3 := Try.isAgg3
  z3 := Try.sizeOf3
  v3 := Try.zeroValue3
  t4 := Try.underlying4
  a4 := Try.isAgg4
  z4 := Try.sizeOf4
  v4 := Try.zeroValue4
  t22 := Try.underlying24
  a22 := Try.isAgg24
  z22 := Try.sizeOf24
  v22 := Try.zeroValue24
  i3 := by kernel_rfl }

/-- A block of cells with some of them set. -/
theorem sc_heap {b : Nat} {t : TypeId} {f : Nat × Nat} (vs : List Value) : ∀ (o : Nat) (w : World) (cs : Array Value), w.heap[b]? = some (.cells cs t f) → o + vs.length ≤ cs.size →
    ∃ cs' : Array Value, (w.setCells b o vs).heap[b]? = some (.cells cs' t f) ∧ cs'.size = cs.size ∧ (w.setCells b o vs).heap.size = w.heap.size ∧ (∀ j, cs'[j]? = if o ≤ j ∧ j < o + vs.length then vs[j - o]? else cs[j]?) ∧ (∀ c, c ≠ b → (w.setCells b o vs).heap[c]? = w.heap[c]?) ∧ (w.setCells b o vs).os = w.os ∧ (w.setCells b o vs).tape = w.tape ∧ (w.setCells b o vs).output = w.output := by
  induction vs with
  | nil => intro o w cs h _; exact ⟨cs, h, rfl, rfl, fun j => by rw [if_neg (by simp; try omega)], fun _ _ => rfl, rfl, rfl, rfl⟩
  | cons v r ih =>
    intro o w cs h hb
    simp only [List.length_cons] at hb
    obtain ⟨cs', h1, h2, h3, h4, h5, h6, h7, h8⟩ := ih (o + 1) (w.setCell ⟨b, o, none⟩ v) (cs.setIfInBounds o v) (h_set (i := o) h v) (by simp; omega)
    refine ⟨cs', h1, by rw [h2]; simp, by rw [show (w.setCells b o (v :: r)).heap.size = _ from h3, World.size_setCell], fun j => ?_, fun c hc => ?_, h6, h7, h8⟩
    · rw [h4 j, List.length_cons, Array.getElem?_setIfInBounds]
      by_cases e : j = o
      · subst e
        rw [if_neg (by omega), if_pos rfl, if_pos (by omega), if_pos (by omega)]
        simp
      · by_cases e2 : o + 1 ≤ j ∧ j < o + 1 + r.length
        · rw [if_pos e2, if_pos (by omega), show j - o = (j - (o + 1)) + 1 by omega]
          simp
        · rw [if_neg e2, if_neg (fun h => e h.symm), if_neg (by omega)]
    · exact (h5 c hc).trans (Below.heap_setCell w ⟨b, o, none⟩ v c hc)

theorem own_of {w : World} {lo g n cap : Nat} {cur : Array Value} {e : TypeId} {xs : List Value} (hl : xs.length = n) (hg : lo ≤ g) (h : w.heap[g]? = some (.cells cur e (0, 0))) (h1 : n ≤ cap) (h2 : cap ≤ maxLen) (h3 : cur.size = cap) (h4 : ∀ j, j < n → cur[j]? = xs[j]?) : w.ownsRow lo e 1 (.slice (some ⟨g, 0, none⟩) n cap) n xs := by
  refine ⟨by omega, Or.inr ⟨g, cap, cur, rfl, hg, h, h1, h2, by omega, ?_⟩⟩
  refine List.ext_getElem? fun j => ?_
  rw [Nat.mul_one, List.getElem?_take]
  by_cases hj : j < n
  · rw [if_pos hj, Array.getElem?_toList]
    exact h4 j hj
  · rw [if_neg hj, List.getElem?_eq_none (by omega)]

theorem zc_size (k : Nat) : (Builtin.zeroCells (Value.int .i64 0).cells k).size = k := by
  simp [Builtin.zeroCells, Value.cells]

theorem icells_split (l : List Int) (i : Nat) (x : Int) : icells (l.take i ++ x :: l.drop i) = (icells l).take i ++ .int .i64 x :: (icells l).drop i := by simp [icells, List.map_take, List.map_drop]

theorem put_get (cs : List Value) (v : Value) (i j : Nat) (hi : i ≤ cs.length) : (cs.take i ++ v :: cs.drop i)[j]? = if j < i then cs[j]? else if j = i then some v else cs[j - 1]? := by
  have hl : (cs.take i).length = i := by rw [List.length_take]; omega
  by_cases h : j < i
  · rw [if_pos h, List.getElem?_append_left (by omega), List.getElem?_take, if_pos h]
  · rw [if_neg h, List.getElem?_append_right (by omega), hl]
    by_cases h2 : j = i
    · subst h2; simp
    · rw [if_neg h2, show j - i = (j - 1 - i) + 1 by omega, List.getElem?_cons_succ, List.getElem?_drop]
      congr 1
      omega

theorem low_below {lo : Nat} {w w1 : World} (os : w1.os = w.os) (tp : w1.tape = w.tape) (ou : w1.output = w.output) (sz : w.heap.size ≤ w1.heap.size) (bl : ∀ b, b < lo → w1.heap[b]? = w.heap[b]?) : Below lo w w1 := ⟨os, tp, ou, sz, bl⟩

set_option maxHeartbeats 2000000 in
theorem insert_val (lo : Nat) (l : List Int) (v : Value) (i : Nat) (x : Int) (vb vc : Nat) (w : World) (hi : i ≤ l.length) (hl : l.length ≤ 1048576) (hlo : lo ≤ w.heap.size) (O : w.ownsRow lo 3 1 v l.length (icells l)) (hv : w.heap[vb]? = some (.cells #[.int .i64 x] 3 (0, 0))) (hne : v.ownBlock ≠ some vb) :
    Calls Try.prog 45 #[v, .int .i64 (i : Int), .slice (some ⟨vb, 0, none⟩) 1 vc] w fun e w' => ∃ v', e = .returned v' ∧ w'.ownsRow lo 3 1 v' (l.length + 1) (icells (l.take i ++ x :: l.drop i)) ∧ Below lo w w' := by
  have hvs : ∀ j u, [Value.int .i64 x][j]? = some u → w.cell? ⟨vb, 0 + j, none⟩ = some u := by
    intro j u hu
    rw [Nat.zero_add, cell_at hv, ← hu]
    simp
  have h1v : ∀ u ∈ [Value.int .i64 x], u.oneCell' = true := by intro u hu; simp at hu; subst hu; rfl
  have hcl : (icells l).length = l.length := by simp [icells]
  have hres : (icells (l.take i ++ x :: l.drop i)).length = l.length + 1 := by
    rw [icells_split]
    simp
    omega
  rcases O with ⟨hxl, ⟨rfl, h0⟩ | ⟨g, cap, cur, rfl, hg, hh, hnc, hcm, hcs, htk⟩⟩
  · have hi0 : i = 0 := by omega
    subst hi0
    have hl0 : l = [] := List.eq_nil_of_length_eq_zero h0
    subst hl0
    refine Calls.mono (Any2.slices_Insert_int_end_grow laysIns none 0 0 vb 0 1 vc [] [.int .i64 x] w (by omega) (by omega) (by omega) (by omega) rfl rfl (fun _ => rfl) (fun a h => by cases h) hvs h1v) ?_
    rintro e w1 ⟨he, hw1⟩
    have hw2 : w1 = w.drew.alloc (.cells (([] ++ [Value.int .i64 x]).toArray ++ Builtin.zeroCells (Value.int .i64 0).cells (grownCap w (0 + 1) 0 3 - (0 + 1))) 3) := hw1
    subst hw2
    have hge := grownCap_ge w (0 + 1) 0 3
    have hle := grownCap_le_maxLen w (0 + 1) 0 3 (by unfold maxLen; omega)
    refine ⟨_, he, own_of (cap := grownCap w (0 + 1) 0 3) (by simp [icells]) (show lo ≤ w.heap.size from hlo) (heap_new w.drew _) hge hle ?_ ?_, ?_⟩
    · rw [Array.size_append, zc_size]
      show 1 + (grownCap w (0 + 1) 0 3 - (0 + 1)) = grownCap w (0 + 1) 0 3
      omega
    · intro j hj
      have : j = 0 := by simpa using hj
      subst this
      rw [Array.getElem?_append_left (by simp)]
      simp [icells]
    · exact ((Below.refl lo w).drew).alloc hlo _
  · have hcell : ∀ j u, (icells l)[j]? = some u → w.cell? ⟨g, 0 + j, none⟩ = some u := by
      intro j u hu
      rw [Nat.zero_add, cell_at hh, ← hu, ← htk]
      have hj := (List.getElem?_eq_some_iff.1 hu).1
      rw [List.getElem?_take, if_pos (by omega), Array.getElem?_toList]
    have hcur : ∀ j, j < l.length → cur[j]? = (icells l)[j]? := by
      intro j hj
      rw [← htk, List.getElem?_take, if_pos (by omega), Array.getElem?_toList]
    have hgw := lt_of hh
    have hvg : vb ≠ g := fun h => hne (by rw [h]; rfl)
    rw [Nat.mul_one] at hcs
    have hfz : ∀ j, w.frozen? ⟨g, j, none⟩ = false := fun j => frozen_at hh j
    rw [icells_split] at hres ⊢
    by_cases hin : i < l.length
    · by_cases hr : l.length + 1 ≤ cap
      · refine Calls.mono (Any2.slices_Insert_int_shift laysIns g 0 l.length cap i vb 0 1 vc (icells l) [.int .i64 x] w hin (by omega) hr hcm hvg hcl rfl hcell (fun j hj => ?_) (fun j _ => hfz _) hvs (icells_one l) h1v 3 3 1 cap ?_ ?_ (by omega) (frozen_at hv _) (frozen_at hv _)) ?_
        · rw [Nat.zero_add, cell_at hh, Array.getElem?_eq_getElem (by omega)]
          rfl
        · unfold World.shape?
          rw [hv]
          rfl
        · unfold World.shape?
          rw [hh]
          simp [hcs]
        rintro e w1 ⟨he, hw1⟩
        subst hw1
        obtain ⟨c1, a1, a2, a3, a4, a5, a6, a7, a8⟩ := sc_heap (b := g) ((icells l).drop i) (0 + (i + 1)) w.drew cur (by exact hh) (by simp [hcl]; omega)
        obtain ⟨c2, b1, b2, b3, b4, b5, b6, b7, b8⟩ := sc_heap (b := g) [.int .i64 x] (0 + i) _ c1 a1 (by simp; omega)
        refine ⟨_, he, own_of hres hg b1 hr hcm (by omega) ?_, ?_⟩
        · intro j hj
          rw [b4, a4, put_get _ _ _ _ (by omega)]
          by_cases h1 : j < i
          · rw [if_neg (by simp; omega), if_neg (by omega), if_pos h1, hcur j (by omega)]
          · by_cases h2 : j = i
            · subst h2
              rw [if_pos (by simp), if_neg (by omega), if_pos rfl]
              simp
            · rw [if_neg (by simp; omega), if_pos (by simp [hcl]; omega), if_neg h1, if_neg h2, List.getElem?_drop]
              congr 1
              omega
        · exact low_below (b6.trans a6) (b7.trans a7) (b8.trans a8) (by rw [b3, a3]; exact Nat.le_refl _) fun c hc => (b5 c (by omega)).trans (a5 c (by omega))
      · refine Calls.mono (Any2.slices_Insert_int_grow laysIns g 0 l.length cap i vb 0 1 vc (icells l) [.int .i64 x] w hin (by omega) hnc (by omega) (by omega) hcl rfl hcell hvs (icells_one l) h1v) ?_
        rintro e w1 ⟨he, hw1⟩
        have hge := grownCap_ge w (l.length + 1) cap 3
        have hle := grownCap_le_maxLen w (l.length + 1) cap 3 (by unfold maxLen; omega)
        have hw2 : w1 = (((w.alloc (.cells (((icells l).take i).toArray ++ Builtin.zeroCells (Value.int .i64 0).cells (l.length + 1 - i) ++ Builtin.zeroCells (Value.int .i64 0).cells (grownCap w (l.length + 1) cap 3 - (l.length + 1))) 3)).drew.setCells w.heap.size i [.int .i64 x]).drew).setCells w.heap.size (i + 1) ((icells l).drop i) := hw1
        subst hw2
        have hm := heap_new w (.cells (((icells l).take i).toArray ++ Builtin.zeroCells (Value.int .i64 0).cells (l.length + 1 - i) ++ Builtin.zeroCells (Value.int .i64 0).cells (grownCap w (l.length + 1) cap 3 - (l.length + 1))) 3)
        have hN := new_below w (.cells (((icells l).take i).toArray ++ Builtin.zeroCells (Value.int .i64 0).cells (l.length + 1 - i) ++ Builtin.zeroCells (Value.int .i64 0).cells (grownCap w (l.length + 1) cap 3 - (l.length + 1))) 3)
        have hsz : (((icells l).take i).toArray ++ Builtin.zeroCells (Value.int .i64 0).cells (l.length + 1 - i) ++ Builtin.zeroCells (Value.int .i64 0).cells (grownCap w (l.length + 1) cap 3 - (l.length + 1))).size = grownCap w (l.length + 1) cap 3 := by
          rw [Array.size_append, Array.size_append, zc_size, zc_size]
          simp [hcl]
          omega
        have hfirst : ∀ j, j < i → (((icells l).take i).toArray ++ Builtin.zeroCells (Value.int .i64 0).cells (l.length + 1 - i) ++ Builtin.zeroCells (Value.int .i64 0).cells (grownCap w (l.length + 1) cap 3 - (l.length + 1)))[j]? = (icells l)[j]? := by
          intro j hj
          rw [Array.getElem?_append_left (by rw [Array.size_append, zc_size]; simp [hcl]; omega), Array.getElem?_append_left (by simp [hcl]; omega)]
          rw [List.getElem?_toArray, List.getElem?_take, if_pos hj]
        generalize ((icells l).take i).toArray ++ Builtin.zeroCells (Value.int .i64 0).cells (l.length + 1 - i) ++ Builtin.zeroCells (Value.int .i64 0).cells (grownCap w (l.length + 1) cap 3 - (l.length + 1)) = cz at *
        obtain ⟨c1, a1, a2, a3, a4, a5, a6, a7, a8⟩ := sc_heap (b := w.heap.size) [.int .i64 x] i (w.alloc (.cells cz 3)).drew cz (by exact hm) (by simp; omega)
        obtain ⟨c2, b1, b2, b3, b4, b5, b6, b7, b8⟩ := sc_heap (b := w.heap.size) ((icells l).drop i) (i + 1) (((w.alloc (.cells cz 3)).drew.setCells w.heap.size i [.int .i64 x]).drew) c1 (by exact a1) (by simp [hcl]; omega)
        refine ⟨_, he, own_of (cap := grownCap w (l.length + 1) cap 3) hres hlo b1 hge hle (by omega) ?_, ?_⟩
        · intro j hj
          rw [b4, a4, put_get _ _ _ _ (by omega)]
          by_cases h1 : j < i
          · rw [if_neg (by omega), if_neg (by simp; omega), if_pos h1, hfirst j h1]
          · by_cases h2 : j = i
            · subst h2
              rw [if_neg (by omega), if_pos (by simp), if_neg (by omega), if_pos rfl]
              simp
            · rw [if_pos (by simp [hcl]; omega), if_neg h1, if_neg h2, List.getElem?_drop]
              congr 1
              omega
        · have hsz2 := hN.size
          exact low_below (b6.trans (a6.trans hN.os)) (b7.trans (a7.trans hN.tape)) (b8.trans (a8.trans hN.output)) (by rw [b3]; exact Nat.le_trans hsz2 (Nat.le_of_eq a3.symm)) fun c hc => (b5 c (by omega)).trans ((a5 c (by omega)).trans (hN.block c (by omega)))
    · have hie : i = l.length := by omega
      subst hie
      have happ : (icells l).take l.length ++ Value.int .i64 x :: (icells l).drop l.length = icells l ++ [.int .i64 x] := by
        rw [List.take_of_length_le (by omega), List.drop_eq_nil_of_le (by omega)]
      rw [happ] at hres ⊢
      by_cases hr : l.length + 1 ≤ cap
      · refine Calls.mono (Any2.slices_Insert_int_end_room laysIns g 0 l.length cap vb 0 1 vc [.int .i64 x] w (by omega) hr hcm rfl (fun j hj => ?_) (fun j _ => hfz _) hvs h1v) ?_
        · rw [cell_at hh, Array.getElem?_eq_getElem (by omega)]
          rfl
        rintro e w1 ⟨he, hw1⟩
        subst hw1
        obtain ⟨c1, a1, a2, a3, a4, a5, a6, a7, a8⟩ := sc_heap (b := g) [.int .i64 x] (0 + l.length) w cur hh (by simp; omega)
        refine ⟨_, he, own_of hres hg a1 hr hcm (by omega) ?_, ?_⟩
        · intro j hj
          rw [a4]
          by_cases h1 : j < l.length
          · rw [if_neg (by simp; omega), hcur j h1, List.getElem?_append_left (by omega)]
          · have : j = l.length := by omega
            subst this
            rw [if_pos (by simp), List.getElem?_append_right (by omega)]
            simp [hcl]
        · exact low_below a6 a7 a8 (Nat.le_of_eq a3.symm) fun c hc => a5 c (by omega)
      · refine Calls.mono (Any2.slices_Insert_int_end_grow laysIns (some ⟨g, 0, none⟩) l.length cap vb 0 1 vc (icells l) [.int .i64 x] w (by omega) hnc (by omega) (by omega) hcl rfl (fun h => by cases h) (fun a ha j u hu => by cases ha; rw [add_plain]; exact hcell j u hu) hvs h1v) ?_
        rintro e w1 ⟨he, hw1⟩
        have hge := grownCap_ge w (l.length + 1) cap 3
        have hle := grownCap_le_maxLen w (l.length + 1) cap 3 (by unfold maxLen; omega)
        have hw2 : w1 = w.drew.alloc (.cells ((icells l ++ [Value.int .i64 x]).toArray ++ Builtin.zeroCells (Value.int .i64 0).cells (grownCap w (l.length + 1) cap 3 - (l.length + 1))) 3) := hw1
        subst hw2
        refine ⟨_, he, own_of (cap := grownCap w (l.length + 1) cap 3) hres (show lo ≤ w.heap.size from hlo) (heap_new w.drew _) hge hle ?_ ?_, ?_⟩
        · rw [Array.size_append, zc_size]
          simp [hcl]
          omega
        · intro j hj
          rw [Array.getElem?_append_left (by simp [hcl]; omega), List.getElem?_toArray]
        · exact ((Below.refl lo w).drew).alloc hlo _

end Hn
end Go.Proofs.Ytbmfhdlbbaabgaa
