/- The contract of the draw of pieces. -/
import Derived.Test.YtllmmelnkkmfoabCurPlain
import Derived.Test.YtllmmelnkkmfoabPkPcsOwn
namespace Go.Proofs.Ytllmmelnkkmfoab
namespace Cur
open Go.ChangeShapes Go.WideShapes Go.ChangeAt Go.RowKit
open Pk (pcells pcells_cons own_pc own_setn pcs_own own_form pieces_length)
open Math (Pc)
set_option linter.unusedSimpArgs false
set_option linter.unusedVariables false

theorem pcells_set2 (l : List Pc) (k : Nat) (y : Int) (h : k < l.length) : (pcells l).set (k * 3 + 2) (.int .i64 y) = pcells (l.set k ⟨l[k].x, l[k].n, y⟩) := by
  induction l generalizing k with
  | nil => simp at h
  | cons q l ih =>
    cases k with
    | zero => simp [pcells_cons]
    | succ k =>
      have h' : k < l.length := by simpa using h
      rw [show (k + 1) * 3 + 2 = (k * 3 + 2) + 3 by omega, pcells_cons]
      show .int .i64 q.x :: .int .i64 q.n :: .int .i64 q.d :: (pcells l).set (k * 3 + 2) (.int .i64 y) = pcells (q :: l.set k ⟨l[k].x, l[k].n, y⟩)
      rw [ih k h', pcells_cons]

theorem pcells_set1 (l : List Pc) (k : Nat) (y : Int) (h : k < l.length) : (pcells l).set (k * 3 + 1) (.int .i64 y) = pcells (l.set k ⟨l[k].x, y, l[k].d⟩) := by
  induction l generalizing k with
  | nil => simp at h
  | cons q l ih =>
    cases k with
    | zero => simp [pcells_cons]
    | succ k =>
      have h' : k < l.length := by simpa using h
      rw [show (k + 1) * 3 + 1 = (k * 3 + 1) + 3 by omega, pcells_cons]
      show .int .i64 q.x :: .int .i64 q.n :: .int .i64 q.d :: (pcells l).set (k * 3 + 1) (.int .i64 y) = pcells (q :: l.set k ⟨l[k].x, y, l[k].d⟩)
      rw [ih k h', pcells_cons]

theorem pcells_set0 (l : List Pc) (k : Nat) (y : Int) (h : k < l.length) : (pcells l).set (k * 3) (.int .i64 y) = pcells (l.set k ⟨y, l[k].n, l[k].d⟩) := by
  induction l generalizing k with
  | nil => simp at h
  | cons q l ih =>
    cases k with
    | zero => simp [pcells_cons]
    | succ k =>
      have h' : k < l.length := by simpa using h
      rw [show (k + 1) * 3 = (k * 3) + 3 by omega, pcells_cons]
      show .int .i64 q.x :: .int .i64 q.n :: .int .i64 q.d :: (pcells l).set (k * 3) (.int .i64 y) = pcells (q :: l.set k ⟨y, l[k].n, l[k].d⟩)
      rw [ih k h', pcells_cons]

theorem rows_new (w : World) (zs : List Int) : RowOf (fun _ => True) (w.alloc (.cells (zs.map (Value.int .i64)).toArray 3)) w.heap.size zs.length := rowOf_new _ w zs _ (fun _ _ => trivial)

set_option maxHeartbeats 2000000 in
theorem drawWhole (W0 : World) (a : Option Addr) (n cap : Nat) (hn : n ≤ 1048576) (B : Bytes W0 a n) :
    Calls Try.prog 8 #[.slice a n cap] W0 fun e w' => (∃ (v : Option Addr) (cp : Nat) (ps : List Pc), e = .returned (.slice v ps.length cp) ∧ ps.length ≤ 3000 ∧ Pk.Pcs w' v ps) ∧ Below W0.heap.size W0 w' := by
  go_enter Try.func8, Try.ntmps8
  go_wp2_with fail
  refine (new_any W0 a n cap hn B).mono ?_
  rintro e w1 ⟨rfl, C1⟩
  go_wp2_with fail
  refine (below_any C1 _).mono ?_
  rintro e w2 ⟨⟨x, rfl, hx0, hx1⟩, C2, -⟩
  have hx2 := hx1 (by omega)
  obtain ⟨k, rfl⟩ := Int.eq_ofNat_of_zero_le hx0
  clear hx1 hx0 C1
  go_wp2_with fail
  refine (plain_any C2 k (by omega)).mono ?_
  rintro e w3 ⟨⟨s, rfl, hs⟩, C3⟩
  have hs2 : s.size ≤ maxLen := by rw [hs]; unfold maxLen; omega
  have hpl := pieces_length s
  have HP : Hid (_) := Pk.specPieces_val s w3 hs2
  generalize Math.pieces s = ps at *
  generalize hm : ps.length = m at *
  have HM : Hid (ps.length = m) := hm
  have hc3 := C3.lt
  have hge3 := C3.below.size
  clear hs hs2 hm C2
  go_wp2_with fail
  refine (Calls.mono HP.out ?_)
  rintro e w4 ⟨v, rfl, hown, L4⟩
  have C4 := C3.on L4
  obtain ⟨va, vc, rfl, -⟩ := own_form hown
  clear HP L4 C3
  by_cases h0 : m = 0
  · subst h0
    have HPS : Hid (ps = []) := List.eq_nil_of_length_eq_zero HM.out
    go_wp2
    go_ret
    exact ⟨⟨va, vc, [], rfl, by simp, Or.inl rfl⟩, C4.below⟩
  · have hm0 : 0 < m := by omega
    go_wp2_with fail
    refine (below_any C4 _).mono ?_
    rintro e w5 ⟨⟨y, rfl, hy0, hy1⟩, C5, M5⟩
    have hy2 := hy1 (by omega)
    have hown5 := owns_moved hown M5 hc3
    obtain ⟨i, rfl⟩ := Int.eq_ofNat_of_zero_le hy0
    clear hy1 hown M5 C4 h0
    go_wp2_with fail
    refine (below_any C5 _).mono ?_
    rintro e w6 ⟨⟨z, rfl, hz0, hz1⟩, C6, M6⟩
    have hz2 := hz1 (by omega)
    have hown6 := owns_moved hown5 M6 hc3
    have hc6 := C6.lt
    have hge6 := C6.below.size
    clear hz1 hown5 M6 C5
    by_cases z0 : z = 0
    · subst z0
      have R := rows_new w6 [0, 1, 1024, 1025, -1]
      have C7 := C6.alloc (.cells (([0, 1, 1024, 1025, -1] : List Int).map (Value.int .i64)).toArray 3)
      have hown7 := hown6.alloc (.cells (([0, 1, 1024, 1025, -1] : List Int).map (Value.int .i64)).toArray 3)
      clear C6 hown6
      go_wp2_with fail
      refine (pickInt_any C7 (fun _ => True) w6.heap.size 5 5 (by omega) (by omega) (by omega) R).mono ?_
      rintro e w8 ⟨⟨u, rfl, -⟩, C8, M8⟩
      have hown8 := owns_moved hown7 M8 hc3
      clear hown7 M8 C7 R
      have hip : i < ps.length := by rw [HM.out]; omega
      obtain ⟨g, cp, he, hg1, hg2, c0, c1, c2, hf⟩ := own_pc hown8 i (by omega) ps[i] (List.getElem?_eq_getElem hip)
      simp only [Value.slice.injEq] at he
      obtain ⟨rfl, -, -⟩ := he
      have fz := hf (i * 3 + 2)
      have hs8 := own_setn (i := i * 3 + 2) hown8 (.int .i64 u)
      rw [pcells_set2 ps i u hip] at hs8
      have HS8 : Hid (_) := hs8
      have hlen : (ps.set i ⟨ps[i].x, ps[i].n, u⟩).length = m := by rw [List.length_set]; exact HM.out
      have HLN : Hid (_) := hlen
      have L8 : Below W0.heap.size W0 (w8.setCell ⟨g, i * 3 + 2, none⟩ (.int .i64 u)) := C8.below.setCell (Nat.le_trans hge3 hg1) _
      clear hs8 hlen hown8 hf
      generalize ps.set i ⟨ps[i].x, ps[i].n, u⟩ = qs at *
      have HPC : Hid (Pk.Pcs (w8.setCell ⟨g, i * 3 + 2, none⟩ (.int .i64 u)) (some ⟨g, 0, none⟩) qs) := by
        have h1 := HS8.out
        rw [← HLN.out] at h1
        exact pcs_own h1
      generalize ps[i] = pp at *
      go_wp2
      go_ret
      exact ⟨⟨some ⟨g, 0, none⟩, vc, qs, by rw [HLN.out] <;> rfl, by rw [HLN.out]; exact hpl, HPC.out⟩, L8⟩
    by_cases z1 : z = 1
    · subst z1
      have R := rows_new w6 [2, 3, 258, 259]
      have C7 := C6.alloc (.cells (([2, 3, 258, 259] : List Int).map (Value.int .i64)).toArray 3)
      have hown7 := hown6.alloc (.cells (([2, 3, 258, 259] : List Int).map (Value.int .i64)).toArray 3)
      clear C6 hown6
      go_wp2_with fail
      refine (pickInt_any C7 (fun _ => True) w6.heap.size 4 4 (by omega) (by omega) (by omega) R).mono ?_
      rintro e w8 ⟨⟨u, rfl, -⟩, C8, M8⟩
      have hown8 := owns_moved hown7 M8 hc3
      clear hown7 M8 C7 R
      have hip : i < ps.length := by rw [HM.out]; omega
      obtain ⟨g, cp, he, hg1, hg2, c0, c1, c2, hf⟩ := own_pc hown8 i (by omega) ps[i] (List.getElem?_eq_getElem hip)
      simp only [Value.slice.injEq] at he
      obtain ⟨rfl, -, -⟩ := he
      have fz := hf (i * 3 + 1)
      have hs8 := own_setn (i := i * 3 + 1) hown8 (.int .i64 u)
      rw [pcells_set1 ps i u hip] at hs8
      have HS8 : Hid (_) := hs8
      have hlen : (ps.set i ⟨ps[i].x, u, ps[i].d⟩).length = m := by rw [List.length_set]; exact HM.out
      have HLN : Hid (_) := hlen
      have L8 : Below W0.heap.size W0 (w8.setCell ⟨g, i * 3 + 1, none⟩ (.int .i64 u)) := C8.below.setCell (Nat.le_trans hge3 hg1) _
      clear hs8 hlen hown8 hf
      generalize ps.set i ⟨ps[i].x, u, ps[i].d⟩ = qs at *
      have HPC : Hid (Pk.Pcs (w8.setCell ⟨g, i * 3 + 1, none⟩ (.int .i64 u)) (some ⟨g, 0, none⟩) qs) := by
        have h1 := HS8.out
        rw [← HLN.out] at h1
        exact pcs_own h1
      generalize ps[i] = pp at *
      go_wp2
      go_ret
      exact ⟨⟨some ⟨g, 0, none⟩, vc, qs, by rw [HLN.out] <;> rfl, by rw [HLN.out]; exact hpl, HPC.out⟩, L8⟩
    by_cases z2 : z = 2
    · subst z2
      have R := rows_new w6 [-1, 256, 5]
      have C7 := C6.alloc (.cells (([-1, 256, 5] : List Int).map (Value.int .i64)).toArray 3)
      have hown7 := hown6.alloc (.cells (([-1, 256, 5] : List Int).map (Value.int .i64)).toArray 3)
      clear C6 hown6
      go_wp2_with fail
      refine (pickInt_any C7 (fun _ => True) w6.heap.size 3 3 (by omega) (by omega) (by omega) R).mono ?_
      rintro e w8 ⟨⟨u, rfl, -⟩, C8, M8⟩
      have hown8 := owns_moved hown7 M8 hc3
      clear hown7 M8 C7 R
      have hip : i < ps.length := by rw [HM.out]; omega
      obtain ⟨g, cp, he, hg1, hg2, c0, c1, c2, hf⟩ := own_pc hown8 i (by omega) ps[i] (List.getElem?_eq_getElem hip)
      simp only [Value.slice.injEq] at he
      obtain ⟨rfl, -, -⟩ := he
      have fz := hf (i * 3)
      have hs8 := own_setn (i := i * 3) hown8 (.int .i64 u)
      rw [pcells_set0 ps i u hip] at hs8
      have HS8 : Hid (_) := hs8
      have hlen : (ps.set i ⟨u, ps[i].n, ps[i].d⟩).length = m := by rw [List.length_set]; exact HM.out
      have HLN : Hid (_) := hlen
      have L8 : Below W0.heap.size W0 (w8.setCell ⟨g, i * 3, none⟩ (.int .i64 u)) := C8.below.setCell (Nat.le_trans hge3 hg1) _
      clear hs8 hlen hown8 hf
      generalize ps.set i ⟨u, ps[i].n, ps[i].d⟩ = qs at *
      have HPC : Hid (Pk.Pcs (w8.setCell ⟨g, i * 3, none⟩ (.int .i64 u)) (some ⟨g, 0, none⟩) qs) := by
        have h1 := HS8.out
        rw [← HLN.out] at h1
        exact pcs_own h1
      generalize ps[i] = pp at *
      go_wp2
      go_ret
      exact ⟨⟨some ⟨g, 0, none⟩, vc, qs, by rw [HLN.out] <;> rfl, by rw [HLN.out]; exact hpl, HPC.out⟩, L8⟩
    have y0 : (z == 0) = false := beq_eq_false_iff_ne.2 z0
    have y1 : (z == 1) = false := beq_eq_false_iff_ne.2 z1
    have y2 : (z == 2) = false := beq_eq_false_iff_ne.2 z2
    clear z0 z1 z2
    have HPC : Hid (Pk.Pcs w6 va ps) := by
      have h1 : w6.ownsRow w3.heap.size 30 3 (.slice va ps.length vc) ps.length (pcells ps) := by rw [HM.out]; exact hown6
      exact pcs_own h1
    go_wp2
    go_ret
    exact ⟨⟨va, vc, ps, by rw [HM.out] <;> rfl, by rw [HM.out]; exact hpl, HPC.out⟩, C6.below⟩

end Cur
end Go.Proofs.Ytllmmelnkkmfoab
