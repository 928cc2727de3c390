/- Draws for the laws of the tariff: a list of edges, an end of a way. -/
import Derived.Test.YtmhongcbgokiladCurSign
import Derived.Test.YtmhongcbgokiladCurBytes
import Derived.Test.YtmhongcbgokiladTfRows
import Derived.Test.YtmhongcbgokiladTfEdges
namespace Go.Proofs.Ytmhongcbgokilad
namespace Tf
open Go.ChangeShapes Go.WideShapes Go.ChangeAt Go.RowKit
open Pk (new_below join_below cell_at heap_new frozen_at lt_of kept heap_old info_of own_form own_below Room)
open Cur (Is Moved Bytes Kb new_any once_any below_any pickInt_any rowOf_new)
set_option linter.unusedSimpArgs false
set_option linter.unusedVariables false

/-- The cells of edges. -/
def ecells (l : List Ed) : List Value := l.flatMap fun p => [.int .i64 p.ea, .int .i64 p.eb, .int .i64 p.co]

theorem ecells_cons (p : Ed) (l : List Ed) : ecells (p :: l) = .int .i64 p.ea :: .int .i64 p.eb :: .int .i64 p.co :: ecells l := by simp [ecells]

theorem ecells_snoc (l : List Ed) (p : Ed) : ecells l ++ [.int .i64 p.ea, .int .i64 p.eb, .int .i64 p.co] = ecells (l ++ [p]) := by simp [ecells]

theorem ecells_at (l : List Ed) (k : Nat) (p : Ed) (h : l[k]? = some p) : (ecells l)[k * 3]? = some (.int .i64 p.ea) ∧ (ecells l)[k * 3 + 1]? = some (.int .i64 p.eb) ∧ (ecells l)[k * 3 + 2]? = some (.int .i64 p.co) := by
  induction l generalizing k with
  | nil => simp at h
  | cons q l ih =>
    rw [ecells_cons]
    cases k with
    | zero =>
      simp at h
      subst h
      exact ⟨rfl, rfl, rfl⟩
    | succ k =>
      have h' : l[k]? = some p := by simpa using h
      obtain ⟨h0, h1, h2⟩ := ih k h'
      rw [show (k + 1) * 3 = k * 3 + 3 by omega, show k * 3 + 3 + 1 = k * 3 + 1 + 3 by omega, show k * 3 + 3 + 2 = k * 3 + 2 + 3 by omega]
      exact ⟨by simpa using h0, by simpa using h1, by simpa using h2⟩

/-- Edges in a row of one's own. -/
theorem edges_own {w : World} {base : Nat} {a : Option Addr} {cap : Nat} {l : List Ed} (h : w.ownsRow base 115 3 (.slice a l.length cap) l.length (ecells l)) : Edges w a l := by
  by_cases h0 : l = []
  · exact Or.inl h0
  · have hpos : 0 < l.length := List.length_pos_iff.2 h0
    obtain ⟨g, rfl, hg⟩ : ∃ g, a = some ⟨g, 0, none⟩ ∧ g < w.heap.size := by
      rcases h.2 with ⟨-, h9⟩ | ⟨g, cap', cur, hv, hg, hh, -⟩
      · omega
      · simp only [Value.slice.injEq] at hv
        exact ⟨g, hv.1, lt_of hh⟩
    refine Or.inr ⟨g, 0, rfl, hg, fun i hi => ?_⟩
    obtain ⟨h1, h2, h3⟩ := ecells_at l i l[i] (List.getElem?_eq_getElem hi)
    rw [Nat.zero_add]
    exact ⟨own_cells h _ _ h1, own_cells h _ _ h2, own_cells h _ _ h3⟩

theorem new3 (w : World) (t : TypeId) (a b c : Value) : ∀ j u, [a, b, c][j]? = some u → (w.alloc (.cells #[a, b, c] t)).cell? (Addr.add ⟨w.heap.size, 0, none⟩ j) = some u := by
  intro j u h
  rw [show Addr.add ⟨w.heap.size, 0, none⟩ j = ⟨w.heap.size, j, none⟩ from by simp [Addr.add]; exact Eq.symm, cell_at (heap_new w _) j, ← h]
  simp

theorem own_apart {w : World} {base e size : Nat} {v : Value} {n : Nat} {xs : List Value} {P : Nat} (h : w.ownsRow base e size v n xs) (hne : v.ownBlock ≠ some P) (i : Nat) (u : Value) : (w.setCell ⟨P, i, none⟩ u).ownsRow base e size v n xs := by
  obtain ⟨hl, h2⟩ := h
  refine ⟨hl, ?_⟩
  rcases h2 with h2 | ⟨g, cap, cur, hv, hg, hh, hr⟩
  · exact Or.inl h2
  · refine Or.inr ⟨g, cap, cur, hv, hg, ?_, hr⟩
    rw [Below.heap_setCell w ⟨P, i, none⟩ u g (by intro e; apply hne; rw [hv]; exact congrArg some e)]
    exact hh

theorem grow_any {W0 : World} {a : Option Addr} {n cap c : Nat} {w w3 : World} {e size k : Nat} {v : Value} {xs : List Value} (C3 : Is W0 a n cap c w3) (K3 : Kb c w w3) (O3 : w3.ownsRow w.heap.size e size v k xs) (hcw : c < w.heap.size) (hW0 : W0.heap.size ≤ w.heap.size) (ob : Obj) :
    ∀ w4, (w3.alloc ob).grownBy w4 v.ownBlock → Is W0 a n cap c w4 ∧ Kb c w w4 := by
  intro w4 G
  refine ⟨(C3.alloc _).grown G ?_ ?_, (K3.alloc _).grown G (fun b hb => (O3.lt b hb).1)⟩
  · intro h9
    have := (O3.lt c h9).1
    omega
  · intro b hb
    have := (O3.lt b hb).1
    omega

set_option maxHeartbeats 1000000 in
theorem end_any {W0 : World} {a : Option Addr} {n cap c : Nat} {w : World} (C : Is W0 a n cap c w) :
    Calls Try.prog 66 #[.pointer (some ⟨c, 0, none⟩)] w fun e w' => (∃ x : Int, e = .returned (.int .i64 x)) ∧ Is W0 a n cap c w' ∧ Kb c w w' := by
  go_enter Try.func66, Try.ntmps66
  go_wp2_with fail
  refine (once_any C _).mono ?_
  rintro e w1 ⟨⟨t, rfl⟩, C1, M1⟩
  have K1 := (Kb.refl c w).trans (Kb.moved M1)
  cases t
  · go_wp2_with fail
    refine (below_any C1 _).mono ?_
    rintro e w2 ⟨⟨x, rfl, hx0, hx1⟩, C2, M2⟩
    have hx2 := hx1 (by omega)
    have K2 := K1.trans (Kb.moved M2)
    go_wp2
    go_ret
    exact ⟨⟨_, rfl⟩, C2, K2⟩
  · have CP := C1.alloc (.cells #[.int .i64 0, .int .i64 10000, .int .i64 101, .int .i64 115, .int .i64 120] 3)
    have KP := K1.alloc (.cells #[.int .i64 0, .int .i64 10000, .int .i64 101, .int .i64 115, .int .i64 120] 3)
    have hPc : w1.heap.size ≠ c := by have := C1.lt; omega
    have R := rowOf_new (fun _ => True) w1 [0, 10000, 101, 115, 120] 3 (fun _ _ => trivial)
    go_wp2_with fail
    refine (pickInt_any CP (fun _ => True) w1.heap.size 5 5 hPc (by omega) (by omega) R).mono ?_
    rintro e w2 ⟨⟨x, rfl, -⟩, C2, M2⟩
    have K2 := KP.trans (Kb.moved M2)
    go_wp2
    go_ret
    exact ⟨⟨_, rfl⟩, C2, K2⟩

set_option maxRecDepth 100000 in
set_option maxHeartbeats 8000000 in
theorem tariff_any {W0 : World} {a : Option Addr} {n cap c : Nat} {w : World} (C : Is W0 a n cap c w) :
    Calls Try.prog 65 #[.pointer (some ⟨c, 0, none⟩)] w fun e w' => (∃ (l : List Ed) (va : Option Addr) (vc : Nat), e = .returned (.slice va l.length vc) ∧ l.length ≤ 1000 ∧ w'.ownsRow w.heap.size 115 3 (.slice va l.length vc) l.length (ecells l)) ∧ Is W0 a n cap c w' ∧ Kb c w w' := by
  obtain ⟨i0, hi, hz0, hz1, hz2⟩ := info_of info_edge
  have hcw := C.lt
  have hW0 : W0.heap.size ≤ w.heap.size := C.below.size
  have C0 := C.alloc (.cells #[] 115)
  have K0 : Kb c w (w.alloc (.cells #[] 115)) := (Kb.refl c w).alloc _
  have O0 : (w.alloc (.cells #[] 115)).ownsRow w.heap.size 115 3 (.slice (some ⟨w.heap.size, 0, none⟩) 0 0) 0 (ecells []) := ⟨rfl, Or.inr ⟨w.heap.size, 0, #[], rfl, Nat.le_refl _, heap_new _ _, by omega, by unfold maxLen; omega, rfl, rfl⟩⟩
  go_enter Try.func65, Try.ntmps65
  go_wp2_with fail
  refine (below_any C0 _).mono ?_
  rintro e w1 ⟨⟨nn, rfl, hn0, hn1⟩, C1, M1⟩
  have hn2 := hn1 (by omega)
  have O1 := Cur.owns_moved O0 M1 hcw
  have K1 := K0.trans (Kb.moved M1)
  obtain ⟨m, rfl⟩ : ∃ m : Nat, nn = m := ⟨nn.toNat, by omega⟩
  clear hn1 M1 O0 K0 C0 C
  go_wp2
  go_loopw [3, 5] (fun v i wr => ∃ (k : Nat) (l : List Ed) (va : Option Addr) (vc : Nat), k ≤ m ∧ i = .int .i64 k ∧ v = .slice va k vc ∧ l.length = k ∧ Is W0 a n cap c wr ∧ Kb c w wr ∧ wr.ownsRow w.heap.size 115 3 (.slice va k vc) k (ecells l)) (fun _ i _ => m - (intOf i).toNat)
  case atStart => exact ⟨0, [], _, _, by omega, rfl, rfl, rfl, C1, K1, O1⟩
  case round =>
    obtain ⟨k, l, va, vc, hk, rfl, rfl, hlk, Cr, Kr, Or⟩ := hrel
    clear C1 K1 O1
    by_cases hkm : k < m
    · go_wp2_with fail
      refine (below_any Cr _).mono ?_
      rintro e v1 ⟨⟨x1, rfl, hx0, hx1⟩, C1, M1⟩
      go_wp2_with fail
      refine (below_any C1 _).mono ?_
      rintro e v2 ⟨⟨x2, rfl, hx2, hx3⟩, C2, M2⟩
      go_wp2_with fail
      refine (below_any C2 _).mono ?_
      rintro e v3 ⟨⟨x3, rfl, hx4, hx5⟩, C3, M3⟩
      have hy1 := hx1 (by omega)
      have hy2 := hx3 (by omega)
      have hy3 := hx5 (by omega)
      have MV := (M1.trans M2).trans M3
      have O3 := Cur.owns_moved Or MV hcw
      have K3 := Kr.trans (Kb.moved MV)
      clear M1 M2 M3 MV C1 C2 Cr Kr Or hx1 hx3 hx5
      have C4 := C3.alloc (.cells #[.int .i64 (1 + x1), .int .i64 (1 + x2), .int .i64 (10 * x3)] 115)
      have K4 := K3.alloc (.cells #[.int .i64 (1 + x1), .int .i64 (1 + x2), .int .i64 (10 * x3)] 115)
      have O4 := O3.alloc (.cells #[.int .i64 (1 + x1), .int .i64 (1 + x2), .int .i64 (10 * x3)] 115)
      have x4 := heap_new v3 (.cells #[.int .i64 (1 + x1), .int .i64 (1 + x2), .int .i64 (10 * x3)] 115)
      have hSc : v3.heap.size ≠ c := by have := C3.lt; omega
      have hSw : w.heap.size ≤ v3.heap.size := K3.size
      have hSW : W0.heap.size ≤ v3.heap.size := by omega
      have oS : (Value.slice va k vc).ownBlock ≠ some v3.heap.size := fun h => by have := (O3.lt _ h).2; omega
      clear C3 K3 O3
      go_wp2_with fail
      refine (once_any C4 _).mono ?_
      rintro e v5 ⟨⟨t1, rfl⟩, C5, M5⟩
      have x5 := (M5.block _ hSc).trans x4
      have O5 := Cur.owns_moved O4 M5 hcw
      have K5 := K4.trans (Kb.moved M5)
      clear C4 M5 O4 K4 x4
      generalize v3.heap.size = S at *
      generalize (1 + x1) = A at *
      generalize (1 + x2) = Bv at *
      generalize (10 * x3) = Z at *
      cases t1
      · have CW := C5
        have KW := K5
        have OW := O5
        have s0 : v5.cell? ⟨S, 0, none⟩ = some (.int .i64 A) := cell_at x5 0
        have s1 : v5.cell? ⟨S, 1, none⟩ = some (.int .i64 Bv) := cell_at x5 1
        have s2 : v5.cell? ⟨S, 2, none⟩ = some (.int .i64 Z) := cell_at x5 2
        have g1 : v5.frozen? ⟨S, 1, none⟩ = false := frozen_at x5 1
        clear C5 K5 O5 x5
        by_cases hab : A = Bv
        · subst hab
          have hz9 : True := trivial

          have HX : Hid (_) := grow_any (CW.set S 1 (.int .i64 8) hSc hSW) (KW.set S 1 (.int .i64 8) hSw) (own_apart OW oS 1 (.int .i64 8)) hcw hW0 (.cells #[.int .i64 A, .int .i64 8, .int .i64 Z] 115)
          have hb3 : w.heap.size ≤ ((v5).setCell ⟨S, 1, none⟩ (.int .i64 8)).heap.size := ((KW.set S 1 (.int .i64 8) hSw)).size
          have HO := (own_apart OW oS 1 (.int .i64 8))
          clear hz9
          go_wp2_with (at_builtin; refine wpList_append_own _ rfl _ _ 51 rfl w.heap.size 115 i0 (lgV ⟨0, 0, 0⟩) 3 24 Try.underlying51 hi hz0 hz1 hz2 rfl (by decide) _ _ _ rfl (HO.alloc _) ⟨v5.heap.size, 0, none⟩ 1 1 [.int .i64 A, .int .i64 8, .int .i64 Z] rfl rfl ?c1 ?c2 ?c3 ?c4 ?c5 ?_)
          case c1 => (intro j u h; have h9 := new3 ((v5).setCell ⟨S, 1, none⟩ (.int .i64 8)) 115 _ _ _ j u h; (try simp only [World.size_setCell] at h9); exact h9)
          case c2 => intro u hu; simp at hu; rcases hu with rfl | rfl | rfl <;> rfl
          case c3 => unfold maxLen; omega
          case c4 => omega
          case c5 => simp at hb3 ⊢; omega
          intro v4 w4 hown4 hgrow _
          obtain ⟨C4, K4⟩ := HX.out w4 hgrow
          rw [ecells_snoc l ⟨A, 8, Z⟩] at hown4
          obtain ⟨xa, xc, rfl, -⟩ := own_form hown4
          clear HX HO hgrow hb3

          go_wp2
          go_roundw
          case rel => exact ⟨k + 1, l ++ [⟨A, 8, Z⟩], xa, xc, by omega, by go_num, rfl, by rw [List.length_append, hlk]; rfl, C4, K4, hown4⟩
          case measure => simp [intOf]; omega

        · have hz9 : True := trivial

          have HX : Hid (_) := grow_any CW KW OW hcw hW0 (.cells #[.int .i64 A, .int .i64 Bv, .int .i64 Z] 115)
          have hb3 : w.heap.size ≤ (v5).heap.size := (KW).size
          have HO := OW
          clear hz9
          go_wp2_with (at_builtin; refine wpList_append_own _ rfl _ _ 51 rfl w.heap.size 115 i0 (lgV ⟨0, 0, 0⟩) 3 24 Try.underlying51 hi hz0 hz1 hz2 rfl (by decide) _ _ _ rfl (HO.alloc _) ⟨v5.heap.size, 0, none⟩ 1 1 [.int .i64 A, .int .i64 Bv, .int .i64 Z] rfl rfl ?c1 ?c2 ?c3 ?c4 ?c5 ?_)
          case c1 => (intro j u h; have h9 := new3 (v5) 115 _ _ _ j u h; (try simp only [World.size_setCell] at h9); exact h9)
          case c2 => intro u hu; simp at hu; rcases hu with rfl | rfl | rfl <;> rfl
          case c3 => unfold maxLen; omega
          case c4 => omega
          case c5 => simp at hb3 ⊢; omega
          intro v4 w4 hown4 hgrow _
          obtain ⟨C4, K4⟩ := HX.out w4 hgrow
          rw [ecells_snoc l ⟨A, Bv, Z⟩] at hown4
          obtain ⟨xa, xc, rfl, -⟩ := own_form hown4
          clear HX HO hgrow hb3

          go_wp2
          go_roundw
          case rel => exact ⟨k + 1, l ++ [⟨A, Bv, Z⟩], xa, xc, by omega, by go_num, rfl, by rw [List.length_append, hlk]; rfl, C4, K4, hown4⟩
          case measure => simp [intOf]; omega
      · go_wp2_with fail
        refine (below_any C5 _).mono ?_
        rintro e v6 ⟨⟨y9, rfl, hy8, hy9⟩, C6, M6⟩
        have x6 := (M6.block _ hSc).trans x5
        have CW := C6.set S 2 (.int .i64 y9) hSc hSW
        have KW := (K5.trans (Kb.moved M6)).set S 2 (.int .i64 y9) hSw
        have OW := own_apart (Cur.owns_moved O5 M6 hcw) oS 2 (.int .i64 y9)
        have s0 : v6.cell? ⟨S, 0, none⟩ = some (.int .i64 A) := cell_at x6 0
        have s1 : v6.cell? ⟨S, 1, none⟩ = some (.int .i64 Bv) := cell_at x6 1
        have s2 : v6.cell? ⟨S, 2, none⟩ = some (.int .i64 Z) := cell_at x6 2
        have g1 : v6.frozen? ⟨S, 1, none⟩ = false := frozen_at x6 1
        have g2 : v6.frozen? ⟨S, 2, none⟩ = false := frozen_at x6 2
        clear C5 K5 O5 x5 x6 C6 M6 hy8 hy9
        by_cases hab : A = Bv
        · subst hab
          have hz9 : True := trivial

          have HX : Hid (_) := grow_any (CW.set S 1 (.int .i64 8) hSc hSW) (KW.set S 1 (.int .i64 8) hSw) (own_apart OW oS 1 (.int .i64 8)) hcw hW0 (.cells #[.int .i64 A, .int .i64 8, .int .i64 y9] 115)
          have hb3 : w.heap.size ≤ ((v6.setCell ⟨S, 2, none⟩ (.int .i64 y9)).setCell ⟨S, 1, none⟩ (.int .i64 8)).heap.size := ((KW.set S 1 (.int .i64 8) hSw)).size
          have HO := (own_apart OW oS 1 (.int .i64 8))
          clear hz9
          go_wp2_with (at_builtin; refine wpList_append_own _ rfl _ _ 51 rfl w.heap.size 115 i0 (lgV ⟨0, 0, 0⟩) 3 24 Try.underlying51 hi hz0 hz1 hz2 rfl (by decide) _ _ _ rfl (HO.alloc _) ⟨v6.heap.size, 0, none⟩ 1 1 [.int .i64 A, .int .i64 8, .int .i64 y9] rfl rfl ?c1 ?c2 ?c3 ?c4 ?c5 ?_)
          case c1 => (intro j u h; have h9 := new3 ((v6.setCell ⟨S, 2, none⟩ (.int .i64 y9)).setCell ⟨S, 1, none⟩ (.int .i64 8)) 115 _ _ _ j u h; (try simp only [World.size_setCell] at h9); exact h9)
          case c2 => intro u hu; simp at hu; rcases hu with rfl | rfl | rfl <;> rfl
          case c3 => unfold maxLen; omega
          case c4 => omega
          case c5 => simp at hb3 ⊢; omega
          intro v4 w4 hown4 hgrow _
          obtain ⟨C4, K4⟩ := HX.out w4 hgrow
          rw [ecells_snoc l ⟨A, 8, y9⟩] at hown4
          obtain ⟨xa, xc, rfl, -⟩ := own_form hown4
          clear HX HO hgrow hb3

          go_wp2
          go_roundw
          case rel => exact ⟨k + 1, l ++ [⟨A, 8, y9⟩], xa, xc, by omega, by go_num, rfl, by rw [List.length_append, hlk]; rfl, C4, K4, hown4⟩
          case measure => simp [intOf]; omega

        · have hz9 : True := trivial

          have HX : Hid (_) := grow_any CW KW OW hcw hW0 (.cells #[.int .i64 A, .int .i64 Bv, .int .i64 y9] 115)
          have hb3 : w.heap.size ≤ (v6.setCell ⟨S, 2, none⟩ (.int .i64 y9)).heap.size := (KW).size
          have HO := OW
          clear hz9
          go_wp2_with (at_builtin; refine wpList_append_own _ rfl _ _ 51 rfl w.heap.size 115 i0 (lgV ⟨0, 0, 0⟩) 3 24 Try.underlying51 hi hz0 hz1 hz2 rfl (by decide) _ _ _ rfl (HO.alloc _) ⟨v6.heap.size, 0, none⟩ 1 1 [.int .i64 A, .int .i64 Bv, .int .i64 y9] rfl rfl ?c1 ?c2 ?c3 ?c4 ?c5 ?_)
          case c1 => (intro j u h; have h9 := new3 (v6.setCell ⟨S, 2, none⟩ (.int .i64 y9)) 115 _ _ _ j u h; (try simp only [World.size_setCell] at h9); exact h9)
          case c2 => intro u hu; simp at hu; rcases hu with rfl | rfl | rfl <;> rfl
          case c3 => unfold maxLen; omega
          case c4 => omega
          case c5 => simp at hb3 ⊢; omega
          intro v4 w4 hown4 hgrow _
          obtain ⟨C4, K4⟩ := HX.out w4 hgrow
          rw [ecells_snoc l ⟨A, Bv, y9⟩] at hown4
          obtain ⟨xa, xc, rfl, -⟩ := own_form hown4
          clear HX HO hgrow hb3

          go_wp2
          go_roundw
          case rel => exact ⟨k + 1, l ++ [⟨A, Bv, y9⟩], xa, xc, by omega, by go_num, rfl, by rw [List.length_append, hlk]; rfl, C4, K4, hown4⟩
          case measure => simp [intOf]; omega
    · obtain rfl : k = m := by omega
      go_wp2_with fail
      refine (below_any Cr _).mono ?_
      rintro e v1 ⟨⟨q, rfl, hq0, hq1⟩, C1, M1⟩
      have hq2 := hq1 (by omega)
      have O1 := Cur.owns_moved Or M1 hcw
      have K1 := Kr.trans (Kb.moved M1)
      have hz9 : True := trivial
      clear Cr Or Kr M1 hq1 hkm
      by_cases h0 : q = 0
      · subst h0
        have HX : Hid (_) := grow_any C1 K1 O1 hcw hW0 (.cells #[.int .i64 3, .int .i64 3, .int .i64 0] 115)
        have hb3 : w.heap.size ≤ (v1).heap.size := (K1).size
        have HO := O1
        clear hz9
        go_wp2_with (at_builtin; refine wpList_append_own _ rfl _ _ 51 rfl w.heap.size 115 i0 (lgV ⟨0, 0, 0⟩) 3 24 Try.underlying51 hi hz0 hz1 hz2 rfl (by decide) _ _ _ rfl (HO.alloc _) ⟨v1.heap.size, 0, none⟩ 1 1 [.int .i64 3, .int .i64 3, .int .i64 0] rfl rfl ?c1 ?c2 ?c3 ?c4 ?c5 ?_)
        case c1 => (intro j u h; have h9 := new3 (v1) 115 _ _ _ j u h; (try simp only [World.size_setCell] at h9); exact h9)
        case c2 => intro u hu; simp at hu; rcases hu with rfl | rfl | rfl <;> rfl
        case c3 => unfold maxLen; omega
        case c4 => omega
        case c5 => simp at hb3 ⊢; omega
        intro v4 w4 hown4 hgrow _
        obtain ⟨C4, K4⟩ := HX.out w4 hgrow
        rw [ecells_snoc l ⟨3, 3, 0⟩] at hown4
        obtain ⟨xa, xc, rfl, -⟩ := own_form hown4
        clear HX HO hgrow hb3

        go_wp2
        go_ret
        exact ⟨⟨l ++ [⟨3, 3, 0⟩], xa, xc, by rw [List.length_append, hlk] <;> rfl, by rw [List.length_append, hlk]; simp; omega, by rw [List.length_append, hlk]; exact hown4⟩, C4, K4⟩
      by_cases h1 : q = 1
      · subst h1
        have NX := new_below v1 (.cells #[.int .i64 (-1), .int .i64 1000000, .int .i64 1000001] 3)
        have CP := C1.alloc (.cells #[.int .i64 (-1), .int .i64 1000000, .int .i64 1000001] 3)
        have KP := K1.alloc (.cells #[.int .i64 (-1), .int .i64 1000000, .int .i64 1000001] 3)
        have OP := O1.alloc (.cells #[.int .i64 (-1), .int .i64 1000000, .int .i64 1000001] 3)
        have hPc : v1.heap.size ≠ c := by have := C1.lt; omega
        have R := rowOf_new (fun _ => True) v1 [-1, 1000000, 1000001] 3 (fun _ _ => trivial)
        clear C1 K1 O1
        go_wp2_with fail
        refine (pickInt_any CP (fun _ => True) v1.heap.size 3 3 hPc (by omega) (by omega) R).mono ?_
        rintro e v2 ⟨⟨x, rfl, -⟩, C2, M2⟩
        have O2 := Cur.owns_moved OP M2 hcw
        have K2 := KP.trans (Kb.moved M2)
        clear CP KP OP M2 NX R

        have HX : Hid (_) := grow_any C2 K2 O2 hcw hW0 (.cells #[.int .i64 1, .int .i64 9, .int .i64 x] 115)
        have hb3 : w.heap.size ≤ (v2).heap.size := (K2).size
        have HO := O2
        clear hz9
        go_wp2_with (at_builtin; refine wpList_append_own _ rfl _ _ 51 rfl w.heap.size 115 i0 (lgV ⟨0, 0, 0⟩) 3 24 Try.underlying51 hi hz0 hz1 hz2 rfl (by decide) _ _ _ rfl (HO.alloc _) ⟨v2.heap.size, 0, none⟩ 1 1 [.int .i64 1, .int .i64 9, .int .i64 x] rfl rfl ?c1 ?c2 ?c3 ?c4 ?c5 ?_)
        case c1 => (intro j u h; have h9 := new3 (v2) 115 _ _ _ j u h; (try simp only [World.size_setCell] at h9); exact h9)
        case c2 => intro u hu; simp at hu; rcases hu with rfl | rfl | rfl <;> rfl
        case c3 => unfold maxLen; omega
        case c4 => omega
        case c5 => simp at hb3 ⊢; omega
        intro v4 w4 hown4 hgrow _
        obtain ⟨C4, K4⟩ := HX.out w4 hgrow
        rw [ecells_snoc l ⟨1, 9, x⟩] at hown4
        obtain ⟨xa, xc, rfl, -⟩ := own_form hown4
        clear HX HO hgrow hb3

        go_wp2
        go_ret
        exact ⟨⟨l ++ [⟨1, 9, x⟩], xa, xc, by rw [List.length_append, hlk] <;> rfl, by rw [List.length_append, hlk]; simp; omega, by rw [List.length_append, hlk]; exact hown4⟩, C4, K4⟩
      by_cases h2 : q = 2
      · subst h2
        go_wp2
        go_loopw [3, 7] (fun v i wr => ∃ (j k : Nat) (l : List Ed) (va : Option Addr) (vc : Nat), 1 ≤ j ∧ j ≤ 20 ∧ k ≤ 40 + j ∧ i = .int .i64 j ∧ v = .slice va k vc ∧ l.length = k ∧ Is W0 a n cap c wr ∧ Kb c w wr ∧ wr.ownsRow w.heap.size 115 3 (.slice va k vc) k (ecells l)) (fun _ i _ => 20 - (intOf i).toNat)
        case atStart => exact ⟨1, k, l, va, vc, by omega, by omega, by omega, rfl, rfl, hlk, C1, K1, O1⟩
        case round =>
          clear C1 K1 O1 hlk
          obtain ⟨j, k', l, va, vc, hj0, hj1, hk', rfl, rfl, hlk, Cr, Kr, Or⟩ := hrel
          by_cases hj : j < 20
          · have HX : Hid (_) := grow_any Cr Kr Or hcw hW0 (.cells #[.int .i64 (100 + (j : Int)), .int .i64 (101 + (j : Int)), .int .i64 1000000] 115)
            have hb3 : w.heap.size ≤ (wr).heap.size := (Kr).size
            have HO := Or
            clear hz9
            go_wp2_with (at_builtin; refine wpList_append_own _ rfl _ _ 51 rfl w.heap.size 115 i0 (lgV ⟨0, 0, 0⟩) 3 24 Try.underlying51 hi hz0 hz1 hz2 rfl (by decide) _ _ _ rfl (HO.alloc _) ⟨wr.heap.size, 0, none⟩ 1 1 [.int .i64 (100 + (j : Int)), .int .i64 (101 + (j : Int)), .int .i64 1000000] rfl rfl ?c1 ?c2 ?c3 ?c4 ?c5 ?_)
            case c1 => (intro j u h; have h9 := new3 (wr) 115 _ _ _ j u h; (try simp only [World.size_setCell] at h9); exact h9)
            case c2 => intro u hu; simp at hu; rcases hu with rfl | rfl | rfl <;> rfl
            case c3 => unfold maxLen; omega
            case c4 => omega
            case c5 => simp at hb3 ⊢; omega
            intro v4 w4 hown4 hgrow _
            obtain ⟨C4, K4⟩ := HX.out w4 hgrow
            rw [ecells_snoc l ⟨(100 + (j : Int)), (101 + (j : Int)), 1000000⟩] at hown4
            obtain ⟨xa, xc, rfl, -⟩ := own_form hown4
            clear HX HO hgrow hb3

            go_wp2
            go_roundw
            case rel => exact ⟨j + 1, k' + 1, l ++ [⟨100 + (j : Int), 101 + (j : Int), 1000000⟩], xa, xc, by omega, by omega, by omega, by go_num, rfl, by rw [List.length_append, hlk]; rfl, C4, K4, hown4⟩
            case measure => simp [intOf]; omega

          · go_wp2
            go_ret
            exact ⟨⟨l, va, vc, by rw [hlk] <;> rfl, by omega, by rw [hlk]; exact Or⟩, Cr, Kr⟩
      by_cases h3 : q = 3
      · subst h3
        go_wp2
        go_loopw [3] (fun v wr => ∃ (k : Nat) (l : List Ed) (va : Option Addr) (vc : Nat), k ≤ 201 ∧ v = .slice va k vc ∧ l.length = k ∧ Is W0 a n cap c wr ∧ Kb c w wr ∧ wr.ownsRow w.heap.size 115 3 (.slice va k vc) k (ecells l)) (fun v _ => match v with | .slice _ k _ => 202 - k | _ => 0)
        case atStart => exact ⟨k, l, va, vc, by omega, rfl, hlk, C1, K1, O1⟩
        case round =>
          clear C1 K1 O1 hlk
          obtain ⟨k', l, va, vc, hk', rfl, hlk, Cr, Kr, Or⟩ := hrel
          go_wp2_with fail
          refine (below_any Cr _).mono ?_
          rintro e v2 ⟨⟨y, rfl, hy0, hy1⟩, C2, M2⟩
          have hy2 := hy1 (by omega)
          have O2 := Cur.owns_moved Or M2 hcw
          have K2 := Kr.trans (Kb.moved M2)
          clear Cr Or Kr M2 hy1
          by_cases hj : (k' : Int) < 200 + y
          · have HX : Hid (_) := grow_any C2 K2 O2 hcw hW0 (.cells #[.int .i64 1, .int .i64 2, .int .i64 77] 115)
            have hb3 : w.heap.size ≤ (v2).heap.size := (K2).size
            have HO := O2
            clear hz9
            go_wp2_with (at_builtin; refine wpList_append_own _ rfl _ _ 51 rfl w.heap.size 115 i0 (lgV ⟨0, 0, 0⟩) 3 24 Try.underlying51 hi hz0 hz1 hz2 rfl (by decide) _ _ _ rfl (HO.alloc _) ⟨v2.heap.size, 0, none⟩ 1 1 [.int .i64 1, .int .i64 2, .int .i64 77] rfl rfl ?c1 ?c2 ?c3 ?c4 ?c5 ?_)
            case c1 => (intro j u h; have h9 := new3 (v2) 115 _ _ _ j u h; (try simp only [World.size_setCell] at h9); exact h9)
            case c2 => intro u hu; simp at hu; rcases hu with rfl | rfl | rfl <;> rfl
            case c3 => unfold maxLen; omega
            case c4 => omega
            case c5 => simp at hb3 ⊢; omega
            intro v4 w4 hown4 hgrow _
            obtain ⟨C4, K4⟩ := HX.out w4 hgrow
            rw [ecells_snoc l ⟨1, 2, 77⟩] at hown4
            obtain ⟨xa, xc, rfl, -⟩ := own_form hown4
            clear HX HO hgrow hb3

            go_wp2
            go_roundw
            case rel => exact ⟨k' + 1, l ++ [⟨1, 2, 77⟩], xa, xc, by omega, rfl, by rw [List.length_append, hlk]; rfl, C4, K4, hown4⟩
            case measure => simp; omega

          · go_wp2
            go_ret
            exact ⟨⟨l, va, vc, by rw [hlk] <;> rfl, by omega, by rw [hlk]; exact O2⟩, C2, K2⟩
      go_wp2
      go_ret
      exact ⟨⟨l, va, vc, by rw [hlk] <;> rfl, by omega, by rw [hlk]; exact O1⟩, C1, K1⟩

end Tf
end Go.Proofs.Ytmhongcbgokilad
